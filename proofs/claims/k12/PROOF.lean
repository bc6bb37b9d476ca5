import PyProof.Rows.All
import Wide.All
import OpenK.AllK
import Wide.FinOn
import Lean
import PyProof.EqAt
import PyProof.EqKinds
import PyProof.TupleCall
import PyProof.ZipIter
import PyProof.ListRange
import PyProof.TupleOfSeq
import PyProof.Rows.CallKwBuiltin
import PyProof.Rows.Range3
import KE.KFind
import PyProof.IsRules
import PyProof.DictIter
import PyProof.DictWalks
import PyProof.DictTruth
import PyProof.MeetsSeq
import PyProof.DictValues
import PyProof.Rows.SortWalk
import PySem.Challenge.RW_cutstand_k12_whole_what_is_before
set_option Elab.async false
set_option linter.all false
set_option maxRecDepth 100000
set_option maxHeartbeats 4000000
open PySem.W (Frag)
local macro_rules
  | `(⋯) => `(by decide +kernel)
  | `(nofun) => `(by kernel_rfl)
  | `(∅) => `(by omega)
  | `(tactic| omega) => `(tactic| first | with_reducible assumption | decide +kernel | lia | omega (config := {}))
set_option hygiene false in
local macro_rules
 | `(tactic|sleep 0)=>`(tactic|(simp only[newExc,newTuple];refine af (eP ?_ (by size_fits));refine af (m:=firstArgMember _ _) (wpAny_of_eq (a:=Value.none) (by first | rfl | (simp only[firstArgMember];rfl)) (eP ?_ (by size_fits)));simp only[raiseNew];refine af (wpAny_handled ?_);rw[show A.in1.handled=none from hh];refine af (ah (wpAny_throw (af ?_)));refine BM (T := "StopIteration") (b:=true) ⟨_,cj _ rfl,rfl⟩ DX ?_))
 | `(tactic|sleep 1)=>`(tactic|(obtain⟨ads,M,ρ,s,q⟩:=q;refine⟨ads,M,ρ,s,?_⟩))
 | `(tactic|sleep 2)=>`(tactic|(show wpAny _ _ (if (Value.ref d==Value.none)=true then _ else _) _ _ s;rw[aq (show ¬((Value.ref d==Value.none)=true) from aQ)];refine af (ah (af (BG g dt ?_)));rw[aq (by simp)];refine af (ah (af (BR g dt ?_)));rw[aq (by simp)];refine ah ?_))
 | `(tactic|sleep 4)=>`(tactic|(intro X hP hw hK hc i aa s σ H E I hf st hg;subst hP hw hK))
 | `(tactic|sleep 5)=>`(tactic|(intro aa s σ H xs us Q I r h;obtain⟨ads,M,ws,m,rw,h⟩:=h;rcases ws with _|⟨w,_|⟨w2,ws⟩⟩))
 | `(tactic|sleep 8)=>`(tactic|(refine dh (P:=λaJ=>PI X t aJ _/\dm aJ=true) h λfe args fH pos h=>bR (P:=λfe=>PI X t (.Call fe args fH pos) _/\dm (.Call fe args fH pos)=true) h λx p h=>?_))
 | `(tactic|sleep 9)=>`(tactic|(unfold pyNext;refine af (nH (jy (name:=Str.ofString "__next__") st.ty dY (fM dY st.ty nV ?_ (kO _))));unfold Builtin.«set_iterator.__next__»;refine af (ah (af (vh qw tJ ?_)));dsimp only;refine af (DG ho hd hf ?_);rw[aq (by simp)]))
 | `(tactic|sleep 11)=>`(tactic|(intro aa s σ H x y v u Q I rx ry h))
 | `(tactic|sleep 12)=>`(tactic|(intro aa s σ H xs us Q I r h))
 | `(tactic|sleep 13)=>`(tactic|(obtain⟨f0,f1,f2,f3,f4,f5⟩:=hf it (by simp)))
 | `(tactic|sleep 14)=>`(tactic|(obtain⟨ads,M,ρ,s,q⟩:=q;simp only[cF,du]at q;refine⟨ads,M,ρ,s,?_⟩))
 | `(tactic|sleep 15)=>`(tactic|(obtain⟨bs,rb⟩:=dM I 30 (gq I m 30) ds xs aA qs rd rv q3;obtain⟨e,he,yN⟩:=nW (A:=X.A) ra hs.1 ∅ rb hs.2))
 | `(tactic|sleep 16)=>`(tactic|(have h':(aN e&&cg cc c e&&cY cc cs es)=true:=h;simp only[aW]at h'))
 | `(tactic|sleep 18)=>`(tactic|(nofun;refine⟨(show(0:Nat)<=sizeLine by decide),?_⟩))
 | `(tactic|sleep 19)=>`(tactic|(have r1:RD X.K ads H (.ai n) x:=r1;unfold RD at r1;obtain⟨a,rfl,ea⟩:=r1))
 | `(tactic|sleep 20)=>`(tactic|(intro aa s σ H x vs v us Q I rx rv h;obtain⟨ads,M,wx,ds,m,r1,r2,h⟩:=h;rcases wx with⟨_|_|_|_|_ | n⟩|_<;>first | exact h.elim | skip))
 | `(tactic|sleep 21)=>`(tactic|(have t5:=g.gl hg;have hm:X.mg x=none:=g.blt x (by subst hx;show _∈cC;decide +kernel);subst hx))
 | `(tactic|sleep 23)=>`(tactic|(obtain⟨v,rfl,rv⟩:=rw.one;unfold mZ at h;dsimp only at h))
 | `(tactic|sleep 24)=>`(tactic|(unfold RD at r1;obtain⟨a,rfl,ea⟩:=r1))
 | `(tactic|sleep 25)=>`(tactic|(nofun;refine⟨(show(2:Nat)<=sizeLine by decide),?_⟩))
 | `(tactic|sleep 26)=>`(tactic|(obtain⟨o,ho,hc,hd⟩:=id hi;unfold pyNext;refine af (nH (jy (name:=Str.ofString "__next__") hi.typeIs DB (fM DB hi.typeIs F.entry_dict_valueiterator_next ?_ (F.args_dict_valueiterator_next_1 _))));refine af (ah (af (af ?_)))))
 | `(tactic|sleep 27)=>`(tactic|(rw[show(0:Int)+(i:Int)=((i:Nat):Int) by omega];nofun))
 | `(tactic|sleep 28)=>`(tactic|(obtain⟨o,ho,hc,hd⟩:=id hi;unfold pyNext;refine af (nH (jy (name:=Str.ofString "__next__") hi.typeIs DC (fM DC hi.typeIs F.entry_dict_keyiterator_next ?_ (F.args_dict_keyiterator_next_1 _))));refine af (ah (af (af ?_)))))
 | `(tactic|sleep 29)=>`(tactic|(nofun;refine⟨⟨∅,by rw[ay];omega⟩,?_⟩;rw[show(((ds.map c_).length:Nat):Int).toNat=ds.length by rw[gP,ay]]))
 | `(tactic|sleep 30)=>`(tactic|(exact tail_any (iZ I g) F.slot_dict_getitem.lookup (l_ hu I g ry λw' s' I' yq=>⟨z,H,I',yq,h.plain m rz⟩) hs))
 | `(tactic|sleep 31)=>`(tactic|(unfold aS at h;obtain⟨x,r,rfl,h1,h2⟩:=h))
 | `(tactic|sleep 32)=>`(tactic|(cases fH<;>first | exact absurd h aQ | skip))
 | `(tactic|sleep 33)=>`(tactic|(refine d5 s q λw M1 v H1 ak s1 nh q1=>?_;rcases w with⟨_ | b | _|_|_|_⟩|_<;>first | exact q1.elim | skip))
 | `(tactic|sleep 35)=>`(tactic|(first | refine af (HM hi.typeIs (ah ?_)) | refine af (HS hi.typeIs (ah ?_))))
 | `(tactic|sleep 36)=>`(tactic|(first | refine af (HL hi.typeIs (ah ?_)) | refine af (HR hi.typeIs (ah ?_))))
 | `(tactic|sleep 39)=>`(tactic|(rw[hq]at q;intro v H1 ak g1 m1 r1))
abbrev af:=@PySem.wpAny_bind
abbrev ay:=@List.length_map
abbrev ah:=@PySem.wpAny_pure
abbrev aO:=@PySem.Heap.get?_push_of_some
abbrev bz:=@List.getElem?_eq_some_iff
abbrev aQ:=@Bool.false_ne_true
abbrev br:=@List.getElem?_eq_getElem
abbrev aW:=@Bool.and_eq_true
abbrev aH:=@Nat.le_refl
abbrev bc:=@List.getElem?_map
abbrev aq:=@if_neg
abbrev ar:=@if_pos
abbrev cj:=@PySem.Heap.get?_push_size
abbrev bS:=@Option.some.inj
abbrev cQ:=@List.mem_of_getElem?
abbrev da:=@List.mem_cons_of_mem
abbrev cI:=@List.length_append
abbrev cG:=@List.size_toArray
abbrev bG:=@PySem.Heap.lt_size
abbrev bT:=@List.mem_cons
abbrev b_:=@Nat.ne_of_lt
abbrev dH:=@List.mem_cons_self
abbrev dk:=@List.mem_append
abbrev gL:=@List.getD_eq_getElem?_getD
abbrev dO:=@decide_eq_false
abbrev eP:=@PySem.wpAny_newObj_type
abbrev gM:=@List.getElem?_eq_none
abbrev dI:=@List.mem_map
abbrev eQ:=@List.map_append
abbrev dW:=@Nat.le_trans
abbrev jy:=@PySem.wpAny_callSpecial?_slot
abbrev fM:=@PySem.wpAny_call_entry
abbrev gO:=@Nat.lt_of_lt_of_le
abbrev kr:=@List.getElem?_append_left
abbrev fh:=@decide_eq_true
abbrev gP:=@Int.toNat_natCast
abbrev gD:=@List.take_length
abbrev fi:=@List.map_cons
abbrev iG:=@Nat.lt_succ_of_lt
abbrev iO:=@List.mem_singleton
abbrev hG:=@List.length_take
abbrev jA:=@PySem.Heap.SameBut.update
abbrev ny:=@Array.getElem?_eq_getElem
abbrev fj:=@Nat.lt_or_ge
abbrev iH:=@List.lookup_cons
abbrev iI:=@Nat.lt_succ_self
abbrev e9:=@PySem.wpAny_field
abbrev hU:=@List.find?_cons
abbrev jT:=@List.getElem?_range
abbrev cW:=@Ne.symm
abbrev iP:=@List.length_cons
abbrev qD:=@List.getElem?_append_right
abbrev iQ:=@List.append_nil
abbrev nz:=@List.mem_append_right
abbrev ku:=@PySem.Obj.data_mapFields
abbrev lP:=@beq_eq_false_iff_ne
abbrev lQ:=@List.filterMap_cons
abbrev hV:=@PySem.wpAny_holding
abbrev iR:=@PySem.Heap.size_push
abbrev kz:=@Bool.not_eq_true'
abbrev lR:=@PySem.wpAny_setField_rec
abbrev oF:=@PySem.Heap.get?_update_self
abbrev oG:=@Array.getElem?_toList
abbrev nA:=@Array.length_toList
abbrev su:=@List.getElem?_eq_none_iff
abbrev kA:=@List.getElem_mem
abbrev iS:=@Nat.lt_irrefl
abbrev lS:=@List.length_range
abbrev qE:=@List.getElem?_set_self
abbrev sv:=@Option.isSome_iff_exists
abbrev kB:=@List.length_set
abbrev oH:=@PySem.mem_of_lookup
abbrev lU:=@List.mem_nil_iff
abbrev qF:=@List.getElem?_set_ne
abbrev qG:=@List.mem_iff_getElem
abbrev oI:=@List.append_assoc
abbrev oJ:=@decide_eq_true_eq
abbrev BB:=@PyProof.Rows.slot_tuple_getitem
abbrev e_:=@if_true
abbrev sA:=@PySem.Around.under_plainId
abbrev sC:=@List.mem_of_mem_take
abbrev fY:=@or_false
abbrev u6:=@PySem.PyData.canLayAll0.eq_1
abbrev u7:=@PySem.PyData.canLayAll0.eq_2
abbrev nF:=@PySem.wpAny_setField
abbrev oK:=@PySem.W.kia_one
abbrev sD:=@List.pairwise_cons
abbrev u9:=@PySem.PyData.depthAll.eq_1
abbrev u_:=@PySem.PyData.depthAll.eq_2
abbrev nH:=@PySem.wpAny_attempt
abbrev vc:=@PySem.PyData.canLay0.eq_3
abbrev qH:=@List.mem_filter
abbrev qI:=@PySem.codeAny_builtin
abbrev DB:=@PySem.F.slot_dict_valueiterator_next
abbrev xZ:=@PySem.Obj.isFreed_of_fields
abbrev nI:=@Nat.ne_of_gt
abbrev vd:=@PySem.wpAny_pyIter_tuple
abbrev sE:=@List.not_mem_nil
abbrev sF:=@beq_self_eq_true
abbrev lV:=@Nat.zero_le
abbrev qJ:=@List.mem_range
abbrev kC:=@beq_iff_eq
abbrev DC:=@PySem.F.slot_dict_keyiterator_next
abbrev ve:=@PySem.wpAny_truthy_bool
abbrev vf:=@PySem.wpAny_pyIter_list
abbrev vg:=@PySem.PyData.depth.eq_6
abbrev DD:=@PyProof.Rows.callWith_type1
abbrev sG:=@List.nodup_cons
abbrev x8:=@PySem.PyData.canLay0.eq_6
abbrev oM:=@List.map_nil
abbrev sH:=@PySem.wpAny_seqItems
abbrev x9:=@Bool.false_eq_true
abbrev sI:=@List.take_zero
abbrev DE:=@List.isEmpty_eq_false_iff
abbrev qK:=@Nat.le_of_lt
abbrev jU:=@if_false
abbrev nJ:=@PySem.wpAny_rule
abbrev x_:=@List.nodup_append
abbrev ya:=@Option.some.injEq
abbrev yb:=@PySem.PyData.depth.eq_2
abbrev HL:=@PySem.wpAny_typeNameOfWhole_keyiter
abbrev HM:=@PySem.wpAny_typeNameOfWhole_valiter
abbrev BC:=@List.replicate_succ
abbrev BD:=@PySem.PyData.canLay0.eq_4
abbrev vh:=@PySem.wpAny_fieldsOf
abbrev kE:=@and_self
abbrev oN:=@PySem.wpAny_mono
abbrev qL:=@Int.le_refl
abbrev sJ:=@Nat.le_of_eq
abbrev sL:=@List.map_map
abbrev DF:=@List.getElem?_toArray
abbrev yc:=@List.range_succ
abbrev lW:=@congrArg
abbrev HN:=@PySem.F.slot_tuple_iterator_next
abbrev vj:=@PySem.plainId_quiet
abbrev vk:=@Bool.true_and
abbrev BE:=@Option.isSome_map
abbrev BF:=@PySem.Obj.cls_mapFields
abbrev BG:=@PySem.wpAny_dictEntries
abbrev BH:=@PySem.wpAny_setState_of
abbrev BI:=@Nat.lt_trichotomy
abbrev BJ:=@List.ext_getElem?
abbrev BK:=@PySem.F.plainAttrs_list
abbrev BL:=@PySem.PyData.depth.eq_7
abbrev HP:=@List.pairwise_iff_getElem
abbrev HQ:=@List.mem_of_find?_eq_some
abbrev BM:=@PySem.wpAny_isInstance
abbrev HR:=@PySem.wpAny_typeNameOf_keyiter
abbrev HS:=@PySem.wpAny_typeNameOf_valiter
abbrev BN:=@PySem.wpAny_askSetting
abbrev vm:=@PySem.F.called_set
abbrev DG:=@PySem.wpAny_setEntries_of
abbrev BO:=@List.foldl_cons
abbrev BP:=@List.forIn_cons
abbrev BQ:=@Bool.or_eq_true
abbrev BR:=@PySem.wpAny_dictEpoch
abbrev Mu:=@List.eq_nil_of_length_eq_zero
abbrev DH:=@List.take_sublist
abbrev DI:=@List.flatten_cons
abbrev DJ:=@Nat.le_of_succ_le
abbrev DK:=@PySem.wpAny_pyIter_slot
abbrev DL:=@List.foldl_append
abbrev DM:=@of_decide_eq_true
abbrev DN:=@List.flatMap_cons
abbrev yd:=@PySem.wpAny_typeOf
abbrev HU:=@PySem.F.slot_enumerate_next
abbrev BS:=@Nat.mul_le_mul
abbrev HV:=@List.getElem?_zipWith
abbrev HW:=@List.mem_append_left
abbrev DO:=@List.all_eq_true
abbrev DP:=@List.isEmpty_iff
abbrev HX:=@Nat.mul_le_mul_right
abbrev DQ:=@List.filter_cons
abbrev HY:=@List.length_zipWith
abbrev DR:=@PySem.wpAny_passesOwn
abbrev DS:=@PySem.F.slot_zip_next
abbrev DT:=@Option.map_some
abbrev DU:=@PySem.PyData.eqv.eq_5
abbrev BU:=@PySem.codeAny_mono
abbrev HZ:=@PySem.tupleKind_room_in1
abbrev Mx:=@PySem.F.args_tuple_add_2
abbrev H_:=@PySem.F.slot_list_extend
abbrev My:=@PySem.F.slot_list_getattribute
abbrev Ia:=@Int.emod_lt_of_pos
abbrev Ib:=@PySem.PyData.eqvAll.eq_1
abbrev DV:=@List.nodup_nil
abbrev DW:=@List.forIn_nil
abbrev DX:=@PySem.isSubtype_stop
abbrev Mz:=@PySem.F.entry_tuple_add
abbrev MB:=@List.length_eq_zero_iff
abbrev Ic:=@PySem.fits_of_scanBound
abbrev BV:=@PySem.sizeLine_eq
abbrev MC:=@Option.map_eq_some_iff
abbrev MD:=@PySem.F.slot_tuple_add
abbrev ME:=@PySem.Calls.callWith_builtin
abbrev BW:=@Nat.le_succ
abbrev MF:=@Array.getElem?_eq_none
abbrev RP:=@List.findIdx?_eq_some_iff_getElem
abbrev MG:=@List.take_of_length_le
abbrev DY:=@PySem.Paired.length
abbrev DZ:=@List.any_cons
abbrev Ie:=@List.length_drop
abbrev Ig:=@List.any_eq_true
abbrev Ih:=@List.flatMap_nil
abbrev MH:=@List.length_replicate
abbrev MI:=@PySem.builtinLookup_eq_fast
abbrev MJ:=@PySem.wpAny_notOrdered_dict
abbrev MK:=@PySem.wpAny_isOneOf_valiter
abbrev ML:=@List.filterMap_append
abbrev MM:=@List.take_append_drop
abbrev BX:=@PySem.wpAny_load
abbrev Ii:=@List.length_nil
abbrev D0:=@Nat.lt_trans
abbrev BY:=@PySem.call_meets
abbrev MN:=@PySem.wpAny_updateSeq_pair
abbrev Ij:=@Nat.not_lt_zero
abbrev Ik:=@Int.emod_nonneg
abbrev MP:=@List.flatMap_append
abbrev vn:=@Iff.rfl
abbrev MQ:=@List.mem_filterMap
abbrev MR:=@List.filterMap_map
abbrev MS:=@Nat.lt_of_le_of_lt
abbrev MT:=@List.any_eq_false
abbrev MU:=@List.take_add_one
abbrev MV:=@List.find?_append
abbrev MW:=@List.getElem?_set
set_option autoImplicit true
noncomputable section
section
namespace L2
open PySem PySem.Spec PyProof.Rows
abbrev bN:=Sum Int Str
noncomputable def iT:bN->Value->Bool
 | .inl k,v=>Value.isInt k v
 | .inr x,v=>Value.isStrOf x v
noncomputable def Xk(w:World):bN->Int
 | .inl k=>hashInt k
 | .inr x=>hashStr w x
theorem cB:∀{k:bN}{v:Value},iT k v=true->(∃i t,k=Sum.inl i/\v=Value.int i t)\/(∃x t,k=Sum.inr x/\v=Value.str x t)
 | .inl i,v,h=>by
  obtain⟨t,e⟩:=Value.isInt_shape (k:=i) (v:=v) h;exact .inl ⟨i,t,rfl,e⟩
 | .inr x,v,h=>by
  obtain⟨t,e⟩:=Value.isStrOf_shape (x:=x) (v:=v) h;exact .inr ⟨x,t,rfl,e⟩
theorem qY(i:Int)(t:Tok):iT (.inl i) (.int i t)=true:=by simp[iT,Value.isInt]
theorem qZ(x:Str)(t:Tok):iT (.inr x) (.str x t)=true:=by simp[iT,Value.isStrOf]
theorem D1(a b:Int):decide ((Sum.inl a:bN)=Sum.inl b)=(a==b):=by
 by_cases e:a=b
 ·subst e;simp
 ·have h:¬(Sum.inl a:bN)=Sum.inl b:=λq=>e (Sum.inl.inj q);rw[dO h];exact(lP.mpr e).symm
theorem MX(a b:Str):decide ((Sum.inr a:bN)=Sum.inr b)=decide (a=b):=by
 by_cases e:a=b
 ·subst e;simp
 ·have h:¬(Sum.inr a:bN)=Sum.inr b:=λq=>e (Sum.inr.inj q);rw[dO h,dO e]
theorem MY(a:Int)(b:Str):decide ((Sum.inl a:bN)=Sum.inr b)=false:=dO (λq=>nomatch q)
theorem MZ(a:Str)(b:Int):decide ((Sum.inr a:bN)=Sum.inl b)=false:=dO (λq=>nomatch q)
def bA(prog:Program)(w:World):PySem.KeyKind prog w bN where
 is:=iT
 hash:=Xk w
 inj:=λv a b ha hb=>by
  rcases cB ha with⟨i,t,rfl,rfl⟩|⟨x,t,rfl,rfl⟩
  ·rcases cB hb with⟨j,u,rfl,e⟩|⟨y,u,rfl,e⟩
   ·injection e with e1 _;rw[e1]
   ·exact nomatch e
  ·rcases cB hb with⟨j,u,rfl,e⟩|⟨y,u,rfl,e⟩
   ·exact nomatch e
   ·injection e with e1 _;rw[e1]
 byValue:=λk v h=>by
  rcases cB h with⟨i,t,rfl,rfl⟩|⟨x,t,rfl,rfl⟩<;>rfl
 pyHash:=λhv h=>by
  rcases cB hv with⟨i,t,rfl,rfl⟩|⟨x,t,rfl,rfl⟩
  ·exact wpAny_pyHash_int h
  ·exact wpAny_pyHash_str h
 eqBool:=λhu hv h=>by
  rcases cB hu with⟨i,t,rfl,rfl⟩|⟨x,t,rfl,rfl⟩
  ·rcases cB hv with⟨j,u,rfl,rfl⟩|⟨y,u,rfl,rfl⟩
   ·rw[D1]at h;exact wpAny_eqBool_int h
   ·rw[MY]at h;exact SeqAt.EqAt.int_str i t y u _ _ _ _ h
  ·rcases cB hv with⟨j,u,rfl,rfl⟩|⟨y,u,rfl,rfl⟩
   ·rw[MZ]at h;exact SeqAt.EqAt.str_int x t j u _ _ _ _ h
   ·rw[MX]at h;exact wpAny_eqBool_str h
 «strs»:=λk x t v h=>by
  rcases cB h with⟨i,u,rfl,e⟩|⟨y,u,rfl,e⟩
  ·exact nomatch e
  ·injection e with e1 _;subst e1;cases v<;>rfl
theorem vp(prog:Program)(w:World)(i:Int)(t:Tok):(bA prog w).is (.inl i) (.int i t)=true:=qY i t
theorem vq(prog:Program)(w:World)(x:Str)(t:Tok):(bA prog w).is (.inr x) (.str x t)=true:=qZ x t
inductive V where
 | aP | bl (b:Bool) | int (i:Int) | str (x:Str) | RQ (b:Array UInt8) | Q0 (b:UInt64) | ref (a:Addr) | ty (n:String)
 deriving DecidableEq
noncomputable def RelV:V->Value->Prop
 | .aP,u=>u=Value.none
 | .bl b,u=>u=Value.bool b
 | .int i,u=>∃t,u=Value.int i t
 | .str x,u=>∃t,u=Value.str x t
 | .RQ b,u=>∃t,u=Value.bytes b t
 | .Q0 b,u=>∃t,u=Value.float b t
 | .ref a,u=>u=Value.ref a
 | .ty n,u=>u=Value.type n
abbrev aY:List V->List Value->Prop:=Paired RelV
theorem aY.length(r:aY xs us):xs.length=us.length:=DY r
theorem aY.get:∀{xs:List V}{us:List Value}{i:Nat}{x:V},aY xs us->xs[i]?=some x->∃u,us[i]?=some u/\RelV x u
 | _,_,_,_,.nil,e=>by simp at e
 | _,_,0,_,.cons r _,e=>by simp at e;subst e;exact⟨_,rfl,r⟩
 | _,_,i+1,x,.cons _ t,e=>by
  obtain⟨u,h1,h2⟩:=aY.get (i:=i) (x:=x) t (by simpa using e);exact⟨u,by simpa using h1,h2⟩
theorem aY.set(r:RelV x u):∀{xs:List V}{us:List Value}(i:Nat),aY xs us->aY (xs.set i x) (us.set i u)
 | _,_,_,.nil=>.nil
 | _,_,0,.cons _ t=>.cons r t
 | _,_,i+1,.cons q t=>.cons q (aY.set r i t)
theorem aY.append:∀{xs ys:List V}{us ws:List Value},aY xs us->aY ys ws->aY (xs++ys) (us++ws)
 | _,_,_,_,.nil,s=>s
 | _,_,_,_,.cons r t,s=>.cons r (aY.append t s)
theorem aY.take:∀{xs:List V}{us:List Value}(n:Nat),aY xs us->aY (xs.take n) (us.take n)
 | _,_,0,_=>.nil
 | _,_,_+1,.nil=>.nil
 | _,_,n+1,.cons r t=>.cons r (aY.take n t)
theorem aY.drop:∀{xs:List V}{us:List Value}(n:Nat),aY xs us->aY (xs.drop n) (us.drop n)
 | _,_,0,r=>r
 | _,_,_+1,.nil=>.nil
 | _,_,n+1,.cons _ t=>aY.drop n t
def jV:Option V->Option Value->Prop
 | some v,some u=>RelV v u
 | none,none=>True
 | _,_=>False
def KV{κ:Type}:List (κ×V)->List (κ×Value)->Prop:=Paired λ(p:κ×V) (q:κ×Value)=>p.1=q.1/\RelV p.2 q.2
def kV:bN->V
 | .inl i=>.int i
 | .inr x=>.str x
inductive HO where
 | lst (xs:List V)
 | tup (xs:List V)
 | dK (ag:List (bN×V)) | dT (ag:List (List bN×V))
 | set (S:Int->Bool) (n:Nat)
 | ins (C dx:Addr) (fs:List (Str×V))
 | own (x:Addr)
 | xd (fs:List (Str×V))
 | met (f x:Addr)
 | lX (lo hi:Int)
 | dP (o:Obj) (u:HO)
 | M_ (ps:Array Value)
 | ext (φ:Heap->Prop)
abbrev Hp:=Addr->Option HO
noncomputable def upd(H:Hp)(a:Addr)(o:HO):Hp:=λb=>if b=a then some o else H b
theorem a_:upd H a o a=some o:=by unfold upd;rw[ar rfl]
theorem az(h:b≠a):upd H a o b=H b:=by unfold upd;rw[aq h]
theorem RS{H:Hp}{a b:Addr}{o u:HO}(h:H a=some o)(h':H b=some u)(d:o≠u):a≠b:=by
 intro e;subst e;rw[h]at h';exact d (bS h')
theorem fN{H:Hp}{a b:Addr}{o:HO}(h:H a=some o)(h':H b=none):a≠b:=by
 intro e;subst e;rw[h]at h';cases h'
section
variable (P:Program) (w:World)
def bH(H:Hp)(h:Heap)(a:Addr):HO->Prop
  | .lst xs=>xs.length<=sizeLine/\∃(aA:List Value) (n:Nat),aY xs aA/\h.get? a=some {cls:=.type "list",data:=.seq aA.toArray n}
  | .tup xs=>xs.length<=sizeLine/\∃aA:List Value,aY xs aA/\IsTup h a aA.toArray
  | .dK ag=>ag.length<=sizeLine/\(a==sysModules)=false/\∃vs,KV ag vs/\h.DictOf (bA P w) a vs
  | .dT ag => ag.length <= sizeLine /\ (a == sysModules) = false /\ ∃ xs : List (List bN × Addr × Value),
      Paired (λ(p:List bN×V) (q:List bN×Addr×Value)=>p.1=q.1/\H q.2.1=some (.tup (p.1.map kV))/\RelV p.2 q.2.2) ag xs /\
      ∃o es ep,h.get? a=some o/\o.ExactDict/\o.data=.dict es ep/\es.toList=xs.map (entryOfKey (tupleKind (bA P w)))/\(xs.map (·.1)).Nodup
  | .set S n=>h.SetOf (intKind P w) a S n
  | .ins C dx fs => H dx = some (.own a) /\ fs.length <= 1000 /\ dx ≠ a /\ h.get? a = some (PySem.W.instObj C dx) /\
      ∃mA,h.Ns1 dx mA/\(∀f,jV (fs.lookup f) (mA f))/\PySem.Within mA (fs.map (·.1))
  | .own _=>∃o,h.get? a=some o
  | .xd fs=>∃mA,h.Ns1 a mA/\∀f,jV (fs.lookup f) (mA f)
  | .lX lo hi=>∃t u v,h.get? a=some {cls:=.type "range",data:=.fields #[.int lo t,.int hi u,.int 1 v]}
  | .dP o u=>h.get? a=some o/\bH H h a u
  | .M_ ps=>h.get? a=some {cls:=.none,data:=.fields ps}
  | .met f x=>h.get? a=some (PySem.W.methodObj (.ref f) (.ref x))
  | .ext φ=>φ h/\(∃o,h.get? a=some o)/\∀h1 h2:Heap,φ h1->(∀o,h1.get? a=some o->h2.get? a=some o)->φ h2
def jE(H:Hp)(h:Heap):Prop:=∀a o,H a=some o->bH P w H h a o
end
section
variable {P:Program} {w:World} {H H':Hp} {h h':Heap} {a:Addr} {o:HO}
theorem bH.lt(x:bH P w H h a o):a<h.objs.size:=by
 cases o with
 | lst xs=>obtain⟨_,_,_,_,e⟩:=x;exact bG e
 | tup xs=>obtain⟨_,_,_,p⟩:=x;exact p.lt
 | dK ag=>obtain⟨_,_,_,_,o,_,_,e,_⟩:=x;exact bG e
 | dT ag=>obtain⟨_,_,_,_,o,_,_,e,_⟩:=x;exact bG e
 | set S n=>obtain⟨o,_,_,_,e,_⟩:=x;exact bG e
 | ins C dx fs=>obtain⟨_,_,_,e,_⟩:=x;exact bG e
 | own y=>obtain⟨_,e⟩:=x;exact bG e
 | xd fs=>obtain⟨_,⟨_,_,_,e,_⟩,_⟩:=x;exact bG e
 | lX lo hi=>obtain⟨_,_,_,e⟩:=x;exact bG e
 | dP ob u=>obtain⟨e,_⟩:=x;exact bG e
 | M_ ps=>exact bG (show h.get? a=some _ from x)
 | met f y=>exact bG (show h.get? a=some _ from x)
 | ext φ=>obtain⟨_,⟨_,e⟩,_⟩:=x;exact bG e
theorem Paired.Na{α β:Type}{F G:α->β->Prop}:∀{RT:List α}{l₂:List β},Paired F RT l₂->(∀a b,F a b->G a b)->Paired G RT l₂
 | _,_,.nil,_=>.nil
 | _,_,.cons r t,f=>.cons (f _ _ r) (Paired.Na t f)
theorem bH.BZ(x:bH P w H h a o)(k:∀b u,(b=a\/H b=some (.own a))->h.get? b=some u->h'.get? b=some u)(ho:∀b,H b=some (.own a)->H' b=some (.own a))(ht:∀b xs,H b=some (.tup xs)->H' b=some (.tup xs)):bH P w H' h' a o:=by
 induction o with
 | lst xs=>obtain⟨z,aA,n,r,e⟩:=x;exact⟨z,aA,n,r,k _ _ (.inl rfl) e⟩
 | tup xs=>obtain⟨z,aA,r,ob,e,c⟩:=x;exact⟨z,aA,r,ob,k _ _ (.inl rfl) e,c⟩
 | dK ag=>obtain⟨z,y,vs,r,ob,es,ep,e,c⟩:=x;exact⟨z,y,vs,r,ob,es,ep,k _ _ (.inl rfl) e,c⟩
 | dT ag =>
  obtain⟨z,y,xs,r,ob,es,ep,e,c⟩:=x;exact⟨z,y,xs,Paired.Na r λp q z=>⟨z.1,ht _ _ z.2.1,z.2.2⟩,ob,es,ep,k _ _ (.inl rfl) e,c⟩
 | set S n=>obtain⟨ob,es,ep,t,e,c⟩:=x;exact⟨ob,es,ep,t,k _ _ (.inl rfl) e,c⟩
 | ins C dx fs =>
  obtain⟨d,z,ne,e,mA,⟨od,es,ep,e2,c⟩,r⟩:=x;exact⟨ho _ d,z,ne,k _ _ (.inl rfl) e,mA,⟨od,es,ep,k _ _ (.inr d) e2,c⟩,r⟩
 | own y=>obtain⟨ob,e⟩:=x;exact⟨ob,k _ _ (.inl rfl) e⟩
 | xd fs=>obtain⟨mA,⟨od,es,ep,e,c⟩,r⟩:=x;exact⟨mA,⟨od,es,ep,k _ _ (.inl rfl) e,c⟩,r⟩
 | lX lo hi=>obtain⟨t,u,v,e⟩:=x;exact⟨t,u,v,k _ _ (.inl rfl) e⟩
 | dP ob u ih=>obtain⟨e,q⟩:=x;exact⟨k _ _ (.inl rfl) e,ih q⟩
 | M_ ps =>
  have e:h.get? a=some {cls:=.none,data:=.fields ps}:=x;show h'.get? a=some {cls:=.none,data:=.fields ps};exact k a _ (.inl rfl) e
 | met f y =>
  have e:h.get? a=some (PySem.W.methodObj (.ref f) (.ref y)):=x;show h'.get? a=some (PySem.W.methodObj (.ref f) (.ref y));exact k a _ (.inl rfl) e
 | ext φ=>obtain⟨p,⟨o,e⟩,st⟩:=x;exact⟨st _ _ p λo q=>k _ _ (.inl rfl) q,⟨o,k _ _ (.inl rfl) e⟩,st⟩
theorem jE.lt(x:jE P w H h)(e:H a=some o):a<h.objs.size:=(x a o e).lt
theorem jE.fresh(x:jE P w H h)(e:h.objs.size<=a):H a=none:=by
 cases q:H a with
 | none=>rfl
 | some u=>exact absurd (gO (x.lt q) e) (iS _)
theorem jE.kept(x:jE P w H h)(k:∀b u,h.get? b=some u->h'.get? b=some u):jE P w H h':=λa o e =>
 (x a o e).BZ (λb u _ q=>k b u q) (λ_ q=>q) λ_ _ q=>q
theorem jE.laid(x:jE P w H h)(k:∀b u,h.get? b=some u->h'.get? b=some u)(hp:h.objs.size<=a)(new:bH P w (upd H a o) h' a o):jE P w (upd H a o) h':=λb u e=>by
 have hn:=x.fresh hp;by_cases hb:b=a
 ·subst hb;rw[a_]at e;cases e;exact new
 ·rw[az hb]at e;exact(x b u e).BZ (λc v _ q=>k c v q) (λc q=>by rw[az (fN q hn)];exact q) λc xs q=>by rw[az (fN q hn)];exact q
end
noncomputable def Rd(H:Hp)(a:Addr)(u:HO):Prop:=H a=some u\/∃o,H a=some (.dP o u)
theorem Rd.ok(r:Rd H a u)(x:jE P w H h):bH P w H h a u:=by
 rcases r with r | ⟨o,r⟩
 ·exact x a u r
 ·obtain⟨_,q⟩:=x a _ r;exact q
noncomputable def RU:Option HO->Prop
 | some (.lst _)=>True
 | some (.dK _)=>True
 | some (.dT _)=>True
 | some (.set _ _)=>True
 | some (.ins _ _ _)=>True
 | some (.ext _)=>True
 | _=>False
section
variable {P:Program} {w:World} {H:Hp} {h h':Heap} {x e:Addr} {o':HO}
theorem jE.write(ok:jE P w H h)(mu:RU (H x))(he:e=x\/H e=some (.own x))(k:∀b u,b≠e->h.get? b=some u->h'.get? b=some u)(Q1:∃u,h'.get? e=some u)(new:bH P w (upd H x o') h' x o'):jE P w (upd H x o') h':=λb u q=>by
 have RV:∀c y,H c=some (.own y)->c≠x:=λc y r z=>by subst z;rw[r]at mu;exact mu
 have Xl:∀c xs,H c=some (.tup xs)->c≠x:=λc xs r z=>by subst z;rw[r]at mu;exact mu
 by_cases hb:b=x
 ·subst hb;rw[a_]at q;cases q;exact new
 ·rw[az hb]at q;by_cases Nb:b=e
  ·have q':H b=some (.own x):=by
    rcases he with z | z
    ·exact absurd (Nb.trans z) hb
    ·rw[Nb];exact z
   rw[q]at q';cases q';obtain⟨v,hv⟩:=Q1;exact⟨v,by rw[Nb];exact hv⟩
  ·refine(ok b u q).BZ (λc v hc r=>k c v ?_ r) (λc r=>by rw[az (RV c b r)];exact r) λc xs r=>by rw[az (Xl c xs r)];exact r
   rcases hc with rfl | hc
   ·exact Nb
   ·rintro rfl;rcases he with z | z
    ·exact RV c b hc z
    ·rw[hc]at z;cases z;exact hb rfl
end
structure Un (fs ex:List Addr) (H H':Hp) (h h':Heap):Prop where
 keep:∀b o,h.get? b=some o->H b=none->b∉fs->b∉ex->h'.get? b=some o
 slot:∀b o,h.get? b=some o->H b=none->b∈fs->b∉ex->∃sl,h'.get? b=some {o with slots:=sl}
 free:∀b o,h.get? b=some o->H b=none->b∉ex->H' b=none
 there:∀b o,h.get? b=some o->b∉ex->∃o',h'.get? b=some o'
 hZ:∀b xs,H b=some (.tup xs)->H' b=some (.tup xs)
 sM:∀b o u,H b=some (.dP o u)->H' b=some (.dP o u)
 vt:∀b ps,H b=some (.M_ ps)->∃more,H' b=some (.M_ (ps++more))
section
variable {fs fs' ex ex':List Addr} {H H1 H2:Hp} {h h1 h2 h':Heap} {a x e:Addr} {o:HO}
theorem Un.any(u:Un fs ex H H1 h h1)(q:h.get? b=some ob)(n:H b=none)(hx:b∉ex):∃sl,h1.get? b=some {ob with slots:=sl}:=by
 by_cases hb:b∈fs
 ·exact u.slot b ob q n hb hx
 ·exact⟨ob.slots,u.keep b ob q n hb hx⟩
theorem Un.kept(k:∀b u,h.get? b=some u->h'.get? b=some u):Un fs ex H H h h' :=
 ⟨λb ob q _ _ _=>k b ob q,λb ob q _ _ _=>⟨ob.slots,k b ob q⟩,λ_ _ _ n _=>n,λb ob q _=>⟨ob,k b ob q⟩,λ_ _ q=>q,λ_ _ _ q=>q,λ_ ps q=>⟨#[],by rw[q];simp⟩⟩
theorem Un.refl:Un fs ex H H h h:=Un.kept λ_ _ q=>q
theorem Un.laid(k:∀b u,h.get? b=some u->h'.get? b=some u)(hp:h.objs.size<=a)(hn:H a=none):Un fs ex H (upd H a o) h h' where
 keep:=λb u q _ _ _=>k b u q
 slot:=λb u q _ _ _=>⟨u.slots,k b u q⟩
 free:=λb u q n _=>by rw[az (b_ (gO (bG q) hp))];exact n
 there:=λb u q _=>⟨u,k b u q⟩
 hZ:=λb xs q=>by rw[az (fN q hn)];exact q
 sM:=λb u xs q=>by rw[az (fN q hn)];exact q
 vt:=λb ps q=>⟨#[],by rw[az (fN q hn),q];simp⟩
theorem Un.write(mu:RU (H x))(he:e=x\/H e=some (.own x))(k:∀b u,b≠e->h.get? b=some u->h'.get? b=some u)(Q1:∃u,h'.get? e=some u):Un fs ex H (upd H x o) h h':=by
 have hx:∀b,H b=none->b≠x:=λb n z=>by subst z;rw[n]at mu;exact mu
 have hb:∀b,H b=none->b≠e:=λb n z=>by
  subst z;rcases he with r | r
  ·exact hx b n r
  ·rw[n]at r;cases r
 have hm:∀b u,H b=some u->¬RU (some u)->b≠x:=λb u q nm z=>by subst z;rw[q]at mu;exact nm mu
 refine⟨λb u q n _ _=>k b u (hb b n) q,λb u q n _ _=>⟨u.slots,k b u (hb b n) q⟩,λb u q n _=>by rw[az (hx b n)];exact n,λb u q _=>?_,
  λb xs q=>by rw[az (hm b _ q λz=>z)];exact q,λb u xs q=>by rw[az (hm b _ q λz=>z)];exact q,λb ps q=>⟨#[],by rw[az (hm b _ q λz=>z),q];simp⟩⟩
 by_cases Nb:b=e
 ·subst Nb;exact Q1
 ·exact⟨u,k b u Nb q⟩
end
noncomputable def VN(h:Heap)(H:Hp):List Addr:=(List.range h.objs.size).filter λa=>(H a).isSome
def sN(h:Heap)(H:Hp):Heap:=PySem.W.hideAll h (VN h H)
theorem B0(h:Heap)(H:Hp):(sN h H).objs.size=h.objs.size:=PySem.W.hideAll_size _ _
theorem D2(e:h.get? b=some o)(n:H b=none):(sN h H).get? b=some o :=
 PySem.W.hideAll_get _ e λhm=>by
  have q:(H b).isSome=true:=(qH.mp hm).2;rw[n]at q;simp at q
theorem Il(e:(sN h H).get? b=some o):h.get? b=some o/\H b=none:=by
 have e':h.get? b=some o:=PySem.W.of_hideAll (VN h H) e;refine⟨e',?_⟩
 cases q:H b with
 | none=>rfl
 | some x =>
  have hm:b∈VN h H:=qH.mpr ⟨qJ.mpr (bG e'),by simp[q]⟩;have z:(sN h H).get? b=none:=PySem.W.hideAll_none (VN h H) hm;rw[z]at e;cases e
noncomputable def Im(g h:Heap)(L:Addr):List (Addr×Obj):=(List.range h.objs.size).filterMap λa=>if a=L\/(g.get? a).isSome=true then none else (h.get? a).map λo=>(a,o)
def eB(g h:Heap)(L d:Addr):List (Addr×Obj):=(Im g h L).filter λp=>decide (p.1≠d)
structure Mod (K:Frag) (mg:Str->Option Value) (base:Heap):Prop where
 RX:K.In base
 glob:base.Ns mainGlobals mg
 blt:∃mb,base.Ns builtinsNs mb/\∀x:Str,x≠ "__name__" -> mb x=bootBuiltins x
 nolimit:base.NoLimit
structure Cx where
 prog:Program
 w:World
 K:Frag
 mg:Str->Option Value
 base:Heap
 A:Around
 N:List Str
 fy:Shared
 vv:Hp
 env:Env
 outer:List Env
 stack:List Env
 ex:List Addr
 fn:Str->Bool
 calm:Bool
 pn:List (Addr×Obj)
 xe:Value->Shared->Prop
def D3(l:List Env):List Addr:=l.filterMap (·.frame)
abbrev Cx.fs(X:Cx):List Addr:=D3 X.outer
noncomputable def VO(sc:Scope)(x:Str):Prop:=sc.names.lookup x=some .local\/sc.names.lookup x=some .cell\/sc.names.lookup x=some .free
noncomputable def Loc(sc:Scope)(x:Str):Prop:=sc.names.lookup x=some .local\/sc.names.lookup x=some .cell
noncomputable def Look(env:Env)(h:Heap)(m:Str->Option Value)(x:Str)(u:Value):Prop :=
 (env.kindOf x=some .local/\m x=some u)\/((env.kindOf x=some .cell\/env.kindOf x=some .free)/\∃c,env.cells.lookup x=some c/\h.IsCell c (some u))
structure Cx.Ok (X:Cx):Prop where
 mod:Mod X.K X.mg X.base
 kind:X.env.scope.kind=.function
 glob:X.env.globals=mainGlobals
 blt:X.env.builtins=builtinsNs
 above:X.fy.heap.objs.size<=X.env.locals
 inj:∀x y c,X.env.cells.lookup x=some c->X.env.cells.lookup y=some c->x=y
 has:∀x,(X.env.kindOf x=some .cell\/X.env.kindOf x=some .free)->∃c,X.env.cells.lookup x=some c
 Nc:∀x c,X.fn x=true->X.env.cells.lookup x=some c->X.fy.heap.objs.size<=c
 hd:X.calm=true->X.A.handled=none
 frames:X.A.frames=some X.stack
 VP:X.stack=X.outer\/(X.stack=X.env::X.outer/\X.env.frame=some X.env.locals)
 Xm:∀b∈X.ex,b≠X.env.locals/\∀x c,X.env.cells.lookup x=some c->c≠b
 bs:∀b o,X.base.get? b=some o->X.fy.heap.get? b=some o/\X.vv b=none
 Lu:X.base.objs.size<=X.fy.heap.objs.size
 D4:∀b o,X.base.get? b=some o->b∉X.ex
 D5:∀b∈X.ex,b∉X.fs
 oO:X.fy.heap.FunFrames X.base X.outer
 Q2:∀b∈X.fs,X.vv b=none
structure Inv (X:Cx) (aa:List (Addr×Obj)) (σ:List (Option V)) (H:Hp) (s:Shared):Prop where
 ok:X.Ok
 os:s.os=X.fy.os
 bare:AllBare s.gens
 base:Un X.fs X.ex X.vv H X.fy.heap s.heap
 loc:∃m,s.heap.Ns X.env.locals m/\∀(i:Nat)(x:Str)(v:V),X.N[i]?=some x->σ[i]?=some (some v)->VO X.env.scope x->∃u,RelV v u/\Look X.env s.heap m x u
 cell:∀x c,X.env.cells.lookup x=some c->∃v,s.heap.IsCell c v
 free:H X.env.locals=none
 jF:∀x c,X.env.cells.lookup x=some c->H c=none
 pin:∀p∈X.pn++aa,s.heap.get? p.1=some p.2/\H p.1=none/\p.1≠X.env.locals/\p.1∉X.fs/\∀v,p.2.data≠.cell v
 bI:jE X.prog X.w H s.heap
 len:σ.length=X.N.length
section
variable {X:Cx} {aa:List (Addr×Obj)} {σ:List (Option V)} {H H':Hp} {s:Shared} {h':Heap}
theorem Cx.Ok.Xn(ok:X.Ok)(e:X.base.get? b=some o):b∉X.fs:=λhb=>by
 have:=(ok.oO.mem hb).1;rw[e]at this;cases this
theorem Inv.bs(I:Inv X aa σ H s):∀b o,X.base.get? b=some o->s.heap.get? b=some o/\H b=none:=λb o e =>
 ⟨I.base.keep b o (I.ok.bs b o e).1 (I.ok.bs b o e).2 (I.ok.Xn e) (I.ok.D4 b o e),I.base.free b o (I.ok.bs b o e).1 (I.ok.bs b o e).2 (I.ok.D4 b o e)⟩
theorem Inv.bk(I:Inv X aa σ H s):∀b o,X.base.get? b=some o->s.heap.get? b=some o:=λb o e=>(I.bs b o e).1
theorem Inv.mod(I:Inv X aa σ H s):Mod X.K X.mg X.base:=I.ok.mod
theorem Inv.vA(I:Inv X aa σ H s):X.K.In s.heap:=I.ok.mod.RX.keeps I.bk
theorem Inv.lt(I:Inv X aa σ H s):X.env.locals<s.heap.objs.size:=let ⟨_,hn,_⟩:=I.loc;hn.lt
theorem Inv.sz(I:Inv X aa σ H s):X.fy.heap.objs.size<=s.heap.objs.size:=dW I.ok.above (qK I.lt)
theorem Inv.RY(I:Inv X aa σ H s)(h:s.heap.objs.size<=a):a∉X.fs:=λhb=>by
 obtain⟨_,o,ho,_⟩:=I.ok.oO.mem hb;exact absurd (gO (bG ho) (dW I.sz h)) (iS _)
theorem Inv.Nd(I:Inv X aa σ H s):∀x c,X.env.cells.lookup x=some c->c≠X.env.locals:=λx c e z=>by
 obtain⟨v,o,ho,hd⟩:=I.cell x c e;obtain⟨m,⟨o',es,ep,zP,RZ,_⟩,_⟩:=I.loc;rw[z,zP]at ho;cases ho;rw[RZ]at hd;cases hd
theorem Inv.oO(I:Inv X aa σ H s):s.heap.FunFrames X.base X.outer:=by
 have all:∀(l:List Env),(∀b∈D3 l,b∈X.fs)->X.fy.heap.FunFrames X.base l->s.heap.FunFrames X.base l:=by
  intro l
  induction l with
  | nil=>intro _ _;trivial
  | cons env r ih =>
   intro hs hl;obtain⟨hk,⟨L,o,hf,hn,ho,hd⟩,hr⟩:=hl;have hL:L∈X.fs:=hs L (by unfold D3;rw[lQ,hf];exact dH);obtain⟨sl,e⟩:=I.base.slot L o ho (I.ok.Q2 L hL) hL λz=>I.ok.D5 L z hL;exact⟨hk,⟨L,_,hf,hn,e,hd⟩,ih (λb hb=>hs b (by unfold D3;rw[lQ,hf];exact da _ hb)) hr⟩
 exact all X.outer (λ_ hb=>hb) I.ok.oO
theorem Inv.stack(I:Inv X aa σ H s):s.heap.FunFrames X.base X.stack:=by
 rcases I.ok.VP with e | ⟨e,hf⟩
 ·rw[e];exact I.oO
 ·rw[e];obtain⟨m,hn,_⟩:=I.loc;refine .cons (by rw[I.ok.kind];decide) hf hn ?_ I.oO;exact Heap.get?_none_of_le (dW I.ok.Lu I.ok.above)
theorem Inv.ye(I:Inv X aa σ H s):∀b∈D3 X.stack,b∈X.env.locals::X.fs:=λb hb=>by
 rcases I.ok.VP with e | ⟨e,hf⟩
 ·rw[e]at hb;exact da _ hb
 ·rw[e]at hb;unfold D3 at hb;rw[lQ,hf]at hb;exact hb
theorem Inv.zQ(I:Inv X aa σ H s):∀b∈D3 X.stack,H b=none:=λb hb=>by
 rcases bT.mp (I.ye b hb)with e | hb
 ·rw[e];exact I.free
 ·obtain⟨_,o,ho,_⟩:=I.ok.oO.mem hb;exact I.base.free b o ho (I.ok.Q2 b hb) λz=>I.ok.D5 b z hb
theorem Inv.step{t':Nat}{ch:List Addr}(I:Inv X aa σ H s)(Dm:∀b∈ch,(b∈X.ex\/X.fy.heap.objs.size<=b)/\b≠X.env.locals/\(∀x c,X.env.cells.lookup x=some c->c≠b)/\∀p∈X.pn++aa,p.1≠b)(keep:∀b o,b≠X.env.locals->b∉X.fs->b∉ch->s.heap.get? b=some o->H b=none->h'.get? b=some o)(slot:∀b o,b≠X.env.locals->b∈X.fs->b∉ch->s.heap.get? b=some o->H b=none->∃sl,h'.get? b=some {o with slots:=sl})(free:∀b o,b∉ch->s.heap.get? b=some o->H b=none->H' b=none)(there:∀b o,b∉ch->s.heap.get? b=some o->∃o',h'.get? b=some o')(hZ:∀b xs,H b=some (.tup xs)->H' b=some (.tup xs))(sM:∀b o u,H b=some (.dP o u)->H' b=some (.dP o u))(vt:∀b ps,H b=some (.M_ ps)->∃more,H' b=some (.M_ (ps++more)))(ns:∀m,s.heap.Ns X.env.locals m->h'.Ns X.env.locals m)(bI:jE X.prog X.w H' h')(hg:AllBare g'):Inv X aa σ H' {s with heap:=h',gens:=g',drawn:=d',toks:=t'}:=by
 have neL:∀b o,X.fy.heap.get? b=some o->b≠X.env.locals:=λb o e=>b_ (gO (bG e) I.ok.above)
 have VQ:∀b o,X.fy.heap.get? b=some o->b∉X.ex->b∉ch:=λb o e hx hb=>by
  rcases(Dm b hb).1 with z | z
  ·exact hx z
  ·exact absurd (gO (bG e) z) (iS _)
 have cellK:∀x c,X.env.cells.lookup x=some c->∀v,s.heap.IsCell c v->h'.IsCell c v:=λx c e v ⟨o,ho,hd⟩=>by
  have R0:c∉ch:=λz=>(Dm c z).2.2.1 x c e rfl;by_cases hc:c∈X.fs
  ·obtain⟨sl,q⟩:=slot c o (I.Nd x c e) hc R0 ho (I.jF x c e);exact⟨_,q,hd⟩
  ·exact⟨o,keep c o (I.Nd x c e) hc R0 ho (I.jF x c e),hd⟩
 refine⟨I.ok,I.os,hg,⟨λb o e n hb hx=>?_,λb o e n hb hx=>?_,λb o e n hx=>?_,λb o e hx=>?_,λb xs e=>hZ b xs (I.base.hZ b xs e),λb o xs e=>sM b o xs (I.base.sM b o xs e),λb ps e=>?_⟩,?_,λx c e=>?_,?_,λx c e=>?_,λp hp=>?_,bI,I.len⟩
 ·exact keep b o (neL b o e) hb (VQ b o e hx) (I.base.keep b o e n hb hx) (I.base.free b o e n hx)
 ·obtain⟨sl,e1⟩:=I.base.slot b o e n hb hx;obtain⟨sl',e2⟩:=slot b _ (neL b o e) hb (VQ b o e hx) e1 (I.base.free b o e n hx);exact⟨sl',e2⟩
 ·obtain⟨o',e1⟩:=I.base.there b o e hx;exact free b o' (VQ b o e hx) e1 (I.base.free b o e n hx)
 ·obtain⟨o',e1⟩:=I.base.there b o e hx;exact there b o' (VQ b o e hx) e1
 ·obtain⟨m1,e1⟩:=I.base.vt b ps e;obtain⟨m2,e2⟩:=vt b _ e1;exact⟨m1++m2,by rw[e2,Array.append_assoc]⟩
 ·obtain⟨m,hn,hl⟩:=I.loc;refine⟨m,ns m hn,λi x v e1 e2 e3=>?_⟩;obtain⟨u,r,l⟩:=hl i x v e1 e2 e3;refine⟨u,r,?_⟩;rcases l with l | ⟨k,c,e,z⟩
  ·exact .inl l
  ·exact .inr ⟨k,c,e,cellK x c e _ z⟩
 ·obtain⟨v,z⟩:=I.cell x c e;exact⟨v,cellK x c e v z⟩
 ·obtain⟨m,⟨o,_,_,ho,_⟩,_⟩:=I.loc;exact free _ o (λz=>(Dm _ z).2.1 rfl) ho I.free
 ·obtain⟨v,o,ho,hd⟩:=I.cell x c e;exact free c o (λz=>(Dm c z).2.2.1 x c e rfl) ho (I.jF x c e)
 ·obtain⟨e,n,ne,nf,d⟩:=I.pin p hp;have R0:p.1∉ch:=λz=>(Dm p.1 z).2.2.2 p hp rfl;exact⟨keep p.1 p.2 ne nf R0 e n,free p.1 p.2 R0 e n,ne,nf,d⟩
theorem Inv.un{t':Nat}(I:Inv X aa σ H s)(u:Un X.fs [] H H' s.heap h')(bI:jE X.prog X.w H' h'):Inv X aa σ H' {s with heap:=h',toks:=t'}:=by
 obtain⟨m,⟨o,es,ep,ho,r⟩,_⟩:=id I.loc;obtain⟨sl,hL⟩:=u.any ho I.free (by simp)
 exact I.step (g':=s.gens) (d':=s.drawn) (ch:=[]) (λ_ z=>nomatch z) (λb o _ hb _ e n=>u.keep b o e n hb (by simp)) (λb o _ hb _ e n=>u.slot b o e n hb (by simp)) (λb o _ e n=>u.free b o e n (by simp)) (λb o _ e=>u.there b o e (by simp)) u.hZ u.sM u.vt (λm' hm=>by
  obtain⟨o',iJ,Xo,zP,r'⟩:=hm;rw[ho]at zP;cases zP;exact⟨_,iJ,Xo,hL,r'⟩) bI I.bare
theorem Inv.call{t':Nat}{ch:List Addr}(I:Inv X aa σ H s)(u:Un (D3 X.stack) ch H H' s.heap h')(bI:jE X.prog X.w H' h')(hg:AllBare g')(Dm:∀b∈ch,(b∈X.ex\/X.fy.heap.objs.size<=b)/\b≠X.env.locals/\(∀x c,X.env.cells.lookup x=some c->c≠b)/\∀p∈X.pn++aa,p.1≠b):Inv X aa σ H' {s with heap:=h',gens:=g',drawn:=d',toks:=t'}:=by
 obtain⟨m,⟨o,es,ep,ho,r⟩,_⟩:=id I.loc;obtain⟨sl,hL⟩:=u.any ho I.free λz=>(Dm _ z).2.1 rfl
 exact I.step (ch:=ch) Dm (λb o hL hb hc e n=>u.keep b o e n (λz=>(bT.mp (I.ye b z)).elim hL hb) hc) (λb o _ _ hc e n=>u.any e n hc) (λb o hc e n=>u.free b o e n hc) (λb o hc e=>u.there b o e hc) u.hZ u.sM u.vt (λm' hm=>by
  obtain⟨o',iJ,Xo,zP,r'⟩:=hm;rw[ho]at zP;cases zP;exact⟨_,iJ,Xo,hL,r'⟩) bI hg
theorem Inv.turned{t':Nat}(I:Inv X aa σ H s)(k:∀b o,b≠it->s.heap.get? b=some o->h'.get? b=some o)(hn:H it=none)(hL:it≠X.env.locals)(h1:it∈X.ex\/X.fy.heap.objs.size<=it)(h2:∀x c,X.env.cells.lookup x=some c->c≠it)(h3:∀p∈X.pn++aa,p.1≠it):Inv X aa σ H {s with heap:=h',toks:=t'}:=by
 have R1:∀b u,H b=some u->b≠it:=λb u e z=>by rw[z,hn]at e;cases e
 refine I.step (g':=s.gens) (d':=s.drawn) (ch:=[it]) (λb hb=>?_) (λb o _ _ hc e _=>k b o (λz=>hc (by simp[z])) e) (λb o _ _ hc e _=>⟨o.slots,k b o (λz=>hc (by simp[z])) e⟩) (λ_ _ _ _ n=>n)
  (λb o hc e=>⟨o,k b o (λz=>hc (by simp[z])) e⟩) (λ_ _ e=>e) (λ_ _ _ e=>e) (λb ps e=>⟨#[],by rw[e];simp⟩) (λm hm=>?_) (λb u e=>?_) I.bare
 ·have e:b=it:=by simpa using hb
  subst e;exact⟨h1,hL,h2,h3⟩
 ·obtain⟨o,es,ep,ho,r⟩:=hm;exact⟨o,es,ep,k _ o (cW hL) ho,r⟩
 ·refine(I.bI b u e).BZ (λc v hc q=>k c v ?_ q) (λ_ q=>q) λ_ _ q=>q;rcases hc with z | z
  ·rw[z];exact R1 b u e
  ·exact R1 c _ z
theorem Inv.tok(I:Inv X aa σ H s)(t:Nat):Inv X aa σ H {s with toks:=t}:=I.un (h':=s.heap) (t':=t) Un.refl I.bI
theorem Inv.kept(I:Inv X aa σ H s)(k:∀b u,s.heap.get? b=some u->h'.get? b=some u):Inv X aa σ H {s with heap:=h',toks:=t'}:=I.un (Un.kept k) (I.bI.kept k)
theorem Inv.laid(I:Inv X aa σ H s)(k:∀b u,s.heap.get? b=some u->h'.get? b=some u)(hp:s.heap.objs.size<=a)(new:bH X.prog X.w (upd H a o) h' a o):Inv X aa σ (upd H a o) {s with heap:=h',toks:=t'}:=I.un (Un.laid k hp (I.bI.fresh hp)) (I.bI.laid k hp new)
theorem Inv.write(I:Inv X aa σ H s)(mu:RU (H x))(he:e=x\/H e=some (.own x))(k:∀b u,b≠e->s.heap.get? b=some u->h'.get? b=some u)(Q1:∃u,h'.get? e=some u)(new:bH X.prog X.w (upd H x o) h' x o):Inv X aa σ (upd H x o) {s with heap:=h',toks:=t'}:=I.un (Un.write mu he k Q1) (I.bI.write mu he k Q1 new)
theorem Inv.sO(I:Inv X aa σ H s)(h:∀p∈R3,s.heap.get? p.1=some p.2/\H p.1=none/\p.1≠X.env.locals/\p.1∉X.fs/\∀v,p.2.data≠.cell v):Inv X R3 σ H s :=
 ⟨I.ok,I.os,I.bare,I.base,I.loc,I.cell,I.free,I.jF,λp hp=>(dk.mp hp).elim (λz=>I.pin p (HW _ z)) (h p),I.bI,I.len⟩
theorem vB{N:List Str}(hN:N.Nodup){i j:Nat}{x:Str}(a:N[i]?=some x)(b:N[j]?=some x):i=j:=by
 obtain⟨h1,e1⟩:=bz.mp a;obtain⟨h2,e2⟩:=bz.mp b;exact(List.getElem_inj hN).mp (e1.trans e2.symm)
theorem B1{i:Nat}{x:Str}{v:V}(I:Inv X aa σ H s)(hN:X.N.Nodup)(hi:X.N[i]?=some x)(hx:Loc X.env.scope x)(r:RelV v u)(h:∀s',Inv X aa (σ.set i (some v)) H s'->(∃a,Heap.SameBut a s.heap s'.heap/\(a=X.env.locals\/X.env.cells.lookup x=some a))->Q () s')(hf:X.fn x=true\/X.env.scope.names.lookup x=some .local:=by first | exact .inl rfl | exact .inr rfl | assumption):wpAny M A (storeName X.env x u) Q E s:=by
 obtain⟨m,hn,hl⟩:=id I.loc;have Xp:(X.env.scope.kind == .class||(X.env.scope.kind == .module&&X.env.locals != X.env.globals))=false:=by rw[I.ok.kind];rfl
 have R4:i<σ.length:=by rw[I.len];exact(bz.mp hi).1
 have Nd:=I.Nd
 have tracked:∀{a:Addr}{h':Heap},(∃o,s.heap.get? a=some o/\H a=none)->Heap.SameBut a s.heap h'->jE X.prog X.w H h':=λ{a h'} ha hs b ob e=>by
  obtain⟨_,_,vC⟩:=ha;refine(I.bI b ob e).BZ (λc w' hc q=>(hs.2 c ?_).trans q) (λ_ q=>q) λ_ _ q=>q;rintro rfl;rcases hc with rfl | hc
  ·rw[vC]at e;cases e
  ·rw[vC]at hc;cases hc
 rcases hx with hk | hk
 ·refine wpAny_storeName_local hk hn (λh' hn' hs=>?_) Xp;obtain⟨oL,_,_,hoL,_⟩:=id hn;refine h _ ⟨I.ok,I.os,I.bare,⟨λb o e n hb hx=>?_,λb o e n hb hx=>?_,I.base.free,λb o e hx=>?_,I.base.hZ,I.base.sM,I.base.vt⟩,⟨_,hn',λj y v' e1 e2 e3=>?_⟩,λy c e=>?_,I.free,I.jF,λp hp=>?_,tracked ⟨oL,hoL,I.free⟩ hs,by simpa using I.len⟩ ⟨_,hs,.inl rfl⟩
  ·exact(hs.2 b (b_ (gO (bG e) I.ok.above))).trans (I.base.keep b o e n hb hx)
  ·obtain⟨sl,e1⟩:=I.base.slot b o e n hb hx;exact⟨sl,(hs.2 b (b_ (gO (bG e) I.ok.above))).trans e1⟩
  ·obtain⟨o',e1⟩:=I.base.there b o e hx;exact⟨o',(hs.2 b (b_ (gO (bG e) I.ok.above))).trans e1⟩
  ·by_cases hj:j=i
   ·subst hj;rw[hi]at e1;cases e1;rw[qE R4]at e2;cases e2;exact⟨u,r,.inl ⟨hk,by simp⟩⟩
   ·rw[qF (cW hj)]at e2;obtain⟨u',r',q⟩:=hl j y v' e1 e2 e3;refine⟨u',r',?_⟩;rcases q with⟨k,e⟩|⟨k,c,e,z⟩
    ·refine .inl ⟨k,?_⟩;have:y≠x:=λe=>hj (vB hN e1 (e▸hi));simp[this,e]
    ·exact .inr ⟨k,c,e,z.sameBut hs (Nd y c e)⟩
  ·obtain⟨w',z⟩:=I.cell y c e;exact⟨w',z.sameBut hs (Nd y c e)⟩
  ·obtain⟨e,n,ne,nf,d⟩:=I.pin p hp;exact⟨(hs.2 p.1 ne).trans e,n,ne,nf,d⟩
 ·have Xq:X.fn x=true:=by
   rcases hf with z | z
   ·exact z
   ·rw[z]at hk;cases hk
  obtain⟨c,hc⟩:=I.ok.has x (.inl hk);obtain⟨w',z⟩:=I.cell x c hc;refine wpAny_storeName_cell I.ok.kind hk hc z (λh' nQ hs=>?_);obtain⟨oc,hoc,Xr⟩:=id z;refine h {s with heap:=h'} ⟨I.ok,I.os,I.bare,⟨λb o e n hb hx=>?_,λb o e n hb hx=>?_,I.base.free,λb o e hx=>?_,I.base.hZ,I.base.sM,I.base.vt⟩,⟨m,hn.sameBut hs (cW (Nd x c hc)),λj y v' e1 e2 e3=>?_⟩,λy c' e=>?_,I.free,I.jF,λp hp=>?_,tracked ⟨oc,hoc,I.jF x c hc⟩ hs,by simpa using I.len⟩ ⟨c,hs,.inr hc⟩
  ·exact(hs.2 b (b_ (gO (bG e) (I.ok.Nc x c Xq hc)))).trans (I.base.keep b o e n hb hx)
  ·obtain⟨sl,e1⟩:=I.base.slot b o e n hb hx;exact⟨sl,(hs.2 b (b_ (gO (bG e) (I.ok.Nc x c Xq hc)))).trans e1⟩
  ·obtain⟨o',e1⟩:=I.base.there b o e hx;exact⟨o',(hs.2 b (b_ (gO (bG e) (I.ok.Nc x c Xq hc)))).trans e1⟩
  ·by_cases hj:j=i
   ·subst hj;rw[hi]at e1;cases e1;rw[qE R4]at e2;cases e2;exact⟨u,r,.inr ⟨.inl hk,c,hc,nQ⟩⟩
   ·rw[qF (cW hj)]at e2;obtain⟨u',r',q⟩:=hl j y v' e1 e2 e3;refine⟨u',r',?_⟩;rcases q with q | ⟨k,c',e,z'⟩
    ·exact .inl q
    ·refine .inr ⟨k,c',e,z'.sameBut hs ?_⟩;rintro rfl;exact hj (vB hN e1 (I.ok.inj _ _ _ e hc▸hi))
  ·by_cases hcc:c'=c
   ·subst hcc;exact⟨_,nQ⟩
   ·obtain⟨w2,z2⟩:=I.cell y c' e;exact⟨w2,z2.sameBut hs hcc⟩
  ·obtain⟨e,n,ne,nf,d⟩:=I.pin p hp;refine⟨(hs.2 p.1 ?_).trans e,n,ne,nf,d⟩;intro q;rw[q,hoc]at e;have q':oc=p.2:=bS e;exact d w' (by rw[<- q'];exact Xr)
theorem D6{x:Str}(I:Inv X aa σ H s)(hN:X.N.Nodup)(hi:X.N[i]?=some x)(hx:Loc X.env.scope x)(r:RelV v u)(h:∀s',Inv X aa (σ.set i (some v)) H s'->Q () s')(hf:X.fn x=true\/X.env.scope.names.lookup x=some .local:=by first | exact .inl rfl | exact .inr rfl | assumption):wpAny M A (storeName X.env x u) Q E s :=
 B1 I hN hi hx r (λs' I' _=>h s' I') hf
theorem Inv.Lv(I:Inv X aa σ H s)(ho:s'.os=s.os)(u:Un (D3 X.stack) ch H H' s.heap s'.heap)(bI:jE X.prog X.w H' s'.heap)(hg:AllBare s'.gens)(Dm:∀b∈ch,(b∈X.ex\/X.fy.heap.objs.size<=b)/\b≠X.env.locals/\(∀x c,X.env.cells.lookup x=some c->c≠b)/\∀p∈X.pn++aa,p.1≠b):Inv X aa σ H' s':=by
 obtain⟨h',g',d',t',o'⟩:=s';have e:o'=s.os:=ho;subst e;exact I.call (g':=g') (t':=t') (d':=d') u bI hg Dm
end
abbrev XK:=Value->Option Addr->Hp->Prop
abbrev St:=List (Option V)
abbrev VK:=V->Hp->Prop
abbrev TE:=St->Hp->VK->Prop
abbrev TT:=St->Hp->(Bool->Hp->Prop)->Prop
abbrev TA:=St->Hp->(List V->Hp->Prop)->Prop
structure Ends where
 nx:St->Hp->Prop
 rt:VK
 bk:St->Hp->Prop:=λ_ _=>False
 ct:St->Hp->Prop:=λ_ _=>False
abbrev TS:=Ends->St->Hp->Prop
def EP(X:Cx)(aa:List (Addr×Obj))(σ:St)(Q:VK)(u:Value)(s':Shared):Prop:=∃v H',Inv X aa σ H' s'/\RelV v u/\Q v H'
noncomputable def TP(X:Cx)(aa:List (Addr×Obj))(σ:St)(Q:Bool->Hp->Prop)(b:Bool)(s':Shared):Prop:=∃H',Inv X aa σ H' s'/\Q b H'
noncomputable def AP(X:Cx)(aa:List (Addr×Obj))(σ:St)(Q:List V->Hp->Prop)(us:List Value)(s':Shared):Prop:=∃vs H',Inv X aa σ H' s'/\aY vs us/\Q vs H'
def SP(X:Cx)(aa:List (Addr×Obj))(D:Ends)(f:Flow)(s':Shared):Prop :=
 match f with
 | .next=>∃dD H',Inv X aa dD H' s'/\D.nx dD H'
 | .brk=>∃dD H',Inv X aa dD H' s'/\D.bk dD H'
 | .cont=>∃dD H',Inv X aa dD H' s'/\D.ct dD H'
 | .ret u=>∃v dD H',Inv X aa dD H' s'/\RelV v u/\D.rt v H'
def PE(X:Cx)(e:Expr)(t:TE):Prop :=
 ∀(aa:List (Addr×Obj))(s:Shared)(σ:St)(H:Hp)(Q:VK),Inv X aa σ H s->t σ H Q->wpAny (model X.prog X.w) X.A (eval e X.env) (EP X aa σ Q) X.xe s
def PT(X:Cx)(e:Expr)(t:TT):Prop :=
 ∀(aa:List (Addr×Obj))(s:Shared)(σ:St)(H:Hp)(Q:Bool->Hp->Prop),Inv X aa σ H s->t σ H Q->wpAny (model X.prog X.w) X.A (isTrue e X.env (eval e X.env)) (TP X aa σ Q) X.xe s
def PW(X:Cx)(e:Expr)(t:TT):Prop :=
 ∀(oP:Sem Value)(aa:List (Addr×Obj))(s:Shared)(σ:St)(H:Hp)(Q:Bool->Hp->Prop),Inv X aa σ H s->t σ H Q->wpAny (model X.prog X.w) X.A (isTrue e X.env oP) (TP X aa σ Q) X.xe s
theorem PW.pt(h:PW X e t):PT X e t:=h _
def PA(X:Cx)(es:List Expr)(t:TA):Prop :=
 ∀(pos:Pos)(aa:List (Addr×Obj))(s:Shared)(σ:St)(H:Hp)(Q:List V->Hp->Prop),Inv X aa σ H s->t σ H Q->wpAny (model X.prog X.w) X.A (spliced (backTo pos (starEach es X.env))) (AP X aa σ Q) X.xe s
def PS(X:Cx)(st:Stmt)(t:TS):Prop :=
 ∀(aa:List (Addr×Obj))(s:Shared)(σ:St)(H:Hp)(D:Ends),Inv X aa σ H s->t D σ H->wpAny (model X.prog X.w) X.A (exec st X.env) (SP X aa D) X.xe s
def vD(X:Cx)(st:List Stmt)(t:TS):Prop :=
 ∀(aa:List (Addr×Obj))(s:Shared)(σ:St)(H:Hp)(D:Ends),Inv X aa σ H s->t D σ H->wpAny (model X.prog X.w) X.A (execs st X.env) (SP X aa D) X.xe s
theorem cJ{α:Type}{t:Sem α}{Q Q':α->Shared->Prop}{M:Model}{A:Around}{E:Value->Shared->Prop}{s:Shared}(h:wpAny M A t Q E s)(hQ:∀a s,Q a s->Q' a s):wpAny M A t Q' E s:=oN h hQ λ_ _ x=>x
section
variable {X:Cx}
theorem bin{a b:Expr}{ta tb:TE}(ha:PE X a ta)(hb:PE X b tb){aa:List (Addr×Obj)}{s:Shared}{σ:St}{H:Hp}{R:V->V->Hp->Prop}(I:Inv X aa σ H s)(h:ta σ H λx H1=>tb σ H1 λy H2=>R x y H2){α:Type}{Q:α->Shared->Prop}{f:Value->Value->Sem α}(hf:∀v u s2 x y H2,Inv X aa σ H2 s2->RelV x v->RelV y u->R x y H2->wpAny (model X.prog X.w) X.A (f v u) Q X.xe s2):wpAny (model X.prog X.w) X.A (eval a X.env) (λv bt=>wpAny (model X.prog X.w) X.A (eval b X.env) (λu B2=>wpAny (model X.prog X.w) X.A (f v u) Q X.xe B2) X.xe bt) X.xe s:=by
 refine cJ (ha aa s σ H _ I h) ?_;rintro v s1 ⟨x,H1,I1,r1,q1⟩;refine cJ (hb aa s1 σ H1 _ I1 q1) ?_;rintro u s2 ⟨y,H2,I2,r2,q2⟩;exact hf v u s2 x y H2 I2 r1 r2 q2
noncomputable def R5(i:Nat):TE:=λσ H Q=>∃v,σ[i]?=some (some v)/\Q v H
def tC(v:V):TE:=λ_ H Q=>Q v H
theorem D7{i:Nat}{x:Str}{pos:Pos}(hN:X.N[i]?=some x)(hv:VO X.env.scope x) (hd:(x==("__debug__" : Str))=false:=by decide) (Hy:(x==("__classdict__" : Str))=false:=by decide):PE X (.Name x pos) (R5 i):=by
 intro aa s σ H Q I h;obtain⟨v,e,h⟩:=h;obtain⟨m,hn,hl⟩:=I.loc;obtain⟨u,r,l⟩:=hl i x v hN e hv;have fin:EP X aa σ Q u s:=⟨v,H,I,r,h⟩;rcases l with⟨hk,hm⟩|⟨hk,c,hc,zR⟩
 ·exact wpAny_Name (wpAny_loadName_local I.ok.kind hk hn hm fin) hd
 ·rcases hk with hk | hk
  ·exact wpAny_Name (wpAny_loadName_cell I.ok.kind hk hc zR fin) hd
  ·exact wpAny_Name (wpAny_loadName_free I.ok.kind hk hc zR fin Hy) hd
theorem sP {i j pos}:PE X (.Constant (.int i) j pos) (tC (.int i)):=λ_ _ _ H _ I h=>wpAny_Constant_int ⟨.int i,H,I.tok _,⟨_,rfl⟩,h⟩
theorem Lw {b j pos}:PE X (.Constant (.bool b) j pos) (tC (.bl b)):=λ_ _ _ H _ I h=>Constant_bool ⟨.bl b,H,I,rfl,h⟩
theorem Nf {j pos}:PE X (.Constant .none j pos) (tC .aP):=λ_ _ _ H _ I h=>Constant_none ⟨.aP,H,I,rfl,h⟩
theorem D8 {x j pos}:PE X (.Constant (.str x) j pos) (tC (.str x)):=λ_ _ _ H _ I h=>Calls.Constant_str ⟨.str x,H,I.tok _,⟨_,rfl⟩,h⟩
noncomputable def Gl(X:Cx)(x:Str):Prop:=X.env.kindOf x=some .globalImplicit
theorem zS{x:Str}(I:Inv X aa σ H s)(hg:Gl X x)(hm:X.mg x=some u)(h:Q u s) (hd:(x==("__debug__" : Str))=false:=by decide):wpAny (model X.prog X.w) X.A (eval (.Name x pos) X.env) Q E s :=
 Calls.Name_function_global I.ok.kind hg (Calls.loadGlobal_global (by rw[I.ok.glob];exact I.mod.glob.keeps I.bk) hm h) hd
theorem jW{x:Str}(I:Inv X aa σ H s)(hg:Gl X x)(hm:X.mg x=none)(hv:bootBuiltins x=some u)(h:Q u s) (hn:x≠ "__name__" := by decide) (hd:(x==("__debug__" : Str))=false:=by decide):wpAny (model X.prog X.w) X.A (eval (.Name x pos) X.env) Q E s:=by
 obtain⟨mb,h1,h2⟩:=I.mod.blt;exact Calls.Name_function_global I.ok.kind hg (Calls.loadGlobal_builtin (by rw[I.ok.glob];exact I.mod.glob.keeps I.bk) hm (by rw[I.ok.blt];exact h1.keeps I.bk) ((h2 x hn).trans hv) h) hd
theorem Io{x:Str}{v:V}{u:Value}{pos:Pos}(hg:Gl X x)(hm:X.mg x=some u)(r:RelV v u) (hd:(x==("__debug__" : Str))=false:=by decide):PE X (.Name x pos) (tC v) :=
 λ_ _ _ H _ I h=>zS I hg hm ⟨v,H,I,r,h⟩ hd
theorem Iq{x:Str}{v:V}{u:Value}{pos:Pos}(hg:Gl X x)(hm:X.mg x=none)(hv:bootBuiltins x=some u)(r:RelV v u) (hn:x≠ "__name__" := by decide) (hd:(x==("__debug__" : Str))=false:=by decide):PE X (.Name x pos) (tC v) :=
 λ_ _ _ H _ I h=>jW I hg hm hv ⟨v,H,I,r,h⟩ hn hd
variable {a b:Expr} {ta tb:TE} {pos:Pos}
variable {tA VR:TT} {eB:List Expr}
noncomputable def Xs(t u:TT):TT:=λσ H Q=>t σ H λc H1=>if c=true then u σ H1 Q else Q false H1
noncomputable def tOr(t u:TT):TT:=λσ H Q=>t σ H λc H1=>if c=true then Q true H1 else u σ H1 Q
def Xu(t:TT):TT:=λσ H Q=>t σ H λc H1=>Q (!c) H1
theorem Ir(ha:PT X a tA):PW X (.BoolOp .And [a] pos) tA:=by
 intro wh aa s σ H Q I h;refine isTrue_and (cJ (ha aa s σ H Q I h) λc s1 e=>?_)
 cases c with
 | true=>exact isTrue_and_nil e
 | false=>exact e
theorem Ng(ha:PT X a tA):PW X (.BoolOp .Or [a] pos) tA:=by
 intro wh aa s σ H Q I h;refine isTrue_or (cJ (ha aa s σ H Q I h) λc s1 e=>?_)
 cases c with
 | false=>exact isTrue_or_nil e
 | true=>exact e
theorem Nh(ha:PT X a tA)(hb:PW X (.BoolOp .And (b::eB) pos) VR):PW X (.BoolOp .And (a::b::eB) pos) (Xs tA VR):=by
 intro wh aa s σ H Q I h;refine isTrue_and (cJ (ha aa s σ H _ I h) ?_);rintro c s1 ⟨H1,I1,q1⟩
 cases c with
 | true=>exact hb wh aa s1 σ H1 Q I1 q1
 | false=>exact⟨H1,I1,q1⟩
theorem R6(ha:PT X a tA)(hb:PW X (.BoolOp .Or (b::eB) pos) VR):PW X (.BoolOp .Or (a::b::eB) pos) (tOr tA VR):=by
 intro wh aa s σ H Q I h;refine isTrue_or (cJ (ha aa s σ H _ I h) ?_);rintro c s1 ⟨H1,I1,q1⟩
 cases c with
 | true=>exact⟨H1,I1,q1⟩
 | false=>exact hb wh aa s1 σ H1 Q I1 q1
theorem Ni(ha:PT X a tA):PT X (.UnaryOp .Not a pos) (Xu tA):=by
 intro aa s σ H Q I h;exact isTrue_not (ha aa s σ H (λc H1=>Q (!c) H1) I h)
noncomputable def R7(ta tb:TE):TE:=λσ H Q=>ta σ H λx H1=>∃c,x=.bl c/\if c=true then tb σ H1 Q else Q (.bl false) H1
noncomputable def Xv(ta tb:TE):TE:=λσ H Q=>ta σ H λx H1=>∃c,x=.bl c/\if c=true then Q (.bl true) H1 else tb σ H1 Q
noncomputable def R8(ta:TE):TE:=λσ H Q=>ta σ H λx H1=>∃c,x=.bl c/\Q (.bl (!c)) H1
theorem D9 {op}  (h:PE X a t):PE X (.BoolOp op [a] pos) t:=λaa s σ H Q I hw=>BoolOp_one (h aa s σ H Q I hw)
theorem Nj(ha:PE X a ta)(hb:PE X (.BoolOp .And (b::eB) pos) tb):PE X (.BoolOp .And (a::b::eB) pos) (R7 ta tb):=by
 intro aa s σ H Q I h;refine BoolOp_and (cJ (ha aa s σ H _ I h) ?_);rintro v s1 ⟨x,H1,I1,r1,q1⟩;obtain⟨c,rfl,q1⟩:=q1;cases r1;refine ve ?_
 cases c with
 | true=>exact hb aa s1 σ H1 Q I1 q1
 | false=>exact⟨.bl false,H1,I1,rfl,q1⟩
theorem R9(ha:PE X a ta)(hb:PE X (.BoolOp .Or (b::eB) pos) tb):PE X (.BoolOp .Or (a::b::eB) pos) (Xv ta tb):=by
 intro aa s σ H Q I h;refine BoolOp_or (cJ (ha aa s σ H _ I h) ?_);rintro v s1 ⟨x,H1,I1,r1,q1⟩;obtain⟨c,rfl,q1⟩:=q1;cases r1;refine ve ?_
 cases c with
 | false=>exact hb aa s1 σ H1 Q I1 q1
 | true=>exact⟨.bl true,H1,I1,rfl,q1⟩
theorem Nk(ha:PE X a ta):PE X (.UnaryOp .Not a pos) (R8 ta):=by
 intro aa s σ H Q I h;refine UnaryOp_ (cJ (ha aa s σ H _ I h) ?_);rintro v s1 ⟨x,H1,I1,r1,q1⟩;obtain⟨c,rfl,q1⟩:=q1;cases r1;exact not_of (ve ⟨.bl (!c),H1,I1,rfl,q1⟩)
noncomputable def tIf(t:TT)(ta tb:TE):TE:=λσ H Q=>t σ H λc H1=>if c=true then ta σ H1 Q else tb σ H1 Q
theorem D_(hc:PT X c tA)(ha:PE X a ta)(hb:PE X b tb):PE X (.IfExp c a b pos) (tIf tA ta tb):=by
 intro aa s σ H Q I h;refine wpAny_IfExp (cJ (hc aa s σ H _ I h) ?_);rintro d s1 ⟨H1,I1,q1⟩
 cases d with
 | true=>exact ha aa s1 σ H1 Q I1 q1
 | false=>exact hb aa s1 σ H1 Q I1 q1
end
def fb(K:Frag)(H:Hp)(a:Addr)(xs:List V):Prop :=
 Rd H a (.lst xs) \/
  ∃(o:Obj) (aA:Array Value) (n:Nat),K.lookup a=some o/\o.cls=.type "list" /\ o.dict=none/\o.data=.seq aA n/\aA.size<=sizeLine/\aY xs aA.toList
def fz(K:Frag)(H:Hp)(a:Addr)(xs:List V):Prop :=
 Rd H a (.tup xs) \/
  ∃(o:Obj) (aA:Array Value) (n:Nat),K.lookup a=some o/\o.cls=.type "tuple" /\ o.data=.seq aA n/\aA.size<=sizeLine/\aY xs aA.toList
noncomputable def Xw:Value->Option V
 | .none=>some .aP
 | .bool b=>some (.bl b)
 | .int i _=>some (.int i)
 | .str x _=>some (.str x)
 | .bytes b _=>some (.RQ b)
 | .float b _=>some (.Q0 b)
 | .ref a=>some (.ref a)
 | .type n=>some (.ty n)
 | _=>none
theorem RelV.abs(r:RelV x u):Xw u=some x:=by
 cases x with
 | aP=>cases r;rfl
 | bl _=>cases r;rfl
 | int _=>obtain⟨t,rfl⟩:=r;rfl
 | str _=>obtain⟨t,rfl⟩:=r;rfl
 | RQ _=>obtain⟨t,rfl⟩:=r;rfl
 | Q0 _=>obtain⟨t,rfl⟩:=r;rfl
 | ref _=>cases r;rfl
 | ty _=>cases r;rfl
theorem RelV.inj(r:RelV x u)(q:RelV y u):x=y:=bS (r.abs.symm.trans q.abs)
theorem aY.inj:∀{xs ys:List V}{us:List Value},aY xs us->aY ys us->xs=ys
 | _,_,_,.nil,.nil=>rfl
 | _,_,_,.cons r t,.cons r' t'=>by rw[r.inj r',aY.inj t t']
section
variable {X:Cx} {aa:List (Addr×Obj)} {σ:St} {H:Hp} {s:Shared} {a:Addr} {xs ys:List V}
theorem fb.of{K:Frag}(h:H a=some (.lst xs)):fb K H a xs:=.inl (.inl h)
theorem fz.of{K:Frag}(h:H a=some (.tup xs)):fz K H a xs:=.inl (.inl h)
theorem Inv.list(I:Inv X aa σ H s)(h:fb X.K H a xs):∃aA:List Value,aY xs aA/\PlainL s.heap a aA.toArray/\xs.length<=sizeLine:=by
 rcases h with h | ⟨o,aA,n,hk,hc,hd,hs,hz,r⟩
 ·obtain⟨z,aA,n,r,e⟩:=h.ok I.bI;exact⟨aA,r,⟨_,n,e,rfl,rfl,rfl⟩,z⟩
 ·refine⟨aA.toList,r,⟨o,n,I.vA a o hk,hc,hd,by simpa using hs⟩,?_⟩;have e:=r.length;simp only[nA]at e;omega
theorem Inv.tuple(I:Inv X aa σ H s)(h:fz X.K H a xs):∃aA:List Value,aY xs aA/\IsTup s.heap a aA.toArray/\xs.length<=sizeLine:=by
 rcases h with h | ⟨o,aA,n,hk,hc,hs,hz,r⟩
 ·obtain⟨z,aA,r,p⟩:=h.ok I.bI;exact⟨aA,r,p,z⟩
 ·refine⟨aA.toList,r,⟨o,I.vA a o hk,hc,n,by simpa using hs⟩,?_⟩;have e:=r.length;simp only[nA]at e;omega
theorem Inv.oQ(I:Inv X aa σ H s)(h:fb X.K H a xs)(h':fb X.K H a ys):xs=ys:=by
 obtain⟨aA,r,⟨o,n,e,_,_,d⟩,_⟩:=I.list h;obtain⟨its',r',⟨o',n',e',_,_,d'⟩,_⟩:=I.list h';rw[e]at e';cases e';rw[d]at d';injection d' with d1 _;have:aA=its':=by simpa using lW Array.toList d1
 subst this;exact r.inj r'
theorem Inv.lY(I:Inv X aa σ H s)(h:fz X.K H a xs)(h':fz X.K H a ys):xs=ys:=by
 obtain⟨aA,r,⟨o,e,_,n,d⟩,_⟩:=I.tuple h;obtain⟨its',r',⟨o',e',_,n',d'⟩,_⟩:=I.tuple h';rw[e]at e';cases e';rw[d]at d';injection d' with d1 _;have:aA=its':=by simpa using lW Array.toList d1
 subst this;exact r.inj r'
end
abbrev Cx.qM(X:Cx)(E:Value->Shared->Prop):Cx:={X with xe:=E}
abbrev Cx.R_(X:Cx):Cx:=X.qM λ_ _=>False
theorem Cx.Ok.qM{X:Cx}(ok:X.Ok)(E:Value->Shared->Prop):(X.qM E).Ok :=
 ⟨ok.mod,ok.kind,ok.glob,ok.blt,ok.above,ok.inj,ok.has,ok.Nc,ok.hd,ok.frames,ok.VP,ok.Xm,ok.bs,ok.Lu,ok.D4,ok.D5,ok.oO,ok.Q2⟩
theorem Cx.Ok.iU{X:Cx}{E:Value->Shared->Prop}(ok:(X.qM E).Ok):X.Ok :=
 ⟨ok.mod,ok.kind,ok.glob,ok.blt,ok.above,ok.inj,ok.has,ok.Nc,ok.hd,ok.frames,ok.VP,ok.Xm,ok.bs,ok.Lu,ok.D4,ok.D5,ok.oO,ok.Q2⟩
section
variable {X:Cx} {aa:List (Addr×Obj)} {σ:St} {H:Hp} {s:Shared} {E:Value->Shared->Prop}
theorem Inv.qM(I:Inv X aa σ H s)(E:Value->Shared->Prop):Inv (X.qM E) aa σ H s:=⟨I.ok.qM E,I.os,I.bare,I.base,I.loc,I.cell,I.free,I.jF,I.pin,I.bI,I.len⟩
theorem Inv.iU(I:Inv (X.qM E) aa σ H s):Inv X aa σ H s:=⟨I.ok.iU,I.os,I.bare,I.base,I.loc,I.cell,I.free,I.jF,I.pin,I.bI,I.len⟩
theorem SP.iU(h:SP (X.qM E) aa D f s'):SP X aa D f s':=by
 cases f with
 | next=>obtain⟨dD,H',I,q⟩:=h;exact⟨dD,H',I.iU,q⟩
 | brk=>obtain⟨dD,H',I,q⟩:=h;exact⟨dD,H',I.iU,q⟩
 | cont=>obtain⟨dD,H',I,q⟩:=h;exact⟨dD,H',I.iU,q⟩
 | ret u=>obtain⟨v,dD,H',I,r,q⟩:=h;exact⟨v,dD,H',I.iU,r,q⟩
theorem vD.R_{st:List Stmt}(h:vD X.R_ st t):vD X st t:=λaa s σ H D I hw =>
 oN (h aa s σ H D (I.qM _) hw) (λ_ _ q=>q.iU) λ_ _ z=>False.elim z
end
section
variable {X:Cx} {st:Stmt} {eB:List Stmt} {t u:TS} {e:Expr} {te:TE} {pos:Pos}
def Lx:TS:=λD σ H=>D.nx σ H
def Sa(t u:TS):TS:=λD σ H=>t {D with nx:=u D} σ H
theorem Iu:vD X [] Lx:=λ_ _ σ H _ I h=>wpAny_execs_nil ⟨σ,H,I,h⟩
theorem Ea(h1:PS X st t)(h2:vD X eB u):vD X (st::eB) (Sa t u):=by
 intro aa s σ H D I h;refine wpAny_execs_cons (cJ (h1 aa s σ H {D with nx:=u D} I h) λf s1 q=>?_)
 cases f with
 | next =>
  obtain⟨dD,H',I',q⟩:=q;exact h2 aa s1 dD H' D I' q
 | ret v=>exact q
 | brk=>exact q
 | cont=>exact q
def Nl:TS:=λD σ H=>D.bk σ H
def Sb:TS:=λD σ H=>D.ct σ H
theorem Iv:PS X (.Pass pos) Lx:=λ_ _ σ H _ I h=>wpAny_Pass ⟨σ,H,I,h⟩
theorem Eb:PS X (.Break pos) Nl:=λ_ _ σ H _ I h=>wpAny_Break ⟨σ,H,I,h⟩
theorem vE:PS X (.Continue pos) Sb:=λ_ _ σ H _ I h=>wpAny_Continue ⟨σ,H,I,h⟩
theorem Inv.quiet(I:Inv X aa σ H s):interactive X.env=false:=by simp[interactive,I.ok.kind]
def Se(te:TE):TS:=λD σ H=>te σ H λ_ H1=>D.nx σ H1
theorem Iw(he:PE X e te)(hs:swapsWith e none pos.line X.env=pure false:=by rfl):PS X (.Expr e pos) (Se te):=by
 intro aa s σ H D I h;exact wpAny_Expr_any (cJ (he aa s σ H _ I h) λv s1 ⟨x,H1,I1,r1,q1⟩=>⟨σ,H1,I1,q1⟩) I.quiet hs
def Xx(te:TE):TS:=λD σ H=>te σ H D.rt
theorem Nm(he:PE X e te):PS X (.Return (some e) pos) (Xx te):=by
 intro aa s σ H D I h;exact wpAny_Return_some (cJ (he aa s σ H _ I h) λv s1 ⟨x,H1,I1,r1,q1⟩=>⟨x,σ,H1,I1,r1,q1⟩)
def Sf:TS:=λD _ H=>D.rt .aP H
theorem Iy:PS X (.Return none pos) Sf:=λ_ _ σ H _ I h=>wpAny_Return_none ⟨.aP,σ,H,I,rfl,h⟩
noncomputable def Xy(c:TT)(t u:TS):TS:=λD σ H=>c σ H λb H1=>if b=true then t D σ H1 else u D σ H1
theorem Sg(hc:PT X c tc)(ha:vD X a t)(hb:vD X b u):PS X (.If c a b pos) (Xy tc t u):=by
 intro aa s σ H D I h;refine wpAny_If (cJ (hc aa s σ H _ I h) ?_);rintro d s1 ⟨H1,I1,q1⟩
 cases d with
 | true=>exact ha aa s1 σ H1 D I1 q1
 | false=>exact hb aa s1 σ H1 D I1 q1
def Nn:TS:=λ_ _ _=>False
theorem Ec:PS X st Nn:=λ_ _ _ _ _ _ h=>h.elim
end
abbrev TG:=V->St->Hp->(St->Hp->Prop)->Prop
abbrev Q3:=List V->St->Hp->(St->Hp->Prop)->Prop
def PG(X:Cx)(oR:Expr)(t:TG):Prop :=
 ∀(aa:List (Addr×Obj))(s:Shared)(σ:St)(H:Hp)(v:V)(u:Value)(Q:St->Hp->Prop),Inv X aa σ H s->RelV v u->t v σ H Q ->
  wpAny (model X.prog X.w) X.A (assign oR X.env u) (λ_ s'=>∃dD H',Inv X aa dD H' s'/\Q dD H') X.xe s
noncomputable def Q4(X:Cx)(ts:List Expr)(t:Q3):Prop :=
 ∀(aa:List (Addr×Obj))(s:Shared)(σ:St)(H:Hp)(vs:List V)(us:List Value)(Q:St->Hp->Prop),Inv X aa σ H s->aY vs us->t vs σ H Q ->
  wpAny (model X.prog X.w) X.A (assignInOrder ((assignEach ts X.env).map (·.2)) us) (λ_ s'=>∃dD H',Inv X aa dD H' s'/\Q dD H') X.xe s
abbrev Np:=V->V->V->Hp->(Hp->Prop)->Prop
def Iz(X:Cx)(t:Np):Prop :=
 ∀(aa:List (Addr×Obj))(s:Shared)(σ:St)(H:Hp)(o i v:V)(ov iv u:Value)(Q:Hp->Prop),Inv X aa σ H s->RelV o ov->RelV i iv->RelV v u->t o i v H Q ->
  wpAny (model X.prog X.w) X.A (setItem ov iv u) (λ_ s'=>∃H',Inv X aa σ H' s'/\Q H') X.xe s
section
variable {X:Cx} {pos:Pos}
def Ly(i:Nat):TG:=λv σ H Q=>Q (σ.set i (some v)) H
theorem sQ{x:Str}(hN:X.N.Nodup)(hi:X.N[i]?=some x)(hx:Loc X.env.scope x)(hf:X.fn x=true\/X.env.scope.names.lookup x=some .local:=by first | exact .inl rfl | exact .inr rfl | assumption):PG X (.Name x pos) (Ly i):=by
 intro aa s σ H v u Q I r h;exact wpAny_assign_Name (D6 I hN hi hx r (λs' I'=>⟨_,H,I',h⟩) hf)
def Sh:Q3:=λvs σ H Q=>vs=[]/\Q σ H
noncomputable def Lz(t:TG)(u:Q3):Q3:=λvs σ H Q=>∃v r,vs=v::r/\t v σ H λdD H'=>u r dD H' Q
theorem IA:Q4 X [] Sh:=by
 intro aa s σ H vs us Q I r h;obtain⟨e,h⟩:=h;subst e;cases r;exact assignInOrder_nil ⟨σ,H,I,h⟩
theorem Ed(h1:PG X e t)(h2:Q4 X es u)(hs:(assignEach (e::es) X.env).map (·.2)=assign e X.env::(assignEach es X.env).map (·.2):=by rfl):Q4 X (e::es) (Lz t u):=by
 intro aa s σ H vs us Q I r h;obtain⟨v,vr,e1,h⟩:=h;subst e1
 cases r with
 | cons r rr =>
  rw[hs];refine assignInOrder_cons (cJ (h1 aa s σ H _ _ _ I r h) ?_);rintro _ s1 ⟨σ1,H1,I1,q1⟩;exact h2 aa s1 σ1 H1 _ _ Q I1 rr q1
def Xz(K:Frag)(n:Nat)(t:Q3):TG:=λv σ H Q=>∃a xs,v=.ref a/\fz K H a xs/\xs.length=n/\t xs σ H Q
theorem Nq(hc:X.calm=true)(h:Q4 X es t)(hn:(assignEach es X.env).length=n:=by rfl)(fB:(assignEach es X.env).findIdx? (·.1)=none:=by rfl):PG X (.Tuple es k pos) (Xz X.K n t):=by
 intro aa s σ H v u Q I r hw;obtain⟨a,xs,e1,hq,hl,hw⟩:=hw;subst e1;cases r;obtain⟨aA,rv,ht,hz⟩:=I.tuple hq;refine assign_Tuple_tuple (I.ok.hd hc) ht (by simp[hn,<- hl,rv.length]) fB λh' hx=>?_;have I1:Inv X aa σ H {s with heap:=h'}:=I.kept (t':=s.toks) λb o e=>hx b o (b_ (bG e)) e;exact h aa _ σ H xs _ Q I1 (by simpa using rv) hw
noncomputable def XA(to ti:TE)(t:Np):TG:=λv σ H Q=>to σ H λo H1=>ti σ H1 λi H2=>t o i v H2 λH3=>Q σ H3
theorem Ee (ho : PE X o to) (hi : PE X i ti) (hs : Iz X t)
    (ha:∀v,assign (.Subscript o i pos) X.env v=(do
      let ov <- holding [v] (eval o X.env)
      let iv <- holding [v,ov] (eval i X.env)
      standAt pos
      holding [v,ov,iv] (setItem ov iv v)
      release [v,ov,iv] []):=by intro _;rfl):PG X (.Subscript o i pos) (XA to ti t):=by
  intro aa s σ H v u Q I r h;rw[ha];refine af (hV (cJ (ho aa s σ H _ I h) ?_));rintro ov s1 ⟨x,H1,I1,r1,q1⟩;refine af (hV (cJ (hi aa s1 σ H1 _ I1 q1) ?_));rintro iv s2 ⟨y,H2,I2,r2,q2⟩;refine af (wpAny_standAt (af (hV (cJ (hs aa s2 σ H2 x y v ov iv u _ I2 r1 r2 r q2) ?_))));rintro _ s3 ⟨H3,I3,q3⟩;exact wpAny_release ⟨σ,H3,I3,q3⟩
noncomputable def Si(te:TE)(g:TG):TS:=λD σ H=>te σ H λx H1=>g x σ H1 D.nx
theorem sR(he:PE X e te)(hg:PG X tg g)(hs:swapsWithSole [tg] e pos.line X.env=pure false:=by rfl)(hw:swappedStores [tg] e X.env=pure none:=by rfl)(h1:(assignEach [tg] X.env).map (·.2)=[assign tg X.env]:=by rfl):PS X (.Assign [tg] e pos) (Si te g):=by
 intro aa s σ H D I h;refine wpAny_Assign_stores (cJ (he aa s σ H _ I h) ?_) hs hw;rintro v s1 ⟨x,H1,I1,r1,q1⟩;rw[h1];exact cJ (hg aa s1 σ H1 x v _ I1 r1 q1) λ_ s2 q=>q
end
structure It where
 go:Nat->Hp->Prop
 Q5:Nat->Hp->V->Hp->Prop
 stop:Nat->Hp->Prop
noncomputable def lZ(X:Cx)(aa:List (Addr×Obj))(H:Hp)(b:Addr):Prop :=
 H b=none/\b≠X.env.locals/\b∉X.fs/\(b∈X.ex\/X.fy.heap.objs.size<=b)/\(∀x c,X.env.cells.lookup x=some c->c≠b)/\∀p∈X.pn++aa,p.1≠b
theorem Inv.vF(I:Inv X aa σ H s)(hb:s.heap.objs.size<=b)(hn:H' b=none):lZ X aa H' b:=by
 refine⟨hn,nI (gO I.lt hb),I.RY hb,.inr (dW I.sz hb),λx c e z=>?_,λp hp z=>?_⟩
 ·obtain⟨v,q⟩:=I.cell x c e;exact absurd (gO q.lt (by rw[z];exact hb)) (iS _)
 ·exact absurd (gO (bG (I.pin p hp).1) (by rw[z];exact hb)) (iS _)
structure sS (P:Program) (w:World) (K:Frag) (tg:Expr) (J:It) (fp:List Addr) (it:Addr) (tn:Nat->Heap->Prop):Prop where
 mem:it∈fp
 obj:∀i h,tn i h->∀b∈fp,∃o,h.get? b=some o/\∀v,o.data≠.cell v
 keep:∀i h h',tn i h->(∀b∈fp,∀o,h.get? b=some o->h'.get? b=some o)->tn i h'
 item:∀(X:Cx),X.prog=P->X.w=w->X.K=K->X.calm=true->∀(i:Nat)(aa:List (Addr×Obj))(s:Shared)(σ:St)(H:Hp)(E:Value->Shared->Prop),Inv X aa σ H s->(∀b∈fp,lZ X aa H b)->tn i s.heap->J.go i H ->
  wpAny (model P w) X.A (pyNext (.ref it)) (λr s1=>∃u,r=some u /\
   wpAny (model P w) X.A (letOwnedTupleGo tg (.ref it) u) (λ_ s2=>∃x H',Inv X aa σ H' s2/\RelV x u/\J.Q5 i H x H'/\tn (i+1) s2.heap/\∀b∈fp,H' b=none) E s1) E s
 done:∀(X:Cx),X.prog=P->X.w=w->X.K=K->X.calm=true->∀(i:Nat)(aa:List (Addr×Obj))(s:Shared)(σ:St)(H:Hp)(E:Value->Shared->Prop),Inv X aa σ H s->(∀b∈fp,lZ X aa H b)->tn i s.heap->J.stop i H ->
  wpAny (model P w) X.A (pyNext (.ref it)) (λr s1=>r=none/\Inv X aa σ H s1) E s
 self:∀(A:Around)(i:Nat)(s:Shared)(Q:Value->Shared->Prop)(E:Value->Shared->Prop),tn i s.heap->Q (.ref it) s->wpAny (model P w) A (pyIter (.ref it)) Q E s
abbrev TI:=St->Hp->(It->Hp->Prop)->Prop
def Sj(X:Cx)(aa:List (Addr×Obj))(σ:St)(tg:Expr)(R:It->Hp->Prop)(VS:Value)(s2:Shared):Prop :=
 ∃(it:Addr) (fp:List Addr) (tn:Nat->Heap->Prop) (J:It) (H':Hp),VS=.ref it/\Inv X aa σ H' s2/\sS X.prog X.w X.K tg J fp it tn/\tn 0 s2.heap/\(∀b∈fp,lZ X aa H' b)/\R J H'
def PI(X:Cx)(tg aJ:Expr)(wi:TI):Prop :=
 ∀(aa:List (Addr×Obj))(s:Shared)(σ:St)(H:Hp)(R:It->Hp->Prop),Inv X aa σ H s->wi σ H R ->
  wpAny (model X.prog X.w) X.A (eval aJ X.env) (λv s1=>wpAny (model X.prog X.w) X.A (pyIter v) (Sj X aa σ tg R) X.xe s1) X.xe s
theorem vG(ho:s.heap.get? it=some o)(hc:o.cls=.type n)(hd:o.data=.fields vs) (hn:["enumerate","zip","dict_itemiterator","dict_reverseitemiterator","odict_iterator","itertools.zip_longest","itertools.pairwise"].contains n=false) (hQ:Q () s):wpAny M A (letOwnedTupleGo tg (.ref it) u) Q E s:=by
  unfold letOwnedTupleGo
  cases tg<;>first
    | exact ah hQ
    | (cases u <;> first
        | exact ah hQ
        | (refine af (BX ho ?_)
           rw[hc,hd];show wpAny M A (if (["enumerate","zip","dict_itemiterator","dict_reverseitemiterator","odict_iterator","itertools.zip_longest","itertools.pairwise"].contains n&&vs[0]? == some (rawInt _))=true then _ else _) Q E s;rw[aq (by intro h;rw[hn,Bool.false_and]at h;cases h)];exact ah hQ))
def XB(K:Frag)(a:Addr):It :=
 ⟨λi H=>∃xs x,fb K H a xs/\xs[i]?=some x,λi H x H'=>H'=H/\∀xs,fb K H a xs->xs[i]?=some x,λi H=>∃xs,fb K H a xs/\xs.length<=i⟩
def XC(K:Frag)(a:Addr):It :=
 ⟨λi H=>∃xs x,fz K H a xs/\xs[i]?=some x,λi H x H'=>H'=H/\∀xs,fz K H a xs->xs[i]?=some x,λi H=>∃xs,fz K H a xs/\xs.length<=i⟩
noncomputable def Sk(lo:Int)(n:Nat):It:=⟨λi _=>i<n,λi H x H'=>H'=H/\x=.int (lo+i),λi _=>n<=i⟩
theorem B3{P:Program}{w:World}{K:Frag}{tg:Expr}(a it:Addr):sS P w K tg (XB K a) [it] it (λi h=>h.IsListIter it a i) where
 mem:=by simp
 obj:=λi h st b hb=>by
  have e:b=it:=by simpa using hb
  subst e;obtain⟨o,e,c,d⟩:=st;exact⟨o,e,λv z=>by rw[d]at z;cases z⟩
 keep:=λi h h' st k=>st.at λo e=>k it (by simp) o e
 item:=by
  sleep 4;obtain⟨xs,x,hq,hx⟩:=hg;obtain⟨aA,rv,p,hz⟩:=I.list hq;obtain⟨u,hu,ru⟩:=rv.get hx;sleep 13;refine wpAny_pyNext_list_item st p.isList (x:=u) (by simpa using hu) λh' uX sb=>?_;have I1:Inv X aa σ H {s with heap:=h'}:=I.turned (t':=s.toks) (λb o hb e=>(sb.2 b hb).trans e) f0 f1 f3 f4 f5;obtain⟨o,e,c,d⟩:=id uX;exact⟨u,rfl,vG (s:={s with heap:=h'}) e c d (by decide) ⟨x,H,I1,ru,⟨rfl,λys hy=>by rw[I.oQ hy hq];exact hx⟩,uX,λb hb=>(hf b hb).1⟩⟩
 done:=by
  sleep 4;obtain⟨xs,hq,hx⟩:=hg;obtain⟨aA,rv,p,hz⟩:=I.list hq;sleep 13;have hl:=rv.length;exact wpAny_pyNext_list_end (I.ok.hd hc) st p.isList (by simp;omega) λh' eb=>⟨rfl,I.turned (t':=s.toks) (λb o hb e=>eb b o hb e) f0 f1 f3 f4 f5⟩
 self:=λ_ _ _ _ _ st h=>wpAny_pyIter_listiter st h
theorem yf{P:Program}{w:World}{K:Frag}{tg:Expr}(a it:Addr):sS P w K tg (XC K a) [it] it (λi h=>h.IsTupleIter it a i) where
 mem:=by simp
 obj:=λi h st b hb=>by
  have e:b=it:=by simpa using hb
  subst e;obtain⟨o,e,c,d⟩:=st;exact⟨o,e,λv z=>by rw[d]at z;cases z⟩
 keep:=λi h h' st k=>st.at λo e=>k it (by simp) o e
 item:=by
  sleep 4;obtain⟨xs,x,hq,hx⟩:=hg;obtain⟨aA,rv,p,hz⟩:=I.tuple hq;obtain⟨u,hu,ru⟩:=rv.get hx;sleep 13;refine wpAny_pyNext_tuple_item st (show s.heap.IsTuple a aA.toArray from p) (x:=u) (by simpa using hu) λh' uX sb=>?_;have I1:Inv X aa σ H {s with heap:=h'}:=I.turned (t':=s.toks) (λb o hb e=>(sb.2 b hb).trans e) f0 f1 f3 f4 f5;obtain⟨o,e,c,d⟩:=id uX;exact⟨u,rfl,vG (s:={s with heap:=h'}) e c d (by decide) ⟨x,H,I1,ru,⟨rfl,λys hy=>by rw[I.lY hy hq];exact hx⟩,uX,λb hb=>(hf b hb).1⟩⟩
 done:=by
  sleep 4;obtain⟨xs,hq,hx⟩:=hg;obtain⟨aA,rv,p,hz⟩:=I.tuple hq;sleep 13;have hl:=rv.length;exact wpAny_pyNext_tuple_end (I.ok.hd hc) st (show s.heap.IsTuple a aA.toArray from p) (by simp;omega) λh' eb=>⟨rfl,I.turned (t':=s.toks) (λb o hb e=>eb b o hb e) f0 f1 f3 f4 f5⟩
 self:=λ_ _ _ _ _ st h=>wpAny_pyIter_tupleiter st h
theorem yg{P:Program}{w:World}{K:Frag}{tg:Expr}(it:Addr)(lo:Int)(n:Nat):sS P w K tg (Sk lo n) [it] it (λi h=>IsRangeIter h it (lo+(i:Nat)*1) ((n:Int)-(i:Nat)) 1) where
 mem:=by simp
 obj:=λi h st b hb=>by
  have e:b=it:=by simpa using hb
  subst e
  exact⟨_,st,λv z=>by
   have z':Data.fields _=Data.cell v:=z;cases z'⟩
 keep:=λi h h' st k=>k it (by simp) _ st
 item:=by
  sleep 4;sleep 13;have W:=Walks.range (prog:=X.prog) (w:=X.w) (I.ok.hd hc) it lo 1 n;refine W.item i s _ _ hg st λv h' tk hv uX kk=>?_;obtain⟨t,rfl⟩:=hv;have I1:Inv X aa σ H {s with heap:=h',toks:=tk}:=I.turned (λb o hb e=>kk b o (by simpa using hb) e) f0 f1 f3 f4 f5;refine⟨_,rfl,vG (s:={s with heap:=h',toks:=tk}) (n := "range_iterator") uX rfl rfl (by decide) ⟨.int (lo+i),H,I1,⟨t,?_⟩,⟨rfl,rfl⟩,uX,λb hb=>(hf b hb).1⟩⟩;rw[Int.mul_one]
 done:=by
  sleep 4;sleep 13;exact wpAny_pyNext_range_end (I.ok.hd hc) st (by have:n<=i:=hg;omega) λh' eb=>⟨rfl,I.turned (t':=s.toks) (λb o hb e=>eb b o hb e) f0 f1 f3 f4 f5⟩
 self:=λ_ _ _ _ _ st h=>wpAny_pyIter_rangeiter st h
section
variable {X:Cx} {tg:Expr}
def Sl(K:Frag)(tl:TE):TI:=λσ H R=>tl σ H λx H1=>∃a,x=.ref a/\(∃xs,fb K H1 a xs)/\R (XB K a) H1
def XD(K:Frag)(tl:TE):TI:=λσ H R=>tl σ H λx H1=>∃a,x=.ref a/\(∃xs,fz K H1 a xs)/\R (XC K a) H1
theorem sT{l:Expr}{tl:TE}(hl:PE X l tl):PI X tg l (Sl X.K tl):=by
 intro aa s σ H R I h;refine cJ (hl aa s σ H _ I h) ?_;rintro v s1 ⟨x,H1,I1,r1,q1⟩;obtain⟨a,e,⟨xs,hq⟩,q⟩:=q1;subst e;cases r1;obtain⟨aA,rv,p,hz⟩:=I1.list hq;refine vf p.isList ?_;refine⟨s1.heap.objs.size,[s1.heap.objs.size],_,_,H1,rfl,I1.kept (t':=s1.toks) λb o e=>aO _ e,B3 a _,⟨_,cj _ rfl,rfl,rfl⟩,λb hb=>?_,q⟩;have e:b=s1.heap.objs.size:=by simpa using hb
 subst e;exact I1.vF (aH _) (I1.bI.fresh (aH _))
theorem Nr{l:Expr}{tl:TE}(hl:PE X l tl):PI X tg l (XD X.K tl):=by
 intro aa s σ H R I h;refine cJ (hl aa s σ H _ I h) ?_;rintro v s1 ⟨x,H1,I1,r1,q1⟩;obtain⟨a,e,⟨xs,hq⟩,q⟩:=q1;subst e;cases r1;obtain⟨aA,rv,p,hz⟩:=I1.tuple hq;refine vd (show s1.heap.IsTuple a aA.toArray from p) ?_;refine⟨s1.heap.objs.size,[s1.heap.objs.size],_,_,H1,rfl,I1.kept (t':=s1.toks) λb o e=>aO _ e,yf a _,⟨_,cj _ rfl,rfl,rfl⟩,λb hb=>?_,q⟩;have e:b=s1.heap.objs.size:=by simpa using hb
 subst e;exact I1.vF (aH _) (I1.bI.fresh (aH _))
theorem vH{lo hi:Int}{tk:Nat}(I:Inv X aa σ H s)(h1:-(2 ^ 62)<=lo)(h2:lo<2 ^ 62)(h3:-(2 ^ 62)<=hi)(h4:hi<2 ^ 62)(q:R (Sk lo (hi-lo).toNat) H):wpAny (model X.prog X.w) X.A (pyIter (.ref s.heap.objs.size)) (Sj X aa σ tg R) E {s with heap:=s.heap.push {cls:=.type "range",data:=.fields #[.int lo t,.int hi u,.int 1 v]},toks:=tk}:=by
 refine wpAny_pyIter_range (IsRange.new ..) (small_one h1 h2 h3 h4) ?_;have I1:Inv X aa σ H {s with heap:=s.heap.push {cls:=.type "range",data:=.fields #[.int lo t,.int hi u,.int 1 v]},toks:=tk}:=I.kept λb o e=>aO _ e
 refine⟨(s.heap.push {cls:=.type "range",data:=.fields #[.int lo t,.int hi u,.int 1 v]}).objs.size,[(s.heap.push {cls:=.type "range",data:=.fields #[.int lo t,.int hi u,.int 1 v]}).objs.size],_,_,H,rfl,
  I1.kept (t':=tk) λb o e=>aO _ e,yg _ lo (hi-lo).toNat,?_,λb hb=>?_,q⟩
 ·have e1:lo+((0:Nat):Int)*1=lo:=by simp
  have e2:(((hi-lo).toNat:Nat):Int)-((0:Nat):Int)=Builtin.Range.rangeSize lo hi 1:=by rw[rangeSize_one];split<;>omega
  show IsRangeIter _ _ (lo+((0:Nat):Int)*1) ((((hi-lo).toNat:Nat):Int)-((0:Nat):Int)) 1;rw[e1,e2];exact cj _ rfl
 ·have e:b=(s.heap.push {cls:=.type "range",data:=.fields #[.int lo t,.int hi u,.int 1 v]}).objs.size:=by simpa using hb
  subst e;exact I1.vF (aH _) (I1.bI.fresh (aH _))
def Sn(ta:TA):TI:=λσ H R=>ta σ H λvs H1=>∃j:Int,vs=[.int j]/\-(2 ^ 62)<=j/\j<2 ^ 62/\R (Sk 0 j.toNat) H1
def So(ta:TA):TI:=λσ H R=>ta σ H λvs H1=>∃i j:Int,vs=[.int i,.int j]/\(-(2 ^ 62)<=i/\i<2 ^ 62/\-(2 ^ 62)<=j/\j<2 ^ 62)/\R (Sk i (j-i).toNat) H1
theorem B4{a:Expr}{ta:TA}{p pos:Pos} (hg:Gl X "range") (hm:X.mg "range" = none) (ha:PA X [a] ta) (hs:starEach [a] X.env=[(false,eval a X.env)]:=by rfl):PI X tg (.Call (.Name "range" p) [a] [] pos) (Sn ta):=by
 intro aa s σ H R I h;refine Call_ (jW I hg hm boot_range (DD (cJ (ha pos aa s σ H _ I h) ?_) hs rfl));rintro us s1 ⟨vs,H1,I1,r1,q1⟩;obtain⟨j,e,q1,q2,q⟩:=q1;subst e
 cases r1 with
 | cons r rr =>
  cases rr;obtain⟨t,rfl⟩:=r;exact call_range_1 (vH I1 ∅ ∅ q1 q2 (by simpa using q))
theorem B5{a b:Expr}{ta:TA}{p pos:Pos} (hg:Gl X "range") (hm:X.mg "range" = none) (ha:PA X [a,b] ta) (hs:starEach [a,b] X.env=[(false,eval a X.env),(false,eval b X.env)]:=by rfl) (yh:starEach [b] X.env=[(false,eval b X.env)]:=by rfl):PI X tg (.Call (.Name "range" p) [a,b] [] pos) (So ta):=by
 intro aa s σ H R I h;refine Call_ (jW I hg hm boot_range (DD (cJ (ha pos aa s σ H _ I h) ?_) (by rw[hs,yh]) (by rw[yh];rfl)));rintro us s1 ⟨vs,H1,I1,r1,q1⟩;obtain⟨i,j,e,⟨q1,q2,q3,q4⟩,q⟩:=q1;subst e
 cases r1 with
 | cons r rr =>
  cases rr with
  | cons r' rr =>
   cases rr;obtain⟨t,rfl⟩:=r;obtain⟨t',rfl⟩:=r';exact call_range_2 (vH I1 q1 q2 q3 q4 q)
noncomputable def XE(wi:TI)(g:TG)(tb:TS):TS:=λD σ H=>wi σ H λJ H1=>∃W:Nat->Nat->St->Hp->Prop,(∃m,W 0 m σ H1)/\∀i m σ H,W i m σ H ->
 (J.stop i H/\D.nx σ H)\/(J.go i H/\∃N:St->Hp->Prop,(∀dD H',N dD H'->∃m',m'<m/\W (i+1) m' dD H')/\∀x H',J.Q5 i H x H'->g x σ H' λNt H2=>tb {D with nx:=N,ct:=N,bk:=D.nx} Nt H2)
noncomputable def l0(fp:List Addr)(h:Heap):List (Addr×Obj):=fp.filterMap λb=>(h.get? b).map λo=>(b,o)
theorem h_(hb:b∈fp)(e:h.get? b=some o):(b,o)∈l0 fp h:=MQ.mpr ⟨b,hb,by rw[e];rfl⟩
theorem B6(hp:p∈l0 fp h):p.1∈fp/\h.get? p.1=some p.2:=by
 obtain⟨b,hb,e⟩:=MQ.mp hp
 cases q:h.get? b with
 | none=>rw[q]at e;cases e
 | some o =>
  rw[q]at e;have e':(b,o)=p:=bS e;subst e';exact⟨hb,q⟩
theorem Inv.pinned(I:Inv X aa σ H s)(hf:∀b∈fp,lZ X aa H b)(ho:∀b∈fp,∃o,s.heap.get? b=some o/\∀v,o.data≠.cell v):Inv X (aa++l0 fp s.heap) σ H s :=
 I.sO λp hp=>(dk.mp hp).elim (λz=>I.pin p (nz _ z)) λz=>by
  obtain⟨hb,e⟩:=B6 z;obtain⟨f0,f1,f2,_⟩:=hf p.1 hb;obtain⟨o,e',d⟩:=ho p.1 hb;rw[e]at e';cases e';exact⟨e,f0,f1,f2,d⟩
theorem Inv.iV(I:Inv X (aa++pl) σ H s):Inv X aa σ H s:=I.sO λp hp=>I.pin p (nz _ (HW _ hp))
theorem Nu(hp:PassesOwn (model X.prog X.w) X.A X.env X.xe)(hc:X.calm=true)(hi:PI X tg aJ wi)(hg:PG X tg g)(hb:vD X body tb)(hs:∀x,foldedSetIterable aJ X.env x=pure x:=by intro _;rfl):PS X (.For tg aJ body [] pos) (XE wi g tb):=by
 intro aa s σ H D I h;refine wpAny_For (cJ (hi aa s σ H _ I h) λv s1 h1=>cJ h1 λVS s2 h2=>?_) hs;obtain⟨it,fp,tn,J,H2,e,I2,T,xT,f2,W,⟨m0,w0⟩,Ef⟩:=h2;subst e;have Nv:∀{H':Hp},(∀b∈fp,H' b=none)->∀b∈fp,lZ X aa H' b:=λhn b hb=>⟨hn b hb,(f2 b hb).2⟩;refine codeAny_forLoop_any (λn s'=>∃i dD H',Inv X aa dD H' s'/\tn i s'.heap/\(∀b∈fp,H' b=none)/\W i n dD H') ?_ m0 ⟨0,σ,H2,I2,xT,λb hb=>(f2 b hb).1,w0⟩;rintro n s3 ⟨i,IB,H3,I3,VT,jG,w3⟩;rcases Ef i n IB H3 w3 with⟨stop,qn⟩|⟨go,N,hN,step⟩
 ·refine DR hp (cJ (T.done X rfl rfl rfl hc i aa s3 IB H3 X.xe I3 (Nv jG) VT stop) ?_);rintro r s4 ⟨rfl,I4⟩;exact wpAny_execs_nil ⟨IB,H3,I4,qn⟩
 ·refine DR hp (cJ (T.item X rfl rfl rfl hc i aa s3 IB H3 X.xe I3 (Nv jG) VT go) ?_);rintro r s4 ⟨u,rfl,h4⟩;refine DR hp (cJ h4 ?_);rintro _ s5 ⟨x,H5,I5,r5,y5,Q6,jl⟩;have I5':=I5.pinned (Nv jl) (T.obj _ _ Q6);refine DR hp (cJ (hg _ s5 IB H5 x u _ I5' r5 (step x H5 y5)) ?_);rintro _ s6 ⟨σ6,H6,I6,q6⟩;refine DR hp (cJ (hb _ s6 σ6 H6 _ I6 q6) λf s7 q7=>?_)
  have again:∀{Eg:St}{H7:Hp},Inv X (aa++l0 fp s5.heap) Eg H7 s7->N Eg H7->∃m,m<n/\∃i dD H',Inv X aa dD H' s7/\tn i s7.heap/\(∀b∈fp,H' b=none)/\W i m dD H':=λ{Eg H7} I7 n7=>by
   obtain⟨m',hm,w7⟩:=hN Eg H7 n7;refine⟨m',hm,i+1,Eg,H7,I7.iV,T.keep _ _ _ Q6 λb hb o e=>(I7.pin (b,o) (nz _ (nz _ (h_ hb e)))).1,λb hb=>?_,w7⟩;obtain⟨o,e,d⟩:=T.obj _ _ Q6 b hb;exact(I7.pin (b,o) (nz _ (nz _ (h_ hb e)))).2.1
  cases f with
  | next=>obtain⟨Eg,H7,I7,n7⟩:=q7;exact again I7 n7
  | cont=>obtain⟨Eg,H7,I7,n7⟩:=q7;exact again I7 n7
  | brk=>obtain⟨Eg,H7,I7,q7⟩:=q7;exact⟨Eg,H7,I7.iV,q7⟩
  | ret v=>obtain⟨x7,Eg,H7,I7,r7,q7⟩:=q7;exact⟨x7,Eg,H7,I7.iV,r7,q7⟩
end
abbrev R2:=V->V->Hp->VK->Prop
def jH(X:Cx)(f:Value->Value->Sem Value)(r:R2):Prop :=
 ∀(aa:List (Addr×Obj))(s:Shared)(σ:St)(H:Hp)(x y:V)(v u:Value)(Q:VK),Inv X aa σ H s->RelV x v->RelV y u->r x y H Q ->
  wpAny (model X.prog X.w) X.A (f v u) (EP X aa σ Q) X.xe s
def XF(X:Cx)(f:Value->Sem Value)(r:V->Hp->VK->Prop):Prop :=
 ∀(aa:List (Addr×Obj))(s:Shared)(σ:St)(H:Hp)(x:V)(v:Value)(Q:VK),Inv X aa σ H s->RelV x v->r x H Q ->
  wpAny (model X.prog X.w) X.A (f v) (EP X aa σ Q) X.xe s
def dX(X:Cx)(f:Value)(r:List V->Hp->VK->Prop):Prop :=
 ∀(aa:List (Addr×Obj))(s:Shared)(σ:St)(H:Hp)(xs:List V)(us:List Value)(Q:VK),Inv X aa σ H s->aY xs us->r xs H Q ->
  wpAny (model X.prog X.w) X.A (call f us) (EP X aa σ Q) X.xe s
def XG(X:Cx)(r:V->Hp->(Bool->Hp->Prop)->Prop):Prop :=
 ∀(aa:List (Addr×Obj))(s:Shared)(σ:St)(H:Hp)(x:V)(v:Value)(Q:Bool->Hp->Prop),Inv X aa σ H s->RelV x v->r x H Q ->
  wpAny (model X.prog X.w) X.A (truthy v) (TP X aa σ Q) X.xe s
noncomputable def IC(r:R2)(ta tb:TE):TE:=λσ H Q=>ta σ H λx H1=>tb σ H1 λy H2=>r x y H2 Q
noncomputable def tUn(r:V->Hp->VK->Prop)(ta:TE):TE:=λσ H Q=>ta σ H λx H1=>r x H1 Q
noncomputable def rI(C:Int->Int->Prop)(g:Int->Int->V):R2:=λx y H Q=>∃i j,x=.int i/\y=.int j/\C i j/\Q (g i j) H
noncomputable def LB(g:Int->Int->V):R2:=λx y H Q=>∃i j,x=.int i/\y=.int j/\Q (g i j) H
noncomputable def rU(g:Int->V):V->Hp->VK->Prop:=λx H Q=>∃i,x=.int i/\Q (g i) H
section
variable {X:Cx} {a b c:Expr} {ta tb tc:TE} {pos:Pos}
theorem Nw(ha:PE X a ta)(hb:PE X b tb){aa:List (Addr×Obj)}{s:Shared}{σ:St}{H:Hp}{R:V->V->Hp->Prop}(I:Inv X aa σ H s)(h:ta σ H λx H1=>tb σ H1 λy H2=>R x y H2){Q:Value->Shared->Prop}{f:Value->Value->Sem Value}(hf:∀v u s2 x y H2,Inv X aa σ H2 s2->RelV x v->RelV y u->R x y H2->wpAny (model X.prog X.w) X.A (f v u) Q X.xe s2):wpAny (model X.prog X.w) X.A (eval a X.env) (λv bt=>wpAny (model X.prog X.w) X.A (eval b X.env) (λu B2=>wpAny (model X.prog X.w) X.A (f v u) Q X.xe B2) X.xe bt) X.xe s:=by
 refine cJ (ha aa s σ H _ I h) ?_;rintro v s1 ⟨x,H1,I1,r1,q1⟩;refine cJ (hb aa s1 σ H1 _ I1 q1) ?_;rintro u s2 ⟨y,H2,I2,r2,q2⟩;exact hf v u s2 x y H2 I2 r1 r2 q2
theorem Sq{op:Operator}{r:R2}(ho:jH X (binaryOp op) r)(ha:PE X a ta)(hb:PE X b tb):PE X (.BinOp a op b pos) (IC r ta tb):=by
 intro aa s σ H Q I h;exact wpAny_BinOp (Nw ha hb I h λv u s2 x y H2 I2 rx ry q=>ho aa s2 σ H2 x y v u Q I2 rx ry q)
theorem LC(ho:XF X (unaryOp op) r)(ha:PE X a ta):PE X (.UnaryOp op a pos) (tUn r ta):=by
 intro aa s σ H Q I h;exact UnaryOp_ (cJ (ha aa s σ H _ I h) λv s1 ⟨x,H1,I1,r1,q1⟩=>ho aa s1 σ H1 x v Q I1 r1 q1)
theorem VU{f:Value->Value->Sem Value}{C:Int->Int->Prop}{g:Int->Int->Int}(rule:∀(i j:Int)(t u:Tok)(s:Shared)(Q:Value->Shared->Prop)(E:Value->Shared->Prop),C i j->Q (.int (g i j) s.toks) {s with toks:=s.toks+1}->wpAny (model X.prog X.w) X.A (f (.int i t) (.int j u)) Q E s):jH X f (rI C λi j=>.int (g i j)):=by
 sleep 11;obtain⟨i,j,rfl,rfl,hc,q⟩:=h;obtain⟨t,rfl⟩:=rx;obtain⟨t',rfl⟩:=ry;exact rule i j t t' s _ _ hc ⟨.int (g i j),H,I.tok _,⟨_,rfl⟩,q⟩
theorem Sr{f:Value->Value->Sem Value}{g:Int->Int->Int}(rule:∀(i j:Int)(t u:Tok)(s:Shared)(Q:Value->Shared->Prop)(E:Value->Shared->Prop),Q (.int (g i j) s.toks) {s with toks:=s.toks+1}->wpAny (model X.prog X.w) X.A (f (.int i t) (.int j u)) Q E s):jH X f (LB λi j=>.int (g i j)):=by
 sleep 11;obtain⟨i,j,rfl,rfl,q⟩:=h;obtain⟨t,rfl⟩:=rx;obtain⟨t',rfl⟩:=ry;exact rule i j t t' s _ _ ⟨.int (g i j),H,I.tok _,⟨_,rfl⟩,q⟩
theorem ID{f:Value->Value->Sem Value}{g:Int->Int->Bool}(rule:∀(i j:Int)(t u:Tok)(s:Shared)(Q:Value->Shared->Prop)(E:Value->Shared->Prop),Q (.bool (g i j)) s->wpAny (model X.prog X.w) X.A (f (.int i t) (.int j u)) Q E s):jH X f (LB λi j=>.bl (g i j)):=by
 sleep 11;obtain⟨i,j,rfl,rfl,q⟩:=h;obtain⟨t,rfl⟩:=rx;obtain⟨t',rfl⟩:=ry;exact rule i j t t' s _ _ ⟨.bl (g i j),H,I,rfl,q⟩
def XH(i j:Int):Prop:=0<j/\j<1073741824
def XI(i j:Int):Prop:=0<=j/\j<=1000000/\i.natAbs<2 ^ 64
noncomputable def Nx(i j:Int):Prop:=(-(2 ^ 64)<i/\i<2 ^ 64)\/(-(2 ^ 64)<j/\j<2 ^ 64)
theorem Nx.ok(h:Nx i j):IntMulOk i j:=by
 rcases h with⟨h1,h2⟩|⟨h1,h2⟩
 ·exact .of_left (intBits_le_64 h1 h2)
 ·exact .of_right (intBits_le_64 h1 h2)
theorem Ny:jH X (binaryOp .Add) (LB λi j=>.int (i+j)):=Sr λ_ _ _ _ _ _ _ q=>add_int q
theorem Nz:jH X (binaryOp .Sub) (LB λi j=>.int (i-j)):=Sr λ_ _ _ _ _ _ _ q=>sub_int q
theorem NA:jH X (binaryOp .Mult) (rI Nx λi j=>.int (i*j)):=VU λ_ _ _ _ _ _ _ hc q=>mul_int q hc.ok
theorem IE:jH X (binaryOp .FloorDiv) (rI XH λi j=>.int (i / j)):=VU λi j _ _ _ _ _ hc q=>by
 have h1:(0:Int)<j:=hc.1;have h2:j<1073741824:=hc.2;exact floordiv_int ∅ (by rw[Int.fdiv_eq_ediv_of_nonneg i ∅];exact q) (.inl (PyProof.noPylong_small ∅))
theorem NB:jH X (binaryOp .Mod) (rI (λ_ j=>0<j) λi j=>.int (i % j)):=VU λi j _ _ _ _ _ hc q=>by
 have h1:(0:Int)<j:=hc;exact mod_int' ∅ (by rw[Int.fmod_eq_emod_of_nonneg i ∅];exact q)
theorem NC:jH X (binaryOp .Pow) (rI XI λi j=>.int (i ^ j.toNat)):=VU λ_ _ _ _ _ _ _ hc q=>pow_int_small hc.1 hc.2.1 hc.2.2 q
theorem unI{f:Value->Sem Value}{g:Int->Int}(rule:∀(i:Int)(t:Tok)(s:Shared)(Q:Value->Shared->Prop)(E:Value->Shared->Prop),Q (.int (g i) s.toks) {s with toks:=s.toks+1}->wpAny (model X.prog X.w) X.A (f (.int i t)) Q E s):XF X f (rU λi=>.int (g i)):=by
 intro aa s σ H x v Q I rx h;obtain⟨i,rfl,q⟩:=h;obtain⟨t,rfl⟩:=rx;exact rule i t s _ _ ⟨.int (g i),H,I.tok _,⟨_,rfl⟩,q⟩
theorem Eh:XF X (unaryOp .USub) (rU λi=>.int (-i)):=unI λ_ _ _ _ _ q=>neg_int q
end
section
variable {X:Cx} {a b c:Expr} {ta tb tc:TE} {pos:Pos}
theorem oS(I:Inv X aa σ H s)(q:Q (.bl k) H)(e:k=k'):EP X aa σ Q (.bool k') s:=by
 subst e;exact⟨.bl k,H,I,rfl,q⟩
theorem Ss:jH X (compareOp .Lt) (LB λi j=>.bl (decide (i<j))):=ID λ_ _ _ _ _ _ _ q=>lt_int q
theorem Su:jH X (compareOp .LtE) (LB λi j=>.bl (decide (i<=j))):=ID λ_ _ _ _ _ _ _ q=>le_int q
theorem Sv:jH X (compareOp .Gt) (LB λi j=>.bl (decide (j<i))):=ID λ_ _ _ _ _ _ _ q=>gt_int q
theorem Sw:jH X (compareOp .GtE) (LB λi j=>.bl (decide (j<=i))):=ID λ_ _ _ _ _ _ _ q=>ge_int q
theorem B7:jH X (compareOp .Lt) (λx y H Q=>∃i j,x=.str i/\y=.str j/\Q (.bl (decide (i.cps.toList<j.cps.toList))) H):=by
 sleep 11;obtain⟨i,j,rfl,rfl,q⟩:=h;obtain⟨t,rfl⟩:=rx;obtain⟨t',rfl⟩:=ry;exact lt_str (oS I q rfl)
theorem ND:jH X (compareOp .Is) (λx y H Q=>y=.aP/\Q (.bl (decide (x=.aP))) H):=by
 sleep 11;obtain⟨rfl,q⟩:=h;cases ry;refine is_none_gen (oS I q ?_)
 cases x<;>first
  | (cases rx;rfl)
  | (obtain⟨t,rfl⟩:=rx;rfl)
theorem IF:jH X (compareOp .IsNot) (λx y H Q=>y=.aP/\Q (.bl (!decide (x=.aP))) H):=by
 sleep 11;obtain⟨rfl,q⟩:=h;cases ry;refine isnot_none_gen (oS I q ?_)
 cases x<;>first
  | (cases rx;rfl)
  | (obtain⟨t,rfl⟩:=rx;rfl)
theorem sU{op:CmpOp}{r:R2}(ho:jH X (compareOp op) r)(ha:PE X a ta)(hb:PE X b tb)(hm:behindInMarks op b=false):PE X (.Compare a [op] [b] pos) (IC r ta tb):=by
 intro aa s σ H Q I h;exact wpAny_Compare1 (Nw ha hb I h λv u s2 x y H2 I2 rx ry q=>ho aa s2 σ H2 x y v u Q I2 rx ry q) hm
noncomputable def kF(t:TE):TT:=λσ H Q=>t σ H λx H'=>∃k,x=.bl k/\Q k H'
theorem sV(ho:jH X (compareOp op) r)(ha:PE X a ta)(hb:PE X b tb)(hm:behindInMarks op b=false):PT X (.Compare a [op] [b] pos) (kF (IC r ta tb)):=by
 intro aa s σ H Q I h
 refine wpAny_isTrue_Compare1 (cJ (ha aa s σ H _ I h) λv s1 ⟨x,H1,I1,r1,q1⟩=>cJ (hb aa s1 σ H1 _ I1 q1) λu s2 ⟨y,H2,I2,r2,q2⟩ =>
  cJ (ho aa s2 σ H2 x y v u _ I2 r1 r2 q2) λc s3 ⟨z,H3,I3,r3,k,e,q3⟩=>?_) hm
 subst e;cases r3;exact ve ⟨H3,I3,q3⟩
noncomputable def yj(r r':R2)(ta tb tc:TE):TE:=λσ H Q=>ta σ H λx H1=>tb σ H1 λy H2=>r x y H2 λz H3=>∃k,z=.bl k /\
 (if k=true then tc σ H3 λw' H4=>r' y w' H4 Q else Q (.bl false) H3)
theorem Ei(ho:jH X (compareOp op) r)(zP:jH X (compareOp Sx) r')(ha:PE X a ta)(hb:PE X b tb)(hc:PE X c tc)(hm:lastMarks [op,Sx] [b,c]=false:=by with_unfolding_all rfl):PE X (.Compare a [op,Sx] [b,c] pos) (yj r r' ta tb tc):=by
 intro aa s σ H Q I h
 refine Compare_chain (cJ (ha aa s σ H _ I h) λv s1 ⟨x,H1,I1,r1,q1⟩=>chain_link (cJ (hb aa s1 σ H1 _ I1 q1) λu s2 ⟨y,H2,I2,r2,q2⟩ =>
  cJ (ho aa s2 σ H2 x y v u _ I2 r1 r2 q2) λd s3 ⟨z,H3,I3,r3,k,e,q3⟩=>?_)) hm
 subst e;cases r3;refine ve ?_
 cases k with
 | false=>exact ite_ff ⟨.bl false,H3,I3,rfl,q3⟩
 | true=>exact ite_tt (chain_last (cJ (hc aa s3 σ H3 _ I3 q3) λw' s4 ⟨z',H4,I4,r4,q4⟩=>zP aa s4 σ H4 y z' u w' Q I4 r2 r4 q4))
theorem Ej(ho:jH X (compareOp op) r)(zP:jH X (compareOp Sx) r')(ha:PE X a ta)(hb:PE X b tb)(hc:PE X c tc)(hm:lastMarks [op,Sx] [b,c]=false:=by with_unfolding_all rfl):PT X (.Compare a [op,Sx] [b,c] pos) (kF (yj r r' ta tb tc)):=by
 intro aa s σ H Q I h
 refine isTrue_chain (cJ (ha aa s σ H _ I h) λv s1 ⟨x,H1,I1,r1,q1⟩=>test_link (cJ (hb aa s1 σ H1 _ I1 q1) λu s2 ⟨y,H2,I2,r2,q2⟩ =>
  cJ (ho aa s2 σ H2 x y v u _ I2 r1 r2 q2) λd s3 ⟨z,H3,I3,r3,k,e,q3⟩=>?_)) hm
 subst e;cases r3;refine ve ?_
 cases k with
 | false =>
  obtain⟨k',e',q'⟩:=q3;cases e';exact ite_ff ⟨H3,I3,q'⟩
 | true =>
  refine ite_tt (test_last (cJ (hc aa s3 σ H3 _ I3 q3) λw' s4 ⟨z',H4,I4,r4,q4⟩=>cJ (zP aa s4 σ H4 y z' u w' _ I4 r2 r4 q4) λd' s5 ⟨z2,H5,I5,r5,k2,e2,q5⟩=>?_));subst e2;cases r5;exact ve ⟨H5,I5,q5⟩
def Ek(K:Frag)(x:V)(H:Hp)(k:Bool):Prop :=
 match x with
 | .aP=>k=false
 | .bl b=>k=b
 | .int i=>k=(i != 0)
 | .str y=>y.length<=sizeLine/\k=((y.length:Int) != 0)
 | .RQ y=>y.size<=sizeLine/\k=((y.size:Int) != 0)
 | .ref p=>(∃xs,fb K H p xs/\k=!xs.isEmpty)\/(∃xs,fz K H p xs/\k=!xs.isEmpty)\/∃ag,H p=some (.dK ag)/\k=!ag.isEmpty
 | _=>False
theorem yk{κ:Type}{ag:List (κ×V)}{vs:List (κ×Value)}(r:KV ag vs):(!vs.isEmpty)=!ag.isEmpty:=by
 cases r<;>rfl
theorem oT(r:aY xs aA):(!aA.toArray.isEmpty)=!xs.isEmpty:=by
 cases r<;>simp
theorem jX:(sizeLine:Nat)<2 ^ 63:=by rw[BV];decide
theorem NF:XG X (λx H Q=>∃k,Ek X.K x H k/\Q k H):=by
 intro aa s σ H x v Q I rx h;obtain⟨k,e,q⟩:=h;have hl:=jX;have hs:sizeLine=16777216:=BV
 cases x with
 | aP =>
  cases rx;have e':k=false:=e;subst e';exact truthy_none ⟨H,I,q⟩
 | bl b =>
  cases rx;have e':k=b:=e;subst e';exact ve ⟨H,I,q⟩
 | int i =>
  obtain⟨t,rfl⟩:=rx;have e':k=(i != 0):=e;subst e';exact PySem.P.truthy_int ⟨H,I,q⟩
 | str y =>
  obtain⟨t,rfl⟩:=rx;obtain⟨hy,e'⟩:y.length<=sizeLine/\k=((y.length:Int) != 0):=e;subst e';exact PySem.P.truthy_str ∅ ⟨H,I.tok _,q⟩
 | RQ y =>
  obtain⟨t,rfl⟩:=rx;obtain⟨hy,e'⟩:y.size<=sizeLine/\k=((y.size:Int) != 0):=e;subst e';exact PySem.W.truthy_bytes ∅ ⟨H,I.tok _,q⟩
 | ref p =>
  cases rx;have e':(∃xs,fb X.K H p xs/\k=!xs.isEmpty)\/(∃xs,fz X.K H p xs/\k=!xs.isEmpty)\/∃ag,H p=some (.dK ag)/\k=!ag.isEmpty:=e;rcases e' with⟨xs,hx,e'⟩|⟨xs,hx,e'⟩|⟨ag,hx,e'⟩
  ·subst e';obtain⟨aA,r,pl,hz⟩:=I.list hx;have aZ:=r.length;exact wpAny_truthy_list pl.isList (by simp only[cG];omega) ⟨H,I.tok _,by rw[oT r];exact q⟩
  ·subst e';obtain⟨aA,r,pl,hz⟩:=I.tuple hx;have aZ:=r.length;exact truthy_tuple pl (by simp only[cG];omega) ⟨H,I.tok _,by rw[oT r];exact q⟩
  ·subst e';obtain⟨hz,hS,vs,r,m⟩:ag.length<=sizeLine/\(p==sysModules)=false/\∃vs,KV ag vs/\s.heap.DictOf (bA X.prog X.w) p vs:=I.bI p _ hx;have aZ:ag.length=vs.length:=DY r;exact wpAny_truthy_dict hS m ∅ ⟨H,I.tok _,by rw[yk r];exact q⟩
 | _=>exact(show False from e).elim
theorem El(ha:PE X a ta)(he:∀oP,isTrue a X.env oP=(do let v <- oP;standAt a.pos;holding [v] (truthy v))):PT X a (λσ H Q=>ta σ H λx H'=>∃k,Ek X.K x H' k/\Q k H'):=by
 intro aa s σ H Q I h;exact isTrue_plain (cJ (ha aa s σ H _ I h) λv s1 ⟨x,H1,I1,r1,q1⟩=>NF aa s1 σ H1 x v Q I1 r1 q1) (he _)
theorem vals1(r:aY [x] us):∃u,us=[u]/\RelV x u:=by
 cases r with
 | cons r1 r2=>cases r2;exact⟨_,rfl,r1⟩
theorem vals2(r:aY [x,y] us):∃u w',us=[u,w']/\RelV x u/\RelV y w':=by
 cases r with
 | cons r1 r2 =>
  cases r2 with
  | cons r3 r4=>cases r4;exact⟨_,_,rfl,r1,r3⟩
theorem B8(hc:X.calm=true):dX X (.builtin "max") (λxs H Q=>∃i j,xs=[.int i,.int j]/\Q (.int (if j>i then j else i)) H):=by
 sleep 12;obtain⟨i,j,rfl,q⟩:=h;obtain⟨u,w',rfl,⟨t,rfl⟩,⟨t',rfl⟩⟩:=vals2 r;refine max_two_ints (I.ok.hd hc) λh' tk k=>⟨_,H,I.kept k,?_,q⟩;by_cases hj:j>i
 ·rw[ar hj,ar hj];exact⟨_,rfl⟩
 ·rw[aq hj,aq hj];exact⟨_,rfl⟩
theorem B9(hc:X.calm=true):dX X (.builtin "min") (λxs H Q=>∃i j,xs=[.int i,.int j]/\Q (.int (if j<i then j else i)) H):=by
 sleep 12;obtain⟨i,j,rfl,q⟩:=h;obtain⟨u,w',rfl,⟨t,rfl⟩,⟨t',rfl⟩⟩:=vals2 r;refine min_two_ints (I.ok.hd hc) λh' tk k=>⟨_,H,I.kept k,?_,q⟩;by_cases hj:j<i
 ·rw[ar hj,ar hj];exact⟨_,rfl⟩
 ·rw[aq hj,aq hj];exact⟨_,rfl⟩
theorem q_:dX X (.type "int") (λxs H Q=>(∃i,xs=[.int i]/\Q (.int i) H)\/∃k,xs=[.bl k]/\Q (.int (if k then 1 else 0)) H):=by
 sleep 12;rcases h with⟨i,rfl,q⟩|⟨k,rfl,q⟩
 ·obtain⟨u,rfl,t,rfl⟩:=vals1 r;exact call_int_int ⟨.int i,H,I,⟨_,rfl⟩,q⟩
 ·obtain⟨u,rfl,r1⟩:=vals1 r;cases r1;exact call_int_bool ⟨.int (if k then 1 else 0),H,I.tok _,⟨_,rfl⟩,q⟩
end
structure IG (h:Heap) (x dx C:Addr) (mA:Str->Option Value):Prop where
 obj:h.get? x=some (PySem.W.instObj C dx)
 ns:h.Ns1 dx mA
 ne:dx≠x
theorem B_{h:Heap}{dx:Addr}{mA:Str->Option Value}(n:h.Ns1 dx mA):∃od,h.get? dx=some od/\∀name,PySem.W.lookIn name od=some (mA name):=by
 obtain⟨o,es,ep,ho,hd,hk,_,hm⟩:=n;refine⟨o,ho,λname=>?_⟩;have e:=hm name;unfold nsFind findBy at e;rw[<- Array.find?_toList]at e;unfold PySem.W.lookIn;rw[hd];dsimp only;split
 ·rename_i y q
  rw[q]at e;exact lW some e
 ·rename_i q
  rw[q]at e
  have a:es.toList.any (·.refKey)=false:=by
   rw[MT];intro y hy;obtain⟨z,t,NG⟩:=hk y (Array.mem_toList_iff.mp hy);simp[DictEntry.refKey,NG]
  have a':¬es.toList.any (·.refKey)=true:=by rw[a];exact aQ
  rw[aq a'];exact lW some e
theorem IG.look{mA:Str->Option Value}(I:IG h x dx C mA):∃od,PySem.W.InstAt h x (PySem.W.instObj C dx) C (some od)/\∀name,PySem.W.lookIn name od=some (mA name) :=
 let ⟨od,ho,hl⟩:=B_ I.ns
 ⟨od,⟨I.obj,rfl,rfl,ho⟩,hl⟩
section
variable {prog:Program} {w:World} {A:Around} {E:Value->Shared->Prop} {s:Shared} {K:Frag} {x dx C f:Addr} {mA:Str->Option Value} {name:Str} {v:Value}
theorem sW(X:K.In s.heap)(I:IG s.heap x dx C mA)(hg:PySem.W.plainGet K C name=true)(hh:PySem.W.hasDictIn K C=true)(ha:PySem.W.findIn K (.ref C) name=some none)(hv:mA name=some v)(Sy:PySem.W.handedIn v=true)(h:Q v {s with toks:=s.toks+1}):wpAny (model prog w) A (getAttr (.ref x) name expr) Q E s:=by
 obtain⟨od,J,hl⟩:=I.look;exact PySem.W.get_value X J (PySem.W.plainGet_of hg).1 (PySem.W.findObj_own hh ha rfl (by rw[hl,hv])) Sy h
end
theorem jV.some_of(r:jV (some v) o):∃u,o=some u/\RelV v u:=by
 cases o with
 | none=>exact(show False from r).elim
 | some u=>exact⟨u,rfl,r⟩
theorem jV.none_of(r:jV none o):o=none:=by
 cases o with
 | none=>rfl
 | some u=>exact(show False from r).elim
section
variable {P:Program} {w:World} {H H':Hp} {h h':Heap} {a C dx:Addr} {fs fs':List (Str×V)}
theorem IH(bI:jE P w H h)(e:H a=some (.ins C dx fs)):∃mA,IG h a dx C mA/\(∀f,jV (fs.lookup f) (mA f))/\PySem.Within mA (fs.map (·.1))/\fs.length<=1000/\H dx=some (.own a):=by
 obtain⟨d,z,ne,ob,mA,n,r,q⟩:=(show bH P w H h a (.ins C dx fs) from bI a _ e);exact⟨mA,⟨ob,n,ne⟩,r,q,z,d⟩
end
structure XJ (K:Frag) (C:Addr):Prop where
 pg:PySem.W.plainGet K C Str.empty=true
 hd:PySem.W.hasDictIn K C=true
 po:PySem.W.plainOver K C=true
 sa:PySem.W.findIn K (.ref C) "__setattr__" = some (some (.builtin "object.__setattr__"))
theorem XJ.get{K:Frag}{C:Addr}(c:XJ K C)(f:Str):PySem.W.plainGet K C f=true:=c.pg
section
variable {X:Cx} {o e value:Expr} {f:Str} {pos pos' tpos:Pos} {ta tv:TE}
noncomputable def Sz:V->V->Hp->VK->Prop:=λx y H Q=>∃i j,x=.int i/\y=.int j/\Q (.int (i-j)) H
end
section
variable {X:Cx} {aa:List (Addr×Obj)} {σ:St} {H:Hp} {s:Shared} {A:Around} {E:Value->Shared->Prop} {Q:Value->Shared->Prop} {c:Value} {b:Bool}
inductive l9 (K:Frag) (H:Hp):V->Value->Prop where
  | aP:l9 K H .aP (.type "NoneType")
  | bl (x:Bool):l9 K H (.bl x) (.type "bool")
  | int (i:Int):l9 K H (.int i) (.type "int")
  | str (x:Str):l9 K H (.str x) (.type "str")
  | Q0 (x:UInt64):l9 K H (.Q0 x) (.type "float")
  | lst {a:Addr} {xs:List V} (e:H a=some (.lst xs)):l9 K H (.ref a) (.type "list")
  | dP {a:Addr} {o:Obj} {xs:List V} (e:H a=some (.dP o (.lst xs))):l9 K H (.ref a) (.type "list")
  | tup {a:Addr} {xs:List V} (e:H a=some (.tup xs)):l9 K H (.ref a) (.type "tuple")
  | dK {a:Addr} {ag:List (bN×V)} (e:H a=some (.dK ag)):l9 K H (.ref a) (.type "dict")
  | dT {a:Addr} {ag:List (List bN×V)} (e:H a=some (.dT ag)):l9 K H (.ref a) (.type "dict")
  | ins {a C dx : Addr} {fs : List (Str × V)} (e : H a = some (.ins C dx fs)) (cl : XJ K C) (ha : PySem.W.findIn K (.ref C) "__class__" = some (some (.builtin "object.__class__")))
      (hn:PySem.W.specialIn K (.builtin "object.__class__") "__get__" = some (some (.builtin "getset_descriptor.__get__"))) (htk:PySem.W.takesIn K (.builtin "object.__class__")=some true)
      (hm:PySem.W.mroIn K C (.type "object")=some true):l9 K H (.ref a) (.ref C)
theorem Ca(I:Inv X aa σ H s)(rx:RelV x u)(ty:l9 X.K H x t)(e:PySem.W.kitOne X.K t c=some b)(h:∀tk,Q (.bool b) {s with toks:=tk}):wpAny (model X.prog X.w) A (call (.builtin "isinstance") [u,c]) Q E s:=by
 cases ty with
 | aP=>cases (show u=Value.none from rx);exact oK PySem.W.kitx_none I.vA True.intro e (λz=>nomatch z) h
 | bl y=>cases (show u=Value.bool y from rx);exact oK PySem.W.kitx_bool I.vA True.intro e (λz=>nomatch z) h
 | int i=>obtain⟨t,q⟩:=(show ∃t,u=Value.int i t from rx);cases q;exact oK PySem.W.kitx_int I.vA True.intro e (λz=>nomatch z) h
 | str y=>obtain⟨t,q⟩:=(show ∃t,u=Value.str y t from rx);cases q;exact oK PySem.W.kitx_str I.vA True.intro e (λz=>nomatch z) h
 | Q0 y=>obtain⟨t,q⟩:=(show ∃t,u=Value.float y t from rx);cases q;exact oK PySem.W.kitx_float I.vA True.intro e (λz=>nomatch z) h
 | @lst a xs ea =>
  cases (show u=Value.ref a from rx);obtain⟨_,_,n,_,h1⟩:=(show bH X.prog X.w H s.heap a (.lst xs) from I.bI a _ ea);exact oK PySem.W.kitx_list I.vA ⟨_,h1,rfl⟩ e (λz=>nomatch z) h
 | @dP a ob xs ea =>
  cases (show u=Value.ref a from rx);obtain⟨_,_,_,n,_,h1⟩:=(show bH X.prog X.w H s.heap a (.dP ob (.lst xs)) from I.bI a _ ea);exact oK PySem.W.kitx_list I.vA ⟨_,h1,rfl⟩ e (λz=>nomatch z) h
 | @tup a xs ea =>
  cases (show u=Value.ref a from rx);obtain⟨_,_,_,p⟩:=(show bH X.prog X.w H s.heap a (.tup xs) from I.bI a _ ea);obtain⟨o,h1,h2,_⟩:=p;exact oK PySem.W.kitx_tuple I.vA ⟨o,h1,h2⟩ e (λz=>nomatch z) h
 | @dK a ag ea =>
  cases (show u=Value.ref a from rx);obtain⟨_,_,vs,_,p⟩:=(show bH X.prog X.w H s.heap a (.dK ag) from I.bI a _ ea);obtain⟨o,es,ep,h1,h2,_⟩:=p;exact oK PySem.W.kitx_dict I.vA ⟨o,h1,h2.1⟩ e (λz=>nomatch z) h
 | @dT a ag ea =>
  cases (show u=Value.ref a from rx);obtain⟨_,_,xs,_,o,es,ep,h1,h2,_⟩:=(show bH X.prog X.w H s.heap a (.dT ag) from I.bI a _ ea);exact oK PySem.W.kitx_dict I.vA ⟨o,h1,h2.1⟩ e (λz=>nomatch z) h
 | @ins a C dx fs ea cl ha hn htk hm =>
  cases (show u=Value.ref a from rx);obtain⟨mA,O,_⟩:=IH I.bI ea;obtain⟨od,J,_⟩:=O.look;exact oK (PySem.W.kitx_own (cl.get _) cl.hd ha hn htk hm) I.vA J e (λz=>nomatch z) h
end
structure jB (k:Nat) (A:Around):Prop where
 hd:A.handled=none
 dp:A.depth+3*k+5<recursionLimit
 un:A.units+16*k+200<cLine
 gd:A.guards=some []
theorem jB.mono(r:jB k A)(h:j<=k):jB j A:=⟨r.hd,by have:=r.dp;omega,by have:=r.un;omega,r.gd⟩
theorem jB.deeper(r:jB (k+1) A)(env:Env):jB k (A.deeper env) :=
 ⟨r.hd,by have:=r.dp;show A.depth+1+3*k+5<_;omega,by have:=r.un;show A.units+3+16*k+200<_;omega,r.gd⟩
theorem jB.depth(r:jB k A):A.depth<recursionLimit:=by have:=r.dp;omega
def XM:TA:=λ_ H Q=>Q [] H
noncomputable def SA(ta:TE)(tr:TA):TA:=λσ H Q=>ta σ H λx H1=>tr σ H1 λxs H2=>Q (x::xs) H2
section
variable {X:Cx} {e:Expr} {es:List Expr} {te:TE} {t:TA} {pos:Pos}
theorem ib:PA X [] XM:=λ_ _ _ _ H Q I h=>Calls.spliced_nil ⟨[],H,I,.nil,h⟩
theorem d4(ha:PE X e te)(hr:PA X es t)(hs:starEach (e::es) X.env=(false,eval e X.env)::starEach es X.env:=by rfl):PA X (e::es) (SA te t):=by
 intro pos aa s σ H Q I h;rw[hs];show wpAny _ _ (spliced ((false,eval e X.env)::backTo pos (starEach es X.env))) _ _ s;refine Calls.spliced_cons (cJ (ha aa s σ H _ I h) ?_);rintro u s1 ⟨x,H1,I1,r1,q1⟩;exact cJ (hr pos aa s1 σ H1 _ I1 q1) λus s2 ⟨xs,H2,I2,r2,q2⟩=>⟨x::xs,H2,I2,.cons r1 r2,q2⟩
def XN(t:TA):TE:=λσ H Q=>t σ H λxs H1=>xs.length<=sizeLine/\∀p,H1 p=none->Q (.ref p) (upd H1 p (.tup xs))
def XO(t:TA):TE:=λσ H Q=>t σ H λxs H1=>xs.length<=sizeLine/\∀p,H1 p=none->Q (.ref p) (upd H1 p (.lst xs))
theorem NH {x1} (h:PA X es t):PE X (.Tuple es x1 pos) (XN t):=by
 intro aa s σ H Q I hq;refine wpAny_Tuple_spliced (cJ (h pos aa s σ H _ I hq) λus s1 ⟨xs,H1,I1,r,z,q⟩=>⟨by rw[<- r.length];exact z,?_⟩);have hf:H1 s1.heap.objs.size=none:=I1.bI.fresh (aH _);refine⟨.ref s1.heap.objs.size,upd H1 s1.heap.objs.size (.tup xs),I1.laid (t':=s1.toks) (λb u e=>aO _ e) (aH _) ?_,rfl,q _ hf⟩;exact⟨z,us,r,⟨_,cj _ rfl,rfl,_,rfl⟩⟩
theorem NI(h:PA X es t):PE X (.List es pos) (XO t):=by
 intro aa s σ H Q I hq;refine wpAny_List_spliced (cJ (h pos aa s σ H _ I hq) λus s1 ⟨xs,H1,I1,r,z,q⟩=>⟨by rw[<- r.length];exact z,?_⟩);have hf:H1 s1.heap.objs.size=none:=I1.bI.fresh (aH _);refine⟨.ref s1.heap.objs.size,upd H1 s1.heap.objs.size (.lst xs),I1.laid (t':=s1.toks) (λb u e=>aO _ e) (aH _) ?_,rfl,q _ hf⟩;exact⟨z,us,0,r,cj _ rfl⟩
end
abbrev Sp:=List V->Hp->VK->XK->Prop
abbrev Em:=List Env->Hp->Shared->XK->Value->Shared->Prop
structure II (P:Program) (w:World) (K:Frag) (mg:Str->Option Value) (base:Heap) (A:Around) (outer:List Env) (s:Shared) (H:Hp):Prop where
 frames:A.frames=some outer
 mod:Mod K mg base
 bs:∀b o,base.get? b=some o->s.heap.get? b=some o/\H b=none
 Lu:base.objs.size<=s.heap.objs.size
 oO:s.heap.FunFrames base outer
 Q2:∀b∈D3 outer,H b=none
 bI:jE P w H s.heap
 bare:AllBare s.gens
def CE(outer:List Env)(P:Program)(w:World)(H:Hp)(s:Shared)(Q:VK)(u:Value)(s':Shared):Prop :=
 ∃v H',s'.os=s.os/\AllBare s'.gens/\Un (D3 outer) [] H H' s.heap s'.heap/\jE P w H' s'.heap/\RelV v u/\Q v H'
def CR(CX:Em)(outer:List Env)(P:Program)(w:World)(H:Hp)(s:Shared)(Q:VK)(E:XK)(r:Result)(s':Shared):Prop :=
 match r with
 | .ok (.ret u)=>CE outer P w H s Q u s'
 | .ok _=>False
 | .error e=>CX outer H s E e s'
structure iW (P:Program) (w:World) (K:Frag) (mg:Str->Option Value) (base:Heap) (CX:Em) (k:Nat) (f:Addr) (fd:FuncData) (ps:List Str) (sp:Sp):Prop where
 len:∀vs H Q E,sp vs H Q E->vs.length=ps.length
 run:∀(A:Around)(outer:List Env)(s:Shared)(H:Hp)(args:Args)(us:List Value)(vs:List V)(Q:VK)(E:XK),jB k A->II P w K mg base A outer s H->BindsTo s fd args (ps.zip us)->aY vs us->sp vs H Q E ->
  codeAny (model P w) A (.call (.ref f) args) (CR CX outer P w H s Q E) s
theorem iW.mono{P:Program}{w:World}{K:Frag}{mg:Str->Option Value}{base:Heap}{CX:Em}{j k:Nat}{f:Addr}{fd:FuncData}{ps:List Str}{sp:Sp}(F:iW P w K mg base CX j f fd ps sp)(h:j<=k):iW P w K mg base CX k f fd ps sp:=⟨F.len,λA outer s H args us vs Q E hr=>F.run A outer s H args us vs Q E (hr.mono h)⟩
section
variable {X:Cx} {aa:List (Addr×Obj)} {σ:St} {H:Hp} {s s':Shared}
theorem Inv.XQ(I:Inv X aa σ H s):II X.prog X.w X.K X.mg X.base X.A X.stack s H :=
 ⟨I.ok.frames,I.ok.mod,I.bs,dW I.ok.Lu I.sz,I.stack,I.zQ,I.bI,I.bare⟩
theorem Inv.after(I:Inv X aa σ H s)(h:CE X.stack X.prog X.w H s Q u s'):EP X aa σ Q u s':=by
 obtain⟨v,H',os,bare,un,bI,r,q⟩:=h;obtain⟨hh,g,d,t,os'⟩:=s';obtain rfl:os'=s.os:=os;exact⟨v,H',I.call (h':=hh) (g':=g) (d':=d) (t':=t) (ch:=[]) un bI bare (λb z=>absurd z (by simp)),r,q⟩
end
noncomputable def SD(sp:Sp)(LD:List V)(E:XK)(t:TA):TE:=λσ H Q=>t σ H λvs H1=>sp (vs++LD) H1 Q E
noncomputable def Binds(K:Frag)(fd:FuncData)(ps:List Str)(ds:List Value):Prop :=
 ∀(s:Shared)(us:List Value),K.In s.heap->(us++ds).length=ps.length->BindsTo s fd ⟨us,[]⟩ (ps.zip (us++ds))
theorem Binds.all{K:Frag}{fd:FuncData}{ps:List Str}(h:∀us:List Value,us.length=ps.length->bindArgs fd ⟨us,[]⟩=pure (ps.zip us)):Binds K fd ps []:=λs us _ hl=>by
 rw[iQ]at hl⊢;exact .of_eq (h us hl)
noncomputable def ym(CX:Em)(X:Cx)(E:XK):Prop:=∀(aa:List (Addr×Obj))(σ:St)(H:Hp)(s:Shared)(e:Value)(s':Shared),Inv X aa σ H s->CX X.stack H s E e s'->X.xe e s'
section
variable {X:Cx} {CX:Em} {k:Nat} {f C:Addr} {fd:FuncData} {ps:List Str} {sp:Sp} {LD:List V} {ds:List Value} {E:XK} {x m:Str} {p pos sX:Pos} {e o:Expr} {es:List Expr} {ta:TE} {t:TA}
theorem NJ(F:iW X.prog X.w X.K X.mg X.base CX k f fd ps sp)(hr:jB k X.A)(hb:Binds X.K fd ps ds)(hd:aY LD ds)(hx:ym CX X E)(I:Inv X aa σ H s)(r:aY vs us)(h:sp (vs++LD) H Q E):wpAny (model X.prog X.w) X.A (call (.ref f) us) (EP X aa σ Q) X.xe s:=by
 have r2:aY (vs++LD) (us++ds):=r.append hd;have hl:(us++ds).length=ps.length:=by rw[<- r2.length];exact F.len _ _ _ _ h
 refine wpAny_call (BU (F.run X.A X.stack s H ⟨us,[]⟩ (us++ds) (vs++LD) Q E hr I.XQ (hb s us I.vA hl) r2 h) λr s' hq=>?_)
 cases r with
 | error e=>exact hx aa σ H s e s' I hq
 | ok fl =>
  cases fl with
  | ret u=>exact I.after hq
  | next=>exact False.elim hq
  | brk=>exact False.elim hq
  | cont=>exact False.elim hq
theorem IJ(F:iW X.prog X.w X.K X.mg X.base CX k f fd ps sp)(hr:jB k X.A)(hg:Gl X x)(hm:X.mg x=some (.ref f))(hk:PySem.W.keepIn X.K (.ref f)=true)(hb:Binds X.K fd ps ds)(hd:aY LD ds)(hx:ym CX X E)(ha:PA X (e::es) t) (NK:(x==("__debug__" : Str))=false:=by decide) (he:starEach (e::es) X.env=(false,eval e X.env)::starEach es X.env:=by rfl) (sY:(backTo pos (starEach es X.env)).any (·.1)=false:=by rfl):PE X (.Call (.Name x p) (e::es) [] pos) (SD sp LD E t):=by
 intro aa s σ H Q I h;refine wpAny_Call_Name_kw (zS I hg hm ?_ NK);refine PySem.W.callWith_K (h₀:=X.base) I.ok.mod.RX hk (cJ (ha pos aa s σ H _ I h) λus s1 ⟨vs,H1,I1,r,q⟩=>⟨I1.vA,?_⟩) he sY;exact NJ F hr hb hd hx I1 r q
end
structure kG (N P:List Str) (sc:Scope):Prop where
 kind:sc.kind=.function
 co:sc.isCoroutine=false
 gen:sc.isGenerator=false
 nd:N.Nodup
 pre:N.take P.length=P
 par:∀x∈P,sc.names.lookup x=some .local\/sc.names.lookup x=some .cell
 Eo:∀y∈sc.names,y.2≠.free
theorem rf{kindOf:Str->Option NameKind}{x:Str}:∀{vI:List (Str×Value)}{m:Str->Option Value},(∀v,(x,v)∉vI)->bindL kindOf vI m x=m x
 | [],_,_=>rfl
 | (n,v)::r,m,h=>by
  unfold bindL;rw[rf λw hw=>h w (da _ hw)];split
  ·have:x≠n:=by rintro rfl;exact h v dH
   simp[this]
  ·rfl
theorem rg{kindOf:Str->Option NameKind}{x:Str}:∀{vI:List (Str×Value)}{m:Str->Option Value},(∀v,(x,v)∉vI)->bindC kindOf vI m x=m x
 | [],_,_=>rfl
 | (n,v)::r,m,h=>by
  unfold bindC;rw[rg λw hw=>h w (da _ hw)];split
  ·rfl
  ·have:x≠n:=by rintro rfl;exact h v dH
   simp[this]
theorem rh{kindOf:Str->Option NameKind}{x:Str}{v:Value}:∀{P:List Str}{vs:List Value}{i:Nat}{m:Str->Option Value},P.Nodup->P[i]?=some x->vs[i]?=some v->kindOf x=some .local->bindL kindOf (P.zip vs) m x=some v
 | [],_,_,_,_,h,_,_=>by simp at h
 | _::_,[],_,_,_,_,h,_=>by simp at h
 | p::P,w::vs,0,m,nd,h1,h2,hk=>by
  simp at h1 h2;subst h1;subst h2;show bindL kindOf ((p,w)::P.zip vs) m p=_;unfold bindL;rw[rf λv hv=>(sG.mp nd).1 (List.of_mem_zip hv).1,ar hk];simp
 | p::P,w::vs,i+1,m,nd,h1,h2,hk=>by
  show bindL kindOf ((p,w)::P.zip vs) m x=_;unfold bindL;exact rh (i:=i) (sG.mp nd).2 (by simpa using h1) (by simpa using h2) hk
theorem rl{kindOf:Str->Option NameKind}{x:Str}{v:Value}:∀{P:List Str}{vs:List Value}{i:Nat}{m:Str->Option Value},P.Nodup->P[i]?=some x->vs[i]?=some v->kindOf x≠some .local->bindC kindOf (P.zip vs) m x=some v
 | [],_,_,_,_,h,_,_=>by simp at h
 | _::_,[],_,_,_,_,h,_=>by simp at h
 | p::P,w::vs,0,m,nd,h1,h2,hk=>by
  simp at h1 h2;subst h1;subst h2;show bindC kindOf ((p,w)::P.zip vs) m p=_;unfold bindC;rw[rg λv hv=>(sG.mp nd).1 (List.of_mem_zip hv).1,aq hk];simp
 | p::P,w::vs,i+1,m,nd,h1,h2,hk=>by
  show bindC kindOf ((p,w)::P.zip vs) m x=_;unfold bindC;exact rl (i:=i) (sG.mp nd).2 (by simpa using h1) (by simpa using h2) hk
noncomputable def start(N:List Str)(vs:List V):St:=vs.map some++List.replicate (N.length-vs.length) none
noncomputable def yn(CX:Em)(P:Program)(w:World)(K:Frag)(mg:Str->Option Value)(base:Heap)(N:List Str)(qual:Str)(scope:Scope)(f:Addr)(cd:Value)(A:Around)(outer:List Env)(s:Shared)(H:Hp)(E:XK):Cx where
 prog:=P
 w:=w
 K:=K
 mg:=mg
 base:=base
 A:=A.deeper (envOfC qual scope s.heap.objs.size f cd)
 N:=N
 fy:=s
 vv:=H
 env:=envOfC qual scope s.heap.objs.size f cd
 outer:=outer
 stack:=envOfC qual scope s.heap.objs.size f cd::outer
 ex:=[]
 calm:=true
 fn:=λ_=>true
 pn:=[]
 xe:=λe s'=>wpAny (model P w) (A.deeper (envOfC qual scope s.heap.objs.size f cd)) (leaving (envOfC qual scope s.heap.objs.size f cd) e) (λ_ Q7=>CX outer H s E e Q7) (λe' Q7=>CX outer H s E e' Q7) s'
theorem vJ{sc:Scope}{n:Nat}{x:Str}(h:sc.names.lookup x=some .cell):∃c,(cellsFrom n sc.names []).lookup x=some c:=by
 have q:=PySem.W.cellsFrom_some sc.names n [] (.inl h);exact sv.mp q
theorem Cb{CX:Em}{P:Program}{w:World}{K:Frag}{mg:Str->Option Value}{base:Heap}{N ps:List Str}{qual:Str}{scope:Scope}{f:Addr}{cd:Value}{A:Around}{outer:List Env}{s s1:Shared}{H:Hp}{E:XK}{us:List Value}{vs:List V}(S:kG N ps scope)(hd:A.handled=none)(e0:II P w K mg base A outer s H)(hl:vs.length=ps.length)(r:aY vs us)(x:InCallC s s.heap.objs.size (bindL (envOfC qual scope s.heap.objs.size f cd).kindOf (ps.zip us) λ_=>none) (cellsFrom (s.heap.objs.size+1) scope.names []) (bindC (envOfC qual scope s.heap.objs.size f cd).kindOf (ps.zip us) λ_=>none) s1):Inv (yn CX P w K mg base N qual scope f cd A outer s H E) [] (start N vs) H s1:=by
 have sY:ps.length<=N.length:=by have:=lW List.length S.pre;rw[hG]at this;omega
 obtain⟨h1,tk,rfl,hk⟩:=x.done;have SE:∀b:Addr,b∉(yn CX P w K mg base N qual scope f cd A outer s H E).ex:=λb z=>absurd (show b∈([]:List Addr) from z) (by simp)
 refine⟨⟨e0.mod,S.kind,rfl,rfl,aH _,λy z c h1 h2=>?_,λy hy=>?_,λy c _ h=>?_,λ_=>hd,Around.frames_deeper e0.frames,.inr ⟨rfl,rfl⟩,λb z=>absurd z (SE b),e0.bs,e0.Lu,λb _ _=>SE b,λb z=>absurd z (SE b),e0.oO,e0.Q2⟩,
  rfl,e0.bare,Un.kept hk,⟨_,x.toInCall.ns,λi y v h1 h2 h3=>?_⟩,λy c h=>⟨_,x.cell y c h⟩,e0.bI.fresh (aH _),λy c h=>?_,λp hp=>absurd (show p∈([]:List (Addr×Obj)) from hp) (by simp),e0.bI.kept hk,?_⟩
 ·exact name_of_addr x.apart (oH h1) (oH h2)
 ·have hy:scope.names.lookup y=some .cell\/scope.names.lookup y=some .free:=hy;rcases hy with hy | hy
  ·exact vJ hy
  ·exact absurd rfl (S.Eo _ (oH hy))
 ·exact qK (x.above y c (oH h))
 ·have hi:i<vs.length:=by
   unfold start at h2;by_cases hi:i<vs.length
   ·exact hi
   ·rw[qD (by simpa using hi)]at h2;rw[List.getElem?_replicate]at h2;split at h2<;>cases h2
  have ha:vs[i]?=some v:=by
   unfold start at h2;rw[kr (by simpa using hi),bc]at h2
   cases e:vs[i]? with
   | none=>rw[e]at h2;cases h2
   | some a=>rw[e]at h2;cases h2;rfl
  obtain⟨u,hu,rv⟩:=r.get ha
  have hp:ps[i]?=some y:=by
   rw[<- S.pre,List.getElem?_take_of_lt ∅];exact h1
  have ndP:ps.Nodup:=by rw[<- S.pre];exact S.nd.sublist (DH _ _)
  refine⟨u,rv,?_⟩;rcases S.par y (cQ hp)with k | k
  ·exact .inl ⟨k,rh ndP hp hu k⟩
  ·obtain⟨c,e⟩:=vJ (n:=s.heap.objs.size+1) k;refine .inr ⟨.inl k,c,e,?_⟩;have q:=x.cell y c e;rw[rl ndP hp hu (by show scope.names.lookup y≠_;rw[k];decide)]at q;exact q
 ·exact e0.bI.fresh (qK (x.above y c (oH h)))
 ·unfold start;show _=N.length;rw[cI,ay,MH];omega
theorem SF {CX : Em} {P : Program} {w : World} {K : Frag} {mg : Str -> Option Value} {base : Heap} {k : Nat} {f : Addr} {name qual : Str} {params : Arguments} {body : List Stmt} {scope : Scope} {dV kV doc pm qu ct oc : Value} {an od : Option Addr}
    {LF:Array (Option Value)} {N ps:List Str} {sp:Sp} (lk:K.lookup f=some ⟨oc,od,.func (PySem.W.fnOf name qual params body scope dV kV doc pm an qu ct),LF⟩) (Hy:PySem.W.codeIn K qu qual=true) (S:kG N ps scope)
    (len:∀vs H Q E,sp vs H Q E->vs.length=ps.length)
    (Ep:∀(A:Around)(outer:List Env)(s:Shared)(H:Hp)(vs:List V)(Q:VK)(E:XK),jB k (A.deeper (envOfC qual scope s.heap.objs.size f qu))->sp vs H Q E ->
      ∃t,vD (yn CX P w K mg base N qual scope f qu A outer s H E) body t/\t {nx:=λ_ H'=>Q .aP H',rt:=Q} (start N vs) H) :
    iW P w K mg base CX (k+1) f (PySem.W.fnOf name qual params body scope dV kV doc pm an qu ct) ps sp:=by
  refine⟨len,λA outer s H args us vs Q E hr e0 hb r Hz=>?_⟩;have hl:=len _ _ _ _ Hz;have KX:K.In s.heap:=e0.mod.RX.keeps λb o e=>(e0.bs b o e).1;have lim:s.heap.NoLimit:=e0.mod.nolimit.keeps λb o e=>(e0.bs b o e).1
  have Er:∀y∈ps.zip us,scope.names.lookup y.1=some .local\/(scope.names.lookup y.1=some .cell/\((cellsFrom (s.heap.objs.size+1) scope.names []).lookup y.1).isSome=true):=λ⟨n,v⟩ hy=>by
    rcases S.par n (List.of_mem_zip hy).1 with q | q
    · exact .inl q
    · exact .inr ⟨q,PySem.W.cellsFrom_some _ _ _ (.inl q)⟩
  refine codeAny_call_function hr.depth (KX _ _ lk) rfl S.co S.gen rfl (PySem.W.codeRec_of KX Hy) (hb _ _ _ _ ?_);refine wpAny_newFunctionEnv_cells S.kind Er λenv he s1 x=>?_;subst he;refine⟨lim.keeps x.toInCall.keep,codeAny_func ?_⟩;obtain⟨t,ht,hq⟩:=Ep A outer s H vs Q E (hr.deeper _) Hz;have I:Inv (yn CX P w K mg base N qual scope f qu A outer s H E) [] (start N vs) H s1:=Cb S hr.hd e0 hl r x;refine oN (ht [] s1 (start N vs) H _ I hq) (λfl s' hs=>?_) λe s' hs=>hs
  have fin:∀{dD:St}{H':Hp}{v:V}{u:Value},Inv (yn CX P w K mg base N qual scope f qu A outer s H E) [] dD H' s'->RelV v u->Q v H'->CE outer P w H s Q u s' :=
    λ{dD H' v u} J rv q=>⟨v,H',J.os,J.bare,J.base,J.bI,rv,q⟩
  cases fl with
  | ret u =>
    obtain⟨v,dD,H',J,rv,q⟩:=hs;exact fin J rv q
  | next =>
    obtain⟨dD,H',J,q⟩:=hs;exact fin (v:=V.aP) (u:=Value.none) J rfl q
  | brk =>
    obtain⟨_,_,_,q⟩:=hs;exact False.elim q
  | cont =>
    obtain⟨_,_,_,q⟩:=hs;exact False.elim q
section
variable {X:Cx} {x:Str} {p pos:Pos} {e:Expr} {es:List Expr} {t:TA} {id T:String} {r:List V->Hp->VK->Prop}
noncomputable def XR(r:List V->Hp->VK->Prop)(t:TA):TE:=λσ H Q=>t σ H λvs H1=>r vs H1 Q
theorem fO(hc:dX X (.builtin id) r)(hg:Gl X x)(hm:X.mg x=none)(hv:bootBuiltins x=some (.builtin id))(ha:PA X (e::es) t) (hn:x≠ "__name__" := by decide) (NK:(x==("__debug__" : Str))=false:=by decide) (he:starEach (e::es) X.env=(false,eval e X.env)::starEach es X.env:=by rfl) (sY:(backTo pos (starEach es X.env)).any (·.1)=false:=by rfl):PE X (.Call (.Name x p) (e::es) [] pos) (XR r t):=by
 intro aa s σ H Q I h;refine wpAny_Call_Name_kw (jW I hg hm hv ?_ hn NK);exact PyProof.Rows.callWith_builtin1 (cJ (ha pos aa s σ H _ I h) λus s1 ⟨vs,H1,I1,r1,q1⟩=>hc aa s1 σ H1 vs us Q I1 r1 q1) he sY
theorem gQ(hc:dX X (.type T) r)(hg:Gl X x)(hm:X.mg x=none)(hv:bootBuiltins x=some (.type T))(ha:PA X (e::es) t) (hn:x≠ "__name__" := by decide) (NK:(x==("__debug__" : Str))=false:=by decide) (he:starEach (e::es) X.env=(false,eval e X.env)::starEach es X.env:=by rfl) (sY:(backTo pos (starEach es X.env)).any (·.1)=false:=by rfl):PE X (.Call (.Name x p) (e::es) [] pos) (XR r t):=by
 intro aa s σ H Q I h;refine wpAny_Call_Name_kw (jW I hg hm hv ?_ hn NK);exact DD (cJ (ha pos aa s σ H _ I h) λus s1 ⟨vs,H1,I1,r1,q1⟩=>hc aa s1 σ H1 vs us Q I1 r1 q1) he sY
end
section
variable {κ:Type} [DecidableEq κ]
noncomputable def kH(ag:List (κ×V))(k:κ):Option V:=(ag.find? λkv=>decide (kv.1=k)).map (·.2)
noncomputable def eC(ag:List (κ×V))(k:κ)(v:V):List (κ×V) :=
 if (ag.any λkv=>decide (kv.1=k))=true then ag.map (λkv=>if kv.1=k then (kv.1,v) else kv) else ag++[(k,v)]
theorem kI{p:κ×V}{r:List (κ×V)}{k:κ}(e:p.1=k):kH (p::r) k=some p.2:=by simp[kH,hU,e]
theorem iX{p:κ×V}{r:List (κ×V)}{k:κ}(e:¬p.1=k):kH (p::r) k=kH r k:=by simp[kH,hU,e]
theorem vK(k:κ):∀ag:List (κ×V),(ag.any λkv=>decide (kv.1=k))=(kH ag k).isSome
 | []=>rfl
 | p::r=>by
  rw[DZ];by_cases e:p.1=k
  ·simp only[kI e,fh e,Bool.true_or,Option.isSome_some]
  ·rw[iX e,dO e,Bool.false_or];exact vK k r
theorem iY(ag:List (κ×V))(k:κ)(v:V):(eC ag k v).length<=ag.length+1:=by
 unfold eC;split
 ·rw[ay];omega
 ·rw[cI,iP,Ii];omega
theorem jV.gR(r:jV o u):o.isSome=u.isSome:=by
 cases o with
 | none=>cases u with
  | none=>rfl
  | some _=>exact(show False from r).elim
 | some _=>cases u with
  | none=>exact(show False from r).elim
  | some _=>rfl
theorem KV.val{ag:List (κ×V)}{vs:List (κ×Value)}(r:KV ag vs)(k:κ):jV (kH ag k) (valueAt vs k):=by
 unfold KV at r
 induction r with
 | nil=>exact True.intro
 | @cons p q ps qs h t ih =>
  obtain⟨h1,h2⟩:=h;by_cases e:p.1=k
  ·have e':q.1=k:=h1.symm.trans e;have b:valueAt (q::qs) k=some q.2:=by simp[valueAt,hU,e']
   rw[kI e,b];exact h2
  ·have e':¬q.1=k:=λz=>e (h1.trans z);have b:valueAt (q::qs) k=valueAt qs k:=by simp[valueAt,hU,e']
   rw[iX e,b];exact ih
theorem KV.any(r:KV ag vs)(k:κ):(ag.any λkv=>decide (kv.1=k))=vs.any λkv=>decide (kv.1=k):=by
 unfold KV at r
 induction r with
 | nil=>rfl
 | cons h t ih=>rw[DZ,DZ,ih,h.1]
theorem KV.NL(r:KV ag vs)(k:κ)(ry:RelV y u):KV (ag.map λkv=>if kv.1=k then (kv.1,y) else kv) (vs.map λkv=>if kv.1=k then (kv.1,u) else kv):=by
 unfold KV at r⊢
 induction r with
 | nil=>exact .nil
 | @cons p q ps qs h t ih =>
  rw[fi,fi];refine .cons ?_ ih;obtain⟨h1,h2⟩:=h;by_cases e:p.1=k
  ·rw[ar e,ar (h1.symm.trans e)];exact⟨h1,ry⟩
  ·rw[aq e,aq (λz=>e (h1.trans z))];exact⟨h1,h2⟩
theorem KV.put(r:KV ag vs)(k:κ)(ry:RelV y u):KV (eC ag k y) (stored vs k u):=by
 unfold eC stored;rw[r.any k];by_cases e:(vs.any λkv=>decide (kv.1=k))=true
 ·rw[ar e,ar e];exact r.NL k ry
 ·rw[aq e,aq e];exact Paired.snoc r ⟨rfl,ry⟩
theorem KV.length(r:KV ag vs):ag.length=vs.length:=DY r
end
theorem rm(r:RelV (kV k) u):(bA P w).is k u=true:=by
 cases k with
 | inl i=>obtain⟨t,e⟩:=(show ∃t,u=Value.int i t from r);subst e;exact vp P w i t
 | inr x=>obtain⟨t,e⟩:=(show ∃t,u=Value.str x t from r);subst e;exact vq P w x t
theorem rn:∀{ks:List bN}{us:List Value},aY (ks.map kV) us->ItemsAre (bA P w) ks us
 | [],_,r=>by rw[oM]at r;cases r;exact .nil
 | k::ks,_,r=>by
  rw[fi]at r
  cases r with
  | cons h t=>exact .cons (rm h) (rn t)
abbrev KT(H:Hp):List (List bN×V)->List (List bN×Addr×Value)->Prop:=Paired λp q=>p.1=q.1/\H q.2.1=some (.tup (p.1.map kV))/\RelV p.2 q.2.2
theorem KT.val{H:Hp}{ag:List (List bN×V)}{xs:List (List bN×Addr×Value)}(r:KT H ag xs)(k:List bN):jV (kH ag k) ((atKey xs k).map (·.2)):=by
 induction r with
 | nil=>exact True.intro
 | @cons p q ps qs h t ih =>
  obtain⟨h1,_,h2⟩:=h;by_cases e:p.1=k
  ·have e':q.1=k:=h1.symm.trans e;have b:atKey (q::qs) k=some q.2:=by simp[atKey,hU,e']
   rw[kI e,b];exact h2
  ·have e':¬q.1=k:=λz=>e (h1.trans z);have b:atKey (q::qs) k=atKey qs k:=by simp[atKey,hU,e']
   rw[iX e,b];exact ih
theorem KT.NL(r:KT H ag xs)(k:List bN)(ry:RelV y u):KT H (ag.map λkv=>if kv.1=k then (kv.1,y) else kv) (xs.map (putAt k u)):=by
 induction r with
 | nil=>exact .nil
 | @cons p q ps qs h t ih =>
  rw[fi,fi];refine .cons ?_ ih;obtain⟨h1,h2,h3⟩:=h;unfold putAt;by_cases e:p.1=k
  ·rw[ar e,ar (h1.symm.trans e)];exact⟨h1,h2,ry⟩
  ·rw[aq e,aq (λz=>e (h1.trans z))];exact⟨h1,h2,h3⟩
theorem KT.put(r:KT H ag xs)(k:List bN)(hb:H b=some (.tup (k.map kV)))(ry:RelV y u):KT H (eC ag k y) (storedH xs k b u):=by
 have e:(ag.any λkv=>decide (kv.1=k))=(atKey xs k).isSome:=by
  rw[vK,(r.val k).gR,BE]
 unfold eC storedH;rw[e];by_cases q:(atKey xs k).isSome=true
 ·rw[ar q,ar q];exact r.NL k ry
 ·rw[aq q,aq q];exact Paired.snoc r ⟨rfl,hb,ry⟩
theorem KT.keeps(r:KT H ag xs)(ht:∀b ys,H b=some (.tup ys)->H' b=some (.tup ys)):KT H' ag xs :=
 Paired.Na r λ_ _ z=>⟨z.1,ht _ _ z.2.1,z.2.2⟩
section
variable {P:Program} {w:World} {H:Hp} {h:Heap} {a:Addr}
theorem LG(ok:jE P w H h)(e:Rd H a u):bH P w H h a u:=e.ok ok
theorem vL(ok:jE P w H h)(e:Rd H a (.dK ag)):ag.length<=sizeLine/\(a==sysModules)=false/\∃vs,KV ag vs/\h.DictOf (bA P w) a vs :=
 show bH P w H h a (.dK ag) from LG ok e
theorem vM(ok:jE P w H h)(e:H a=some (.dK ag)):ag.length<=sizeLine/\(a==sysModules)=false/\∃vs,KV ag vs/\h.DictOf (bA P w) a vs:=vL ok (.inl e)
theorem oU(ok:jE P w H h)(e:H a=some (.tup (ks.map kV))):(tupleKind (bA P w)).is h ks a:=by
 obtain⟨_,aA,r,o,h1,h2,n,h3⟩:=(show bH P w H h a (.tup (ks.map kV)) from ok a _ e);exact⟨o,aA.toArray,n,h1,h2,h3,by simpa using rn r⟩
theorem vN(ok:jE P w H h)(e:Rd H a (.dT ag)):ag.length<=sizeLine/\(a==sysModules)=false/\∃xs,KT H ag xs/\h.DictOfH (tupleKind (bA P w)) a xs:=by
 obtain⟨z,y,xs,r,o,es,ep,h1,h2,h3,h4,h5⟩:=(show bH P w H h a (.dT ag) from LG ok e);refine⟨z,y,xs,r,o,es,ep,h1,h2,h3,h4,λx hx=>?_,h5⟩
 have all:∀{l:List (List bN×V)}{m:List (List bN×Addr×Value)},KT H l m->∀x∈m,(tupleKind (bA P w)).is h x.1 x.2.1:=by
  intro l m q
  induction q with
  | nil=>intro x hx;exact nomatch hx
  | @cons p q ps qs hq t ih =>
   intro x hx;rcases bT.mp hx with e | hx
   ·subst e;exact oU ok (by rw[<- hq.1];exact hq.2.1)
   ·exact ih x hx
 exact all r x hx
theorem SG(ok:jE P w H h)(e:H a=some (.dT ag)):ag.length<=sizeLine/\(a==sysModules)=false/\∃xs,KT H ag xs/\h.DictOfH (tupleKind (bA P w)) a xs:=vN ok (.inl e)
end
def kJ(H:Hp)(a:Addr)(y:V)(r:Option V):Prop :=
 (∃ag k,Rd H a (.dK ag)/\y=kV k/\r=kH ag k)\/∃ag k b,Rd H a (.dT ag)/\y=.ref b/\H b=some (.tup (k.map kV))/\r=kH ag k
def yp(H:Hp)(a:Addr)(y v:V)(H':Hp):Prop :=
 (∃ag k,H a=some (.dK ag)/\y=kV k/\ag.length<sizeLine/\H'=upd H a (.dK (eC ag k v))) \/
 ∃ag k b,H a=some (.dT ag)/\y=.ref b/\H b=some (.tup (k.map kV))/\ag.length<sizeLine/\H'=upd H a (.dT (eC ag k v))
theorem kJ.k{H:Hp}{a:Addr}{ag:List (bN×V)}{k:bN}(e:H a=some (.dK ag)):kJ H a (kV k) (kH ag k):=.inl ⟨ag,k,.inl e,rfl,rfl⟩
theorem yp.k{H:Hp}{a:Addr}{ag:List (bN×V)}{k:bN}{v:V}(e:H a=some (.dK ag))(hl:ag.length<sizeLine):yp H a (kV k) v (upd H a (.dK (eC ag k v))):=.inl ⟨ag,k,e,rfl,hl,rfl⟩
theorem yp.t{k:List bN}{v:V}(e:H a=some (.dT ag))(eb:H b=some (.tup (k.map kV)))(hl:ag.length<sizeLine):yp H a (.ref b) v (upd H a (.dT (eC ag k v))):=.inr ⟨ag,k,b,e,rfl,eb,hl,rfl⟩
section
variable {X:Cx} {aa:List (Addr×Obj)} {σ:St} {H:Hp} {s:Shared} {a:Addr} {y v:V} {u r:Value} {o:Option V} {A:Around} {E:Value->Shared->Prop}
theorem Inv.big(I:Inv X aa σ H s):sysModules<s.heap.objs.size:=by
 have h:mainGlobals<s.heap.objs.size:=(I.mod.glob.keeps I.bk).lt;exact D0 (by decide) h
theorem l_(hu:A.units+1<cLine)(I:Inv X aa σ H s)(g:kJ H a y (some v))(ry:RelV y u)(h:∀w' s',Inv X aa σ H s'->RelV v w'->Q w' s'):wpAny (model X.prog X.w) A (getItem (.ref a) u) Q E s:=by
 rcases g with⟨ag,k,e,ey,l⟩|⟨ag,k,b,e,ey,eb,l⟩
 ·subst ey;obtain⟨z,hd,vs,oV,dd⟩:=vL I.bI e;obtain⟨w',hw,yq⟩:=jV.some_of (v:=v) (o:=valueAt vs k) (by rw[l];exact oV.val k);exact wpAny_getItem_of (rm ry) dd.mapOf hw (h w' _ (I.tok _) yq)
 ·subst ey;cases (show u=Value.ref b from ry);obtain⟨z,hd,xs,oV,dd⟩:=vN I.bI e;obtain⟨w',hw,yq⟩:=jV.some_of (v:=v) (o:=(atKey xs k).map (·.2)) (by rw[l];exact oV.val k);obtain⟨p,hp,hp2⟩:=MC.mp hw;refine wpAny_getItem_heap (HZ hu) (oU I.bI eb) dd hp ?_;rw[hp2];exact h w' _ (I.tok _) yq
theorem XS(hu:A.units+1<cLine)(I:Inv X aa σ H s)(g:kJ H a y o)(ry:RelV y u)(h:∀s',Inv X aa σ H s'->Q (.bool o.isSome) s'):wpAny (model X.prog X.w) A (compareOp .In u (.ref a)) Q E s:=by
 rcases g with⟨ag,k,e,ey,l⟩|⟨ag,k,b,e,ey,eb,l⟩
 ·subst ey;obtain⟨z,hd,vs,oV,dd⟩:=vL I.bI e;refine wpAny_in_of (rm ry) hd dd.mapOf ?_;rw[<- (oV.val k).gR,<- l];exact h _ (I.tok _)
 ·subst ey;cases (show u=Value.ref b from ry);obtain⟨z,hd,xs,oV,dd⟩:=vN I.bI e;refine wpAny_in_heap (HZ hu) (oU I.bI eb) hd dd ?_;have q:=(oV.val k).gR;rw[BE]at q;rw[<- q,<- l];exact h _ (I.tok _)
theorem IK(hu:A.units+1<cLine)(I:Inv X aa σ H s)(g:kJ H a y o)(ry:RelV y u)(h:∀s',Inv X aa σ H s'->Q (.bool (!o.isSome)) s'):wpAny (model X.prog X.w) A (compareOp .NotIn u (.ref a)) Q E s:=by
 rcases g with⟨ag,k,e,ey,l⟩|⟨ag,k,b,e,ey,eb,l⟩
 ·subst ey;obtain⟨z,hd,vs,oV,dd⟩:=vL I.bI e;refine wpAny_notIn_of (rm ry) hd dd.mapOf ?_;rw[<- (oV.val k).gR,<- l];exact h _ (I.tok _)
 ·subst ey;cases (show u=Value.ref b from ry);obtain⟨z,hd,xs,oV,dd⟩:=vN I.bI e;refine wpAny_notIn_heap (HZ hu) (oU I.bI eb) hd dd ?_;have q:=(oV.val k).gR;rw[BE]at q;rw[<- q,<- l];exact h _ (I.tok _)
theorem sZ(I:Inv X aa σ H s)(mu:RU (H a))(hs:Heap.SameBut a s.heap h')(he:∃q,h'.get? a=some q)(new:bH X.prog X.w (upd H a ob) h' a ob):Inv X aa σ (upd H a ob) {s with heap:=h',toks:=t'} :=
 I.write (x:=a) (e:=a) mu (.inl rfl) (λb q hb z=>(hs.2 b hb).trans z) he new
theorem Es(z:ag.length<=sizeLine)(hd:(a==sysModules)=false)(oV:KV ag vs)(dd:h'.DictOf (bA P w) a vs):bH P w H' h' a (.dK ag):=⟨z,hd,vs,oV,dd⟩
theorem rq{H':Hp}{Q:Unit->Shared->Prop}(hu:A.units+1<cLine)(I:Inv X aa σ H s)(g:yp H a y v H')(ry:RelV y u)(rv:RelV v r)(h:∀s',Inv X aa σ H' s'->Q () s'):wpAny (model X.prog X.w) A (setItem (.ref a) u r) Q E s:=by
 rcases g with⟨ag,k,e,ey,l,eH⟩|⟨ag,k,b,e,ey,eb,l,eH⟩
 ·subst ey eH;obtain⟨z,hd,vs,oV,dd⟩:=vM I.bI e;have hz:vs.length<=sizeLine:=by rw[<- oV.length];exact z
  have hl:(eC ag k v).length<=sizeLine:=by have:=iY ag k v;omega
  refine wpAny_setItem_pairs (hsz:=hz) (rm ry) dd λh' NM hs=>h _ ?_;have he:∃q,h'.get? a=some q:=let ⟨q,_,_,hq,_⟩:=NM;⟨q,hq⟩
  exact sZ I (by rw[e];exact True.intro) hs he (Es hl hd (oV.put k rv) NM)
 ·subst ey eH;cases (show u=Value.ref b from ry);obtain⟨z,hd,xs,oV,dd⟩:=SG I.bI e;have hz:xs.length<=sizeLine:=by rw[<- DY oV];exact z
  have hl:(eC ag k v).length<=sizeLine:=by have:=iY ag k v;omega
  refine wpAny_setItem_heap (hsz:=hz) (HZ hu) (oU I.bI eb) dd λh' NM hs=>h _ ?_;obtain⟨q,es,ep,hq,h2,h3,h4,_,h5⟩:=NM;refine sZ I (by rw[e];exact True.intro) hs ⟨q,hq⟩ ⟨hl,hd,_,(oV.put k eb rv).keeps λc ys ec=>?_,q,es,ep,hq,h2,h3,h4,h5⟩;rw[az (RS ec e (λz=>nomatch z))];exact ec
end
theorem iZ{X:Cx}{aa:List (Addr×Obj)}{σ:St}{H:Hp}{s:Shared}{a:Addr}{y:V}{o:Option V}(I:Inv X aa σ H s)(g:kJ H a y o):s.TypeIs (.ref a) "dict" := by
 rcases g with⟨ag,k,e,_,_⟩|⟨ag,k,b,e,_,_,_⟩
 ·obtain⟨_,_,vs,_,dd⟩:=vL I.bI e;exact dd.typeIs
 ·obtain⟨_,_,xs,_,dd⟩:=vN I.bI e;exact dd.typeIs
theorem vO{P:Program}{w:World}{H:Hp}(h:Heap)(hb:sysModules<h.objs.size):bH P w H (h.push {cls:=.type "dict",data:=.dict #[]}) h.objs.size (.dK []) :=
 ⟨lV _,lP.mpr (cW (b_ hb)),[],.nil,Heap.DictOf.new h⟩
theorem Et{P:Program}{w:World}{H:Hp}(h:Heap)(hb:sysModules<h.objs.size):bH P w H (h.push {cls:=.type "dict",data:=.dict #[]}) h.objs.size (.dT []) :=
 ⟨lV _,lP.mpr (cW (b_ hb)),[],.nil,_,#[],0,cj _ rfl,⟨rfl,rfl,rfl⟩,rfl,rfl,DV⟩
def NN:TE:=λ_ H Q=>∀p,H p=none->Q (.ref p) (upd H p (.dK []))
def NO:TE:=λ_ H Q=>∀p,H p=none->Q (.ref p) (upd H p (.dT []))
section
variable {X:Cx} {pos:Pos}
theorem Eu:PE X (.Dict [] [] pos) NN:=λaa s σ H Q I h =>
 wpAny_Dict_empty ⟨.ref s.heap.objs.size,_,I.laid (a:=s.heap.objs.size) (o:=.dK []) (t':=s.toks) (λ_ _ q=>aO _ q) (aH _) (vO s.heap I.big),rfl,h _ (I.bI.fresh (aH _))⟩
theorem Ew:PE X (.Dict [] [] pos) NO:=λaa s σ H Q I h =>
 wpAny_Dict_empty ⟨.ref s.heap.objs.size,_,I.laid (a:=s.heap.objs.size) (o:=.dT []) (t':=s.toks) (λ_ _ q=>aO _ q) (aH _) (Et s.heap I.big),rfl,h _ (I.bI.fresh (aH _))⟩
end
noncomputable def ic:List (TE×TE)->St->Hp->(List (V×V)->Hp->Prop)->Prop
 | [],_,H,Q=>Q [] H
 | (tk,tv)::r,σ,H,Q=>tk σ H λx H1=>tv σ H1 λy H2=>ic r σ H2 λps H3=>Q ((x,y)::ps) H3
abbrev VV:List (V×V)->List (Value×Value)->Prop:=Paired λp q=>RelV p.1 q.1/\RelV p.2 q.2
def Q8(X:Cx)(pos:Pos)(keys:List (Option Expr))(values:List Expr)(qN:List (TE×TE)):Prop :=
 ∀(aa:List (Addr×Obj))(s:Shared)(σ:St)(H:Hp)(Q:List (V×V)->Hp->Prop),Inv X aa σ H s->ic qN σ H Q ->
  wpAny (model X.prog X.w) X.A (evalPairs (pairTrees keys values X.env pos)) (λvs s'=>∃ps H',Inv X aa σ H' s'/\VV ps vs/\Q ps H') X.xe s
theorem IL:Q8 X pos [] [] []:=λaa s σ H Q I h=>pairTrees_nil_walk ⟨[],H,I,.nil,h⟩
theorem Ey(hk:PE X k tk)(hv:PE X v tv)(hr:Q8 X pos ks vs qN):Q8 X pos (some k::ks) (v::vs) ((tk,tv)::qN):=λaa s σ H Q I h =>
 pairTrees_cons_walk (cJ (hk aa s σ H _ I h) λu s1 ⟨x,H1,I1,rx,q1⟩=>cJ (hv aa s1 σ H1 _ I1 q1) λw2 s2 ⟨y,H2,I2,ry,q2⟩ =>
  cJ (hr aa s2 σ H2 _ I2 q2) λws s3 ⟨ps,H3,I3,oV,q3⟩=>⟨(x,y)::ps,H3,I3,.cons ⟨rx,ry⟩ oV,q3⟩)
def gE(ag more:List (bN×V)):List (bN×V):=more.foldl (λacc kv=>eC acc kv.1 kv.2) ag
theorem KV.merge:∀{more:List (bN×V)}{rs:List (bN×Value)}{ag:List (bN×V)}{vs:List (bN×Value)},KV more rs->KV ag vs->KV (gE ag more) (merged vs rs):=by
 intro more rs ag vs r;unfold KV at r
 induction r generalizing ag vs with
 | nil=>intro q;exact q
 | @cons p q ps qs h t ih =>
  intro r0
  have e:KV (eC ag p.1 p.2) (stored vs q.1 q.2):=by
   have:=r0.put p.1 h.2;rw[<- h.1];exact this
  exact ih e
theorem jJ:∀(more ag:List (bN×V)),(gE ag more).length<=ag.length+more.length
 | [],ag=>by show ag.length<=ag.length+0;omega
 | p::r,ag=>by
  have h1:=jJ r (eC ag p.1 p.2);have h2:=iY ag p.1 p.2;show(gE (eC ag p.1 p.2) r).length<=_;rw[iP];omega
theorem oW:∀{ag:List (bN×V)}{ws:List (Value×Value)},VV (ag.map λkv=>(kV kv.1,kv.2)) ws->∃rs,Carries (bA P w) ws rs/\KV ag rs
 | [],_,r=>by rw[oM]at r;cases r;exact⟨[],True.intro,.nil⟩
 | p::ag,_,r=>by
  rw[fi]at r
  cases r with
  | @cons a b as bs h t =>
   obtain⟨rs,c,q⟩:=oW (P:=P) (w:=w) t;obtain⟨b1,b2⟩:=b;exact⟨(p.1,b2)::rs,⟨rm h.1,rfl,c⟩,.cons ⟨rfl,h.2⟩ q⟩
def SH(qN:List (TE×TE)):TE:=λσ H Q=>∀p,H p=none->ic qN σ (upd H p (.dK [])) λps H2=>H2 p=some (.dK [])/\∃ag:List (bN×V),ps=ag.map (λkv=>(kV kv.1,kv.2))/\ag.length<=15/\Q (.ref p) (upd H2 p (.dK (gE [] ag)))
theorem IM(h:Q8 X pos keys values qN)(yt:keys.all (·.isSome)=true)(hl:keys.length=values.length)(h0:keys≠[])(SI:keys.length<=15):PE X (.Dict keys values pos) (SH qN):=by
 intro aa s σ H Q I q;have hn:=I.bI.fresh (aH s.heap.objs.size);have I1:=I.laid (a:=s.heap.objs.size) (o:=.dK []) (h':=s.heap.push {cls:=.type "dict",data:=.dict #[]}) (t':=s.toks) (λ_ _ q=>aO _ q) (aH _) (vO s.heap I.big);refine wpAny_Dict_walk (knd:=bA X.prog X.w) yt hl h0 SI (cJ (h aa _ σ _ _ I1 (q _ hn)) ?_);rintro ws s2 ⟨ps,H2,I2,oV,e,ag,rfl,lk,q2⟩;obtain⟨rs,c,rk⟩:=oW (P:=X.prog) (w:=X.w) oV;obtain⟨z,hd,vs0,r0,dd⟩:=vM I2.bI e;cases r0;refine⟨rs,c,dd,λh' NM hs=>⟨.ref s.heap.objs.size,_,?_,rfl,q2⟩⟩
 have hz:(gE [] ag).length<=sizeLine:=by
  have h1:=jJ ag [];rw[Ii]at h1;rw[BV];omega
 have he:∃q,h'.get? s.heap.objs.size=some q:=let ⟨q,_,_,hq,_⟩:=NM;⟨q,hq⟩
 exact sZ I2 (by rw[e];exact True.intro) hs he (Es hz hd (rk.merge .nil) NM)
structure M1 (X:Cx) (o:Expr) (m:Str) (sX:Pos) (e:Expr) (fC:Pos):Prop where
 base:attributeBase o m X.env (eval o X.env)=eval o X.env
 few:((backTo fC (starEach [e] X.env)).all (λx=>!x.1)&&(backToKw fC (keywordEach [] X.env)).all (λx=>x.1.isSome)
  && decide (([e]:List Expr).length+([]:List Keyword).length+(if ([]:List Keyword).isEmpty then 0 else 1)<30))=true
 line:(sX.endLine==fC.line)=true
 trees:backTo fC (starEach [e] X.env)=[(false,eval e X.env)]
structure M2 (X:Cx) (o:Expr) (m:Str) (sX:Pos) (e f:Expr) (fC:Pos):Prop where
 base:attributeBase o m X.env (eval o X.env)=eval o X.env
 few:((backTo fC (starEach [e,f] X.env)).all (λx=>!x.1)&&(backToKw fC (keywordEach [] X.env)).all (λx=>x.1.isSome)
  && decide (([e,f]:List Expr).length+([]:List Keyword).length+(if ([]:List Keyword).isEmpty then 0 else 1)<30))=true
 line:(sX.endLine==fC.line)=true
 trees:backTo fC (starEach [e,f] X.env)=[(false,eval e X.env),(false,eval f X.env)]
end L2
namespace HT
open PySem PyProof.Rows
section
open PySem.SeqAt
open PySem.AutoSeq1 (wpAny_loadPart')
open PySem.MeetsSeq PySem.MeetsSeq2 PySem.MeetsSeq3
end
section
variable {prog:Program} {w:World} {A:Around} {E:Value->Shared->Prop} {s:Shared}
theorem IP(ht:IsTup s.heap t vs.toArray)(hb:IsTup s.heap b ws.toArray)(hv:vs≠[])(h1:ws=[]->Q (.ref t) s) (h2:ws≠[]->Q (.ref s.heap.objs.size) {s with heap:=s.heap.push {cls:=.type "tuple",data:=.seq (vs++ws).toArray}}) (hsz:vs.length+ws.length<=sizeLine):wpAny (model prog w) A (binaryOp .Add (.ref t) (.ref b)) Q E s:=by
 obtain⟨⟨cls,dd,data,sl⟩,ho,hc,n,hd⟩:=id ht;obtain⟨⟨XT,VW,data2,VX⟩,zT,Dp,n2,hd2⟩:=id hb;simp only at hc hd Dp hd2;subst hc hd Dp hd2;have e:vs.toArray++ws.toArray=(vs++ws).toArray:=by simp
 by_cases hw:ws=[]
 ·exact concat_meets ⟨_,ho,rfl⟩ ⟨_,zT,rfl⟩ noFill_tuple_add seq_tuple_add MD Mz (Mx _ _)
   (tuple_addW1 t b vs.toArray ws.toArray n n2 dd VW sl VX (by simpa using hv) (by simp[hw])) ⟨ho,zT,h1 hw⟩
 ·refine concat_meets ⟨_,ho,rfl⟩ ⟨_,zT,rfl⟩ noFill_tuple_add seq_tuple_add MD Mz (Mx _ _)
   (tuple_addW2 t b vs.toArray ws.toArray n n2 dd VW sl VX (by simpa using hv) (by simpa using hw) (by rw[cG,cG];exact hsz)) ⟨ho,zT,?_⟩
  rw[e];exact h2 hw
noncomputable def eI(n d:Nat):Option Int->Nat
 | none=>d
 | some v=>if v<0 then (v+(n:Int)).toNat else min v.toNat n
theorem NP(n d:Nat)(hd:d<=n)(o:Option Int):eI n d o<=n:=by
 cases o with
 | none=>exact hd
 | some v =>
  show(if v<0 then (v+(n:Int)).toNat else min v.toNat n)<=n;by_cases hv:v<0
  ·rw[ar hv];omega
  ·rw[aq hv];exact Nat.min_le_right _ _
theorem zU(v:Int)(n d:Nat):(if v<0 then max (v+(n:Int)) 0 else min v (n:Int))=((eI n d (some v):Nat):Int):=by
 show(if v<0 then max (v+(n:Int)) 0 else min v (n:Int))=(((if v<0 then (v+(n:Int)).toNat else min v.toNat n):Nat):Int);by_cases hv:v<0
 ·simp only[ar hv];omega
 ·simp only[aq hv];omega
theorem yu(lo hi:Option Int)(n:Nat):Builtin.Slice.sliceAdjust lo hi 1 (n:Int)=(((eI n 0 lo:Nat):Int),((eI n n hi:Nat):Int)):=by
 have h1:¬((1:Int)<0):=∅;unfold Builtin.Slice.sliceAdjust;simp only[h1,jU];refine Prod.ext ?_ ?_
 ·cases lo with
  | none=>rfl
  | some v=>exact zU v n 0
 ·cases hi with
  | none=>rfl
  | some v=>exact zU v n n
theorem yv(i j:Nat):Builtin.Slice.slicePlaces (i:Int) (j:Int) 1=j-i:=by
 unfold Builtin.Slice.slicePlaces;have h1:(1:Int)>0:=∅;simp only[h1,e_,Int.ediv_one];split<;>omega
theorem oX(p:IsPart v o)(h:Q o s):wpAny (model prog w) A (Builtin.Slice.slicePartIndex v) Q E s:=by
 cases p with
 | none=>exact slicePart_none h
 | int i t=>exact slicePart_int h
theorem ma{lo hi:Option Int}{n:Nat}(hs:s.heap.IsSliceOf sl vl vu .none)(pl:IsPart vl lo)(pu:IsPart vu hi)(h:Q (((eI n 0 lo:Nat):Int),1,eI n n hi-eI n 0 lo) s):wpAny (model prog w) A (Builtin.Slice.sliceApplied (.ref sl) (pure (n:Int))) Q E s:=by
 obtain⟨os,Ez,SJ,Dq⟩:=id hs;unfold Builtin.Slice.sliceApplied Builtin.Slice.sliceFields;refine af (af (e9 Ez Dq (x:=vl) rfl (af (e9 Ez Dq (x:=vu) rfl (af (e9 Ez Dq (x:=.none) rfl (ah ?_)))))));refine af (slicePart_none ?_);show wpAny _ _ (if ((1:Int)==0)=true then _ else _) _ _ s;rw[aq (by decide)];refine af (oX pl (af (oX pu (af (ah ?_)))));show wpAny _ _ (match Builtin.Slice.sliceAdjust lo hi 1 (n:Int)with | (lo,hi)=>pure (lo,(1:Int),Builtin.Slice.slicePlaces lo hi 1)) _ _ s;rw[yu lo hi n];show wpAny _ _ (pure (((eI n 0 lo:Nat):Int),(1:Int),Builtin.Slice.slicePlaces ((eI n 0 lo:Nat):Int) ((eI n n hi:Nat):Int) 1)) _ _ s;rw[yv];exact ah h
theorem EA(xs:Array Value)(i k:Nat):((List.range k).filterMap λ(m:Nat)=>xs[((i:Int)+(m:Int)*1).toNat]?).toArray=((xs.toList.drop i).take k).toArray:=by
 have e:(λ(m:Nat)=>xs[((i:Int)+(m:Int)*1).toNat]?)=λm=>xs[i+m]?:=by
  funext m;have:((i:Int)+(m:Int)*1).toNat=i+m:=∅;rw[this]
 rw[e];have:=pick_run xs i k;rw[MR]at this;have e2:((λx=>xs[x]?)∘λx=>i+x)=λm=>xs[i+m]?:=rfl;rw[e2]at this;rw[this]
theorem kK{lo hi:Option Int}(ht:IsTup s.heap t items)(hs:s.heap.IsSliceOf sl vl vu .none)(pl:IsPart vl lo)(pu:IsPart vu hi)(hw:¬(eI items.size 0 lo=0/\eI items.size items.size hi=items.size)) (h:Q (.ref s.heap.objs.size) {s with heap:=s.heap.push {cls:=.type "tuple",data:=.seq ((items.toList.drop (eI items.size 0 lo)).take (eI items.size items.size hi-eI items.size 0 lo)).toArray}}) (hsz:items.size<=sizeLine):wpAny (model prog w) A (getItem (.ref t) (.ref sl)) Q E s:=by
 have zV:sizeOk (.seq ((items.toList.drop (eI items.size 0 lo)).take (eI items.size items.size hi-eI items.size 0 lo)).toArray):=by
  show((items.toList.drop (eI items.size 0 lo)).take (eI items.size items.size hi-eI items.size 0 lo)).toArray.size<=sizeLine;rw[cG,hG,Ie,nA];omega
 have hj:eI items.size items.size hi<=items.size:=NP _ _ (aH _) hi;obtain⟨os,Ez,SJ,Dq⟩:=id hs;have XU:s.TypeIs (.ref sl) "slice" := ⟨os,Ez,SJ⟩;unfold getItem
 try with_reducible refine hV ?_
 first | refine af (ah ?_) | skip
 refine af (wpAny_sequenceKey ht.typeIs (by decide) ?_)
 refine af (jy (name:=Str.ofString "__getitem__") ht.typeIs BB
  (fM BB ht.typeIs entry_tuple_getitem ?_ (args_tuple_getitem _ _)))
 show wpAny _ _ (Builtin.Tuple.tupleItemsOf (.ref t) >>= _) _ _ s;refine af (tupleItemsOf_ ht ?_);refine af (yd XU ?_);rw[ar (by decide)];refine af (ma hs pl pu ?_)
 have Q9:¬((((eI items.size 0 lo:Nat):Int)==0&&(1:Int)==1&&(eI items.size items.size hi-eI items.size 0 lo)==items.size)=true):=by
  intro q;rw[aW,aW]at q;have q1:((eI items.size 0 lo:Nat):Int)=0:=eq_of_beq q.1.1;have q2:eI items.size items.size hi-eI items.size 0 lo=items.size:=eq_of_beq q.2;exact hw ⟨∅,∅⟩
 show wpAny _ _ (if (((eI items.size 0 lo:Nat):Int)==0&&(1:Int)==1&&(eI items.size items.size hi-eI items.size 0 lo)==items.size)=true then _ else _) _ _ s;rw[aq Q9,EA]
 first
  | exact af (m:=Builtin.Tuple.tupleExact _) (eP (ah ⟨_,rfl,ah h⟩) zV)
  | exact af (m:=Builtin.Tuple.tupleExact _) (eP (af (ah (ah ⟨_,rfl,ah h⟩))) zV)
  | exact af (af (m:=Builtin.Tuple.tupleExact _) (eP (ah (ah ⟨_,rfl,ah h⟩)) zV))
  | exact af (af (m:=Builtin.Tuple.tupleExact _) (eP (ah ⟨_,rfl,ah h⟩) zV))
end
end HT
namespace L2
open PySem PySem.Spec PyProof.Rows
abbrev TO:=St->Hp->(Option Int->Hp->Prop)->Prop
noncomputable def PO(X:Cx)(e:Option Expr)(t:TO):Prop :=
 ∀(aa:List (Addr×Obj))(s:Shared)(σ:St)(H:Hp)(Q:Option Int->Hp->Prop),Inv X aa σ H s->t σ H Q ->
  wpAny (model X.prog X.w) X.A (evalPart e X.env) (λu s'=>∃o H',Inv X aa σ H' s'/\IsPart u o/\Q o H') X.xe s
def IQ:TO:=λ_ H Q=>Q none H
noncomputable def SM(t:TE):TO:=λσ H Q=>t σ H λx H1=>∃i,x=.int i/\Q (some i) H1
section
variable {X:Cx} {e:Expr} {te:TE} {lo hi:Option Expr} {tl th:TO} {pos p2:Pos}
theorem IS:PO X none IQ:=by
 intro aa s σ H Q I h;rw[evalPart_none];exact ah ⟨none,H,I,.none,h⟩
theorem IT(h:PE X e te):PO X (some e) (SM te):=by
 intro aa s σ H Q I hw;rw[evalPart_some];refine cJ (h aa s σ H _ I hw) ?_;rintro u s1 ⟨x,H1,I1,r1,q1⟩;obtain⟨i,rfl,q⟩:=q1;obtain⟨t,rfl⟩:=r1;exact⟨some i,H1,I1,.int i t,q⟩
def VY(X:Cx)(r:V->Option Int->Option Int->Hp->VK->Prop):Prop :=
 ∀(aa:List (Addr×Obj))(s:Shared)(σ:St)(H:Hp)(x:V)(v vl vu:Value)(lo hi:Option Int)(sl:Addr)(Q:VK),Inv X aa σ H s->RelV x v->s.heap.IsSliceOf sl vl vu .none->IsPart vl lo->IsPart vu hi->r x lo hi H Q ->
  ∃T id,typeLookup (.type T) "__getitem__" = pure (some (.builtin id))/\s.TypeIs v T/\wpAny (model X.prog X.w) X.A (getItem v (.ref sl)) (EP X aa σ Q) X.xe s
noncomputable def tSl(r:V->Option Int->Option Int->Hp->VK->Prop)(te:TE)(tl th:TO):TE:=λσ H Q=>te σ H λx H1=>tl σ H1 λl H2=>th σ H2 λu H3=>r x l u H3 Q
theorem EB(hr:VY X r)(he:PE X e te)(hl:PO X lo tl)(hu:PO X hi th):PE X (.Subscript e (.Slice lo hi none p2) pos) (tSl r te tl th):=by
 intro aa s σ H Q I h;refine Subscript_ (cJ (he aa s σ H _ I h) ?_);rintro v s1 ⟨x,H1,I1,r1,q1⟩;refine wpAny_Slice (cJ (hl aa s1 σ H1 _ I1 q1) λvl s2 ⟨l,H2,I2,pl,q2⟩=>cJ (hu aa s2 σ H2 _ I2 q2) λvu s3 ⟨u,H3,I3,pu,q3⟩=>?_);rw[evalPart_none];refine ah ?_;have I4:Inv X aa σ H3 {s3 with heap:=s3.heap.push {cls:=.type "slice",data:=.fields #[vl,vu,.none]}}:=I3.kept (t':=s3.toks) λb ob q=>aO _ q;obtain⟨T,id,hT,ht,hg⟩:=hr aa {s3 with heap:=s3.heap.push {cls:=.type "slice",data:=.fields #[vl,vu,.none]}} σ H3 x v vl vu l u s3.heap.objs.size Q I4 r1 (Heap.IsSliceOf.new ..) pl pu q3;show wpAny (model X.prog X.w) X.A (subscriptTail e (.Slice lo hi none p2) v (.ref s3.heap.objs.size)) (EP X aa σ Q) X.xe {s3 with heap:=s3.heap.push {cls:=.type "slice",data:=.fields #[vl,vu,.none]}};exact tail_any (ops:=[.ref s3.heap.objs.size,v]) ht hT hg (by with_unfolding_all rfl)
def vP(xs:List V)(lo hi:Option Int):List V:=(xs.drop (HT.eI xs.length 0 lo)).take (HT.eI xs.length xs.length hi-HT.eI xs.length 0 lo)
theorem mU(xs:List V)(lo hi:Option Int):(vP xs lo hi).length<=xs.length:=by
 unfold vP;rw[hG,Ie];omega
def XW(K:Frag):V->Option Int->Option Int->Hp->VK->Prop:=λx lo hi H Q=>∃a xs,x=.ref a/\fz K H a xs /\
 ¬(HT.eI xs.length 0 lo=0/\HT.eI xs.length xs.length hi=xs.length)/\∀p,H p=none->Q (.ref p) (upd H p (.tup (vP xs lo hi)))
theorem NQ:VY X (XW X.K):=by
 intro aa s σ H x v vl vu lo hi sl Q I rx hs pl pu h;obtain⟨a,xs,rfl,hx,hw,q⟩:=h;cases rx;obtain⟨aA,r,ht,hz⟩:=I.tuple hx;have aZ:aA.toArray.size=xs.length:=by rw[cG];exact r.length.symm
 refine⟨"tuple",_,BB.lookup,ht.typeIs,?_⟩;refine HT.kK ht hs pl pu (by rw[aZ];exact hw) ?_ (by rw[aZ];exact hz);rw[aZ];refine⟨.ref s.heap.objs.size,_,I.laid (t':=s.toks) (o:=.tup (vP xs lo hi)) (λb ob q=>aO _ q) (aH _) ?_,rfl,q _ (I.bI.fresh (aH _))⟩;exact⟨dW (mU xs lo hi) hz,_,(r.drop (HT.eI xs.length 0 lo)).take (HT.eI xs.length xs.length hi-HT.eI xs.length 0 lo),IsTup.new _ _⟩
def SN(K:Frag):R2:=λx y H Q=>∃a b xs ys,x=.ref a/\y=.ref b/\fz K H a xs/\fz K H b ys/\xs≠[]/\xs.length+ys.length<=sizeLine /\
 (ys=[]->Q (.ref a) H)/\(ys≠[]->∀p,H p=none->Q (.ref p) (upd H p (.tup (xs++ys))))
theorem aY.s_(r:aY xs us):us=[]↔xs=[]:=by
 cases r with
 | nil=>simp
 | cons _ _=>simp
theorem IU:jH X (binaryOp .Add) (SN X.K):=by
 sleep 11;obtain⟨a,b,xs,ys,rfl,rfl,ha,hb,hx,hz,q1,q2⟩:=h;cases rx;cases ry;obtain⟨aA,r1,p1,_⟩:=I.tuple ha;obtain⟨jY,r2,p2,_⟩:=I.tuple hb;refine HT.IP p1 p2 (λz=>hx (r1.s_.mp z)) (λz=>⟨.ref a,H,I,rfl,q1 (r2.s_.mp z)⟩) (λz=>?_) (by rw[<- r1.length,<- r2.length];exact hz);refine⟨.ref s.heap.objs.size,_,I.laid (t':=s.toks) (o:=.tup (xs++ys)) (λb ob q=>aO _ q) (aH _) ?_,rfl,q2 (λw=>z (r2.s_.mpr w)) _ (I.bI.fresh (aH _))⟩;exact⟨by rw[cI];exact hz,_,r1.append r2,IsTup.new _ _⟩
end
noncomputable def EC(n:Nat)(i:Int):Option Nat:=if 0<=i then (if i<n then some i.toNat else none) else if -(n:Int)<=i then some (i+n).toNat else none
def zW{α:Type}(xs:List α)(i:Int):Option α:=(EC xs.length i).bind λj=>xs[j]?
theorem zX(h:EC n i=some j):seqIndex? i n=some j/\j<n/\-(n:Int)<=i/\i<n:=by
 unfold EC at h;by_cases h0:0<=i
 ·rw[ar h0]at h;by_cases h1:i<n
  ·rw[ar h1]at h;have e:i.toNat=j:=bS h;exact⟨by rw[seqIndex_of h0 h1,e],∅,∅,h1⟩
  ·rw[aq h1]at h;cases h
 ·rw[aq h0]at h;by_cases h1:-(n:Int)<=i
  ·rw[ar h1]at h;have e:(i+n).toNat=j:=bS h;exact⟨by rw[seqIndex_neg ∅ h1,e],∅,h1,∅⟩
  ·rw[aq h1]at h;cases h
theorem tf{α:Type}{xs:List α}{i:Int}{v:α}(h:zW xs i=some v):∃j,seqIndex? i xs.length=some j/\xs[j]?=some v/\j<xs.length/\-(xs.length:Int)<=i/\i<xs.length:=by
 unfold zW at h
 cases e:EC xs.length i with
 | none=>rw[e]at h;cases h
 | some j =>
  rw[e]at h;obtain⟨h1,h2,h3,h4⟩:=zX e;exact⟨j,h1,h,h2,h3,h4⟩
noncomputable def zY(b:Expr):Prop:=∀o i,subscripted b false o i=operate [o,i] (getItem o i)
def Q_(X:Cx)(r:R2):Prop :=
 ∀(value jK:Expr)(aa:List (Addr×Obj))(s:Shared)(σ:St)(H:Hp)(x y:V)(v u:Value)(Q:VK),Inv X aa σ H s->RelV x v->RelV y u->r x y H Q ->
  subscripted jK false v u=operate [v,u] (getItem v u)->wpAny (model X.prog X.w) X.A (subscriptTail value jK v u) (EP X aa σ Q) X.xe s
def Ra(X:Cx)(id:String)(r:V->List V->Hp->VK->Prop):Prop :=
 ∀(aa:List (Addr×Obj))(s:Shared)(σ:St)(H:Hp)(x:V)(xs:List V)(v:Value)(us:List Value)(Q:VK),Inv X aa σ H s->RelV x v->aY xs us->r x xs H Q ->
  wpAny (model X.prog X.w) X.A (call (.builtin id) (v::us)) (EP X aa σ Q) X.xe s
section
variable {X:Cx} {a b:Expr} {ta tb:TE} {pos:Pos}
theorem LH{r:R2}(hr:Q_ X r)(ha:PE X a ta)(hb:PE X b tb)(hs:zY b):PE X (.Subscript a b pos) (IC r ta tb):=by
 intro aa s σ H Q I h;exact Subscript_ (Nw ha hb I h λv u s2 x y H2 I2 rx ry q=>hr a b aa s2 σ H2 x y v u Q I2 rx ry q (hs _ _))
def XX(K:Frag):R2:=λx y H Q=>∃p xs i v,x=.ref p/\y=.int i/\fb K H p xs/\zW xs i=some v/\Q v H
def XY(K:Frag):R2:=λx y H Q=>∃p xs i v,x=.ref p/\y=.int i/\fz K H p xs/\zW xs i=some v/\Q v H
def XZ:R2:=λx y H Q=>∃z i c,x=.str z/\y=.int i/\z.length<=sizeLine/\zW z.cps.toList i=some c/\Q (.str ⟨#[c]⟩) H
theorem IV:Q_ X (XX X.K):=by
 intro value jK aa s σ H x y v u Q I rx ry h hs;obtain⟨p,xs,i,z,rfl,rfl,hq,he,q⟩:=h;cases rx;obtain⟨t,rfl⟩:=ry;obtain⟨aA,r,pl,hz⟩:=I.list hq;obtain⟨j,h1,h2,h3,h4,h5⟩:=tf he;obtain⟨w,ew,yq⟩:=r.get h2;have hl:=r.length;have hn:=jX;have fin:EP X aa σ Q w s:=⟨z,H,I,yq,q⟩;by_cases h0:0<=i
 ·have hj:i.toNat=j:=by
   rw[seqIndex_of h0 h5]at h1;exact bS h1
  exact item_listR pl.isList h0 ∅ (by rw[hj];simpa using ew) fin hs
 ·have hj:(i+(aA.toArray.size:Int)).toNat=j:=by
   rw[seqIndex_neg ∅ h4]at h1;rw[cG,<- hl];exact bS h1
  exact subscriptTail_builtinR (x:=w) pl.isList.typeIs slot_list_getitem.lookup
   (wpAny_getItem_list_neg (Q:=λr s'=>r=w/\EP X aa σ Q r s') pl.isList ∅ (by rw[cG]<;>omega) ∅ (by rw[hj];simpa using ew) ⟨rfl,fin⟩) hs
theorem NR:Q_ X (XY X.K):=by
 intro value jK aa s σ H x y v u Q I rx ry h hs;obtain⟨p,xs,i,z,rfl,rfl,hq,he,q⟩:=h;cases rx;obtain⟨t,rfl⟩:=ry;obtain⟨aA,r,pl,hz⟩:=I.tuple hq;obtain⟨j,h1,h2,h3,h4,h5⟩:=tf he;obtain⟨w,ew,yq⟩:=r.get h2;have hl:=r.length;have hn:=jX;have fin:EP X aa σ Q w s:=⟨z,H,I,yq,q⟩
 exact subscriptTail_builtinR (x:=w) pl.typeIs slot_tuple_getitem.lookup
  (getItem_tuple (j:=j) (Q:=λr s'=>r=w/\EP X aa σ Q r s') pl ∅ ∅ (by rw[cG,<- hl];exact h1) (by simpa using ew) ⟨rfl,fin⟩) hs
theorem NS:Q_ X XZ:=by
 intro value jK aa s σ H x y v u Q I rx ry h hs;obtain⟨z,i,c,rfl,rfl,hz,he,q⟩:=h;obtain⟨t,rfl⟩:=rx;obtain⟨t',rfl⟩:=ry;obtain⟨j,h1,h2,h3,h4,h5⟩:=tf he;have hl:z.cps.toList.length=z.length:=by simp[Str.length]
 rw[hl]at h1 h4 h5;have hn:=jX
 exact tail_any (typeIs_str s z t) slot_str_getitem.lookup (getItem_str (c:=c) (by
  have e1:decide (i < -(2 ^ 63:Int))=false:=dO ∅;have e2:decide (i ≥ 2 ^ 63)=false:=dO ∅;rw[e1,e2,Bool.or_false]) (by rw[h1];simpa using h2) ⟨.str ⟨#[c]⟩,H,I.tok _,⟨_,rfl⟩,q⟩) hs
theorem yw(aA:List Value)(n j:Nat)(u:Value):Obj.mapSeq (·.setIfInBounds j u) {cls:=.type "list",data:=.seq aA.toArray n}={cls:=.type "list",data:=.seq (aA.set j u).toArray n}:=by
 simp[Obj.mapSeq]
theorem Inv.lst(I:Inv X aa σ H s)(h:H p=some (.lst xs)):∃(aA:List Value) (n:Nat),aY xs aA/\s.heap.get? p=some {cls:=.type "list",data:=.seq aA.toArray n}/\xs.length<=sizeLine:=by
 obtain⟨z,aA,n,r,e⟩:=I.bI p _ h;exact⟨aA,n,r,e,z⟩
theorem Inv.NT{xs ys:List V}{aA its':List Value}{n n':Nat}(I:Inv X aa σ H s)(h:H p=some (.lst xs)) (ho:s.heap.get? p=some {cls:=.type "list",data:=.seq aA.toArray n}) (hf:f {cls:=.type "list",data:=.seq aA.toArray n}={cls:=.type "list",data:=.seq its'.toArray n'}) (r:aY ys its') (hz:ys.length<=sizeLine) (t:Nat):Inv X aa σ (upd H p (.lst ys)) {s with heap:=s.heap.update p f,toks:=t}:=by
 have e:(s.heap.update p f).get? p=some {cls:=.type "list",data:=.seq its'.toArray n'}:=by
  rw[oF f ho (by rw[hf]<;>rfl),hf]
 refine I.write (x:=p) (e:=p) (by rw[h];trivial) (.inl rfl) (λb u hb q=>(Heap.get?_update_other _ _ (cW hb)).trans q) ⟨_,e⟩ ?_;exact⟨hz,its',n',r,e⟩
def SO:V->V->V->Hp->(Hp->Prop)->Prop:=λo i v H Q=>∃p xs k j,o=.ref p/\i=.int k/\H p=some (.lst xs)/\EC xs.length k=some j/\Q (upd H p (.lst (xs.set j v)))
theorem ED:Iz X SO:=by
 intro aa s σ H o i v ov iv u Q I ro ri rv h;obtain⟨p,xs,k,j,rfl,rfl,hp,hj,q⟩:=h;cases ro;obtain⟨t,rfl⟩:=ri;obtain⟨aA,n,r,ho,hz⟩:=I.lst hp;obtain⟨h1,h2,h3,h4⟩:=zX hj;have hl:=r.length;have hn:=jX
 have I':Inv X aa σ (upd H p (.lst (xs.set j v))) {s with heap:=s.heap.update p (Obj.mapSeq (·.setIfInBounds j u))} :=
  I.NT hp ho (yw aA n j u) (r.set rv j) (by rw[kB];exact hz) s.toks
 by_cases h0:0<=k
 ·have hk:k.toNat=j:=by
   rw[seqIndex_of h0 h4]at h1;exact bS h1
  exact PySem.W.ki_setAt ho h0 ∅ (by rw[cG,<- hl];exact h4) (by rw[hk];exact⟨_,I',q⟩)
 ·have hk:(k+(aA.toArray.size:Int)).toNat=j:=by
   rw[seqIndex_neg ∅ h3]at h1;rw[cG,<- hl];exact bS h1
  exact PySem.W.ki_setBack ho ∅ (by rw[cG,<- hl];exact h3) ∅ (by rw[hk];exact⟨_,I',q⟩)
theorem tj(lo hi:Option Int)(n:Nat):(sliceBounds lo hi none n).1=((HT.eI n 0 lo:Nat):Int)/\(sliceBounds lo hi none n).2.1=((HT.eI n n hi:Nat):Int)/\(sliceBounds lo hi none n).2.2=1:=by
 refine⟨?_,?_,rfl⟩
 ·cases lo with
  | none=>simp[sliceBounds,HT.eI]
  | some i =>
   simp only[sliceBounds,HT.eI,Option.getD_none,show(1:Int)>0 by decide,e_];by_cases h:i<0
   ·simp only[h,e_]<;>omega
   ·simp only[h,jU]<;>omega
 ·cases hi with
  | none=>simp[sliceBounds,HT.eI]
  | some i =>
   simp only[sliceBounds,HT.eI,Option.getD_none,show(1:Int)>0 by decide,e_];by_cases h:i<0
   ·simp only[h,e_]<;>omega
   ·simp only[h,jU]<;>omega
theorem qO(aA:List Value)(lo hi:Option Int):slicePick aA.toArray lo hi none=((aA.drop (HT.eI aA.length 0 lo)).take (HT.eI aA.length aA.length hi-HT.eI aA.length 0 lo)).toArray:=by
 obtain⟨h1,h2,h3⟩:=tj lo hi aA.toArray.size;unfold slicePick;rw[h1,h2,h3];simp only[sliceRange_one,pick_run,cG]<;>rfl
def X0(K:Frag):V->Option Int->Option Int->Hp->VK->Prop:=λx lo hi H Q=>∃a xs,x=.ref a/\fb K H a xs/\∀p,H p=none->Q (.ref p) (upd H p (.lst (vP xs lo hi)))
theorem IW:VY X (X0 X.K):=by
 intro aa s σ H x v vl vu lo hi sl Q I rx hs pl pu h;obtain⟨a,xs,rfl,hx,q⟩:=h;cases rx;obtain⟨aA,r,ht,hz⟩:=I.list hx;have aZ:=r.length;refine⟨"list",_,slot_list_getitem.lookup,ht.isList.typeIs,?_⟩;refine wpAny_getItem_list_slice ht.isList hs pl pu .none (by simp) ?_ (by rw[cG]<;>omega);rw[qO,<- aZ];refine⟨.ref s.heap.objs.size,_,I.laid (t':=s.toks) (o:=.lst (vP xs lo hi)) (λb ob q=>aO _ q) (aH _) ?_,rfl,q _ (I.bI.fresh (aH _))⟩;exact⟨dW (mU xs lo hi) hz,_,0,(r.drop (HT.eI xs.length 0 lo)).take (HT.eI xs.length xs.length hi-HT.eI xs.length 0 lo),cj _ rfl⟩
theorem tm:dX X (.builtin "len") (λxs H Q=>∃p ys,xs=[.ref p]/\(fb X.K H p ys\/fz X.K H p ys)/\Q (.int ys.length) H):=by
 sleep 12;obtain⟨p,ys,rfl,hq,q⟩:=h;obtain⟨u,rfl,rx⟩:=vals1 r;cases rx;have hn:=jX;rcases hq with hq | hq
 ·obtain⟨aA,r',pl,hz⟩:=I.list hq;have aZ:=r'.length;exact Calls.call_len_list pl.isList (by simp only[cG]<;>omega) ⟨.int ys.length,H,I.tok _,⟨s.toks+1,by rw[cG,aZ]⟩,q⟩
 ·obtain⟨aA,r',pl,hz⟩:=I.tuple hq;have aZ:=r'.length;exact len_tuple pl (by simp only[cG]<;>omega) ⟨.int ys.length,H,I.tok _,⟨s.toks+1,by rw[cG,aZ]⟩,q⟩
theorem tq:dX X (.builtin "len") (λxs H Q=>∃z,xs=[.str z]/\z.length<=sizeLine/\Q (.int z.length) H):=by
 sleep 12;obtain⟨z,rfl,hz,q⟩:=h;obtain⟨u,rfl,t,rfl⟩:=vals1 r;have hn:=jX;exact len_str ∅ ⟨.int z.length,H,I.tok _,⟨_,rfl⟩,q⟩
theorem tu:dX X (.type "list") (λxs H Q=>∃p ys,xs=[.ref p]/\(fb X.K H p ys\/fz X.K H p ys)/\∀l,H l=none->Q (.ref l) (upd H l (.lst ys))):=by
  sleep 12;obtain⟨p,ys,rfl,hq,q⟩:=h;obtain⟨u,rfl,rx⟩:=vals1 r;cases rx
  have fin : ∀ (aA : List Value), aY ys aA -> ys.length <= sizeLine -> ∀ (h' : Heap) (c' : Nat), (∀ b o', s.heap.get? b = some o' -> h'.get? b = some o') ->
      h'.get? s.heap.objs.size=some {cls:=.type "list",dict:=none,data:=.seq aA.toArray c',slots:=#[]}->EP X aa σ Q (.ref s.heap.objs.size) {s with heap:=h'}:=λaA r' hz h' c' kp e =>
    ⟨.ref s.heap.objs.size,_,I.laid (t':=s.toks) kp (aH _) (show bH X.prog X.w _ h' _ (.lst ys) from ⟨hz,aA,c',r',e⟩),rfl,q _ (I.bI.fresh (aH _))⟩
  rcases hq with hq | hq
  · obtain⟨aA,r',pl,hz⟩:=I.list hq;have aZ:=r'.length;obtain⟨o,ho,hc,n,hd⟩:=pl.isList;exact call_list_seq p (.inl rfl) ho hc hd (λh' c' kp e=>fin aA r' hz h' c' kp e) (by simp only[cG]<;>omega)
  · obtain⟨aA,r',pl,hz⟩:=I.tuple hq;have aZ:=r'.length;obtain⟨o,ho,hc,n,hd⟩:=pl;exact call_list_seq p (.inr rfl) ho hc hd (λh' c' kp e=>fin aA r' hz h' c' kp e) (by simp only[cG]<;>omega)
theorem jL:dX X (.type "tuple") (λxs H Q=>∃p ys,xs=[.ref p]/\((fb X.K H p ys/\∀l,H l=none->Q (.ref l) (upd H l (.tup ys)))\/(fz X.K H p ys/\Q (.ref p) H))):=by
 sleep 12;obtain⟨p,ys,rfl,h⟩:=h;obtain⟨u,rfl,rx⟩:=vals1 r;cases rx;rcases h with⟨hq,q⟩|⟨hq,q⟩
 ·obtain⟨aA,r',pl,hz⟩:=I.list hq;have aZ:=r'.length;refine call_tuple_list pl.isList (λh' kp=>?_) (by simp only[cG]<;>omega);have I1:Inv X aa σ H {s with heap:=h'}:=I.kept (t':=s.toks) kp
  have I2:Inv X aa σ (upd H h'.objs.size (.tup ys)) {s with heap:=h'.push {cls:=.type "tuple",data:=.seq aA.toArray}} :=
   I1.laid (t':=s.toks) (λb o e=>aO _ e) (aH _) (show bH X.prog X.w _ _ _ (.tup ys) from ⟨hz,aA,r',IsTup.new _ _⟩)
  exact⟨.ref h'.objs.size,_,I2,rfl,q _ (I1.bI.fresh (aH _))⟩
 ·obtain⟨aA,r',pl,hz⟩:=I.tuple hq;exact call_tuple_same pl ⟨.ref p,H,I,rfl,q⟩
def X1(K:Frag)(T:String)(x:V)(H:Hp):Prop:=match x with
  | .str _=>T = "str"
  | .int _=>T = "int"
  | .ref p => (T = "list" /\ ∃ xs, fb K H p xs) \/ (T = "tuple" /\ ∃ o, K.lookup p = some o /\ o.cls = .type "tuple" /\ o.dict = none) \/
      (T = "dict" /\ ((∃ag,H p=some (.dK ag))\/∃ag,H p=some (.dT ag)))\/(T = "set" /\ ∃S n,H p=some (.set S n))
  | _=>False
theorem EE(I:Inv X aa σ H s)(r:RelV x v)(ty:X1 X.K T x H):s.TypeIs v T/\∀a,v=.ref a->∃ob,s.heap.get? a=some ob/\ob.dict=none:=by
 cases x with
 | str z =>
  obtain⟨t,rfl⟩:=r;cases (show T = "str" from ty);exact⟨typeIs_str s z t,λ_ e=>nomatch e⟩
 | int i =>
  obtain⟨t,rfl⟩:=r;cases (show T = "int" from ty);exact⟨typeIs_int s i t,λ_ e=>nomatch e⟩
 | ref p =>
  cases r;rcases ty with⟨rfl,xs,hq⟩|⟨rfl,o,hk,hc,hd⟩|⟨rfl,hk⟩|⟨rfl,S,n,hk⟩
  ·obtain⟨aA,_,pl,_⟩:=I.list hq;refine⟨pl.isList.typeIs,λa e=>?_⟩;cases e;obtain⟨o,n,e,c,hd,_⟩:=pl;exact⟨o,e,hd⟩
  ·refine⟨⟨o,I.vA p o hk,hc⟩,λa e=>?_⟩;cases e;exact⟨o,I.vA _ o hk,hd⟩
  ·have z:∃o,s.heap.get? p=some o/\o.ExactDict:=by
    rcases hk with⟨ag,hk⟩|⟨ag,hk⟩
    ·obtain⟨_,_,_,_,o,_,_,e,ex,_⟩:=I.bI p _ hk;exact⟨o,e,ex⟩
    ·obtain⟨_,_,_,_,o,_,_,e,ex,_⟩:=I.bI p _ hk;exact⟨o,e,ex⟩
   obtain⟨o,e,ex⟩:=z;refine⟨⟨o,e,ex.1⟩,λa e2=>?_⟩;cases e2;exact⟨o,e,ex.2.1⟩
  ·obtain⟨o,_,_,_,e,ex,_⟩:=I.bI p _ hk;refine⟨⟨o,e,ex.1⟩,λa e2=>?_⟩;cases e2;exact⟨o,e,ex.2.1⟩
 | _=>exact False.elim ty
def SQ(K:Frag)(T:String)(r:V->List V->Hp->VK->Prop)(to:TE):TE:=λσ H Q=>to σ H λx H1=>X1 K T x H1/\r x [] H1 Q
def tBM(K:Frag)(T:String)(r:V->List V->Hp->VK->Prop)(to:TE)(t:TA):TE:=λσ H Q=>to σ H λx H1=>X1 K T x H1/\t σ H1 λxs H2=>r x xs H2 Q
variable {o e:Expr} {es:List Expr} {to:TE} {t:TA} {name:Str} {sX fC:Pos} {T id:String} {r:V->List V->Hp->VK->Prop}
theorem yx(pa:PlainAttrs T)(slot:Slot T name id) (X2:typeOf (.builtin id)=pure (.type "method_descriptor")) (hm:Ra X id r) (ho:PE X o to) (vQ:attributeBase o name X.env (eval o X.env)=eval o X.env:=by rfl) (vR:(sX.endLine==fC.line)=true:=by rfl):PE X (.Call (.Attribute o name sX) [] [] fC) (SQ X.K T r to):=by
 intro aa s σ H Q I h;refine wpAny_Call_method0_late vQ vR (cJ (ho aa s σ H _ I h) ?_);rintro v s1 ⟨x,H1,I1,r1,ty,q1⟩;obtain⟨h1,h2⟩:=EE I1 r1 ty;exact⟨T,id,pa,slot,X2,h1,h2,ME rfl (PySem.evalArgs_none (hm aa s1 σ H1 x [] v [] Q I1 r1 .nil q1))⟩
theorem EF (pa : PlainAttrs T) (slot : Slot T name id) (X2 : typeOf (.builtin id) = pure (.type "method_descriptor")) (hm : Ra X id r) (ho : PE X o to) (ha : PA X (e :: es) t)
    (vQ:attributeBase o name X.env (eval o X.env)=eval o X.env:=by rfl)
    (vS:((backTo fC (starEach (e::es) X.env)).all (λx=>!x.1)&&(backToKw fC (keywordEach [] X.env)).all (λx=>x.1.isSome)
      && decide ((e::es).length+([]:List Keyword).length+(if ([]:List Keyword).isEmpty then 0 else 1)<30))=true:=by rfl)
    (vR:(sX.endLine==fC.line)=true:=by rfl) (hs:starEach (e::es) X.env=(false,eval e X.env)::starEach es X.env:=by rfl) (NU:(backTo fC (starEach es X.env)).any (·.1)=false:=by rfl) :
    PE X (.Call (.Attribute o name sX) (e::es) [] fC) (tBM X.K T r to t):=by
  intro aa s σ H Q I h;refine wpAny_Call_method_late vQ vS vR rfl (cJ (ho aa s σ H _ I h) ?_);rintro v s1 ⟨x,H1,I1,r1,ty,q1⟩;obtain⟨h1,h2⟩:=EE I1 r1 ty;refine⟨T,id,pa,slot,X2,h1,h2,?_⟩;have hA:=ha fC aa s1 σ H1 _ I1 q1;rw[hs]at hA⊢;refine ME (by show(false||(backTo fC (starEach es X.env)).any (·.1))=false;rw[NU]<;>rfl) (Calls.evalArgs_plain ?_);exact cJ hA λus s2 ⟨vs,H2,I2,r2,q2⟩=>hm aa s2 σ H2 x vs v us Q I2 r1 r2 q2
end
def X3(X:Cx)(id:String)(r:V->List V->Hp->VK->Prop):Prop :=
 ∀(aa:List (Addr×Obj))(s:Shared)(σ:St)(H:Hp)(x:V)(xs:List V)(v:Value)(us:List Value)(Q:VK),Inv X aa σ H s->RelV x v->aY xs us->r x xs H Q ->
  wpAny (model X.prog X.w) X.A (call (.builtin id) (v::us)) (EP X aa σ Q) X.xe s
theorem aY.one(h:aY [x] us):∃u,us=[u]/\RelV x u:=by
 cases h with
 | cons r t=>cases t;exact⟨_,rfl,r⟩
theorem aY.two(h:aY [x,y] us):∃u v,us=[u,v]/\RelV x u/\RelV y v:=by
 cases h with
 | cons r t=>obtain⟨v,rfl,q⟩:=aY.one t;exact⟨_,v,rfl,r,q⟩
theorem aY.dropLast(h:aY xs us):aY xs.dropLast us.dropLast:=by
 induction h with
 | nil=>exact .nil
 | cons r t ih =>
  cases t with
  | nil=>exact .nil
  | cons q t'=>exact .cons r ih
theorem aY.rep(h:aY xs us):∀k:Nat,aY (List.replicate k xs).flatten (List.replicate k us).flatten
 | 0=>.nil
 | k+1=>by
  rw[BC,BC,DI,DI];exact aY.append h (aY.rep h k)
theorem foldl_rep(aA:List Value):∀(k:Nat)(acc:List Value),List.foldl (λx1 x2=>x1++x2) acc.toArray (List.replicate k aA.toArray)=(acc++(List.replicate k aA).flatten).toArray
 | 0,acc=>by simp
 | k+1,acc=>by
  have e:acc.toArray++aA.toArray=(acc++aA).toArray:=by simp
  have e2:(acc++aA)++(List.replicate k aA).flatten=acc++(List.replicate (k+1) aA).flatten:=by
   rw[BC,DI,oI]
  rw[<- e2,<- foldl_rep aA k (acc++aA),<- e,BC,BO]
section
variable {X:Cx} {aa:List (Addr×Obj)} {σ:St} {H:Hp} {s:Shared} {l b:Addr} {xs ys zs:List V}
theorem Inv.IX{aA its':List Value}{n:Nat}{t':Nat}(I:Inv X aa σ H s)(hH:H l=some (.lst xs)) (e:s.heap.get? l=some {cls:=.type "list",data:=.seq aA.toArray n}) (hf:f aA.toArray=its'.toArray) (hv:aY ys its') (hz:ys.length<=sizeLine):Inv X aa σ (upd H l (.lst ys)) {s with heap:=s.heap.update l (Obj.mapSeq f),toks:=t'}:=by
 have q:=PySem.IsL.update e f;rw[hf]at q;refine I.write (x:=l) (e:=l) (by rw[hH];exact trivial) (.inl rfl) (λb' u hb hu=>(Heap.get?_update_other s.heap (Obj.mapSeq f) (cW hb)).trans hu) ⟨_,q⟩ ?_;exact⟨hz,its',_,hv,q⟩
theorem Inv.SS(I:Inv X aa σ H s)(hv:aY ys aA)(hz:ys.length<=sizeLine):Inv X aa σ (upd H s.heap.objs.size (.lst ys)) {s with heap:=s.heap.push {cls:=.type "list",data:=.seq aA.toArray},toks:=t'} :=
 I.laid (λ_ _ q=>aO _ q) (aH _) ⟨hz,aA,0,hv,cj _ rfl⟩
theorem Inv.fresh(I:Inv X aa σ H s):H s.heap.objs.size=none:=I.bI.fresh (aH _)
theorem Inv.vT(I:Inv X aa σ H s)(hH:H l=some (.lst xs)):xs.length<=sizeLine/\∃(aA:List Value) (n:Nat),aY xs aA/\xs.length=aA.length/\s.heap.get? l=some {cls:=.type "list",data:=.seq aA.toArray n}:=by
 obtain⟨z,aA,n,r,e⟩:=I.bI l _ hH;exact⟨z,aA,n,r,r.length,e⟩
theorem oY(h:n<=sizeLine):Builtin.List.listTooLong n=false:=by
 unfold Builtin.List.listTooLong;exact dO ∅
end
section
variable {X:Cx}
def IY:V->List V->Hp->VK->Prop:=λx vs H Q=>∃l xs y,x=.ref l/\vs=[y]/\H l=some (.lst xs)/\xs.length<sizeLine/\Q .aP (upd H l (.lst (xs++[y])))
theorem rB:X3 X "list.append" IY:=by
 intro aa s σ H x vs v us Q I rx rv h;obtain⟨l,xs,y,rfl,rfl,hH,hz,q⟩:=h;cases rx;obtain⟨u,rfl,ru⟩:=rv.one;obtain⟨z,aA,n,r,hl,e⟩:=I.vT hH;refine BY F.slot_list_append ⟨_,e,rfl⟩ F.entry_list_append (F.args_list_append_2 _ _) (PySem.list_append l aA.toArray n u (by rw[cG];omega)) ⟨e,?_⟩;refine⟨.aP,_,I.IX (its':=aA++[u]) hH e (by simp) (r.append (.cons ru .nil)) ?_,rfl,q⟩;rw[cI,List.length_singleton];omega
def IZ:V->List V->Hp->VK->Prop:=λx vs H Q=>∃l b xs zs,x=.ref l/\vs=[.ref b]/\H l=some (.lst xs)/\H b=some (.lst zs)/\xs.length+zs.length<=sizeLine/\Q .aP (upd H l (.lst (xs++zs)))
theorem Cc:X3 X "list.extend" IZ:=by
 intro aa s σ H x vs v us Q I rx rv h;obtain⟨l,b,xs,zs,rfl,rfl,hH,hB,hz,q⟩:=h;cases rx;obtain⟨u,rfl,ru⟩:=rv.one;cases ru;obtain⟨z,aA,n,r,hl,e⟩:=I.vT hH;obtain⟨z2,jY,n2,r2,Dr,e2⟩:=I.vT hB;have hsz:aA.toArray.size+jY.toArray.size<=sizeLine:=by rw[cG,cG];omega
 have vU:¬(!aA.toArray.isEmpty&&Builtin.List.listTooLong (aA.toArray.size+jY.toArray.size))=true:=by
  rw[oY hsz,Bool.and_false];exact aQ
 refine BY H_ ⟨_,e,rfl⟩ F.entry_list_extend (F.args_list_extend_2 _ _)
  (AutoSeq1.list_extend_list_list_0 l aA.toArray n b jY.toArray n2 vU (by rw[cG];omega) ∅) ⟨e,e2,?_⟩
 refine⟨.aP,_,I.IX (its':=aA++jY) hH e (by simp) (r.append r2) ?_,rfl,q⟩;rw[cI];omega
def X4:R2:=λx y H Q=>∃l b xs zs,x=.ref l/\y=.ref b/\H l=some (.lst xs)/\H b=some (.lst zs)/\xs.length+zs.length<=sizeLine/\∀p,H p=none->Q (.ref p) (upd H p (.lst (xs++zs)))
theorem NV:jH X (binaryOp .Add) X4:=by
 sleep 11;obtain⟨l,b,xs,zs,rfl,rfl,hH,hB,hz,q⟩:=h;cases rx;cases ry;obtain⟨z,aA,n,r,hl,e⟩:=I.vT hH;obtain⟨z2,jY,n2,r2,Dr,e2⟩:=I.vT hB;refine PySem.P.add_list e e2 ?_ (by rw[cG,cG];omega);have ea:aA.toArray++jY.toArray=(aA++jY).toArray:=by simp
 rw[ea];exact⟨.ref _,_,I.SS (t':=s.toks) (r.append r2) (by rw[cI];omega),rfl,q _ I.fresh⟩
def X5:R2:=λx y H Q=>∃l k xs,x=.ref l/\y=.int k/\H l=some (.lst xs)/\-(2 ^ 63)<=k/\k<2 ^ 63/\xs.length*k.toNat<=sizeLine /\
 ∀p,H p=none->Q (.ref p) (upd H p (.lst (List.replicate k.toNat xs).flatten))
theorem I0{α:Type}(xs:List α)(k:Nat):(List.replicate k xs).flatten.length=k*xs.length:=by
 induction k with
 | zero=>simp
 | succ k ih=>rw[BC,DI,cI,ih,Nat.succ_mul,Nat.add_comm]
theorem NW:jH X (binaryOp .Mult) X5:=by
 sleep 11;obtain⟨l,k,xs,rfl,rfl,hH,h1,h2,hz,q⟩:=h;cases rx;obtain⟨t,rfl⟩:=ry;obtain⟨z,aA,n,r,hl,e⟩:=I.vT hH;have aZ:aA.toArray.size*k.toNat<=sizeLine:=by rw[cG,<- hl];exact hz
 have EG:¬aA.toArray.size*k.toNat>(2 ^ 63-1) / 8:=by
  have:(sizeLine:Nat)<=(2 ^ 63-1) / 8:=by decide
  omega
 have X6:¬(!Builtin.List.listFitsIndex k)=true:=by
  rw[fitsIndex_both h1 h2];exact aQ
 have vU:¬Builtin.List.listTooLong (aA.toArray.size*k.toNat)=true:=by
  rw[oY aZ];exact aQ
 have mf:List.foldl (λx1 x2=>x1++x2) #[] (List.replicate (if aA.toArray.isEmpty=true then 0 else k.toNat) aA.toArray)=(List.replicate k.toNat aA).flatten.toArray:=by
  have f0:∀m:Nat,List.foldl (λx1 x2=>x1++x2) #[] (List.replicate m aA.toArray)=(List.replicate m aA).flatten.toArray:=λm=>by
   have:=foldl_rep aA m [];rw[List.nil_append]at this;exact this
  rw[f0]
  cases aA with
  | nil=>simp
  | cons a r'=>rw[aq (by simp)]
 refine wpAny_binaryOp_repeat_ref (T := "list") (U := "int") (by decide) ⟨_,e,rfl⟩ (λs'=>typeIs_int s' k t) noFill_list_mul F.fills_int_mul F.slot_int_rmul repeat_list F.slot_int_index.lookup
  (BY F.slot_int_rmul (typeIs_int s k t) F.entry_int_rmul (F.args_int_rmul_2 _ _) (int___rmul___int_list k t l aA.toArray n)
   ⟨e,rfl,⟨_,e,rfl⟩,BY F.slot_list_mul ⟨_,e,rfl⟩ F.entry_list_mul (F.args_list_mul_2 _ _) (AutoListH.list___mul___list_int_3 l aA.toArray n k t X6 EG vU) ⟨e,?_⟩⟩)
 rw[mf];exact⟨.ref _,_,I.SS (t':=s.toks) (r.rep k.toNat) (by rw[I0,Nat.mul_comm];exact hz),rfl,q _ I.fresh⟩
end
end L2
namespace Att
open PySem PySem.W PySem.Calls PyProof.Rows
theorem nK:∀(ns:List Int)(vs:List Value),WellAll P h vs (ns.map WData.int)->IntsAre vs ns:=by
 intro ns
 induction ns with
 | nil =>
  intro vs w;rw[oM]at w;cases w;exact .nil
 | cons n ns ih =>
  intro vs w;rw[fi]at w
  cases w with
  | cons a b =>
   cases a;exact .cons _ _ (ih _ b)
theorem Cd{l:OpenLaw}{n:Nat}(hn:l.most=some n){P:Params}{h:Heap}{args:List WData}{vals:List Value}(I_:l.row.toRowW.claim.pre args=true)(Ja:WellAll P h vals args):∃a vs ns,vals=[Value.ref a]/\args=[WData.list (ns.map WData.int)]/\h.get? a=some {cls:=.type "list",data:=.seq vs.toArray}/\IntsAre vs ns/\ns.length<=n:=by
 have hsh:WShape.hasAll [] args [.list .int]=true:=(pre_splitW I_).1;have hc:l.pre.holds [] {args:=args}=true:=(pre_splitW I_).2;obtain⟨d,r,rfl,h1,h2⟩:=hasAllW_cons hsh;obtain rfl:=hasAllW_nil h2;obtain⟨xs,rfl,h3⟩:=hasW_list h1;obtain⟨ns,rfl⟩:=items_int h3
 have aZ:ns.length<=n:=by
  unfold OpenLaw.pre at hc
  have h4:(WTm.not (.lt (.lit (.int (n:Int))) (.len (.arg 0)))).holds [] {args:=[.list (ns.map .int)]}=true:=by
   have h4:=(holds_andW hc).1;rw[hn]at h4;exact h4
  have h5:=condW_of h4 (w_not (w_lt w_lit (w_len_list (w_arg rfl))));rw[ay]at h5;refine Nat.le_of_not_lt λq=>?_;have q':(n:Int)<((ns.length:Nat):Int):=∅
  first
   | (rw[fh q']at h5;exact absurd h5 (by decide))
   | (simp at h5;omega)
 cases Ja with
 | cons w1 w2 =>
  cases w2
  cases w1 with
  | list ho yt=>exact⟨_,_,ns,rfl,rfl,ho,nK ns _ yt,aZ⟩
theorem Ce(l:OpenLaw)(args:List WData):l.row.toRowW.claim.post args (.bool true) args=true :=
 postW_of (r:=l.row.toRowW) (X:=(true==true))
  (show WShape.has [] (.bool true) .bool=true by first | rfl | decide | simp[WShape.has,WShape.arms,WShape.armsAll])
  (show(WTm.eq .res (.lit (.bool true))).value [] {args:=args,res:=some (.bool true),after:=args}=some (.bool (true==true)) from w_eq_bool (w_res rfl) w_lit) rfl
theorem vV {l : OpenLaw} {n : Nat} {q : Program} {loose : List Str} {XP : (Str -> Option Value) -> Heap -> Prop} {YP : World -> Heap -> Prop} {d : DefRec}
    (hn:l.most=some n) (LI:d.params.defaults=[])
    (call:∀(w:World)(fy bt:Shared)(mg mb:Str->Option Value)(fa:Addr)(o:Obj)(pm cd doc:Value)(a:Addr)(vs:List Value)(ns:List Int),
      Ground q loose [] XP w fy mg mb bt.heap->YP w bt.heap ->
      bt.heap.get? fa=some o->o.data=.func (docDef d.name d.params d.body d.scope pm cd doc)->bt.heap.CodeRec cd d.name->mg d.name=some (.ref fa) ->
      bt.heap.get? a=some {cls:=.type "list",data:=.seq vs.toArray}->IntsAre vs ns->ns.length<=n->bt.gens=#[] ->
      codeAny (model l.prog w) callerA (.call (.ref fa) ⟨[.ref a],[]⟩) (λr s'=>r=.ok (.ret (.bool true))/\OldK bt.heap s'.heap/\s'.os=bt.os/\AllBare s'.gens) bt) :
    WalkO q loose XP YP l.row.toRowW d [] (λf vs=>PySem.call f vs):=by
  intro w fy bt mg mb G Y fa o pm cd doc dV kV ho hd Hy hD SU hg args vals as I_ hlay Jb Ja Jc;obtain rfl:dV=.none:=Dflts.none hD LI;obtain rfl:kV=.none:=Dflts.noKw hD;obtain⟨a,vs,ns,rfl,rfl,NX,hints,aZ⟩:=Cd hn I_ Ja;refine enter_call (BU (call w fy bt mg mb fa o pm cd doc a vs ns G Y ho (fd_plain hd) Hy SU NX hints aZ hg) λr s' hq=>?_);obtain⟨rfl,h2,h3,h4⟩:=hq;exact⟨.inl ⟨.bool true,.bool true,[],rfl,λ_=>rfl,.bool true,Ce l _,λ_=>⟨List.Pairwise.nil,λ_ hm=>(nomatch hm)⟩⟩,h2,h3,h4⟩
end Att
namespace L2
open PySem PySem.Spec PyProof.Rows
theorem rC:∀{vs:List Value}{ns:List Int},IntsAre vs ns->aY (ns.map V.int) vs
 | _,_,.nil=>.nil
 | _,_,.cons n t h=>.cons ⟨t,rfl⟩ (rC h)
noncomputable def Jd(H:Hp):Prop:=∀b,H b=none\/∃o xs,H b=some (.dP o (.lst xs))
theorem EH{P:Program}{w:World}{K:Frag}{mg mb:Str->Option Value}{CX:Em}{k:Nat}{fa a:Addr}{fd:FuncData}{x:Str}{sp:Sp}{bt:Shared}{vs:List Value}{ns:List Int}(KX:K.In bt.heap)(mh:bt.heap.Ns mainGlobals mg)(hb:bt.heap.Ns builtinsNs mb) (X7:∀x:Str,x≠ "__name__" -> mb x=bootBuiltins x) (X8:bt.heap.NoLimit) (hg:bt.gens=#[]) (ha:bt.heap.get? a=some {cls:=.type "list",data:=.seq vs.toArray}) (hi:IntsAre vs ns) (hl:ns.length<=sizeLine) (hr:jB k callerA) (F:∀base:Heap,K.In base->base.Ns mainGlobals mg->iW P w K mg base CX k fa fd [x] sp) (SV:∀(s:Shared)(u:Value),BindsTo s fd ⟨[u],[]⟩ [(x,u)]) (Hz:∀H:Hp,Jd H->fb K H a (ns.map V.int)->sp [.ref a] H (λv _=>v=.bl true) λ_ _ _=>False) (X9:∀H e s',CX [] H bt (λ_ _ _=>False) e s'->False):codeAny (model P w) callerA (.call (.ref fa) ⟨[.ref a],[]⟩) (λr s'=>r=.ok (.ret (.bool true))/\OldK bt.heap s'.heap/\s'.os=bt.os/\AllBare s'.gens) bt:=by
  have rv:=rC hi;have X_:=hi.length
  have core : ∀ H : Hp, Jd H -> fb K H a (ns.map V.int) -> jE P w H bt.heap -> (∀ b, H b ≠ none -> b = a) -> (H a ≠ none -> K.lookup a = none) ->
      codeAny (model P w) callerA (.call (.ref fa) ⟨[.ref a],[]⟩) (λr s'=>r=.ok (.ret (.bool true))/\OldK bt.heap s'.heap/\s'.os=bt.os/\AllBare s'.gens) bt:=by
    intro H hO hS bI hA hK;have kL:∀{b:Addr}{o:Obj},bt.heap.get? b=some o->H b=none->(sN bt.heap H).get? b=some o:=λe n=>D2 e n
    have SE:∀{b:Addr}{o:Obj}{es:Array DictEntry}{ep:Nat},bt.heap.get? b=some o->o.data=.dict es ep->H b=none:=λ{b o es ep} e d=>by
      cases q:H b with
      | none=>rfl
      | some u =>
        have e':b=a:=hA b (by rw[q];simp);subst e';rw[ha]at e;cases e;have d':Data.seq vs.toArray _=Data.dict es ep:=d;cases d'
    have VZ:∀{b:Addr}{m:Str->Option Value},bt.heap.Ns b m->(sN bt.heap H).Ns b m:=λ{b m} ⟨o,es,ep,e,d,r⟩=>⟨o,es,ep,kL e (SE e d),d,r⟩
    have hKb:K.In (sN bt.heap H):=λb o e=>kL (KX b o e) (by
      cases q:H b with
      | none=>rfl
      | some u =>
        have e':b=a:=hA b (by rw[q];simp);subst e';rw[hK (by rw[q];simp)]at e;cases e)
    have hM:Mod K mg (sN bt.heap H):=⟨hKb,VZ mh,⟨mb,VZ hb,X7⟩,let ⟨mc,h1,h2⟩:=X8;⟨mc,VZ h1,h2⟩⟩;have e0:II P w K mg (sN bt.heap H) callerA [] bt H:=⟨rfl,hM,λb o e=>Il e,sJ (B0 _ _),trivial,λb hb=>absurd (show b∈([]:List Addr) from hb) (by simp),bI,.of_eq hg⟩;refine BU ((F _ hKb (VZ mh)).run callerA [] bt H ⟨[.ref a],[]⟩ [.ref a] [.ref a] _ _ hr e0 (SV bt (.ref a)) (.cons rfl .nil) (Hz H hO hS)) λr s' h=>?_
    cases r with
    | error e=>exact(X9 H e s' h).elim
    | ok fl =>
      cases fl with
      | next=>exact False.elim h
      | brk=>exact False.elim h
      | cont=>exact False.elim h
      | ret u =>
        obtain⟨v,H',os,bare,un,Yb,r',q⟩:=h;have q':v=.bl true:=q;subst q';obtain rfl:u=Value.bool true:=r';refine⟨rfl,OldK.of_keep λb o e=>?_,os,bare⟩
        cases q:H b with
        | none=>exact un.keep b o e q (by intro z;exact absurd (show b∈([]:List Addr) from z) (by simp)) (by simp)
        | some u =>
          rcases hO b with z | ⟨ob,xs,z⟩
          · rw[q]at z;cases z
          · have z2:=un.sM b ob _ z;obtain⟨e1,_⟩:=bI b _ z;obtain⟨e2,_⟩:=Yb b _ z2;rw[e]at e1;cases e1;exact e2
  cases hk:K.lookup a with
  | some o =>
    have e:=KX a o hk;rw[ha]at e;cases e;refine core (λ_=>none) (λ_=>.inl rfl) (.inr ⟨_,vs.toArray,_,hk,rfl,rfl,rfl,by rw[cG,X_];exact hl,by simpa using rv⟩) (λb u z=>by have z':(none:Option HO)=some u:=z;cases z') (λb z=>absurd rfl z) λz=>absurd rfl z
  | none =>
    refine core (λb=>if b=a then some (.dP {cls:=.type "list",data:=.seq vs.toArray} (.lst (ns.map V.int))) else none) (λb=>?_) (.inl (.inr ⟨{cls:=.type "list",data:=.seq vs.toArray},ar rfl⟩)) (λb u z=>?_) (λb z=>?_) λ_=>hk
    · by_cases hb:b=a
      · exact .inr ⟨_,_,ar hb⟩
      · exact .inl (aq hb)
    · by_cases hb:b=a
      · have z':=(ar hb).symm.trans z;cases z';subst hb;exact⟨ha,by rw[ay];exact hl,vs,_,rv,ha⟩
      · have z':=(aq hb).symm.trans z;cases z'
    · by_cases hb:b=a
      · exact hb
      · exact absurd (aq hb) z
theorem Je {l : PySem.W.OpenLaw} {n k : Nat} {q : Program} {loose : List Str} {XP : (Str -> Option Value) -> Heap -> Prop} {YP : World -> Heap -> Prop} {d : DefRec} {K : Params -> Frag} {CX : World -> Em} {sp : World -> Sp} {x : Str}
    (hn:l.most=some n) (vW:n<=sizeLine) (LI:d.params.defaults=[]) (hr:jB k callerA)
    (hY:∀(w:World)(h:Heap),YP w h->(K w.params).In h)
    (F:∀(w:World)(mg:Str->Option Value)(fa:Addr)(h:Heap),(K w.params).In h->h.Ns mainGlobals mg->mg d.name=some (.ref fa) ->
      ∃fd:FuncData,(∀(s:Shared)(u:Value),BindsTo s fd ⟨[u],[]⟩ [(x,u)]) /\
        ∀base:Heap,(K w.params).In base->base.Ns mainGlobals mg->iW l.prog w (K w.params) mg base (CX w) k fa fd [x] (sp w))
    (Hz:∀(w:World)(H:Hp)(a:Addr)(ns:List Int),ns.length<=n->Jd H->fb (K w.params) H a (ns.map V.int)->sp w [.ref a] H (λv _=>v=.bl true) λ_ _ _=>False)
    (X9:∀(w:World)(H:Hp)(s:Shared)(e:Value)(s':Shared),CX w [] H s (λ_ _ _=>False) e s'->False) :
    PySem.W.WalkO q loose XP YP l.row.toRowW d [] (λf vs=>PySem.call f vs):=by
  refine Att.vV hn LI λw fy bt mg mb fa o pm cd doc a vs ns G Y ho hd Hy SU NX hints aZ hg=>?_;have KX:=hY w _ Y;obtain⟨fd,hb,hF⟩:=F w mg fa _ KX G.T.g SU;exact EH KX G.T.g G.T.b G.T.builtins G.T.nolimit hg NX hints (dW aZ vW) hr hF hb (λH hO hS=>Hz w H a ns aZ hO hS) λH e s'=>X9 w H bt e s'
noncomputable def nR(s:Stmt):Arguments:=match s with
 | .FunctionDef _ a _ _ _ _ _ _ _ _=>a
 | _=>{posonlyargs:=[],args:=[],vararg:=none,kwonlyargs:=[],kw_defaults:=[],kwarg:=none,defaults:=[]}
noncomputable def fD(s:Stmt):List Stmt:=match s with
 | .FunctionDef _ _ b _ _ _ _ _ _ _=>b
 | _=>[]
noncomputable def bP(s:Stmt):Scope:=match s with
 | .FunctionDef _ _ _ _ _ _ sc _ _ _=>sc
 | _=>{kind:=.function,names:=[],isGenerator:=false,isCoroutine:=false}
abbrev Cf:Em:=λ_ _ _ _ _ _=>False
abbrev E0:XK:=λ_ _ _=>False
theorem SW:ym Cf X E0:=λ_ _ _ _ _ _ _ h=>h.elim
structure V0 (K:Frag) (x qual:Str) (st:Stmt) (f:Addr) (fd:FuncData):Prop where
 ex:∃(oc:Value) (od:Option Addr) (kV doc pm:Value) (an:Option Addr) (qu ct:Value) (LF:Array (Option Value)),
  fd=PySem.W.fnOf x qual (nR st) (fD st) (bP st) .none kV doc pm an qu ct/\K.lookup f=some ⟨oc,od,.func fd,LF⟩/\PySem.W.codeIn K qu qual=true
 kp:PySem.W.keepIn K (.ref f)=true
section
variable {P:Program} {w:World} {K:Frag} {mg:Str->Option Value} {base:Heap}
theorem V0.ok {x qual : Str} {st : Stmt} {f : Addr} {fd : FuncData} {N ps : List Str} {k : Nat} {sp : Sp} (F : V0 K x qual st f fd) (S : kG N ps (bP st)) (len : ∀ vs H Q E, sp vs H Q E -> vs.length = ps.length)
    (Ep:∀(qu:Value)(A:Around)(outer:List Env)(s:Shared)(H:Hp)(vs:List V)(Q:VK)(E:XK),jB k (A.deeper (envOfC qual (bP st) s.heap.objs.size f qu))->sp vs H Q E ->
      ∃t,vD (yn Cf P w K mg base N qual (bP st) f qu A outer s H E).R_ (fD st) t/\t {nx:=λ_ H'=>Q .aP H',rt:=Q} (start N vs) H):iW P w K mg base Cf (k+1) f fd ps sp:=by
  obtain⟨oc,od,kV,doc,pm,an,qu,ct,LF,rfl,lk,Hy⟩:=F.ex;refine SF lk Hy S len λA outer s H vs Q E hr Hz=>?_;obtain⟨t,h,q⟩:=Ep qu A outer s H vs Q E hr Hz;exact⟨t,h.R_,q⟩
theorem NY{x qual:Str}{st:Stmt}{f:Addr}{oc:Value}{od an:Option Addr}{LF:Array (Option Value)}{kV doc pm qu ct:Value}(l:K.lookup f=some ⟨oc,od,.func (PySem.W.fnOf x qual (nR st) (fD st) (bP st) .none kV doc pm an qu ct),LF⟩)(c:PySem.W.codeIn K qu qual=true)(k:PySem.W.keepIn K (.ref f)=true):V0 K x qual st f (PySem.W.fnOf x qual (nR st) (fD st) (bP st) .none kV doc pm an qu ct):=⟨⟨oc,od,kV,doc,pm,an,qu,ct,LF,rfl,l,c⟩,k⟩
end
section
variable {X:Cx}
theorem pv(i:Nat){x:Str}{pos:Pos}(hN:X.N[i]?=some x:=by rfl)(hv:VO X.env.scope x:=by first | exact Or.inl rfl | exact Or.inr (Or.inl rfl) | exact Or.inr (Or.inr rfl)) (hd:(x==("__debug__" : Str))=false:=by decide) (Hy:(x==("__classdict__" : Str))=false:=by decide):PE X (.Name x pos) (R5 i):=D7 hN hv hd Hy
end
end L2
end
section
namespace L2
open PySem PySem.Spec PyProof.Rows
section
variable {prog:Program} {w:World} {A:Around} {R:Result->Shared->Prop} {s:Shared}
theorem tw (I : Nat -> Shared -> Prop)
    (Ef:∀n s,I n s->wpAny (model prog w) A (pyNext it) (λr bt=>match r with
      | none=>R (.ok .next) bt
      | some v => wpAny (model prog w) A (letOwnedTupleGo oR it v) (fun _ LJ => wpAny (model prog w) A (assign oR env v) (fun _ B2 =>
          wpAny (model prog w) A (forIn ifs true λc r=>if r=true then do let ok <- isTrue c env (eval c env);pure (ForInStep.yield ok) else pure (ForInStep.yield r)) (λok EI =>
            if ok=true then wpAny (model prog w) A (eval elt env) (λx Cg =>
              wpAny (model prog w) A (call (.builtin "list.append") [acc,x]) (λ_ EJ=>∃m,m<n/\I m EJ) (λ_ _=>False) Cg) (λ_ _=>False) EI
            else ∃m,m<n/\I m EI) (λ_ _=>False) B2) (λ_ _=>False) LJ) (λ_ _=>False) bt) (λ_ _=>False) s)
    (n:Nat) (h:I n s):codeAny (model prog w) A (.compLoop (.ListComp elt [⟨oR,aJ,ifs,0⟩] scope pos) 0 it acc env) R s:=by
  refine codeAny_loop rfl I (λn s hI=>?_) n h;show wpAny _ A ((compTurn (.ListComp elt [⟨oR,aJ,ifs,0⟩] scope pos) 0 it acc env).onRaise (λx=>do noteFrame x env;theTreesLotGoes x)) _ _ s;refine wpAny_noted ?_;rw[compTurn_list];refine af (wpAny_standAt (af (oN (Ef n s hI) (λr bt Jf=>?_) λ_ _ h'=>h'.elim)))
  cases r with
  | none=>exact ah Jf
  | some v =>
    refine af (oN Jf (λ_ LJ SX=>?_) λ_ _ h'=>h'.elim);refine af (oN SX (λ_ B2 Yc=>af (oN Yc (λok EI SY=>?_) λ_ _ h'=>h'.elim)) λ_ _ h'=>h'.elim)
    cases ok with
    | false=>exact ah ⟨rfl,SY⟩
    | true =>
      exact af (af (oN SY (λx Cg Yd=>af (oN Yd (λ_ EJ Ye=>ah (ah ⟨rfl,Ye⟩)) λ_ _ h'=>h'.elim)) λ_ _ h'=>h'.elim))
end
theorem dc{x:Str}:∀(names:List (Str×NameKind))(n:Nat)(acc:List (Str×Addr)),(x,NameKind.cell)∉names->(cellsFrom n names acc).lookup x=acc.lookup x
 | [],_,_,_=>rfl
 | (y,k)::r,n,acc,h=>by
  unfold cellsFrom;split
  ·rename_i hk
   have hk:k=.cell:=eq_of_beq hk;subst hk;rw[dc r (n+1) _ (λz=>h (da _ z)),iH];have:(x==y)=false:=lP.mpr λz=>h (by subst z;exact dH);rw[this]
  ·exact dc r n acc λz=>h (da _ z)
theorem gF{x:Str}  : ∀(names:List (Str×NameKind))(n:Nat)(acc:List (Str×Addr)),(x,NameKind.cell)∈names->(cellsFrom n names acc).lookup x=some c->n<=c
 | [],_,_,h,_=>by cases h
 | (y,k)::r,n,acc,h,e=>by
  unfold cellsFrom at e;split at e
  ·by_cases hr:(x,NameKind.cell)∈r
   ·exact DJ (gF r (n+1) _ hr e)
   ·rw[dc r (n+1) _ hr,iH]at e
    have:x=y:=by
     rcases bT.mp h with z | z
     ·exact(Prod.mk.inj z).1
     ·exact absurd z hr
    subst this;simp at e;exact sJ e
  ·rename_i hk
   rcases bT.mp h with z | z
   ·exact absurd (by rw[<- (Prod.mk.inj z).2];rfl) hk
   ·exact gF r n acc z e
theorem gG{x:Str}:∀(names:List (Str×NameKind))(n:Nat)(acc:List (Str×Addr)),(x,NameKind.cell)∈names->∃c,(cellsFrom n names acc).lookup x=some c
 | [],_,_,h=>by cases h
 | (y,k)::r,n,acc,h=>by
  unfold cellsFrom;split
  ·by_cases hr:(x,NameKind.cell)∈r
   ·exact gG r (n+1) _ hr
   ·rw[dc r (n+1) _ hr,iH]
    have:x=y:=by
     rcases bT.mp h with z | z
     ·exact(Prod.mk.inj z).1
     ·exact absurd z hr
    subst this;simp
  ·rename_i hk
   rcases bT.mp h with z | z
   ·exact absurd (by rw[<- (Prod.mk.inj z).2];rfl) hk
   ·exact gG r n acc z
theorem gH:∀(names:List (Str×NameKind))(n:Nat)(acc:List (Str×Addr)),(∀x c,acc.lookup x=some c->c<n)->(∀x y c,acc.lookup x=some c->acc.lookup y=some c->x=y)->∀x y c,(cellsFrom n names acc).lookup x=some c->(cellsFrom n names acc).lookup y=some c->x=y
 | [],_,_,_,h=>h
 | (z,k)::r,n,acc,hb,h=>by
  unfold cellsFrom;split
  ·refine gH r (n+1) _ (λx c e=>?_) (λx y c e1 e2=>?_)
   ·rw[iH]at e;split at e
    ·cases e;exact iI _
    ·exact iG (hb x c e)
   ·rw[iH]at e1 e2;split at e1
    ·rename_i hx
     cases e1;split at e2
     ·rename_i hy
      rw[eq_of_beq hx,eq_of_beq hy]
     ·exact absurd (hb y _ e2) (iS _)
    ·split at e2
     ·cases e2;exact absurd (hb x _ e1) (iS _)
     ·exact h x y c e1 e2
  ·exact gH r n acc hb h
theorem fP{x:Str}  : ∀(names:List (Str×NameKind))(h:Heap)(acc:List (Str×Addr)),(cellsFrom h.objs.size names acc).lookup x=some c->acc.lookup x=some c\/(h.objs.size<=c/\(pushCells h names).IsCell c none)
 | [],_,_,e=>.inl e
 | (z,k)::r,h,acc,e=>by
  unfold cellsFrom at e;unfold pushCells;split at e
  ·rename_i hk
   rw[ar hk];have e':(cellsFrom (h.push {cls:=.type "cell",data:=.cell none}).objs.size r ((z,h.objs.size)::acc)).lookup x=some c:=by rw[iR];exact e
   rcases fP r (h.push {cls:=.type "cell",data:=.cell none}) _ e' with q | ⟨q1,q2⟩
   ·rw[iH]at q;split at q
    ·cases q;exact .inr ⟨aH _,_,pushCells_keeps _ _ _ _ (cj _ rfl),rfl⟩
    ·exact .inl q
   ·rw[iR]at q1;exact .inr ⟨DJ q1,q2⟩
  ·rename_i hk
   rw[aq hk];exact fP r h acc e
theorem tx {cl : List (Str × Addr)} {qual : Str} 
    (hQ:Q {scope:=scope,locals:=s.heap.objs.size,globals:=globals,cells:=cellsFrom (s.heap.objs.size+1) scope.names cl,qual:=qual,func:=none,code:=outer.code,frame:=outer.frame,builtins:=outer.builtins}
      {s with heap:=pushCells (s.heap.push {cls:=.type "dict",data:=.dict #[]}) scope.names}) :
    wpAny M A (newFunctionEnv scope globals cl [] qual none .none (some outer)) Q E s:=by
  simp only[newFunctionEnv,Option.isSome_some,e_];refine af (wpAny_alloc ?_);refine af (wpAny_layCells _ (λname kind cells=>by cases hkc:kind==NameKind.cell<;>simp[hkc]) _ _ _ _ ?_);rw[show({s with heap:=s.heap.push {cls:=.type "dict",data:=.dict #[]}}:Shared).heap.objs.size=s.heap.objs.size+1 from iR ..];rw[DW];exact af (ah (ah hQ))
noncomputable def Cx.block(X:Cx)(scope:Scope)(cl:List (Str×Addr))(C:Addr)(N':List Str)(s:Shared)(H:Hp)(fp:List Addr)(pn:List (Addr×Obj)):Cx :=
 {X with N:=N',fy:=s,vv:=H,env:=compEnvC scope (cellsFrom (C+1) scope.names cl) C X.env,outer:=X.stack,ex:=fp,fn:=λx=>scope.names.lookup x==some .cell,pn:=pn,xe:=λ_ _=>False}
structure NZ (X:Cx) (scope:Scope) (cl:List (Str×Addr)):Prop where
 is:closureFor scope X.env=pure cl
 sub:∀x c,cl.lookup x=some c->X.env.cells.lookup x=some c
 has:∀x,scope.names.lookup x=some .free->∃c,cl.lookup x=some c
theorem eD {env : Env} : ∀ {names : List (Str × NameKind)} {x : Str} {k : NameKind}, names.lookup x = some k ->
    (names.map λ(n,k)=>if (k==NameKind.free&&env.scope.kind == .function&&env.kindOf n==some .cell) then (n,NameKind.cell) else (n,k)).lookup x =
      some (if (k==NameKind.free&&env.scope.kind == .function&&env.kindOf x==some .cell) then .cell else k)
  | [],_,_,h=>by simp at h
  | (n,k')::r,x,k,h=>by
    have ih:=@eD env r x k;show List.lookup x ((if (k'==NameKind.free&&env.scope.kind == .function&&env.kindOf n==some .cell)=true then (n,NameKind.cell) else (n,k'))::_)=_
    cases hx:x==n with
    | true =>
      simp only[iH,hx]at h;cases h;have e:x=n:=by simpa using hx
      subst e;split<;>simp[iH]
    | false =>
      simp only[iH,hx]at h;by_cases hc:(k'==NameKind.free&&env.scope.kind == .function&&env.kindOf n==some .cell)=true
      · rw[ar hc];simp only[iH,hx];exact ih h
      · rw[aq hc];simp only[iH,hx];exact ih h
theorem jZ {env : Env} : ∀ {names : List (Str × NameKind)} {x : Str} {k : NameKind},
    (names.map λ(n,k)=>if (k==NameKind.free&&env.scope.kind == .function&&env.kindOf n==some .cell) then (n,NameKind.cell) else (n,k)).lookup x=some k ->
      ∃k',names.lookup x=some k'/\k=(if (k'==NameKind.free&&env.scope.kind == .function&&env.kindOf x==some .cell) then .cell else k')
  | names,x,k,h=>by
    cases q:names.lookup x with
    | some k' =>
      have:=eD (env:=env) q;rw[this]at h;exact⟨k',rfl,(bS h).symm⟩
    | none =>
      exfalso
      induction names with
      | nil=>simp at h
      | cons a r ih =>
        obtain⟨n,k'⟩:=a
        cases hx:x==n with
        | true=>simp[iH,hx]at q
        | false =>
          simp only[iH,hx]at q;have h':List.lookup x ((if (k'==NameKind.free&&env.scope.kind == .function&&env.kindOf n==some .cell)=true then (n,NameKind.cell) else (n,k'))::(r.map λ(n,k)=>if (k==NameKind.free&&env.scope.kind == .function&&env.kindOf n==some .cell) then (n,NameKind.cell) else (n,k)))=some k:=h;by_cases hc:(k'==NameKind.free&&env.scope.kind == .function&&env.kindOf n==some .cell)=true
          · rw[ar hc]at h';simp only[iH,hx]at h';exact ih h' q
          · rw[aq hc]at h';simp only[iH,hx]at h';exact ih h' q
noncomputable def kM(dE:List (Option Nat))(σ:St):St:=dE.map λo=>o.bind λj=>(σ[j]?).join
structure EK (X:Cx) (scope:Scope) (N':List Str) (dE:List (Option Nat)):Prop where
 len:dE.length=N'.length
 out:∀(i j:Nat)(x:Str),dE[i]?=some (some j)->N'[i]?=some x->X.N[j]?=some x/\scope.names.lookup x=some .free/\(X.env.kindOf x=some .cell\/X.env.kindOf x=some .free)
section
variable {X:Cx} {aa:List (Addr×Obj)} {σ:St} {H:Hp} {s:Shared} {scope:Scope} {cl:List (Str×Addr)} {N':List Str} {dE:List (Option Nat)} {fp:List Addr}
theorem vX{h1:Heap}(I:Inv X aa σ H s)(Er:scope.kind=.function)(zR:∀y∈scope.names,y.2=.cell->scope.names.lookup y.1=some .cell)(cs:NZ X scope cl)(co:EK X scope N' dE)(hf:∀b∈fp,lZ X aa H b)(ho:∀b∈fp,b<s.heap.objs.size)(mh:h1.Ns s.heap.objs.size (λ_=>none))(hk:∀b u,s.heap.get? b=some u->h1.get? b=some u)(mf:∀x c,(cellsFrom (s.heap.objs.size+1) scope.names cl).lookup x=some c->cl.lookup x=some c\/(s.heap.objs.size+1<=c/\h1.IsCell c none))(tk:Nat):Inv (X.block scope cl s.heap.objs.size N' s H fp []) [] (kM dE σ) H {s with heap:=h1,toks:=tk}:=by
 have I1:Inv X aa σ H {s with heap:=h1,toks:=tk}:=I.kept hk
 have Nc:∀x c,cl.lookup x=some c->c<s.heap.objs.size:=λx c e=>by
  obtain⟨v,q⟩:=I.cell x c (cs.sub x c e);exact q.lt
 have fr:H s.heap.objs.size=none:=I.bI.fresh (aH _)
 have same:∀x,scope.names.lookup x=some .free->(cellsFrom (s.heap.objs.size+1) scope.names cl).lookup x=cl.lookup x:=λx hx =>
  dc _ _ _ λz=>by have:=zR _ z rfl;rw[hx]at this;cases this
 refine⟨⟨I.ok.mod,Er,I.ok.glob,I.ok.blt,aH _,gH _ _ _ (λx c e=>iG (Nc x c e)) (λx y c a b=>I.ok.inj x y c (cs.sub _ _ a) (cs.sub _ _ b)),λx hx=>?_,λx c z e=>?_,I.ok.hd,I.ok.frames,.inl rfl,λb hb=>⟨?_,λx c e=>?_⟩,λb o e=>I.bs b o e,
  dW I.ok.Lu I.sz,λb o e hb=>?_,λb hb Ds=>?_,I.stack,I.zQ⟩,rfl,I.bare,Un.kept hk,⟨_,mh,λi x v e1 e2 e3=>?_⟩,λx c e=>?_,fr,λx c e=>?_,λp hp=>?_,I.bI.kept hk,?_⟩
 ·have hx:(relabel scope X.env).names.lookup x=some .cell\/(relabel scope X.env).names.lookup x=some .free:=hx
  have key:∃k',scope.names.lookup x=some k'/\(k'=.free\/k'=.cell):=by
   have go:∀k,(k=.cell\/k=.free)->(relabel scope X.env).names.lookup x=some k->∃k',scope.names.lookup x=some k'/\(k'=.free\/k'=.cell):=by
    intro k hk hx;obtain⟨k',e,ek⟩:=jZ hx;refine⟨k',e,?_⟩;by_cases z:k'=.free
    ·exact .inl z
    ·rw[aq (by cases k'<;>first | exact absurd rfl z | simp)]at ek;subst ek;rcases hk with hk | hk
     ·exact .inr hk
     ·exact .inl hk
   rcases hx with hx | hx
   ·exact go _ (.inl rfl) hx
   ·exact go _ (.inr rfl) hx
  obtain⟨k',e,Jg⟩:=key;show ∃c,(cellsFrom (s.heap.objs.size+1) scope.names cl).lookup x=some c;rcases Jg with z | z
  ·subst z;rw[same x e];exact cs.has x e
  ·subst z;exact gG _ _ _ (oH e)
 ·have z:(scope.names.lookup x==some .cell)=true:=z;have z:scope.names.lookup x=some .cell:=eq_of_beq z;exact DJ (gF _ _ _ (oH z) e)
 ·exact b_ (ho b hb)
 ·rcases mf x c e with q | ⟨q,_⟩
  ·exact(hf b hb).2.2.2.2.1 x c (cs.sub x c q)
  ·have V1:=ho b hb;intro z;rw[z]at q;exact absurd V1 (Nat.not_lt_of_le (DJ q))
 ·rcases(hf b hb).2.2.2.1 with z | z
  ·exact I.ok.D4 b o e z
  ·have h1:=bG e;have h2:=I.ok.Lu;exact absurd (gO h1 (dW h2 z)) (iS _)
 ·rcases bT.mp (I.ye b Ds)with z | z
  ·exact(hf b hb).2.1 z
  ·exact(hf b hb).2.2.1 z
 ·have e1:N'[i]?=some x:=e1;unfold kM at e2;rw[bc]at e2
  cases q:dE[i]? with
  | none=>rw[q]at e2;cases e2
  | some oj =>
   rw[q]at e2
   cases oj with
   | none=>cases e2
   | some j =>
    have S0:(σ[j]?).join=some v:=bS e2
    have Yg:σ[j]?=some (some v):=by
     cases r:σ[j]? with
     | none=>rw[r]at S0;cases S0
     | some ov=>rw[r]at S0;cases ov with
      | none=>cases S0
      | some z=>cases S0;rfl
    obtain⟨o1,o2,o3⟩:=co.out i j x q e1;obtain⟨m,hn,hl⟩:=I1.loc;obtain⟨u,r,l⟩:=hl j x v o1 Yg (o3.elim (λz=>.inr (.inl z)) λz=>.inr (.inr z));refine⟨u,r,.inr ⟨?_,?_⟩⟩
    ·show(relabel scope X.env).names.lookup x=some .cell\/(relabel scope X.env).names.lookup x=some .free;rw[show(relabel scope X.env).names.lookup x=_ from eD o2];split
     ·exact .inl rfl
     ·exact .inr rfl
    ·obtain⟨c,hc⟩:=cs.has x o2;have nQ:=cs.sub x c hc;rcases l with⟨Jg,hm⟩|⟨_,c2,Dp,N0⟩
     ·exfalso;rw[Jg]at o3;rcases o3 with o3 | o3<;>cases o3
     ·rw[nQ]at Dp;cases Dp;exact⟨c,(same x o2).trans hc,N0⟩
 ·rcases mf x c e with q | ⟨_,q⟩
  ·exact I1.cell x c (cs.sub x c q)
  ·exact⟨none,q⟩
 ·rcases mf x c e with q | ⟨q,_⟩
  ·exact I1.jF x c (cs.sub x c q)
  ·exact I.bI.fresh (DJ q)
 ·exact absurd (show p∈([]:List (Addr×Obj)) from hp) (by simp)
 ·show(kM dE σ).length=N'.length;unfold kM;rw[ay];exact co.len
end
noncomputable def Yh:Option TT->TT
 | none=>λ_ H Q=>Q true H
 | some t=>t
def yz(dE:List (Option Nat))(g:TG)(tc:Option TT)(te:TE)(σ:St)(J:It)(H1:Hp)(Q:V->Hp->Prop):Prop :=
 ∀D,H1 D=none->∃W:Nat->Nat->St->Hp->List V->Prop,(∃m,W 0 m (kM dE σ) (upd H1 D (.lst [])) []) /\
  ∀i m τ H ys,W i m τ H ys->H D=some (.lst ys)/\((J.stop i H/\Q (.ref D) H) \/
   (J.go i H/\ys.length<sizeLine/\∀x H',J.Q5 i H x H'->g x τ H' λHA H2=>Yh tc HA H2 λb H3 =>
    if b=true then te HA H3 λv H4=>H4 D=some (.lst ys)/\∃m',m'<m/\W (i+1) m' HA (upd H4 D (.lst (ys++[v]))) (ys++[v])
    else ∃m',m'<m/\W (i+1) m' HA H3 ys))
def zZ(dE:List (Option Nat))(wi:TI)(g:TG)(tc:Option TT)(te:TE):TE:=λσ H Q=>wi σ H λJ H1=>yz dE g tc te σ J H1 Q
def S1(X:Cx)(scope:Scope)(N':List Str)(cl:List (Str×Addr))(ifs:List Expr):Option TT->Prop
 | none=>ifs=[]
 | some t=>∃c,ifs=[c]/\∀C s H fp,PT (X.block scope cl C N' s H fp []) c t
structure mi (X:Cx) (scope:Scope) (N':List Str) (dE:List (Option Nat)) (cl:List (Str×Addr)) (tg elt:Expr) (ifs:List Expr) (g:TG) (tc:Option TT) (te:TE):Prop where
 kind:scope.kind=.function
 N1:∀y∈scope.names,y.2=.cell->scope.names.lookup y.1=some .cell
 names:∀y∈scope.names,y.2=.local->scope.names.lookup y.1=some .local
 N3:NZ X scope cl
 Yi:EK X scope N' dE
 tg:∀C s H fp,PG (X.block scope cl C N' s H fp []) tg g
 ifs:S1 X scope N' cl ifs tc
 elt:∀C s H fp,PE (X.block scope cl C N' s H fp []) elt te
section
variable {X:Cx} {scope:Scope} {N':List Str} {dE:List (Option Nat)} {cl:List (Str×Addr)} {tg elt aJ:Expr} {ifs:List Expr} {g:TG} {tc:Option TT} {te:TE} {pos:Pos}
theorem vY {aa : List (Addr × Obj)} {s2 : Shared} {σ : St} {H2 : Hp} {it : Addr} {fp : List Addr} {tn : Nat -> Heap -> Prop} {J : It} {E : Value -> Shared -> Prop} {Q : V -> Hp -> Prop} {RR : Value -> Addr -> Result -> Shared -> Prop}
    (hc:X.calm=true) (ck:mi X scope N' dE cl tg elt ifs g tc te) (I2:Inv X aa σ H2 s2) (T:sS X.prog X.w X.K tg J fp it tn) (xT:tn 0 s2.heap) (f2:∀b∈fp,lZ X aa H2 b) (h:yz dE g tc te σ J H2 Q)
    (hRR:∀(D C:Addr)(H':Hp)(s':Shared)(m:Str->Option Value),Inv X aa σ H' s'->s'.heap.Ns C m->H' C=none->X.fy.heap.objs.size<=C->C≠X.env.locals->C∉X.fs->(∀x c,X.env.cells.lookup x=some c->c≠C)->(∀p∈X.pn++aa,p.1≠C)->Q (.ref D) H'->RR (.ref D) C (.ok .next) s') :
    wpAny (model X.prog X.w) X.A (newList []) (λacc EI=>wpAny (model X.prog X.w) X.A (newFunctionEnv scope X.env.globals cl [] X.env.qual none .none (some X.env)) (λS2 Cg =>
      codeAny (model X.prog X.w) X.A (.compStart (.ListComp elt [⟨tg,aJ,ifs,0⟩] scope pos) 0 (.ref it) acc {S2 with scope:=relabel scope X.env}) (RR acc S2.locals) Cg) E EI) E s2:=by
  refine eP ?_;generalize hH:s2.heap.push {cls:=.type "list",dict:=none,data:=.seq ([]:List Value).toArray}=hh;have hD:H2 s2.heap.objs.size=none:=I2.bI.fresh (aH _);have k3:∀b u,s2.heap.get? b=some u->hh.get? b=some u:=λb u e=>by rw[<- hH];exact aO _ e
  have I3:Inv X aa σ (upd H2 s2.heap.objs.size (.lst [])) {s2 with heap:=hh} :=
    I2.laid (t':=s2.toks) k3 (aH _) ⟨lV _,[],0,.nil,by rw[<- hH];exact cj _ rfl⟩
  have f3:∀b∈fp,lZ X aa (upd H2 s2.heap.objs.size (.lst [])) b:=λb hb=>by
    obtain⟨o,e,_⟩:=T.obj _ _ xT b hb;exact⟨by rw[az (b_ (bG e))];exact(f2 b hb).1,(f2 b hb).2⟩
  have b3:∀b∈fp,b<hh.objs.size:=λb hb=>by
    obtain⟨o,e,_⟩:=T.obj _ _ xT b hb;exact bG (k3 b o e)
  have VT:tn 0 hh:=T.keep _ _ _ xT λb hb o e=>k3 b o e;obtain⟨W,⟨m0,w0⟩,Ef⟩:=h s2.heap.objs.size hD;refine tx (s:={s2 with heap:=hh}) ?_;have k4:∀b u,hh.get? b=some u->(pushCells (hh.push {cls:=.type "dict",data:=.dict #[]}) scope.names).get? b=some u:=λb u e=>pushCells_keeps _ _ b u (aO _ e);have S3:(pushCells (hh.push {cls:=.type "dict",data:=.dict #[]}) scope.names).Ns hh.objs.size (λ_=>none):=(Heap.Ns.new hh (.type "dict")).keeps (pushCells_keeps _ _)
  have mf:∀x c,(cellsFrom (hh.objs.size+1) scope.names cl).lookup x=some c->cl.lookup x=some c\/(hh.objs.size+1<=c/\(pushCells (hh.push {cls:=.type "dict",data:=.dict #[]}) scope.names).IsCell c none):=λx c e=>by
    have:=fP (x:=x) (c:=c) scope.names (hh.push {cls:=.type "dict",data:=.dict #[]}) cl (by rw[iR];exact e);rw[iR]at this;exact this
  generalize hh1:pushCells (hh.push {cls:=.type "dict",data:=.dict #[]}) scope.names=Jf at k4 S3 mf;have V2:tn 0 Jf:=T.keep _ _ _ VT λb hb o e=>k4 b o e;have I4:=vX (tk:=s2.toks) I3 ck.kind ck.N1 ck.N3 ck.Yi f3 b3 S3 k4 mf;generalize hX:X.block scope cl hh.objs.size N' {s2 with heap:=hh} (upd H2 s2.heap.objs.size (.lst [])) fp []=X' at I4;have rD:X'.prog=X.prog:=by rw[<- hX];rfl
  have xw:X'.w=X.w:=by rw[<- hX];rfl
  have xK:X'.K=X.K:=by rw[<- hX];rfl
  have xA:X'.A=X.A:=by rw[<- hX];rfl
  have xc:X'.calm=true:=by rw[<- hX];exact hc
  have Jh:X'.env=compEnvC scope (cellsFrom (hh.objs.size+1) scope.names cl) hh.objs.size X.env:=by rw[<- hX];rfl
  have V3:X'.xe=λ_ _=>False:=by rw[<- hX];rfl
  have Yj:∀{H':Hp},(∀b∈fp,H' b=none)->∀b∈fp,lZ X' [] H' b:=λ{H'} hn b hb=>by
    have z:=I4.ok.Xm b (by rw[<- hX];exact hb);exact⟨hn b hb,z.1,I4.ok.D5 b (by rw[<- hX];exact hb),.inl (by rw[<- hX];exact hb),z.2,λp hp=>absurd (show p∈([]:List (Addr×Obj)) by rw[<- hX]at hp;exact hp) (by simp)⟩
  have ctg:=ck.tg hh.objs.size {s2 with heap:=hh} (upd H2 s2.heap.objs.size (.lst [])) fp;have S4:=ck.ifs;have S5:=ck.elt hh.objs.size {s2 with heap:=hh} (upd H2 s2.heap.objs.size (.lst [])) fp;rw[hX]at ctg S5
  have loop : ∀ s4 : Shared, Inv X' [] (kM dE σ) (upd H2 s2.heap.objs.size (.lst [])) s4 -> tn 0 s4.heap ->
      codeAny (model X.prog X.w) X.A (.compLoop (.ListComp elt [⟨tg,aJ,ifs,0⟩] scope pos) 0 (.ref it) (.ref s2.heap.objs.size) (compEnvC scope (cellsFrom (hh.objs.size+1) scope.names cl) hh.objs.size X.env)) (RR (.ref s2.heap.objs.size) hh.objs.size) s4:=by
    intro s4 I4 V2;refine tw (λn s'=>∃i τ H' ys,Inv X' [] τ H' s'/\tn i s'.heap/\(∀b∈fp,H' b=none)/\W i n τ H' ys) ?_ m0 ⟨0,_,_,[],I4,V2,λb hb=>(f3 b hb).1,w0⟩;rintro n s5 ⟨i,τ,H5,ys,I5,Q6,jl,w5⟩;obtain⟨Ji,stop | ⟨go,hz,step⟩⟩:=Ef i n τ H5 ys w5
    · have td:=T.done X' rD xw xK xc i [] s5 τ H5 (λ_ _=>False) I5 (Yj jl) Q6 stop.1;rw[xA]at td;refine cJ td ?_;rintro r s6 ⟨rfl,I6⟩;have base:=I6.base;have os:=I6.os;have bI:=I6.bI;have vC:=I6.free;obtain⟨m,hm,_⟩:=I6.loc;rw[Jh]at vC hm;rw[<- hX]at base os bI;refine hRR _ _ H5 s6 m (I3.Lv (ch:=fp) os base bI I6.bare λb hb=>⟨(f3 b hb).2.2.2.1,(f3 b hb).2.1,(f3 b hb).2.2.2.2.1,(f3 b hb).2.2.2.2.2⟩) hm vC I3.sz (nI I3.lt) (I3.RY (aH _)) (λx c e z=>?_) (λp hp z=>?_) stop.2
      · obtain⟨v,q⟩:=I3.cell x c e;exact absurd q.lt (by rw[z];exact iS _)
      · exact absurd (bG (I3.pin p hp).1) (by rw[z];exact iS _)
    · have ti:=T.item X' rD xw xK xc i [] s5 τ H5 (λ_ _=>False) I5 (Yj jl) Q6 go;rw[xA]at ti;refine cJ ti ?_;rintro r s6 ⟨u,rfl,h6⟩;refine cJ h6 ?_;rintro _ s7 ⟨x,H7,I7,r7,y7,Yk,yA⟩;have I7':=I7.pinned (Yj yA) (T.obj _ _ Yk);have ga:=ctg _ s7 τ H7 x u _ I7' r7 (step x H7 y7);rw[rD,xw,xA,V3,Jh]at ga;refine cJ ga ?_;rintro _ s8 ⟨LK,H8,I8,q8⟩
      have fin:∀{V4:St}{H9:Hp}{s9:Shared}{Yl:List V},Inv X' ([]++l0 fp s7.heap) V4 H9 s9->(∃m',m'<n/\W (i+1) m' V4 H9 Yl)->∃m',m'<n/\∃i τ H' ys,Inv X' [] τ H' s9/\tn i s9.heap/\(∀b∈fp,H' b=none)/\W i m' τ H' ys:=λ{V4 H9 s9 Yl} I9 w9=>by
        obtain⟨m',hm,w9⟩:=w9;refine⟨m',hm,i+1,V4,H9,Yl,I9.iV,T.keep _ _ _ Yk λb hb o e=>(I9.pin (b,o) (nz _ (nz _ (h_ hb e)))).1,λb hb=>?_,w9⟩;obtain⟨o,e,d⟩:=T.obj _ _ Yk b hb;exact(I9.pin (b,o) (nz _ (nz _ (h_ hb e)))).2.1
      have eB:∀b s9,TP X' ([]++l0 fp s7.heap) LK (λb H3 =>
        if b=true then te LK H3 λv H4=>H4 s2.heap.objs.size=some (.lst ys)/\∃m',m'<n/\W (i+1) m' LK (upd H4 s2.heap.objs.size (.lst (ys++[v]))) (ys++[v])
        else ∃ m', m' < n /\ W (i + 1) m' LK H3 ys) b s9 -> (if b = true then wpAny (model X.prog X.w) X.A (eval elt (compEnvC scope (cellsFrom (hh.objs.size + 1) scope.names cl) hh.objs.size X.env)) (fun x Cg =>
              wpAny (model X.prog X.w) X.A (call (.builtin "list.append") [.ref s2.heap.objs.size,x]) (λ_ EJ=>∃m,m<n/\∃i τ H' ys,Inv X' [] τ H' EJ/\tn i EJ.heap/\(∀b∈fp,H' b=none)/\W i m τ H' ys) (λ_ _=>False) Cg) (λ_ _=>False) s9
            else ∃m,m<n/\∃i τ H' ys,Inv X' [] τ H' s9/\tn i s9.heap/\(∀b∈fp,H' b=none)/\W i m τ H' ys):=by
        rintro b s9 ⟨H9,I9,q9⟩
        cases b with
        | false=>rw[aq (by simp)]at q9⊢;exact fin I9 q9
        | true =>
          rw[ar rfl]at q9⊢;have ge:=S5 _ s9 LK H9 _ I9 q9;rw[rD,xw,xA,V3,Jh]at ge;refine cJ ge ?_;rintro v V5 ⟨y,H10,I10,r10,l10,w10⟩;have ap:=rB (X:=X') _ V5 LK H10 (.ref s2.heap.objs.size) [y] (.ref s2.heap.objs.size) [v] (λ_ H'=>∃m',m'<n/\W (i+1) m' LK H' (ys++[y])) I10 rfl (.cons r10 .nil) ⟨_,ys,y,rfl,rfl,l10,hz,w10⟩;rw[rD,xw,xA,V3]at ap;exact cJ ap λ_ Ym ⟨_,H11,I11,_,w11⟩=>fin I11 w11
      cases tc with
      | none =>
        have ei:ifs=[]:=S4;subst ei;exact wpAny_tests_nil (eB true s8 ⟨H8,I8,q8⟩)
      | some t =>
        obtain⟨c,ei,pt⟩:=S4;subst ei;have pt:=pt hh.objs.size {s2 with heap:=hh} (upd H2 s2.heap.objs.size (.lst [])) fp;rw[hX]at pt;refine wpAny_tests_one ?_;have gt:=pt _ s8 LK H8 _ I8 q8;rw[rD,xw,xA,V3,Jh]at gt;exact cJ gt λb s9 q=>eB b s9 q
  have LL:=loop _ I4 V2;exact codeAny_compStart_list LL (T.self _ 0 _ _ _ V2 LL)
end
section
variable {X:Cx} {scope:Scope} {N':List Str} {dE:List (Option Nat)} {cl:List (Str×Addr)} {tg elt aJ:Expr} {ifs:List Expr} {g:TG} {tc:Option TT} {te:TE} {wi:TI} {pos:Pos}
theorem Jj(hc:X.calm=true)(hi:PI X tg aJ wi)(ck:mi X scope N' dE cl tg elt ifs g tc te)(hs:∀x,foldedSetIterable aJ X.env x=pure x:=by intro _;rfl):PE X (.ListComp elt [⟨tg,aJ,ifs,0⟩] scope pos) (zZ dE wi g tc te):=by
 intro aa s σ H Q I h;rw[eval_ListComp];refine wpAny_comprehension_free (use:=none) rfl hs ck.N3.is ck.kind ck.names (cJ (hi aa s σ H _ I h) λv s1 h1=>cJ h1 λVS s2 h2=>?_);obtain⟨it,fp,tn,J,H2,e,I2,T,xT,f2,hC⟩:=h2;subst e;refine vY (Q:=Q) (RR:=λacc C=>compPost (model X.prog X.w) X.A X.xe none (EP X aa σ Q) acc C) hc ck I2 T xT f2 hC ?_;intro D C H' s' m I' hm Yn Yo V6 N4 N5 Yp q;refine⟨m,hm,λh' Yq=>?_⟩;exact⟨.ref D,H',I'.turned (t':=s'.toks) (λb o hb e=>Yq.extBut b o hb e) Yn (cW (cW V6)) (.inr Yo) N5 Yp,rfl,q⟩
theorem Jk{y:Str}(hc:X.calm=true)(hN:X.N.Nodup)(hy:X.N[i]?=some y)(hk:X.env.kindOf y=some .local)(S6:swapsWith (.ListComp elt [⟨tg,aJ,ifs,0⟩] scope pos) (some (.Name y py)) Yr.line X.env=pure true)(hi:PI X tg aJ wi)(ck:mi X scope N' dE cl tg elt ifs g tc te)(hs:∀x,foldedSetIterable aJ X.env x=pure x:=by intro _;rfl):PS X (.Assign [.Name y py] (.ListComp elt [⟨tg,aJ,ifs,0⟩] scope pos) Yr) (λD σ H=>zZ dE wi g tc te σ H λv H'=>D.nx (σ.set i (some v)) H'):=by
 intro aa s σ H D I h;rw[exec_Assign_Name_used _ _ _ _ S6];refine af (wpAny_standAt (af ?_));show wpAny _ X.A (do let _ <- comprehension (.ListComp elt [⟨tg,aJ,ifs,0⟩] scope pos) scope X.env _ (newList []) false (eval aJ X.env) (some (assign (.Name y py) X.env))) _ _ s;refine af (oN (wpAny_comprehension_free (use:=some (assign (.Name y py) X.env)) (Q:=λ_ s'=>SP X aa D .next s') rfl hs ck.N3.is ck.kind ck.names (cJ (hi aa s σ H _ I h) λv s1 h1=>cJ h1 λVS s2 h2=>?_)) (λ_ s' hq=>ah (ah hq)) λ_ _ e=>e);obtain⟨it,fp,tn,J,H2,e,I2,T,xT,f2,hC⟩:=h2;subst e;refine vY (Q:=λv H'=>D.nx (σ.set i (some v)) H') (RR:=λacc C=>compPost (model X.prog X.w) X.A X.xe (some (assign (.Name y py) X.env)) (λ_ s'=>SP X aa D .next s') acc C) hc ck I2 T xT f2 hC ?_;intro D' C H' s' m I' hm Yn Yo V6 N4 N5 Yp q;show wpAny _ X.A (assign (.Name y py) X.env (.ref D')) _ _ s';obtain⟨o,es,ep,ho,hd,S7⟩:=hm
 have Ip:Inv X (aa++[(C,o)]) σ H' s':=I'.sO λp hp=>(dk.mp hp).elim (λz=>I'.pin p (nz _ z)) λz=>by
  have e:p=(C,o):=by simpa using z
  subst e;exact⟨ho,Yn,V6,N4,λv z=>by rw[hd]at z;cases z⟩
 have st:=sQ (pos:=py) hN hy (.inl hk) (.inr hk) _ s' σ H' (.ref D') (.ref D') (λdD H'=>D.nx dD H') Ip rfl q;refine cJ st ?_;rintro _ Q7 ⟨Ys,H'',I'',q''⟩;have pc:=I''.pin (C,o) (by simp);refine⟨m,⟨o,es,ep,pc.1,hd,S7⟩,λh' Yq=>?_⟩;exact⟨Ys,H'',I''.iV.turned (t':=Q7.toks) (λb o hb e=>Yq.extBut b o hb e) pc.2.1 V6 (.inr Yo) N5 Yp,q''⟩
end
end L2
end
section
namespace L2
open PySem PySem.Spec PyProof.Rows
section
variable {prog:Program} {w:World} {A:Around} {E:Value->Shared->Prop} {s:Shared}
noncomputable def mV(prog:Program)(w:World)(A:Around)(s:Shared)(it:Addr)(x:Value)(after:Heap->Prop):Prop :=
 ∀(Q:Value->Shared->Prop)(E:Value->Shared->Prop),(∀h',after h'->Heap.SameBut it s.heap h'->Q x {s with heap:=h'})->wpAny (model prog w) A (Builtin.SmallTypes.nextOf (.ref it)) Q E s
noncomputable def rE(prog:Program)(w:World)(A:Around)(s:Shared)(it:Addr):Prop :=
 ∀(Q:Value->Shared->Prop)(E:Value->Shared->Prop),(∀h' e,Heap.ExtBut it s.heap h'->(∃o,h'.get? e=some o/\o.cls=.type "StopIteration")->E (.ref e) {s with heap:=h'}) ->
  wpAny (model prog w) A (Builtin.SmallTypes.nextOf (.ref it)) Q E s
theorem oZ(hit:s.heap.IsListIter it l i)(hl:s.heap.IsList l items)(hx:items[i]?=some x):mV prog w A s it x (λh=>h.IsListIter it l (i+1)):=λQ E hq=>wpAny_nextOf_list_item hit hl hx hq
theorem o_(hh:A.handled=none)(hit:s.heap.IsListIter it l i)(hl:s.heap.IsList l items)(hx:items[i]?=none):rE prog w A s it:=λQ E hq=>wpAny_nextOf_list_end hh hit hl hx hq
theorem rF(hit:s.heap.IsTupleIter it t i)(ht:s.heap.IsTuple t items)(hx:items[i]?=some x):mV prog w A s it x (λh=>h.IsTupleIter it t (i+1)):=by
 intro Q E hq;obtain⟨o,e1,e2,e3⟩:=id hit;obtain⟨ot,t1,_,nt,t2⟩:=ht;unfold Builtin.SmallTypes.nextOf;refine af (jy (name:=Str.ofString "__next__") hit.typeIs HN ?_);refine fM HN hit.typeIs F.entry_tuple_iterator_next ?_ (F.args_tuple_iterator_next_1 _);show wpAny _ _ (field (.ref it) 0 >>= _) _ _ s;refine af (e9 e1 e3 (x:=.ref t) rfl ?_);show wpAny _ _ (if (Value.ref t==Value.none)=true then _ else _) _ _ s;rw[aq (by intro z;cases z)];refine af (e9 e1 e3 (x:=.int i 0) rfl (af (sH t1 t2 ?_)));simp only[gP,hx];refine af (nF e1 e3 (by simp) (ah ⟨x,rfl,ah (hq _ ⟨_,oF _ e1 (xZ (ku e3 _)),(BF ..).trans e2,?_⟩ (jA ..))⟩));rw[ku e3];simp[rawInt]
theorem rG(hh:A.handled=none)(hit:s.heap.IsTupleIter it t i)(ht:s.heap.IsTuple t items)(hx:items[i]?=none):rE prog w A s it:=by
 intro Q E hq;obtain⟨o,e1,e2,e3⟩:=id hit;obtain⟨ot,t1,_,nt,t2⟩:=ht;unfold Builtin.SmallTypes.nextOf;refine af (jy (name:=Str.ofString "__next__") hit.typeIs HN ?_);refine fM HN hit.typeIs F.entry_tuple_iterator_next ?_ (F.args_tuple_iterator_next_1 _);show wpAny _ _ (field (.ref it) 0 >>= _) _ _ s;refine af (e9 e1 e3 (x:=.ref t) rfl ?_);show wpAny _ _ (if (Value.ref t==Value.none)=true then _ else _) _ _ s;rw[aq (by intro z;cases z)];refine af (e9 e1 e3 (x:=.int i 0) rfl (af (sH t1 t2 ?_)));simp only[gP,hx];refine af (nJ (af (nF e1 e3 (by simp) ?_)));show wpAny _ _ (newExc (.type "StopIteration") [] >>= _) _ _ _;refine af ?_;simp only[newExc,newTuple];refine af (eP ?_ (by size_fits));refine af (m:=firstArgMember _ _) (wpAny_of_eq (a:=Value.none) (by first | rfl | (simp only[firstArgMember];rfl)) (eP ?_ (by size_fits)));simp only[raiseNew];refine af (wpAny_handled ?_)
 first | rw[show A.in1.handled=none from hh] | rw[hh]
 exact af (ah (wpAny_throw (hq _ _ (((jA ..).extBut.push _).push _) ⟨_,cj _ rfl,rfl⟩)))
theorem Ci {e it : Addr} {i : Nat} {x qv : Value} {st : Heap -> Prop} {Q : Option Value -> Shared -> Prop} (he : IsEnum s.heap e it i qv) (mW : e ≠ it) (jM : it < s.heap.objs.size) (hn : mV prog w A.in1 s it x st)
    (vZ:∀h h',st h->(∀o,h.get? it=some o->h'.get? it=some o)->st h')
    (hQ:∀h',IsEnumOut h' e it ((i:Int)+1) x s.heap.objs.size->st h'->h'.get? s.heap.objs.size=some {cls:=.type "tuple",data:=.seq #[.int i s.toks,x]} ->
      (∀b o,b≠e->b≠it->s.heap.get? b=some o->h'.get? b=some o)->Q (some (.ref s.heap.objs.size)) {s with heap:=h',toks:=s.toks+1}) :
    wpAny (model prog w) A (pyNext (.ref e)) Q E s:=by
  have hT:s.TypeIs (.ref e) "enumerate" := ⟨_,he,rfl⟩;unfold pyNext
  refine af (nH (jy (name:=Str.ofString "__next__") hT HU
    (fM HU hT F.entry_enumerate_next ?_ (F.args_enumerate_next_1 _))))
  obtain⟨hp,g,d,tk,os⟩:=s;show wpAny _ _ (field (.ref e) 2 >>= _) _ _ _;refine af (e9 he rfl (x:=.ref it) rfl (af (hn _ _ λk1 st1 S8=>?_)));have S8:Heap.SameBut it hp k1:=S8;have a1:IsEnum k1 e it i qv:=(S8.2 e mW).trans he;refine af (e9 (s:=⟨k1,g,d,tk,os⟩) a1 rfl (x:=rawInt i) rfl ?_);refine af (e9 (s:=⟨k1,g,d,tk,os⟩) a1 rfl (x:=.none) rfl ?_);refine af (wpAny_mkInt (s:=⟨k1,g,d,tk,os⟩) ?_);refine af (lR (s:=⟨k1,g,d,tk+1,os⟩) a1 (by simp) λk2 a2 V7=>?_);have V7:Heap.SameBut e k1 k2:=V7;have a2:IsEnum k2 e it ((i:Int)+1) qv:=a2;refine af (lR (s:=⟨k2,g,d,tk+1,os⟩) a2 (by simp) λk3 a3 V8=>?_);have V8:Heap.SameBut e k2 k3:=V8;have a3:IsEnum k3 e it ((i:Int)+1) qv:=a3;refine af (wpAny_newTuple (s:=⟨k3,g,d,tk+1,os⟩) ?_);have sz:k3.objs.size=hp.objs.size:=by rw[V8.1,V7.1,S8.1]
  have el:e<hp.objs.size:=bG he;have tne:hp.objs.size≠e:=nI el;generalize Yt:k3.push {cls:=.type "tuple",data:=.seq #[.int i tk,x]}=k4;have a4:IsEnum k4 e it ((i:Int)+1) qv:=by rw[<- Yt];exact aO _ a3
  have t4:k4.get? hp.objs.size=some {cls:=.type "tuple",data:=.seq #[.int i tk,x]}:=by rw[<- Yt,<- sz];exact cj _ rfl
  have up:∀b o,b≠e->k1.get? b=some o->k4.get? b=some o:=λb o hb q=>by rw[<- Yt];exact aO _ (V8.extBut b o hb (V7.extBut b o hb q))
  dsimp only;rw[sz];refine af ?_;unfold Builtin.SmallTypes.ownedTupleIsFree;refine af (e9 (s:=⟨k4,g,d,tk+1,os⟩) a4 rfl (x:=.none) rfl (ah ?_));simp only[e_];refine af (nJ (af (e9 (s:=⟨k4,g,d,tk+1,os⟩) a4 rfl (x:=qv) rfl ?_)));refine af (lR (s:=⟨k4,g,d,tk+1,os⟩) a4 (by simp) λk5 a5 Yu=>?_);have Yu:Heap.SameBut e k4 k5:=Yu;have a5:IsEnum k5 e it ((i:Int)+1) x:=a5;refine af ?_;unfold Builtin.SmallTypes.ownedTupleHandOut;refine af (lR (s:=⟨k5,g,d,tk+1,os⟩) a5 (by simp) λk6 a6 Yv=>?_);have Yv:Heap.SameBut e k5 k6:=Yv;have a6:IsEnumOut k6 e it ((i:Int)+1) x hp.objs.size:=a6;refine lR (s:=⟨k6,g,d,tk+1,os⟩) a6 (by simp) λk7 a7 Yw=>?_;have Yw:Heap.SameBut e k6 k7:=Yw;have a7:IsEnumOut k7 e it ((i:Int)+1) x hp.objs.size:=a7;have Yx:∀b o,b≠e->k4.get? b=some o->k7.get? b=some o:=λb o hb q=>Yw.extBut b o hb (Yv.extBut b o hb (Yu.extBut b o hb q));refine af (wpAny_letGo (ah ⟨_,rfl,ah (hQ k7 a7 ?_ (Yx _ _ tne t4) ?_)⟩))
  · exact vZ k1 k7 st1 λo q=>Yx _ _ (cW mW) (up _ _ (cW mW) q)
  · intro b o V1 hb2 q;exact Yx b o V1 (up b o V1 (S8.extBut b o hb2 q))
theorem v3(he:IsEnum s.heap e it i qv)(hn:rE prog w A.in1 s it)(hQ:∀h',Heap.ExtBut it s.heap h'->Q none {s with heap:=h'}):wpAny (model prog w) A (pyNext (.ref e)) Q E s:=by
 have hT:s.TypeIs (.ref e) "enumerate" := ⟨_,he,rfl⟩;unfold pyNext
 refine af (nH (jy (name:=Str.ofString "__next__") hT HU
  (fM HU hT F.entry_enumerate_next ?_ (F.args_enumerate_next_1 _))))
 show wpAny _ _ (field (.ref e) 2 >>= _) _ _ _;refine af (e9 he rfl (x:=.ref it) rfl (af (hn _ _ λk x hk hx=>?_)));obtain⟨o,ho,hc⟩:=hx;exact af (BM (T := "StopIteration") (b:=true) ⟨o,ho,hc⟩ DX (ah (hQ _ hk)))
end
theorem mX{h:Heap}{o:Obj}{b:Addr}(hb:b≠h.objs.size):(h.push o).get? b=h.get? b:=Heap.get?_push_ne h b o hb
theorem Inv.tB{t':Nat}{ch:List Addr}(I:Inv X aa σ H s)(k:∀b o,b∉ch->s.heap.get? b=some o->h'.get? b=some o)(hf:∀b∈ch,lZ X aa H b):Inv X aa σ H {s with heap:=h',toks:=t'}:=by
 have R1:∀b u,H b=some u->b∉ch:=λb u e z=>by rw[(hf b z).1]at e;cases e
 refine I.step (g':=s.gens) (d':=s.drawn) (ch:=ch) (λb hb=>⟨(hf b hb).2.2.2.1,(hf b hb).2.1,(hf b hb).2.2.2.2.1,(hf b hb).2.2.2.2.2⟩) (λb o _ _ hc e _=>k b o hc e) (λb o _ _ hc e _=>⟨o.slots,k b o hc e⟩) (λ_ _ _ _ n=>n)
  (λb o hc e=>⟨o,k b o hc e⟩) (λ_ _ e=>e) (λ_ _ _ e=>e) (λb ps e=>⟨#[],by rw[e];simp⟩) (λm hm=>?_) (λb u e=>?_) I.bare
 ·obtain⟨o,es,ep,ho,r⟩:=hm;exact⟨o,es,ep,k _ o (λz=>(hf _ z).2.1 rfl) ho,r⟩
 ·refine(I.bI b u e).BZ (λc v hc q=>k c v ?_ q) (λ_ q=>q) λ_ _ q=>q;rcases hc with z | z
  ·rw[z];exact R1 b u e
  ·exact R1 c _ z
def nT(K:Frag)(H:Hp)(l:Bool)(a:Addr)(xs:List V):Prop:=if l=true then fb K H a xs else fz K H a xs
def V9(K:Frag)(l:Bool)(a:Addr):It :=
 ⟨λi H=>∃xs x,nT K H l a xs/\xs[i]?=some x,λi H x H'=>∃p y,x=.ref p/\H p=none/\H'=upd H p (.tup [.int i,y])/\∀xs,nT K H l a xs->xs[i]?=some y,λi H=>∃xs,nT K H l a xs/\xs.length<=i⟩
noncomputable def iK(l:Bool)(h:Heap)(it a:Addr)(i:Nat):Prop:=if l=true then h.IsListIter it a i else h.IsTupleIter it a i
theorem iK.at(x:iK l h it a i)(e:∀o,h.get? it=some o->h'.get? it=some o):iK l h' it a i:=by
 cases l with
 | true=>exact Heap.IsListIter.at (show h.IsListIter it a i from x) e
 | false=>exact Heap.IsTupleIter.at (show h.IsTupleIter it a i from x) e
theorem iK.obj(x:iK l h it a i):∃o,h.get? it=some o/\o.data=.fields #[.ref a,.int i 0]:=by
 cases l with
 | true=>obtain⟨o,e,_,d⟩:=(show h.IsListIter it a i from x);exact⟨o,e,d⟩
 | false=>obtain⟨o,e,_,d⟩:=(show h.IsTupleIter it a i from x);exact⟨o,e,d⟩
theorem Cj{P:Program}{w:World}{K:Frag}{Jl:List Expr}{k:Nat}{tp:Pos}(l:Bool)(a e it:Addr)(mW:e≠it):sS P w K (.Tuple Jl k tp) (V9 K l a) [e,it] e (λi h=>(∃qv,IsEnum h e it i qv)/\iK l h it a i) where
  mem:=by simp
  obj:=λi h st b hb=>by
    obtain⟨⟨qv,h1⟩,h2⟩:=st;have hb:b=e\/b=it:=by simpa using hb
    rcases hb with rfl | rfl
    · exact⟨_,h1,λv z=>by have z':Data.fields _=Data.cell v:=z;cases z'⟩
    · obtain⟨o,q,d⟩:=h2.obj;exact⟨o,q,λv z=>by rw[d]at z;cases z⟩
  keep:=λi h h' st k=>by
    obtain⟨⟨qv,h1⟩,h2⟩:=st;exact⟨⟨qv,k e (by simp) _ h1⟩,h2.at λo q=>k it (by simp) o q⟩
  item:=by
    sleep 4;obtain⟨⟨qv,h1⟩,h2⟩:=st;obtain⟨xs,x,hq,hx⟩:=hg;have hfe:=hf e (by simp);have LM:=hf it (by simp);obtain⟨oi,qi,di⟩:=h2.obj
    have main : ∀ (u : Value), RelV x u -> mV X.prog X.w X.A.in1 s it u (fun h => iK l h it a (i + 1)) -> (∀ ys, nT X.K H l a ys -> ys[i]? = some x) ->
        wpAny (model X.prog X.w) X.A (pyNext (.ref e)) (λr s1=>∃u,r=some u /\
          wpAny (model X.prog X.w) X.A (letOwnedTupleGo (.Tuple Jl k tp) (.ref e) u) (λ_ s2=>∃x H',Inv X aa σ H' s2/\RelV x u/\(V9 X.K l a).Q5 i H x H'/\((∃qv,IsEnum s2.heap e it ((i+1:Nat):Int) qv)/\iK l s2.heap it a (i+1))/\∀b∈[e,it],H' b=none) E s1) E s:=by
      intro u ru hn yt;refine Ci h1 mW (bG qi) hn (λh h' st hk=>st.at hk) λh' o1 o2 o3 o4=>⟨_,rfl,?_⟩;refine wpAny_letOwnedTupleGo_enum (s:={s with heap:=h',toks:=s.toks+1}) o1 λRb p1 p2=>?_;have p2:Heap.SameBut e h' Rb:=p2;have fr:H s.heap.objs.size=none:=I.bI.fresh (aH _)
      have I1:Inv X aa σ (upd H s.heap.objs.size (.tup [.int i,x])) {s with heap:=s.heap.push {cls:=.type "tuple",data:=.seq #[.int i s.toks,u]},toks:=s.toks+1} :=
        I.laid (λb o q=>aO _ q) (aH _) ⟨by show 2<=sizeLine;decide,[.int i s.toks,u],.cons ⟨_,rfl⟩ (.cons ru .nil),⟨_,cj _ rfl,rfl,0,rfl⟩⟩
      have ne1:e≠s.heap.objs.size:=b_ (bG h1);have ne2:it≠s.heap.objs.size:=b_ (bG qi)
      have S9:∀b∈[e,it],lZ X aa (upd H s.heap.objs.size (.tup [.int i,x])) b:=λb hb=>by
        have Ds:b=e\/b=it:=by simpa using hb
        rcases Ds with z | z
        · subst z;exact⟨by rw[az ne1];exact hfe.1,hfe.2⟩
        · subst z;exact⟨by rw[az ne2];exact LM.1,LM.2⟩
      have I2:=I1.tB (h':=Rb) (t':=s.toks+1) (ch:=[e,it]) (λb o hb q=>by
        have Ds:b≠e/\b≠it:=by simpa using hb
        refine p2.extBut b o Ds.1 ?_;by_cases hz:b=s.heap.objs.size
        · subst hz;have q':(s.heap.push {cls:=.type "tuple",data:=.seq #[.int i s.toks,u]}).get? s.heap.objs.size=some _:=cj _ rfl;rw[q']at q;cases q;exact o3
        · have q2 : s.heap.get? b = some o := by
            have jM:=bG q;rw[iR]at jM
            cases hs:s.heap.get? b with
            | some o'=>rw[aO _ hs]at q;exact q
            | none=>exact absurd q (by rw[mX hz,hs];intro z;cases z)
          exact o4 b o Ds.1 Ds.2 q2) S9
      refine⟨.ref s.heap.objs.size,_,I2,rfl,⟨s.heap.objs.size,x,rfl,fr,rfl,yt⟩,⟨⟨_,p1⟩,o2.at λo q=>p2.extBut _ _ (cW mW) q⟩,λb hb=>(S9 b hb).1⟩
    cases l with
    | true =>
      have hq:fb X.K H a xs:=hq;obtain⟨aA,rv,p,hz⟩:=I.list hq;obtain⟨u,hu,ru⟩:=rv.get hx;exact main u ru (oZ (show s.heap.IsListIter it a i from h2) p.isList (by simpa using hu)) λys hy=>by rw[I.oQ (show fb X.K H a ys from hy) hq];exact hx
    | false =>
      have hq:fz X.K H a xs:=hq;obtain⟨aA,rv,p,hz⟩:=I.tuple hq;obtain⟨u,hu,ru⟩:=rv.get hx;exact main u ru (rF (show s.heap.IsTupleIter it a i from h2) (show s.heap.IsTuple a aA.toArray from p) (by simpa using hu)) λys hy=>by rw[I.lY (show fz X.K H a ys from hy) hq];exact hx
  done:=by
    sleep 4;obtain⟨⟨qv,h1⟩,h2⟩:=st;obtain⟨xs,hq,hx⟩:=hg;have LM:=hf it (by simp);have hh:X.A.in1.handled=none:=I.ok.hd hc;have fin:∀h',Heap.ExtBut it s.heap h'->(none:Option Value)=none/\Inv X aa σ H {s with heap:=h'}:=λh' eb=>⟨rfl,I.turned (t':=s.toks) (λb o hb q=>eb b o hb q) LM.1 LM.2.1 LM.2.2.2.1 LM.2.2.2.2.1 LM.2.2.2.2.2⟩
    cases l with
    | true =>
      obtain⟨aA,rv,p,hz⟩:=I.list (show fb X.K H a xs from hq);have hl:=rv.length;exact v3 h1 (o_ hh (show s.heap.IsListIter it a i from h2) p.isList (by simp;omega)) λh' eb=>fin h' eb
    | false =>
      obtain⟨aA,rv,p,hz⟩:=I.tuple (show fz X.K H a xs from hq);have hl:=rv.length;exact v3 h1 (rG hh (show s.heap.IsTupleIter it a i from h2) (show s.heap.IsTuple a aA.toArray from p) (by simp;omega)) λh' eb=>fin h' eb
  self:=λA i s Q E st h=>by
    obtain⟨⟨qv,h1⟩,_⟩:=st;exact wpAny_pyIter_enum h1 h
theorem pb (t : Addr) (items : Array Value) :
    Meets (Builtin.«enumerate.__new__» ⟨[.type "enumerate",.ref t],[]⟩) (λ_ R s=>s.heap.IsTuple t items /\
      R (.ok (.ret (.ref (s.heap.push {cls:=.type "tuple_iterator",data:=.fields #[.ref t,.int 0 0]}).objs.size)))
        {s with heap:=(s.heap.push {cls:=.type "tuple_iterator",data:=.fields #[.ref t,.int 0 0]}).push {cls:=.type "enumerate",data:=.fields #[.none,.bool false,.ref s.heap.objs.size,rawInt 0,.none,.none]}}) :=
  .of_wp λprog w A R s h=>by
    obtain⟨hp,g,d,tk,os⟩:=s;obtain⟨hT,h⟩:=h;have Yy:=sub_enumerate;have hT:Heap.IsTuple (Shared.heap ⟨hp,g,d,tk,os⟩) t items:=hT
    wp_walk
    refine wpAny_stack_any λst=>ah ?_;split
    · rename_i c _ _ _ _ _
      cases (c==Value.type "enumerate")<;>(wp_walk using vd hT;exact⟨_,rfl,h⟩)
    · wp_walk using vd hT
      exact⟨_,rfl,h⟩
section
variable {prog:Program} {w:World} {A:Around} {E:Value->Shared->Prop} {s:Shared}
theorem Ck(hs:if l=true then s.heap.IsList a items else s.heap.IsTuple a items)(h:∀h',IsEnum h' (s.heap.objs.size+1) s.heap.objs.size 0 .none->iK l h' s.heap.objs.size a 0->(∀b o,s.heap.get? b=some o->h'.get? b=some o)->Q (.ref (s.heap.objs.size+1)) {s with heap:=h'}):wpAny (model prog w) A (call (.type "enumerate") [.ref a]) Q E s:=by
 cases l with
 | true=>exact call_enumerate_list (show s.heap.IsList a items from hs) λh' h1 h2 _ h4=>h h' h1 h2 h4
 | false =>
  have hs:s.heap.IsTuple a items:=hs;refine callType_new F.called_enumerate (by decide) (F.typeCall_enumerate_1 _) (F.newCall_enumerate_1 _) (λobj=>F.args_object_init_2 obj _) F.entry_enumerate_new (pb a items) ⟨hs,?_⟩;have hz:(s.heap.push {cls:=.type "tuple_iterator",data:=.fields #[.ref a,.int 0 0]}).objs.size=s.heap.objs.size+1:=iR ..;show _/\_;have he:=cj (s.heap.push {cls:=.type "tuple_iterator",data:=.fields #[.ref a,.int 0 0]}) (o:={cls:=.type "enumerate",data:=.fields #[.none,.bool false,.ref s.heap.objs.size,rawInt 0,.none,.none]}) rfl;rw[hz]at he⊢;exact⟨⟨_,he,rfl⟩,h _ he ⟨_,aO _ (cj _ rfl),rfl,rfl⟩ λb o x=>aO _ (aO _ x)⟩
end
section
variable {X:Cx}
def S_(K:Frag)(ta:TA):TI:=λσ H R=>ta σ H λvs H1=>∃(l:Bool) (a:Addr),vs=[.ref a]/\(∃xs,nT K H1 l a xs)/\R (V9 K l a) H1
theorem Jm{a:Expr}{ta:TA}{p pos tp:Pos}{Jl:List Expr}{k:Nat} (hg:Gl X "enumerate") (hm:X.mg "enumerate" = none) (ha:PA X [a] ta) (hs:starEach [a] X.env=[(false,eval a X.env)]):PI X (.Tuple Jl k tp) (.Call (.Name "enumerate" p) [a] [] pos) (S_ X.K ta):=by
 intro aa s σ H R I h;refine Call_ (jW I hg hm boot_enumerate (DD (cJ (ha pos aa s σ H _ I h) ?_) hs rfl));rintro us s1 ⟨vs,H1,I1,r1,q1⟩;obtain⟨l,b,rfl,⟨xs,hq⟩,q⟩:=q1;obtain⟨u,rfl,ru⟩:=vals1 r1;cases ru
 have hit:∃aA:Array Value,if l=true then s1.heap.IsList b aA else s1.heap.IsTuple b aA:=by
  cases l with
  | true=>obtain⟨aA,_,p,_⟩:=I1.list (show fb X.K H1 b xs from hq);exact⟨aA.toArray,p.isList⟩
  | false=>obtain⟨aA,_,p,_⟩:=I1.tuple (show fz X.K H1 b xs from hq);exact⟨aA.toArray,p⟩
 obtain⟨aA,hit⟩:=hit;refine Ck hit λh' e1 e2 e3=>?_;refine wpAny_pyIter_enum (s:={s1 with heap:=h'}) e1 ?_;have I2:Inv X aa σ H1 {s1 with heap:=h'}:=I1.kept (t':=s1.toks) e3;refine⟨s1.heap.objs.size+1,[s1.heap.objs.size+1,s1.heap.objs.size],_,_,H1,rfl,I2,Cj l b _ _ (Nat.succ_ne_self _),⟨⟨_,e1⟩,e2⟩,λc hc=>?_,q⟩;have nQ:c=s1.heap.objs.size+1\/c=s1.heap.objs.size:=by simpa using hc
 rcases nQ with z | z
 ·subst z;exact I1.vF (BW _) (I1.bI.fresh (BW _))
 ·subst z;exact I1.vF (aH _) (I1.bI.fresh (aH _))
end
end L2
end
section
namespace L2
open PySem PySem.Spec PyProof.Rows
section
variable {prog:Program} {w:World} {A:Around} {E:Value->Shared->Prop} {s:Shared}
structure ZA (z ti to i j:Addr):Prop where
 tz:ti≠z
 oz:to≠z
 iz:i≠z
 jz:j≠z
 tt:ti≠to
 di:ti≠i
 dj:ti≠j
 oi:to≠i
 oj:to≠j
 ij:i≠j
abbrev Zp(h:Heap)(z ti to:Addr)(f0 f1:Value):Prop :=
 h.get? z=some {cls:=.type "zip",dict:=none,data:=.fields #[f0,f1,.bool false,.ref ti,.ref to],slots:=#[]}
noncomputable def LN(h:Heap)(z ti to:Addr):Prop:=∃f0 f1,(f0=.none\/∃p:Nat,f0=rawInt p)/\Zp h z ti to f0 f1
theorem pd{z ti to:Addr}{Q:Bool->Shared->Prop}(hz:LN s.heap z ti to)(hQ:∀b h',LN h' z ti to->Heap.SameBut z s.heap h'->Q b {s with heap:=h'}):wpAny (model prog w) A (Builtin.SmallTypes.ownedTupleIsFree (.ref z)) Q E s:=by
 obtain⟨f0,f1,hf,hz⟩:=hz;unfold Builtin.SmallTypes.ownedTupleIsFree;rcases hf with rfl | ⟨p,rfl⟩
 ·exact af (e9 hz rfl (x:=.none) rfl (ah (hQ true s.heap ⟨_,_,.inl rfl,hz⟩ (.refl _ _))))
 ·refine af (e9 hz rfl (x:=rawInt p) rfl ?_);show wpAny _ _ (loadIfAlive _ >>= _) _ _ _;have al:∀{b:Addr}{R:Option Obj->Shared->Prop},R (s.heap.get? b) s->wpAny (model prog w) A (loadIfAlive b) R E s:=λh _ _ _=>h;refine af (al ?_)
  cases s.heap.get? (Int.toNat p)with
  | none=>exact ah (hQ true s.heap ⟨_,_,.inr ⟨p,rfl⟩,hz⟩ (.refl _ _))
  | some o =>
   show wpAny _ _ (field (.ref z) 1 >>= _) _ _ _;refine af (e9 hz rfl (x:=f1) rfl ?_);by_cases hb:(f1 != .bool true)=true
   ·rw[ar hb];exact af (lR hz (by simp) λh' z1 s1=>ah (hQ false h' ⟨_,_,.inr ⟨p,rfl⟩,z1⟩ s1))
   ·rw[aq hb];exact ah (hQ false s.heap ⟨_,_,.inr ⟨p,rfl⟩,hz⟩ (.refl _ _))
theorem N6{z ti to a:Addr}{tg:Expr}{Q:Unit->Shared->Prop}(hz:LN s.heap z ti to)(hQ:∀h',LN h' z ti to->Heap.SameBut z s.heap h'->Q () {s with heap:=h'}):wpAny (model prog w) A (letOwnedTupleGo tg (.ref z) (.ref a)) Q E s:=by
 obtain⟨f0,f1,hf,hz⟩:=hz;have h0:=hQ s.heap ⟨f0,f1,hf,hz⟩ (.refl _ _)
 have key:∀c:Bool,wpAny (model prog w) A (if c=true then (do rule "for.unpacks-the-owned-tuple";setField (.ref z) 0 .none) else pure ()) Q E s:=λc=>by
  cases c with
  | false=>exact ah h0
  | true=>exact af (nJ (lR hz (by simp) λh' z1 s1=>hQ h' ⟨_,_,.inl rfl,z1⟩ s1))
 unfold letOwnedTupleGo
 cases tg<;>first
  | exact ah h0
  | exact af (BX hz (key _))
theorem EL (D : ZA z ti to i j) (zz : LN s.heap z ti to) (yi : IsPair s.heap ti (.ref i) (.ref j)) (yo : IsPair s.heap to p q)
    (n1:∀h',(∀b o,b≠z->s.heap.get? b=some o->h'.get? b=some o)->mV prog w A.in1 {s with heap:=h'} i x st1)
    (n2:∀h',(∀b o,b≠z->b≠to->b≠i->s.heap.get? b=some o->h'.get? b=some o)->mV prog w A.in1 {s with heap:=h'} j y xT)
    (k1:∀h h',st1 h->(∀o,h.get? i=some o->h'.get? i=some o)->st1 h') (k2:∀h h',xT h->(∀o,h.get? j=some o->h'.get? j=some o)->xT h')
    (hQ:∀h',LN h' z ti to->(∃p q,IsPair h' to p q)->st1 h'->xT h'->h'.get? s.heap.objs.size=some {cls:=.type "tuple",data:=.seq #[x,y]} ->
      (∀b o,b≠z->b≠to->b≠i->b≠j->s.heap.get? b=some o->h'.get? b=some o)->Q (some (.ref s.heap.objs.size)) {s with heap:=h'}) :
    wpAny (model prog w) A (pyNext (.ref z)) Q E s:=by
  have Yz:=zz;obtain⟨f0,f1,hf,z0⟩:=Yz;have hT:s.TypeIs (.ref z) "zip" := ⟨_,z0,rfl⟩;obtain⟨hp,g,d,tk,os⟩:=s;unfold pyNext;refine af (nH (jy (name:=Str.ofString "__next__") hT DS (fM DS hT F.entry_zip_next ?_ (F.args_zip_next_1 _))));show wpAny _ _ (field (.ref z) 2 >>= _) _ _ _;refine af (e9 z0 rfl (x:=.bool false) rfl ?_);show wpAny _ _ (field (.ref z) 3 >>= _) _ _ _;refine af (e9 z0 rfl (x:=.ref ti) rfl ?_);refine af (sH yi rfl ?_);show wpAny _ _ (Builtin.SmallTypes.ownedTupleIsFree (.ref z) >>= _) _ _ _;refine af (pd (s:=⟨hp,g,d,tk,os⟩) zz λfr e0 zz s0=>?_);have s0:Heap.SameBut z hp e0:=s0;clear z0 hf f0 f1;obtain⟨f0,f1,hf,zz⟩:=zz
  cases fr with
  | false =>
    refine af ?_;simp only[List.forIn_toArray,BP,DW];refine af (af (hV ?_));show wpAny _ _ (Builtin.SmallTypes.nextOf (.ref i) >>= _) _ _ _;refine af (n1 e0 (λb o hb=>s0.extBut b o hb) _ _ λe2 a2 s2=>ah (ah ?_));have s2:Heap.SameBut i e0 e2:=s2;refine af (af (hV ?_));show wpAny _ _ (Builtin.SmallTypes.nextOf (.ref j) >>= _) _ _ _;refine af (n2 e2 (λb o b1 b2 b3 u=>s2.extBut b o b3 (s0.extBut b o b1 u)) _ _ λe4 a4 s4=>ah (ah (ah ?_)));have s4:Heap.SameBut j e2 e4:=s4;have sz:e4.objs.size=hp.objs.size:=by rw[s4.1,s2.1,s0.1]
    refine af (wpAny_newTuple (ah ⟨_,rfl,ah ?_⟩) (by show 2<=sizeLine;decide));show Q (some (.ref e4.objs.size)) ⟨e4.push {cls:=.type "tuple",data:=.seq #[x,y]},g,d,tk,os⟩;have t8:(e4.push {cls:=.type "tuple",data:=.seq #[x,y]}).get? e4.objs.size=some {cls:=.type "tuple",data:=.seq #[x,y]}:=cj _ rfl;have up:∀b o,b≠i->b≠j->e0.get? b=some o->(e4.push {cls:=.type "tuple",data:=.seq #[x,y]}).get? b=some o:=λb o b1 b2 u=>aO _ (s4.extBut b o b2 (s2.extBut b o b1 u));rw[sz]at t8⊢
    exact hQ _ ⟨f0,f1,hf,up _ _ D.iz.symm D.jz.symm zz⟩ ⟨_,_,up _ _ D.oi D.oj (s0.extBut _ _ D.oz yo)⟩ (k1 e2 _ a2 λo u=>aO _ (s4.extBut _ _ D.ij u)) (k2 e4 _ a4 λo u=>aO _ u) t8
      λb o b1 b2 b3 b4 u=>up b o b3 b4 (s0.extBut b o b1 u)
  | true =>
  show wpAny _ _ (rule _ >>= _) _ _ _;refine af (nJ (af (e9 (s:=⟨e0,g,d,tk,os⟩) zz rfl (x:=.ref to) rfl ?_)));refine af (lR zz (by simp) λe1 z1 s1=>?_);have s1:Heap.SameBut z hp e1:=s0.trans s1
  replace z1:Zp e1 z ti to .ellipsis f1:=z1
  refine af ?_;simp only[List.zipIdx_cons,List.zipIdx_nil,BP,DW];refine af (af (wpAny_onRaise ?_));show wpAny _ _ (Builtin.SmallTypes.nextOf (.ref i) >>= _) _ _ _;refine af (n1 e1 (λb o hb=>s1.extBut b o hb) _ _ λe2 a2 s2=>ah ?_);have s2:Heap.SameBut i e1 e2:=s2;have o2:IsPair e2 to p q:=s2.extBut _ _ D.oi (s1.extBut _ _ D.oz yo);refine af (sH o2 rfl ?_);refine af (MN (s:=⟨e2,g,d,tk,os⟩) o2 λe3 o3 s3=>?_);have s3:Heap.SameBut to e2 e3:=s3
  replace o3:IsPair e3 to x q:=o3
  refine af (wpAny_letGo (ah ?_));refine af (af (wpAny_onRaise ?_));show wpAny _ _ (Builtin.SmallTypes.nextOf (.ref j) >>= _) _ _ _;refine af (n2 e3 (λb o b1 b2 b3 u=>s3.extBut b o b2 (s2.extBut b o b3 (s1.extBut b o b1 u))) _ _ λe4 a4 s4=>ah ?_);have s4:Heap.SameBut j e3 e4:=s4;have o4:IsPair e4 to x q:=s4.extBut _ _ D.oj o3;refine af (sH o4 rfl ?_);refine af (MN (s:=⟨e4,g,d,tk,os⟩) o4 λe5 o5 s5=>?_);have s5:Heap.SameBut to e4 e5:=s5
  replace o5:IsPair e5 to x y:=o5
  refine af (wpAny_letGo (ah (ah ?_)));refine af (sH o5 rfl ?_);refine af (wpAny_newTuple ?_);have sz:e5.objs.size=hp.objs.size:=by rw[s5.1,s4.1,s3.1,s2.1,s1.1]
  have z5:Zp e5 z ti to .ellipsis f1:=s5.extBut _ _ D.oz.symm (s4.extBut _ _ D.jz.symm (s3.extBut _ _ D.oz.symm (s2.extBut _ _ D.iz.symm z1)))
  have up5:∀b o,b≠z->b≠to->b≠i->b≠j->hp.get? b=some o->e5.get? b=some o:=λb o b1 b2 b3 b4 u =>
    s5.extBut _ _ b2 (s4.extBut _ _ b4 (s3.extBut _ _ b2 (s2.extBut _ _ b3 (s1.extBut _ _ b1 u))))
  have zlt:z<e5.objs.size:=bG z5;show wpAny _ _ (Builtin.SmallTypes.ownedTupleHandOut (.ref z) (.ref e5.objs.size) >>= _) _ _ _;refine af ?_;unfold Builtin.SmallTypes.ownedTupleHandOut;have z6:Zp (e5.push {cls:=.type "tuple",data:=.seq #[x,y]}) z ti to .ellipsis f1:=aO _ z5;refine af (lR z6 (by simp) λe7 z7 s7=>?_);have s7:Heap.SameBut z (e5.push {cls:=.type "tuple",data:=.seq #[x,y]}) e7:=s7
  replace z7:Zp e7 z ti to (rawInt e5.objs.size) f1:=z7
  refine lR (s:=⟨e7,g,d,tk,os⟩) z7 (by simp) λe8 z8 s8=>?_;have s8:Heap.SameBut z e7 e8:=s8
  replace z8:Zp e8 z ti to (rawInt e5.objs.size) (.bool false):=z8
  have up:∀b o,b≠z->e5.get? b=some o->e8.get? b=some o:=λb o b1 u=>s8.extBut _ _ b1 (s7.extBut _ _ b1 (aO _ u));have t8:e8.get? e5.objs.size=some {cls:=.type "tuple",data:=.seq #[x,y]}:=s8.extBut _ _ (nI zlt) (s7.extBut _ _ (nI zlt) (cj _ rfl));rw[sz]at z8 t8;refine ah ⟨_,rfl,ah ?_⟩;show Q (some (.ref e5.objs.size)) _;rw[sz]
  exact hQ e8 ⟨_,_,.inr ⟨_,rfl⟩,z8⟩ ⟨_,_,up _ _ D.oz o5⟩ (k1 e2 e8 a2 λo u=>up _ o D.iz (s5.extBut _ _ D.oi.symm (s4.extBut _ _ D.ij (s3.extBut _ _ D.oi.symm u)))) (k2 e4 e8 a4 λo u=>up _ o D.jz (s5.extBut _ _ D.oj.symm u)) t8
    λb o b1 b2 b3 b4 u=>up b o b1 (up5 b o b1 b2 b3 b4 u)
theorem Jn (D : ZA z ti to i j) (zz : LN s.heap z ti to) (yi : IsPair s.heap ti (.ref i) (.ref j)) (yo : IsPair s.heap to p q)
    (n:(∀h',(∀b o,b≠z->s.heap.get? b=some o->h'.get? b=some o)->rE prog w A.in1 {s with heap:=h'} i) \/
      (∃x,(∀h',(∀b o,b≠z->s.heap.get? b=some o->h'.get? b=some o)->mV prog w A.in1 {s with heap:=h'} i x st1) /\
        ∀h',(∀b o,b≠z->b≠to->b≠i->s.heap.get? b=some o->h'.get? b=some o)->rE prog w A.in1 {s with heap:=h'} j))
    (hQ:∀h',(∀b o,b≠z->b≠to->b≠i->b≠j->s.heap.get? b=some o->h'.get? b=some o)->Q none {s with heap:=h'}) :
    wpAny (model prog w) A (pyNext (.ref z)) Q E s:=by
  have Yz:=zz;obtain⟨f0,f1,hf,z0⟩:=Yz;have hT:s.TypeIs (.ref z) "zip" := ⟨_,z0,rfl⟩;obtain⟨hp,g,d,tk,os⟩:=s
  have fin : ∀ (h' : Heap) (e : Addr), (∀ b o, b ≠ z -> b ≠ to -> b ≠ i -> b ≠ j -> hp.get? b = some o -> h'.get? b = some o) -> (∃ o, h'.get? e = some o /\ o.cls = .type "StopIteration") ->
      wpAny (model prog w) A (do if <- isInstance (.ref e) (.type "StopIteration") then pure none else throw (.ref e)) Q E ⟨h',g,d,tk,os⟩:=λh' e hk ⟨o,ho,hc⟩ =>
    af (BM (T := "StopIteration") (b:=true) ⟨o,ho,hc⟩ DX (ah (hQ h' hk)))
  unfold pyNext;refine af (nH (jy (name:=Str.ofString "__next__") hT DS (fM DS hT F.entry_zip_next ?_ (F.args_zip_next_1 _))));show wpAny _ _ (field (.ref z) 2 >>= _) _ _ _;refine af (e9 z0 rfl (x:=.bool false) rfl ?_);show wpAny _ _ (field (.ref z) 3 >>= _) _ _ _;refine af (e9 z0 rfl (x:=.ref ti) rfl ?_);refine af (sH yi rfl ?_);show wpAny _ _ (Builtin.SmallTypes.ownedTupleIsFree (.ref z) >>= _) _ _ _;refine af (pd (s:=⟨hp,g,d,tk,os⟩) zz λfr e0 zz s0=>?_);have s0:Heap.SameBut z hp e0:=s0;clear z0 hf f0 f1;obtain⟨f0,f1,hf,zz⟩:=zz
  cases fr with
  | false =>
    refine af ?_;simp only[List.forIn_toArray,BP,DW];refine af (af (hV ?_));show wpAny _ _ (Builtin.SmallTypes.nextOf (.ref i) >>= _) _ _ _;rcases n with n | ⟨x,n1,n2⟩
    · refine af (n e0 (λb o hb=>s0.extBut b o hb) _ _ λe2 e s2 he=>?_);have s2:Heap.ExtBut i e0 e2:=s2;exact fin e2 e (λb o b1 b2 b3 b4 u=>s2 _ _ b3 (s0.extBut _ _ b1 u)) he
    · refine af (n1 e0 (λb o hb=>s0.extBut b o hb) _ _ λe2 a2 s2=>ah (ah ?_));have s2:Heap.SameBut i e0 e2:=s2;refine af (af (hV ?_));show wpAny _ _ (Builtin.SmallTypes.nextOf (.ref j) >>= _) _ _ _;refine af (n2 e2 (λb o b1 b2 b3 u=>s2.extBut b o b3 (s0.extBut b o b1 u)) _ _ λe4 e s4 he=>?_);have s4:Heap.ExtBut j e2 e4:=s4;exact fin e4 e (λb o b1 b2 b3 b4 u=>s4 _ _ b4 (s2.extBut _ _ b3 (s0.extBut _ _ b1 u))) he
  | true =>
  show wpAny _ _ (rule _ >>= _) _ _ _;refine af (nJ (af (e9 (s:=⟨e0,g,d,tk,os⟩) zz rfl (x:=.ref to) rfl ?_)));refine af (lR zz (by simp) λe1 z1 s1=>?_);have s1:Heap.SameBut z hp e1:=s0.trans s1
  replace z1:Zp e1 z ti to .ellipsis f1:=z1
  refine af ?_;simp only[List.zipIdx_cons,List.zipIdx_nil,BP,DW];refine af (af (wpAny_onRaise ?_));show wpAny _ _ (Builtin.SmallTypes.nextOf (.ref i) >>= _) _ _ _;rcases n with n | ⟨x,n1,n2⟩
  · refine af (n e1 (λb o hb=>s1.extBut b o hb) _ _ λe2 e s2 he=>?_);have s2:Heap.ExtBut i e1 e2:=s2;obtain⟨oe,ge,ce⟩:=he;have ge:e2.get? e=some oe:=ge;have z2:Zp e2 z ti to .ellipsis f1:=s2 _ _ D.iz.symm z1;have ez:e≠z:=λu=>by subst u;rw[z2]at ge;cases ge;simp at ce
    refine lR (s:=⟨e2,g,d,tk,os⟩) z2 (by simp) λe3 _ s3=>?_;have s3:Heap.SameBut z e2 e3:=s3;exact fin e3 e (λb o b1 b2 b3 b4 u=>s3.extBut _ _ b1 (s2 _ _ b3 (s1.extBut _ _ b1 u))) ⟨oe,s3.extBut _ _ ez ge,ce⟩
  · refine af (n1 e1 (λb o hb=>s1.extBut b o hb) _ _ λe2 a2 s2=>ah ?_);have s2:Heap.SameBut i e1 e2:=s2;have o2:IsPair e2 to p q:=s2.extBut _ _ D.oi (s1.extBut _ _ D.oz yo);refine af (sH o2 rfl ?_);refine af (MN (s:=⟨e2,g,d,tk,os⟩) o2 λe3 o3 s3=>?_);have s3:Heap.SameBut to e2 e3:=s3;refine af (wpAny_letGo (ah ?_));refine af (af (wpAny_onRaise ?_));show wpAny _ _ (Builtin.SmallTypes.nextOf (.ref j) >>= _) _ _ _;refine af (n2 e3 (λb o b1 b2 b3 u=>s3.extBut b o b2 (s2.extBut b o b3 (s1.extBut b o b1 u))) _ _ λe4 e s4 he=>?_);have s4:Heap.ExtBut j e3 e4:=s4;obtain⟨oe,ge,ce⟩:=he;have ge:e4.get? e=some oe:=ge;have z4:Zp e4 z ti to .ellipsis f1:=s4 _ _ D.jz.symm (s3.extBut _ _ D.oz.symm (s2.extBut _ _ D.iz.symm z1));have ez:e≠z:=λu=>by subst u;rw[z4]at ge;cases ge;simp at ce
    refine lR (s:=⟨e4,g,d,tk,os⟩) z4 (by simp) λe5 _ s5=>?_;have s5:Heap.SameBut z e4 e5:=s5;exact fin e5 e (λb o b1 b2 b3 b4 u=>s5.extBut _ _ b1 (s4 _ _ b4 (s3.extBut _ _ b2 (s2.extBut _ _ b3 (s1.extBut _ _ b1 u))))) ⟨oe,s5.extBut _ _ ez ge,ce⟩
end
def YA(K:Frag)(l m:Bool)(a b:Addr):It :=
  ⟨λi H=>∃xs ys x y,nT K H l a xs/\nT K H m b ys/\xs[i]?=some x/\ys[i]?=some y,
   λi H v H'=>∃p x y,v=.ref p/\H p=none/\H'=upd H p (.tup [x,y])/\(∀xs,nT K H l a xs->xs[i]?=some x)/\∀ys,nT K H m b ys->ys[i]?=some y,
   λi H=>∃xs ys,nT K H l a xs/\nT K H m b ys/\(xs.length<=i\/ys.length<=i)⟩
section
variable {X:Cx} {aa:List (Addr×Obj)} {σ:St} {H:Hp} {s:Shared}
theorem tF(I:Inv X aa σ H s)(hq:nT X.K H l a xs)(h2:iK l s.heap it a i)(hx:xs[i]?=some x):(∃u,RelV x u/\∀h',(∀o,s.heap.get? a=some o->h'.get? a=some o)->(∀o,s.heap.get? it=some o->h'.get? it=some o)->mV X.prog X.w A {s with heap:=h'} it u (λh=>iK l h it a (i+1)))/\∀ys,nT X.K H l a ys->ys[i]?=some x:=by
 cases l with
 | true =>
  have hq:fb X.K H a xs:=hq;obtain⟨aA,rv,p,hz⟩:=I.list hq;obtain⟨u,hu,ru⟩:=rv.get hx;exact⟨⟨u,ru,λh' e1 e2=>oZ (s:={s with heap:=h'}) (Heap.IsListIter.at (show s.heap.IsListIter it a i from h2) e2) (p.isList.at e1) (by simpa using hu)⟩,λys hy=>by rw[I.oQ (show fb X.K H a ys from hy) hq];exact hx⟩
 | false =>
  have hq:fz X.K H a xs:=hq;obtain⟨aA,rv,p,hz⟩:=I.tuple hq;obtain⟨u,hu,ru⟩:=rv.get hx;have p:s.heap.IsTuple a aA.toArray:=p;exact⟨⟨u,ru,λh' e1 e2=>rF (s:={s with heap:=h'}) (Heap.IsTupleIter.at (show s.heap.IsTupleIter it a i from h2) e2) (p.at e1) (by simpa using hu)⟩,λys hy=>by rw[I.lY (show fz X.K H a ys from hy) hq];exact hx⟩
theorem z9(hh:A.handled=none)(I:Inv X aa σ H s)(hq:nT X.K H l a xs)(h2:iK l s.heap it a i)(hx:xs.length<=i):∀h',(∀o,s.heap.get? a=some o->h'.get? a=some o)->(∀o,s.heap.get? it=some o->h'.get? it=some o)->rE X.prog X.w A {s with heap:=h'} it:=by
 cases l with
 | true =>
  obtain⟨aA,rv,p,hz⟩:=I.list (show fb X.K H a xs from hq);have hl:=rv.length;exact λh' e1 e2=>o_ (s:={s with heap:=h'}) hh (Heap.IsListIter.at (show s.heap.IsListIter it a i from h2) e2) (p.isList.at e1) (by simp;omega)
 | false =>
  obtain⟨aA,rv,p,hz⟩:=I.tuple (show fz X.K H a xs from hq);have hl:=rv.length;have p:s.heap.IsTuple a aA.toArray:=p;exact λh' e1 e2=>rG (s:={s with heap:=h'}) hh (Heap.IsTupleIter.at (show s.heap.IsTupleIter it a i from h2) e2) (p.at e1) (by simp;omega)
end
theorem EM{P:Program}{w:World}{K:Frag}{tg:Expr}(l m:Bool)(a b z ti to i j:Addr)(D:ZA z ti to i j)(ha:a≠z)(hb:b≠z/\b≠to/\b≠i):sS P w K tg (YA K l m a b) [z,ti,to,i,j] z (λn h=>LN h z ti to/\IsPair h ti (.ref i) (.ref j)/\(∃p q,IsPair h to p q)/\iK l h i a n/\iK m h j b n) where
 mem:=by simp
 obj:=λn h st c hc=>by
  obtain⟨⟨_,_,_,h1⟩,h2,⟨p,q,h3⟩,h4,h5⟩:=st;have hc:c=z\/c=ti\/c=to\/c=i\/c=j:=by simpa using hc
  rcases hc with rfl | rfl | rfl | rfl | rfl
  ·exact⟨_,h1,λv u=>by have u':Data.fields _=Data.cell v:=u;cases u'⟩
  ·exact⟨_,h2,λv u=>by have u':Data.seq _ _=Data.cell v:=u;cases u'⟩
  ·exact⟨_,h3,λv u=>by have u':Data.seq _ _=Data.cell v:=u;cases u'⟩
  ·obtain⟨o,q,d⟩:=h4.obj;exact⟨o,q,λv u=>by rw[d]at u;cases u⟩
  ·obtain⟨o,q,d⟩:=h5.obj;exact⟨o,q,λv u=>by rw[d]at u;cases u⟩
 keep:=λn h h' st e=>by
  obtain⟨⟨f0,f1,hf,h1⟩,h2,⟨p,q,h3⟩,h4,h5⟩:=st;exact⟨⟨f0,f1,hf,e z (by simp) _ h1⟩,e ti (by simp) _ h2,⟨p,q,e to (by simp) _ h3⟩,h4.at λo u=>e i (by simp) o u,h5.at λo u=>e j (by simp) o u⟩
 item:=by
  intro X hP hw hK hc n aa s σ H E I hf st hg;subst hP hw hK;obtain⟨h1,h2,⟨p,q,h3⟩,h4,h5⟩:=st;obtain⟨xs,ys,x,y,qx,qy,hx,hy⟩:=hg;obtain⟨⟨u,ru,nu⟩,au⟩:=tF (A:=X.A.in1) I qx h4 hx;obtain⟨⟨v,rv,nv⟩,av⟩:=tF (A:=X.A.in1) I qy h5 hy;obtain⟨oi,gi,_⟩:=h4.obj;obtain⟨oj,gj,_⟩:=h5.obj;refine EL D h1 h2 h3 (λh' e=>nu h' (λo=>e a o ha) λo=>e i o D.iz) (λh' e=>nv h' (λo=>e b o hb.1 hb.2.1 hb.2.2) λo=>e j o D.jz D.oj.symm D.ij.symm) (λh h' st e=>st.at e) (λh h' st e=>st.at e) λh' o1 o2 o3 o4 o5 o6=>⟨_,rfl,?_⟩;refine N6 (s:={s with heap:=h'}) o1 λRb p1 p2=>?_;have p2:Heap.SameBut z h' Rb:=p2;have fr:H s.heap.objs.size=none:=I.bI.fresh (aH _)
  have I1:Inv X aa σ (upd H s.heap.objs.size (.tup [x,y])) {s with heap:=s.heap.push {cls:=.type "tuple",data:=.seq #[u,v]}} :=
   I.laid (t':=s.toks) (λc o e=>aO _ e) (aH _) ⟨by show 2<=sizeLine;decide,[u,v],.cons ru (.cons rv .nil),⟨_,cj _ rfl,rfl,0,rfl⟩⟩
  have ne:∀c∈[z,ti,to,i,j],c≠s.heap.objs.size:=λc hc=>by
   have hc:c=z\/c=ti\/c=to\/c=i\/c=j:=by simpa using hc
   rcases hc with rfl | rfl | rfl | rfl | rfl
   ·obtain⟨_,_,_,h1⟩:=h1;exact b_ (bG h1)
   ·exact b_ (bG h2)
   ·exact b_ (bG h3)
   ·exact b_ (bG gi)
   ·exact b_ (bG gj)
  have S9:∀c∈[z,ti,to,i,j],lZ X aa (upd H s.heap.objs.size (.tup [x,y])) c:=λc hc=>⟨by rw[az (ne c hc)];exact(hf c hc).1,(hf c hc).2⟩
  have I2:=I1.tB (h':=Rb) (t':=s.toks) (ch:=[z,ti,to,i,j]) (λc o hc e=>by
   have nQ:c≠z/\c≠ti/\c≠to/\c≠i/\c≠j:=by simpa using hc
   refine p2.extBut c o nQ.1 ?_;by_cases hz:c=s.heap.objs.size
   ·subst hz;have e':(s.heap.push {cls:=.type "tuple",data:=.seq #[u,v]}).get? s.heap.objs.size=some _:=cj _ rfl;rw[e']at e;cases e;exact o5
   ·have e2:s.heap.get? c=some o:=by
     cases hs:s.heap.get? c with
     | some o'=>rw[aO _ hs]at e;exact e
     | none=>exact absurd e (by rw[mX hz,hs];intro z;cases z)
    exact o6 c o nQ.1 nQ.2.2.1 nQ.2.2.2.1 nQ.2.2.2.2 e2) S9
  have up:∀c o,c≠z->h'.get? c=some o->Rb.get? c=some o:=λc o hc e=>p2.extBut c o hc e;exact⟨.ref s.heap.objs.size,_,I2,rfl,⟨s.heap.objs.size,x,y,rfl,fr,rfl,au,av⟩,⟨p1,up _ _ D.tz (o6 _ _ D.tz D.tt D.di D.dj h2),o2.imp λ_=>.imp λ_=>up _ _ D.oz,o3.at λo e=>up _ _ D.iz e,o4.at λo e=>up _ _ D.jz e⟩,λc hc=>(S9 c hc).1⟩
 done:=by
  intro X hP hw hK hc n aa s σ H E I hf st hg;subst hP hw hK;obtain⟨h1,h2,⟨p,q,h3⟩,h4,h5⟩:=st;obtain⟨xs,ys,qx,qy,hx⟩:=hg;have hh:X.A.in1.handled=none:=I.ok.hd hc
  have fin:∀h',(∀c o,c≠z->c≠to->c≠i->c≠j->s.heap.get? c=some o->h'.get? c=some o)->(none:Option Value)=none/\Inv X aa σ H {s with heap:=h'}:=λh' e=>⟨rfl,I.tB (t':=s.toks) (ch:=[z,ti,to,i,j]) (λc o hc u=>by
   have nQ:c≠z/\c≠ti/\c≠to/\c≠i/\c≠j:=by simpa using hc
   exact e c o nQ.1 nQ.2.2.1 nQ.2.2.2.1 nQ.2.2.2.2 u) hf⟩
  refine Jn (st1:=λh=>iK l h i a (n+1)) D h1 h2 h3 ?_ λh' e=>fin h' e;by_cases hl:xs.length<=n
  ·exact .inl λh' e=>z9 hh I qx h4 hl h' (λo=>e a o ha) λo=>e i o D.iz
  ·have YB:n<xs.length:=∅;obtain⟨⟨u,ru,nu⟩,au⟩:=tF (A:=X.A.in1) I qx h4 (br YB);exact .inr ⟨u,λh' e=>nu h' (λo=>e a o ha) λo=>e i o D.iz,λh' e=>z9 hh I qy h5 ∅ h' (λo=>e b o hb.1 hb.2.1 hb.2.2) λo=>e j o D.jz D.oj.symm D.ij.symm⟩
 self:=λA n s Q E ⟨⟨_,_,_,hz⟩,_⟩ h=>by
  have hT:s.TypeIs (.ref z) "zip" := ⟨_,hz,rfl⟩;refine DK hT F.slot_zip_iter (fM F.slot_zip_iter hT F.entry_zip_iter ?_ (F.args_zip_iter_1 _));show wpAny _ _ (ret (.ref z)) _ _ s;exact ah ⟨_,rfl,"zip",_,hT,DS.lookup,h⟩
end L2
end
section
namespace L2
open PySem PySem.Spec PyProof.Rows
abbrev YC(l:Bool)(a:Addr):Obj:={cls:=.type (if l=true then "list_iterator" else "tuple_iterator"),data:=.fields #[.ref a,.int 0 0]}
noncomputable def Ta(l:Bool)(h:Heap)(a:Addr)(xs:Array Value):Prop:=if l=true then h.IsList a xs else h.IsTuple a xs
abbrev V_(h:Heap)(l:Bool)(a:Addr):Heap:=h.push (YC l a)
abbrev Wa(h:Heap)(l m:Bool)(a b:Addr):Heap:=(V_ h l a).push (YC m b)
abbrev Wb(h:Heap)(l m:Bool)(a b:Addr):Heap:=(Wa h l m a b).push {cls:=.type "tuple",data:=.seq #[.ref h.objs.size,.ref (V_ h l a).objs.size]}
abbrev Wc(h:Heap)(l m:Bool)(a b:Addr):Heap:=(Wb h l m a b).push {cls:=.type "tuple",data:=.seq #[.none,.none]}
abbrev Rc(h:Heap)(l m:Bool)(a b:Addr):Heap:=(Wc h l m a b).push {cls:=.type "zip",data:=.fields #[.none,.bool false,.bool false,.ref (Wa h l m a b).objs.size,.ref (Wb h l m a b).objs.size]}
theorem Cm(l m:Bool)(a b:Addr)(xs ys:Array Value):Meets (Builtin.«zip.__new__» ⟨[.type "zip",.ref a,.ref b],[]⟩) (λ_ R s=>Ta l s.heap a xs/\Ta m s.heap b ys/\R (.ok (.ret (.ref (Wc s.heap l m a b).objs.size))) {s with heap:=Rc s.heap l m a b}) :=
 .of_wp λprog w A R s h=>by
  obtain⟨hp,g,d,tk,os⟩:=s;obtain⟨ha,hb,h⟩:=h;have Yy:=sub_zip;have keep:∀(o:Obj) c v,hp.get? c=some v->(hp.push o).get? c=some v:=λo c v e=>aO _ e
  cases l with
  | true =>
   have h1:Heap.IsList (Shared.heap ⟨hp,g,d,tk,os⟩) a xs:=ha
   cases m with
   | true =>
    have h2:Heap.IsList (Shared.heap ⟨hp.push {cls:=.type "list_iterator",data:=.fields #[.ref a,.int 0 0]},g,d,tk,os⟩) b ys:=(show hp.IsList b ys from hb).at λo e=>keep _ _ _ e
    wp_walk using vf h1,vf h2
    exact⟨_,rfl,h⟩
   | false =>
    have h2:Heap.IsTuple (Shared.heap ⟨hp.push {cls:=.type "list_iterator",data:=.fields #[.ref a,.int 0 0]},g,d,tk,os⟩) b ys:=(show hp.IsTuple b ys from hb).at λo e=>keep _ _ _ e
    wp_walk using vf h1,vd h2
    exact⟨_,rfl,h⟩
  | false =>
   have h1:Heap.IsTuple (Shared.heap ⟨hp,g,d,tk,os⟩) a xs:=ha
   cases m with
   | true =>
    have h2:Heap.IsList (Shared.heap ⟨hp.push {cls:=.type "tuple_iterator",data:=.fields #[.ref a,.int 0 0]},g,d,tk,os⟩) b ys:=(show hp.IsList b ys from hb).at λo e=>keep _ _ _ e
    wp_walk using vd h1,vf h2
    exact⟨_,rfl,h⟩
   | false =>
    have h2:Heap.IsTuple (Shared.heap ⟨hp.push {cls:=.type "tuple_iterator",data:=.fields #[.ref a,.int 0 0]},g,d,tk,os⟩) b ys:=(show hp.IsTuple b ys from hb).at λo e=>keep _ _ _ e
    wp_walk using vd h1,vd h2
    exact⟨_,rfl,h⟩
section
variable {prog:Program} {w:World} {A:Around} {E:Value->Shared->Prop} {s:Shared}
theorem v5(e:h.get? it=some (YC l a)):iK l h it a 0:=by
 cases l with
 | true=>exact⟨_,e,rfl,rfl⟩
 | false=>exact⟨_,e,rfl,rfl⟩
theorem EN (ha : Ta l s.heap a xs) (hb : Ta m s.heap b ys)
    (h:∀h',IsZip h' (s.heap.objs.size+4) (s.heap.objs.size+2) (s.heap.objs.size+3) .none->IsPair h' (s.heap.objs.size+2) (.ref s.heap.objs.size) (.ref (s.heap.objs.size+1))->IsPair h' (s.heap.objs.size+3) .none .none ->
      iK l h' s.heap.objs.size a 0->iK m h' (s.heap.objs.size+1) b 0->(∀c o,s.heap.get? c=some o->h'.get? c=some o)->Q (.ref (s.heap.objs.size+4)) {s with heap:=h'}) :
    wpAny (model prog w) A (call (.type "zip") [.ref a,.ref b]) Q E s:=by
  refine callType_new F.called_zip (by decide) (F.typeCall_zip_2 _ _) (F.newCall_zip_2 _ _) (λobj=>F.args_object_init_3 obj _ _) F.entry_zip_new (Cm l m a b xs ys) ⟨ha,hb,?_⟩;have n1:(V_ s.heap l a).objs.size=s.heap.objs.size+1:=iR ..;have n2:(Wa s.heap l m a b).objs.size=s.heap.objs.size+2:=by rw[iR,n1]
  have n3:(Wb s.heap l m a b).objs.size=s.heap.objs.size+3:=by rw[iR,n2]
  have n4:(Wc s.heap l m a b).objs.size=s.heap.objs.size+4:=by rw[iR,n3]
  have e5:(Rc s.heap l m a b).get? (Wc s.heap l m a b).objs.size=some _:=cj _ rfl;have e4:(Rc s.heap l m a b).get? (Wb s.heap l m a b).objs.size=some _:=aO _ (cj _ rfl);have e3:(Rc s.heap l m a b).get? (Wa s.heap l m a b).objs.size=some _:=aO _ (aO _ (cj _ rfl));have e2:(Rc s.heap l m a b).get? (V_ s.heap l a).objs.size=some _:=aO _ (aO _ (aO _ (cj _ rfl)));have e1:(Rc s.heap l m a b).get? s.heap.objs.size=some _:=aO _ (aO _ (aO _ (aO _ (cj _ rfl))));show _/\_;rw[n2,n3,n4]at e5;rw[n1,n2]at e3;rw[n3]at e4;rw[n1]at e2;rw[n4];exact⟨⟨_,e5,rfl⟩,h _ e5 e3 e4 (v5 e1) (v5 e2) λc o u=>aO _ (aO _ (aO _ (aO _ (aO _ u))))⟩
end
section
variable {X:Cx}
def YD(K:Frag)(ta:TA):TI:=λσ H R=>ta σ H λvs H1=>∃(l m:Bool) (a b:Addr),vs=[.ref a,.ref b]/\(∃xs,nT K H1 l a xs)/\(∃ys,nT K H1 m b ys)/\R (YA K l m a b) H1
theorem EO(I:Inv X aa σ H s)(h:nT X.K H l a xs):∃aA:Array Value,Ta l s.heap a aA/\a<s.heap.objs.size:=by
 cases l with
 | true =>
  obtain⟨aA,_,p,_⟩:=I.list (show fb X.K H a xs from h);exact⟨aA.toArray,p.isList,by obtain⟨o,e,_⟩:=p.isList;exact bG e⟩
 | false =>
  obtain⟨aA,_,p,_⟩:=I.tuple (show fz X.K H a xs from h);exact⟨aA.toArray,p,by obtain⟨o,e,_⟩:=(show s.heap.IsTuple a aA.toArray from p);exact bG e⟩
theorem Tc{n:Nat}:ZA (n+4) (n+2) (n+3) n (n+1) :=
 ⟨(by omega:(n+2:Nat)≠n+4),(by omega:(n+3:Nat)≠n+4),(by omega:(n:Nat)≠n+4),(by omega:(n+1:Nat)≠n+4),(by omega:(n+2:Nat)≠n+3),(by omega:(n+2:Nat)≠n),(by omega:(n+2:Nat)≠n+1),(by omega:(n+3:Nat)≠n),(by omega:(n+3:Nat)≠n+1),(by omega:(n:Nat)≠n+1)⟩
theorem ER(h:c∈[n+4,n+2,n+3,n,n+1]):n<=c:=by
 simp only[bT,lU,fY]at h;omega
theorem z_{a n k:Nat}(h:a<n):a≠n+k:=∅
theorem N7{a b:Expr}{ta:TA}{tg:Expr}{p pos:Pos} (hg:Gl X "zip") (hm:X.mg "zip" = none) (ha:PA X [a,b] ta) (hs:starEach [a,b] X.env=(false,eval a X.env)::starEach [b] X.env) (yh:starEach [b] X.env=[(false,eval b X.env)]):PI X tg (.Call (.Name "zip" p) [a,b] [] pos) (YD X.K ta):=by
 intro aa s σ H R I h;refine Call_ (jW I hg hm boot_zip (DD (cJ (ha pos aa s σ H _ I h) ?_) hs (by rw[yh];rfl)));rintro us s1 ⟨vs,H1,I1,r1,q1⟩;obtain⟨l,m,c,d,rfl,⟨xs,hx⟩,⟨ys,hy⟩,q⟩:=q1;obtain⟨u1,u2,rfl,ru,rw2⟩:=vals2 r1;cases ru;cases rw2;obtain⟨ix,sx,lx⟩:=EO I1 hx;obtain⟨iy,sy,ly⟩:=EO I1 hy;refine EN sx sy λh' e1 e2 e3 e4 e5 e6=>?_;refine wpAny_pyIter_zip (s:={s1 with heap:=h'}) e1 ?_;have I2:Inv X aa σ H1 {s1 with heap:=h'}:=I1.kept (t':=s1.toks) e6;exact⟨s1.heap.objs.size+4,[s1.heap.objs.size+4,s1.heap.objs.size+2,s1.heap.objs.size+3,s1.heap.objs.size,s1.heap.objs.size+1],_,_,H1,rfl,I2,EM l m c d _ _ _ _ _ Tc (z_ lx) ⟨z_ ly,z_ ly,z_ (k:=0) ly⟩,⟨⟨_,_,.inl rfl,e1⟩,e2,⟨_,_,e3⟩,e4,e5⟩,λc hc=>I1.vF (ER hc) (I1.bI.fresh (ER hc)),q⟩
end
end L2
end
section
namespace L2
open PySem PySem.Spec PyProof.Rows
open AutoSeq1 (wpAny_loadPart')
abbrev ES(a:Int):Nat->Value->Prop:=λi v=>∃t,v=.int (a+i*1) t
section
variable {prog:Program} {w:World} {A:Around} {E:Value->Shared->Prop} {s:Shared}
theorem LO{a b:Int}{n:Nat}(hh:A.handled=none)(hr:IsRange s.heap r a b 1 t u v)(YE:Builtin.Range.small a b 1=true)(hn:Builtin.Range.rangeSize a b 1=n)(hl:n<=2 ^ 24)(hQ:∀h' tk acc,(∀c o,s.heap.get? c=some o->h'.get? c=some o)->ItemsOf (ES a) acc n->Q acc.toList {s with heap:=h',toks:=tk}):wpAny (model prog w) A (collect (.ref r)) Q E s:=by
  unfold collect;refine af (wpAny_runValue (qI F.entry_proto_collect ?_));rw[sA F.plain_proto_collect _];show wpAny _ A.in1 (newList [] >>= λl=>again (.builtin "list.__iadd__" ⟨[l,.ref r],[]⟩)) _ _ s;refine af (eP ?_);refine ah ⟨vj F.plain_list_iadd _,qI F.entry_list_iadd ?_⟩;rw[sA F.plain_list_iadd _];show wpAny _ A.in1 (Builtin.List.listExtendWith (.ref s.heap.objs.size) (.ref r) (.ref s.heap.objs.size)) _ _ _;have g0:(s.heap.push {cls:=.type "list",data:=.seq ([]:List Value).toArray}).get? s.heap.objs.size=some {cls:=.type "list",data:=.seq #[] 0}:=cj _ rfl
  have fin : ∀ (r' : Result) (s' : Shared), (∃ h' tk acc c', r' = .ok (.ret (.ref s.heap.objs.size)) /\ s' = { s with heap := h', toks := tk } /\ (∀ c o, c ≠ s.heap.objs.size -> (s.heap.push { cls := .type "list", data := .seq ([] : List Value).toArray }).get? c = some o -> h'.get? c = some o) /\
      h'.get? s.heap.objs.size=some {cls:=.type "list",dict:=none,data:=.seq acc c',slots:=#[]}/\ItemsOf (ES a) acc n)->(match r' with
        | .ok (.ret v)=>wpAny (model prog w) A (match v with
          | .ref x=>do
            match (<- load x).data with
              | .seq xs _=>pure xs.toList
              | _=>unsupported "internal:collect"
          | _=>unsupported "internal:collect") Q E s'
        | .ok _=>False
        | .error e=>E e s'):=by
    rintro r' s' ⟨h',tk,acc,c',rfl,rfl,kp,g1,it⟩;show wpAny _ A (load s.heap.objs.size >>= _) _ _ _;refine af (BX g1 (ah ?_));exact hQ h' tk acc (λc o e=>kp c o (b_ (bG e)) (aO _ e)) it
  refine oN (wpAny_extend_range (R := fun r' s' => ∃ h' tk acc c', r' = .ok (.ret (.ref s.heap.objs.size)) /\ s' = { s with heap := h', toks := tk } /\ (∀ c o, c ≠ s.heap.objs.size -> (s.heap.push { cls := .type "list", data := .seq ([] : List Value).toArray }).get? c = some o -> h'.get? c = some o) /\
      h'.get? s.heap.objs.size=some {cls:=.type "list",dict:=none,data:=.seq acc c',slots:=#[]}/\ItemsOf (ES a) acc n)
    (s:={s with heap:=s.heap.push {cls:=.type "list",data:=.seq ([]:List Value).toArray}}) hh (aO _ hr) YE hn hl _ _ _ g0 λh' tk acc c' kp g1 it=>⟨h',tk,acc,c',rfl,rfl,kp,g1,it⟩) (λf s' h=>?_) λe s' h=>?_
  · cases f with
    | done f=>exact fin _ _ h
    | again c'=>exact⟨h.1,BU h.2 λr Q7 hr=>fin _ _ hr⟩
  · obtain⟨_,_,_,_,z,_⟩:=h;cases z
end
end L2
end
section
namespace L2
open PySem PySem.Spec PyProof.Rows
theorem jN:entryFor table "dict.update.loop" = some Builtin.«dict.update.loop»:=entryFor_of_tree (nofun)
theorem eW:plainId "dict.update.loop" = true:=⋯
theorem tH:typeLookup (.type "list") "keys" = pure none:=by rw[typeLookup_type,MI];kernel_rfl
section
variable {prog:Program} {w:World} {A:Around} {E:Value->Shared->Prop} {s:Shared}
theorem j2(hx:s.heap.get? a=some o) (hc:o.cls=.type "list") (v7:o.data=.seq xs k) (hd:o.dict=none) (hA:A.handled=none) (h:∀h' tk,(∀b o,s.heap.get? b=some o->h'.get? b=some o)->Q none {s with heap:=h',toks:=tk}):wpAny (model prog w) A (getAttr? (.ref a) "keys") Q E s:=by
 obtain⟨c,v8,dat,sl⟩:=o;simp only at hc v7 hd;subst hc v7 hd;obtain⟨hp,g,d,tk,os⟩:=s;have hT:∀Wd,(⟨hp,g,d,Wd,os⟩:Shared).TypeIs (.ref a) "list" := λ_=>⟨_,hx,rfl⟩;have f1:=sub_AttributeError;have f3:=My.lookup;have f4:=My.bind (.ref a);have f5:=am_list_getattr_none;unfold getAttr? getAttrBy? getAttrBy
 repeat (any_goals (first | assumption | exact hT _ | ((with_reducible show wpAny _ _ (call (Value.builtin "list.__getattribute__") _ _) _ _ _);refine BY My (hT _) am_entry_list_getattribute (F.args_list_getattribute_2 _ _) (meets_getattribute_miss_list a xs k sl "keys" _ tH ⋯ ⋯) ⟨hx,hA,λh' Wd e hx'=>?_⟩) | wp_step))
 obtain⟨t',u',he⟩:=hx'.there;show wpAny _ _ (getattributeRaised _ _ _ _ _ _ _) _ _ _;unfold getattributeRaised
 repeat (any_goals (first | assumption | wp_step))
 exact h _ _ hx'.of.keeps
noncomputable def mY(kv:Nat->bN×Value):Nat->List (bN×Value)
 | 0=>[]
 | n+1=>stored (mY kv n) (kv n).1 (kv n).2
theorem mj(kv:Nat->bN×Value):∀n,(mY kv n).length<=n
 | 0=>aH _
 | n+1=>dW (stored_length_le _ _ _) (Nat.succ_le_succ (mj kv n))
theorem Jo {R : Result -> Shared -> Prop} {I : Addr} {fp wr : List Addr} {n : Nat} {P : Nat -> Value -> Prop} {St : Nat -> Heap -> Prop} (W : Walks prog w A.in1 I fp wr n P St) (d : Addr) (LI : d ∉ fp) (hn : n <= sizeLine)
    (kv:Nat->bN×Value) (h0:Heap) (Cn:∀i v,P i v->∃a uk,v=.ref a/\a∉wr/\a≠d/\iT (kv i).1 uk=true/\IsTup h0 a #[uk,(kv i).2]) :
    ∀(k i:Nat)(s:Shared)(j:Int)(t:Tok),n-i=k->i<=n->St i s.heap->(∀b o,b∉wr->b≠d->h0.get? b=some o->s.heap.get? b=some o)->s.heap.DictOf (bA prog w) d (mY kv i) ->
      (∀h' tk,(∀b o,b∉wr->b≠d->s.heap.get? b=some o->h'.get? b=some o)->h'.DictOf (bA prog w) d (mY kv n)->R (.ok (.ret .none)) {s with heap:=h',toks:=tk}) ->
      codeAny (model prog w) A (.builtin "dict.update.loop" ⟨[.ref d,.ref I,.int j t,.none],[]⟩) R s:=by
  have hdw:d∉wr:=λh=>LI (W.sub _ h);intro k
  induction k with
  | zero =>
    intro i s j t hk hi fB vZ hd hR;have v9:i=n:=∅;subst v9;refine qI jN ?_;rw[sA eW _];show wpAny _ A.in1 (pyNext (.ref I) >>= _) _ _ s;refine af (W.done s _ _ fB λh' tk hm=>?_);show wpAny _ A.in1 (Builtin.Dict.addKeywords d [] >>= _) _ _ _;refine af (ah (ah (hR h' tk (λb o hb _ e=>hm b o hb e) ?_)));obtain⟨o,es,ep,ho,eB⟩:=hd;exact⟨o,es,ep,hm d _ hdw ho,eB⟩
  | succ k ih =>
    intro i s j t hk hi fB vZ hd hR;have jM:i<n:=∅;refine qI jN ?_;rw[sA eW _];show wpAny _ A.in1 (pyNext (.ref I) >>= _) _ _ s;refine af (W.item i s _ _ jM fB λv h' tk hP YF hm=>?_);obtain⟨a,uk,rfl,haw,had,NG,o,ho,hc,q,v7⟩:=Cn i v hP;have zP:h'.get? a=some o:=hm _ _ haw (vZ _ _ haw had ho)
    have RZ:h'.DictOf (bA prog w) d (mY kv i):=by
      obtain⟨o,es,ep,ho,eB⟩:=hd;exact⟨o,es,ep,hm d _ hdw ho,eB⟩
    have hT:∀Wd,Shared.TypeIs {s with heap:=h',toks:=Wd} (.ref a) "tuple" := λ_=>⟨o,zP,hc⟩;refine af (hV (af (wpAny_tryCatch ?_)));unfold Builtin.Dict.pairItems;refine af (yd (hT _) ?_);have hz:(Value.type "tuple" == Value.type "list" || Value.type "tuple" == Value.type "tuple")=true:=⋯;rw[ar hz];refine af (sH (s:={s with heap:=h',toks:=tk}) zP v7 (ah ?_));show wpAny _ A.in1 (holding [uk,(kv i).2] (dictSet d uk (kv i).2)) _ _ _;refine hV (wpAny_dictSet_pairs (knd:=bA prog w) (k:=(kv i).1) NG RZ (λh2 hd2 yh=>?_) (dW (mj kv i) ∅));refine ah ⟨vj eW _,ih (i+1) _ _ _ ∅ jM (W.frame _ _ _ YF λb hb o e=>?_) (λb o hb ml e=>?_) hd2 λh3 tk3 YG HB=>?_⟩
    · show h2.get? b=some o;rw[yh.2 b (λz=>LI (by rw[<- z];exact hb))];exact e
    · show h2.get? b=some o;rw[yh.2 b ml];exact hm _ _ hb (vZ _ _ hb ml e)
    · refine hR h3 tk3 (λb o hb ml e=>YG b o hb ml ?_) HB;show h2.get? b=some o;rw[yh.2 b ml];exact hm _ _ hb e
theorem Jp{aA:List Value}(hA:A.handled=none)(hl:PlainL s.heap l aA.toArray)(hn:aA.length<=sizeLine)(kv:Nat->bN×Value)(Cn:∀i v,aA[i]?=some v->∃a uk,v=.ref a/\iT (kv i).1 uk=true/\IsTup s.heap a #[uk,(kv i).2])(h:∀h' tk,(∀b o,s.heap.get? b=some o->h'.get? b=some o)->h'.DictOf (bA prog w) s.heap.objs.size (mY kv aA.length)->Q (.ref s.heap.objs.size) {s with heap:=h',toks:=tk}):wpAny (model prog w) A (call (.type "dict") [.ref l]) Q E s:=by
 refine callType_codes (Q₁:=λobj bt=>obj=.ref s.heap.objs.size/\bt={s with heap:=s.heap.push {cls:=.type "dict",data:=.dict #[]}}) F.kt_called_dict (F.kt_typeCall_dict_1 _) F.entry_dict_init (kt_code_dict_new _ ⟨rfl,rfl⟩) ?_;rintro obj bt ⟨rfl,rfl⟩;have mf:(s.heap.push {cls:=.type "dict",data:=.dict #[]}).DictOf (bA prog w) s.heap.objs.size []:=Heap.DictOf.new s.heap;obtain⟨o,m,ho,hc,tJ,v7⟩:=hl;have ET:(s.heap.push {cls:=.type "dict",data:=.dict #[]}).get? l=some o:=aO _ ho;have hT:Shared.TypeIs {s with heap:=s.heap.push {cls:=.type "dict",data:=.dict #[]}} (.ref l) "list" := ⟨o,ET,hc⟩;have jM:=bG ho;refine⟨mf.typeIs,F.args_dict_init_2 _ _,?_⟩;unfold Builtin.«dict.__init__»;refine af ?_;unfold Builtin.Dict.selfAndRest;refine af (MJ mf.typeIs ?_);show wpAny _ _ (pure (s.heap.objs.size,[Value.ref l])) _ _ _;refine ah ?_;show wpAny _ _ (Builtin.Dict.updateFrom "dict.__init__" s.heap.objs.size (.ref l) [] .none) _ _ _;unfold Builtin.Dict.updateFrom;refine af (yd hT ?_);rw[ar ⋯];refine af (j2 (s:={s with heap:=s.heap.push {cls:=.type "dict",data:=.dict #[]}}) ET hc v7 tJ (by simp[hA]) λh1 tk1 k1=>?_);rw[ar (show(none:Option Value).isNone=true from rfl)];have zT:h1.get? l=some o:=k1 _ _ ET
 have hle:s.heap.objs.size<h1.objs.size:=by
  obtain⟨o',es,ep,he,_⟩:=mf;exact bG (k1 _ _ he)
 refine af (nJ (af (vf (s:={s with heap:=h1,toks:=tk1}) ⟨o,zT,hc,m,v7⟩ ?_)));have YH:=bG zT;have v9:l≠h1.objs.size:=b_ YH;have WW:=Walks.list (prog:=prog) (w:=w) (A:=A.in1.in1) (by simp[hA]) h1.objs.size l v9 aA.toArray;simp only[cG,DF]at WW;refine ah ⟨vj eW _,?_⟩;have kp:∀b u,s.heap.get? b=some u->(h1.push {cls:=.type "list_iterator",data:=.fields #[.ref l,.int 0 0]}).get? b=some u:=λb u e=>aO _ (k1 _ _ (aO _ e));refine Jo WW s.heap.objs.size ?_ hn kv s.heap ?_ (aA.length-0) 0 _ _ _ rfl (lV _) ⟨⟨_,cj _ rfl,rfl,rfl⟩,⟨o,aO _ zT,hc,m,v7⟩⟩ (λb o' _ _ e=>kp b o' e) ?_ ?_
 ·simp only[bT,sE,fY,not_or];exact⟨b_ hle,λz=>absurd jM (by rw[z];exact iS _)⟩
 ·intro i v hv;obtain⟨a,uk,e,hk,ht⟩:=Cn i v hv;have rH:=ht.lt;refine⟨a,uk,e,?_,b_ rH,hk,ht⟩;simp only[bT,sE,fY];exact b_ (D0 rH hle)
 ·obtain⟨o',es,ep,he,eB⟩:=mf;exact⟨o',es,ep,aO _ (k1 _ _ he),eB⟩
 ·intro h' tk hk hd;refine⟨rfl,h h' tk (λb u e=>?_) hd⟩;have hb:=bG e;exact hk b u (by simp only[bT,sE,fY];exact b_ (D0 hb hle)) (b_ hb) (kp b u e)
end
end L2
end
section
namespace L2
open PySem PySem.Spec PyProof.Rows
end L2
end
section
namespace L2
open PySem PySem.Spec PyProof.Rows
theorem Co(a b:Int):Builtin.Range.rangeSize a b (-1)=if b<a then a-b else 0:=by
 unfold Builtin.Range.rangeSize;rw[aq (by decide),show -(-1:Int)=1 from rfl,Int.ediv_one];by_cases h:b<a
 ·rw[ar h,ar h];omega
 ·rw[aq h,aq h]
theorem small_down(h1:-(2 ^ 62)<=a)(h2:a<2 ^ 62)(h3:-(2 ^ 62)<=b)(h4:b<2 ^ 62):Builtin.Range.small a b (-1)=true:=by
 unfold Builtin.Range.small;rw[Co];simp only[Builtin.Range.rangeFitsLong,aW,BQ,oJ,kC,show ¬(-1:Int)>0 by decide,jU];split<;>omega
end L2
end
section
namespace L2
open PySem PySem.Spec PyProof.Rows
section
variable {X:Cx}
theorem EU:jH X (compareOp .Is) (λx y H Q=>∃b c,x=.bl b/\y=.bl c/\Q (.bl (b==c)) H):=by
 sleep 11;obtain⟨b,c,rfl,rfl,q⟩:=h;cases rx;cases ry;refine wpAny_is_plain rfl (oS I q ?_);cases b<;>cases c<;>rfl
theorem Aa:jH X (compareOp .IsNot) (λx y H Q=>∃b c,x=.bl b/\y=.bl c/\Q (.bl (!(b==c))) H):=by
 sleep 11;obtain⟨b,c,rfl,rfl,q⟩:=h;cases rx;cases ry;refine wpAny_isNot_plain rfl (oS I q ?_);cases b<;>cases c<;>rfl
theorem Jq:∀{is:List Int}{aA:List Value},aY (is.map V.int) aA->PySem.W.kf_ints aA=true
 | [],_,.nil=>rfl
 | i::is,_,.cons r t=>by
  obtain⟨_,rfl⟩:=r;exact(Jq (is:=is) t:PySem.W.kf_ints _=true)
end
end L2
end
section
namespace L2
open PySem PySem.Spec PyProof.Rows
section
variable {prog:Program} {w:World} {A:Around} {E:Value->Shared->Prop} {s:Shared} {it d:Addr} {i ep:Nat} {od:Obj} {es:Array DictEntry}
theorem EV(nm:(d==sysModules)=false)(g:s.heap.get? d=some od)(x:od.ExactDict)(dt:od.data=.dict es ep) (q:Q (.ref s.heap.objs.size) {s with heap:=s.heap.push {cls:=.type "dict_keyiterator",data:=.fields #[.ref d,.int 0 0,.int es.size 0,.int ep 0]}}):wpAny (model prog w) A (pyIter (.ref d)) Q E s:=by
 have T:s.TypeIs (.ref d) "dict" := ⟨od,g,x.1⟩;refine DK T F.slot_dict_iter (fM F.slot_dict_iter T F.entry_dict_iter ?_ (F.args_dict_iter_1 _));unfold Builtin.«dict.__iter__»;refine af ?_;unfold Builtin.Dict.dictSlotNone;refine af (MJ T (ah ?_));unfold Builtin.Dict.showsAll;refine af (ah ?_);rw[aq (by rw[nm];exact aQ)];refine af (ah (af (BG g dt (af (BR g dt ?_)))));exact af (eP (ah ⟨_,rfl,"dict_keyiterator",_,⟨_,cj _ rfl,rfl⟩,DC.lookup,by simpa[rawInt]using q⟩))
theorem EW(hi:s.heap.IsKeyIter it d i es.size ep)(g:s.heap.get? d=some od)(dt:od.data=.dict es ep)(he:es[i]?=some e)(q:∀h,h.IsKeyIter it d (i+1) es.size ep->Heap.SameBut it s.heap h->Q (some e.key) {s with heap:=h}):wpAny (model prog w) A (pyNext (.ref it)) Q E s:=by
 sleep 28
 sleep 36
 refine af (vh ho hd ?_);simp only[show Builtin.Dict_items.ownsTuple "dict_keyiterator" = false by decide,x9,jU];sleep 2;simp only[show ¬((i:Int)<0) from by omega,jU,gP,he];refine af ?_
 sleep 36
 refine af (wpAny_isOneOf_keyiter hi.typeIs ?_);refine af (nF (i:=1) ho hd (by simp) ?_)
 have Rf:(s.heap.update it (Obj.mapFields (·.setIfInBounds 1 (rawInt ((i:Int)+1))))).IsKeyIter it d (i+1) es.size ep :=
  ⟨_,oF _ ho (xZ (ku hd _)),(BF ..).trans hc,by rw[ku hd];simp[rawInt]⟩
 refine af (hV (af (wpAny_isOneOf_keyiter (s:={s with heap:=s.heap.update it (Obj.mapFields (·.setIfInBounds 1 (rawInt ((i:Int)+1))))}) Rf.typeIs ?_)));exact ah (ah ⟨_,rfl,ah (q _ Rf (jA ..))⟩)
theorem Jr(hh:A.handled=none)(hi:s.heap.IsKeyIter it d i es.size ep)(g:s.heap.get? d=some od)(dt:od.data=.dict es ep)(he:es.size<=i)(q:∀h,Heap.ExtBut it s.heap h->Q none {s with heap:=h}):wpAny (model prog w) A (pyNext (.ref it)) Q E s:=by
 sleep 28
 sleep 36
 refine af (vh ho hd ?_);simp only[show Builtin.Dict_items.ownsTuple "dict_keyiterator" = false by decide,x9,jU];sleep 2;simp only[show ¬((i:Int)<0) from by omega,jU,gP,MF he];refine af ?_
 sleep 36
 refine af (nF (i:=0) ho hd (by simp) (af ?_));sleep 0;exact ah (q _ (((jA ..).extBut.push _).push _))
end
noncomputable def Td(a:Addr)(o:Obj)(ag:List (List bN×V)):It:=⟨λi H=>H a=some (.dP o (.dT ag))/\i<ag.length,λi H x H'=>H'=H/\∃k v b,ag[i]?=some (k,v)/\x=.ref b/\H b=some (.tup (k.map kV)),λi H=>H a=some (.dP o (.dT ag))/\ag.length<=i⟩
theorem tK{α β:Type}{R:α->β->Prop}:∀{l:List α}{m:List β}{i:Nat}{x:α},Paired R l m->l[i]?=some x->∃y,m[i]?=some y/\R x y
 | _,_,0,_,.cons r _,e=>by cases e;exact⟨_,rfl,r⟩
 | _,_,i+1,_,.cons _ t,e=>tK (i:=i) t e
theorem v_{α β:Type}{R S:α->β->Prop}(f:∀a b,R a b->S a b):∀{l:List α}{m:List β},Paired R l m->Paired S l m
 | _,_,.nil=>.nil
 | _,_,.cons r t=>.cons (f _ _ r) (v_ f t)
theorem pe{α β:Type}{R:α->β->Prop}:∀{l:List α}{m:List β},Paired R l m->l.length=m.length
 | _,_,.nil=>rfl
 | _,_,.cons _ t=>by simp[pe t]
theorem Cp{P:Program}{w:World}{K:Frag}{tg:Expr}(it a:Addr)(o:Obj)(ag:List (List bN×V))(es:Array DictEntry)(ep:Nat)(dt:o.data=.dict es ep)(hl:es.size=ag.length):sS P w K tg (Td a o ag) [it] it (λi h=>h.IsKeyIter it a i es.size ep) where
 mem:=by simp
 obj:=λi h st b hb=>by
  obtain rfl:b=it:=by simpa using hb
  obtain⟨ob,e,_,d⟩:=st;exact⟨ob,e,λv z=>by rw[d]at z;cases z⟩
 keep:=λi h h' st k=>by
  obtain⟨ob,e,r⟩:=st;exact⟨ob,k it (by simp) _ e,r⟩
 item:=by
  sleep 4;obtain⟨f0,f1,f2,f3,f4,f5⟩:=hf it (by simp);obtain⟨g1,g2⟩:=hg;obtain⟨ho,hz,hs,xs,pr,o2,YI,ep2,h1,h2,h3,h4,h5⟩:=(show bH X.prog X.w H s.heap a (.dP o (.dT ag)) from I.bI a _ g1);obtain rfl:o2=o:=bS (h1.symm.trans ho);rw[dt]at h3;cases h3;obtain⟨p,hp⟩:∃p,ag[i]?=some p:=⟨_,br g2⟩;obtain⟨y,hy,r1,r2,r3⟩:=tK pr hp;have YJ:es[i]?=some (entryOfKey (tupleKind (bA X.prog X.w)) y):=by rw[<- oG,h4,bc,hy];rfl
  refine EW st ho dt YJ λh' uX sb=>?_;have I1:Inv X aa σ H {s with heap:=h'}:=I.turned (t':=s.toks) (λb ob hb e=>(sb.2 b hb).trans e) f0 f1 f3 f4 f5;obtain⟨ob,e,c,d⟩:=id uX;exact⟨_,rfl,vG (s:={s with heap:=h'}) e c d (by decide) ⟨.ref y.2.1,H,I1,rfl,⟨rfl,p.1,p.2,y.2.1,hp,rfl,r2⟩,uX,λb hb=>(hf b hb).1⟩⟩
 done:=by
  sleep 4;sleep 13;obtain⟨g1,g2⟩:=hg;obtain⟨ho,_⟩:=(show bH X.prog X.w H s.heap a (.dP o (.dT ag)) from I.bI a _ g1);exact Jr (I.ok.hd hc) st ho dt ∅ λh' eb=>⟨rfl,I.turned (t':=s.toks) (λb o hb e=>eb b o hb e) f0 f1 f3 f4 f5⟩
 self:=λ_ _ _ _ _ st h=>wpAny_pyIter_keyiter st h
section
variable {X:Cx} {tg:Expr}
theorem Inv.freeze{aa:List (Addr×Obj)}{σ:St}{H:Hp}{s:Shared}{a:Addr}{ag:List (List bN×V)}(I:Inv X aa σ H s)(e:H a=some (.dT ag)):∃o,Inv X aa σ (upd H a (.dP o (.dT ag))) s:=by
 obtain⟨hz,hs,xs,pr,o,es,ep,h1,h2,h3,h4,h5⟩:=(show bH X.prog X.w H s.heap a (.dT ag) from I.bI a _ e);refine⟨o,I.write (x:=a) (e:=a) (h':=s.heap) (t':=s.toks) (by rw[e];exact trivial) (.inl rfl) (λb u _ q=>q) ⟨o,h1⟩ ?_⟩;refine⟨h1,hz,hs,xs,?_,o,es,ep,h1,h2,h3,h4,h5⟩;have nt:∀{b:Addr}{ys:List V},H b=some (.tup ys)->b≠a:=λq z=>by subst z;rw[e]at q;cases q
 exact v_ (λp q r=>⟨r.1,by rw[az (nt r.2.1)];exact r.2.1,r.2.2⟩) pr
def Te(te:TE):TI:=λσ H R=>te σ H λv H1=>∃a ag,v=.ref a/\((H1 a=some (.dT ag)/\∀o,R (Td a o ag) (upd H1 a (.dP o (.dT ag))))\/∃o,H1 a=some (.dP o (.dT ag))/\R (Td a o ag) H1)
theorem Ab{aa:List (Addr×Obj)}{σ:St}{H:Hp}{s:Shared}{R:It->Hp->Prop}{E:Value->Shared->Prop}{a:Addr}{o:Obj}{ag:List (List bN×V)}(I:Inv X aa σ H s)(e:H a=some (.dP o (.dT ag)))(q:R (Td a o ag) H):wpAny (model X.prog X.w) X.A (pyIter (.ref a)) (Sj X aa σ tg R) E s:=by
 obtain⟨ho,hz,hs,xs,pr,o2,es,ep,h1,h2,h3,h4,h5⟩:=(show bH X.prog X.w H s.heap a (.dP o (.dT ag)) from I.bI a _ e);obtain rfl:o2=o:=bS (h1.symm.trans ho);have hl:es.size=ag.length:=by rw[pe pr,<- nA,h4,ay]
 refine EV hs ho h2 h3 ?_;refine⟨s.heap.objs.size,[s.heap.objs.size],_,_,H,rfl,I.kept (t':=s.toks) λb o e=>aO _ e,Cp _ a o2 ag es ep h3 hl,⟨_,cj _ rfl,rfl,rfl⟩,λb hb=>?_,q⟩;obtain rfl:=iO.mp hb;exact I.vF (aH _) (I.bI.fresh (aH _))
theorem Js(he:PE X e te):PI X tg e (Te te):=by
 intro aa s σ H R I h;refine cJ (he aa s σ H _ I h) ?_;rintro v s1 ⟨x,H1,I1,r1,a,ag,rfl,q⟩;cases r1;rcases q with⟨e,q⟩|⟨o,e,q⟩
 ·obtain⟨o,I2⟩:=I1.freeze e;exact Ab I2 a_ (q o)
 ·exact Ab I1 e q
end
end L2
end
section
namespace L2
open PySem PySem.Spec PyProof.Rows
end L2
end
section
namespace L2
open PySem PySem.Spec PyProof.Rows
section
variable {prog:Program} {w:World} {A:Around} {E:Value->Shared->Prop} {s:Shared} {it d v:Addr} {i ep:Nat} {od:Obj} {es:Array DictEntry}
theorem yB (nm : (d == sysModules) = false) : MeetsIn prog w (Builtin.«dict.values» ⟨[.ref d], []⟩) (fun _ R s => (∃ od, s.heap.get? d = some od /\ od.ExactDict) /\
      R (.ok (.ret (.ref s.heap.objs.size))) {s with heap:=s.heap.push {cls:=.type "dict_values",data:=.fields #[.ref d]}}) :=
  .of_wp <| by
    rintro A R s ⟨⟨od,g,x⟩,h⟩;refine af ?_;unfold Builtin.Dict.noArgs;refine af (MJ ⟨od,g,x.1⟩ ?_);show wpAny _ _ (pure d) _ _ s;refine ah ?_;show wpAny _ _ (Builtin.Dict.showsAll d >>= _) _ _ s;unfold Builtin.Dict.showsAll;rw[aq (by rw[nm];exact aQ)];refine af (ah ?_);exact af (eP (ah ⟨_,rfl,h⟩))
theorem Cq(hv:s.heap.IsValuesView v d)(g:s.heap.get? d=some od)(dt:od.data=.dict es ep) (q:Q (.ref s.heap.objs.size) {s with heap:=s.heap.push {cls:=.type "dict_valueiterator",data:=.fields #[.ref d,.int 0 0,.int es.size 0,.int ep 0]}}):wpAny (model prog w) A (pyIter (.ref v)) Q E s:=by
 obtain⟨ov,hov,hcv,hdv⟩:=id hv;refine DK hv.typeIs F.slot_dict_values_iter (fM F.slot_dict_values_iter hv.typeIs F.entry_dict_values_iter ?_ (F.args_dict_values_iter_1 _));unfold Builtin.«dict_values.__iter__»;refine af (ah ?_);refine af ?_;unfold Builtin.Dict_items.dictOf;refine af (e9 hov hdv (x:=.ref d) rfl (ah ?_));refine af ?_;unfold Builtin.Dict_items.newIterator;refine af (BG g dt (af (BR g dt ?_)));simp only[show Builtin.Dict_items.ownsTuple "dict_valueiterator" = false by decide,x9,jU];exact eP (ah ⟨_,rfl,"dict_valueiterator",_,⟨_,cj _ rfl,rfl⟩,DB.lookup,by simpa[rawInt]using q⟩)
theorem Cr(hi:s.heap.IsValIter it d i es.size ep)(g:s.heap.get? d=some od)(dt:od.data=.dict es ep)(he:es[i]?=some e)(q:∀h,h.IsValIter it d (i+1) es.size ep->Heap.SameBut it s.heap h->Q (some e.val) {s with heap:=h}):wpAny (model prog w) A (pyNext (.ref it)) Q E s:=by
 sleep 26
 sleep 35
 refine af (vh ho hd ?_);simp only[show Builtin.Dict_items.ownsTuple "dict_valueiterator" = false by decide,x9,jU];sleep 2;simp only[show ¬((i:Int)<0) from by omega,jU,gP,he];refine af ?_
 sleep 35
 refine af (MK hi.typeIs ?_);refine af (nF (i:=1) ho hd (by simp) ?_)
 have Rf:(s.heap.update it (Obj.mapFields (·.setIfInBounds 1 (rawInt ((i:Int)+1))))).IsValIter it d (i+1) es.size ep :=
  ⟨_,oF _ ho (xZ (ku hd _)),(BF ..).trans hc,by rw[ku hd];simp[rawInt]⟩
 refine af (hV (af (MK (s:={s with heap:=s.heap.update it (Obj.mapFields (·.setIfInBounds 1 (rawInt ((i:Int)+1))))}) Rf.typeIs ?_)));refine af (MK (s:={s with heap:=s.heap.update it (Obj.mapFields (·.setIfInBounds 1 (rawInt ((i:Int)+1))))}) Rf.typeIs ?_);exact ah (ah ⟨_,rfl,ah (q _ Rf (jA ..))⟩)
theorem EX(hh:A.handled=none)(hi:s.heap.IsValIter it d i es.size ep)(g:s.heap.get? d=some od)(dt:od.data=.dict es ep)(he:es.size<=i)(q:∀h,Heap.ExtBut it s.heap h->Q none {s with heap:=h}):wpAny (model prog w) A (pyNext (.ref it)) Q E s:=by
 sleep 26
 sleep 35
 refine af (vh ho hd ?_);simp only[show Builtin.Dict_items.ownsTuple "dict_valueiterator" = false by decide,x9,jU];sleep 2;simp only[show ¬((i:Int)<0) from by omega,jU,gP,MF he];refine af ?_
 sleep 35
 refine af (nF (i:=0) ho hd (by simp) (af ?_));sleep 0;exact ah (q _ (((jA ..).extBut.push _).push _))
end
noncomputable def Rg(a:Addr)(o:Obj)(ag:List (List bN×V)):It:=⟨λi H=>H a=some (.dP o (.dT ag))/\i<ag.length,λi H x H'=>H'=H/\∃k,ag[i]?=some (k,x),λi H=>H a=some (.dP o (.dT ag))/\ag.length<=i⟩
theorem Cs{P:Program}{w:World}{K:Frag}{tg:Expr}(it a:Addr)(o:Obj)(ag:List (List bN×V))(es:Array DictEntry)(ep:Nat)(dt:o.data=.dict es ep)(hl:es.size=ag.length):sS P w K tg (Rg a o ag) [it] it (λi h=>h.IsValIter it a i es.size ep) where
 mem:=by simp
 obj:=λi h st b hb=>by
  obtain rfl:b=it:=by simpa using hb
  obtain⟨ob,e,_,d⟩:=st;exact⟨ob,e,λv z=>by rw[d]at z;cases z⟩
 keep:=λi h h' st k=>by
  obtain⟨ob,e,r⟩:=st;exact⟨ob,k it (by simp) _ e,r⟩
 item:=by
  sleep 4;obtain⟨f0,f1,f2,f3,f4,f5⟩:=hf it (by simp);obtain⟨g1,g2⟩:=hg;obtain⟨ho,hz,hs,xs,pr,o2,YI,ep2,h1,h2,h3,h4,h5⟩:=(show bH X.prog X.w H s.heap a (.dP o (.dT ag)) from I.bI a _ g1);obtain rfl:o2=o:=bS (h1.symm.trans ho);rw[dt]at h3;cases h3;obtain⟨p,hp⟩:∃p,ag[i]?=some p:=⟨_,br g2⟩;obtain⟨y,hy,r1,r2,r3⟩:=tK pr hp;have YJ:es[i]?=some (entryOfKey (tupleKind (bA X.prog X.w)) y):=by rw[<- oG,h4,bc,hy];rfl
  refine Cr st ho dt YJ λh' uX sb=>?_;have I1:Inv X aa σ H {s with heap:=h'}:=I.turned (t':=s.toks) (λb ob hb e=>(sb.2 b hb).trans e) f0 f1 f3 f4 f5;obtain⟨ob,e,c,d⟩:=id uX;exact⟨_,rfl,vG (s:={s with heap:=h'}) e c d (by decide) ⟨p.2,H,I1,r3,⟨rfl,p.1,hp⟩,uX,λb hb=>(hf b hb).1⟩⟩
 done:=by
  sleep 4;sleep 13;obtain⟨g1,g2⟩:=hg;obtain⟨ho,_⟩:=(show bH X.prog X.w H s.heap a (.dP o (.dT ag)) from I.bI a _ g1);exact EX (I.ok.hd hc) st ho dt ∅ λh' eb=>⟨rfl,I.turned (t':=s.toks) (λb o hb e=>eb b o hb e) f0 f1 f3 f4 f5⟩
 self:=λ_ _ _ _ _ st h=>wpAny_pyIter_valiter st h
section
variable {X:Cx} {tg:Expr}
def Tf(te:TE):TI:=λσ H R=>te σ H λv H1=>∃a ag,v=.ref a/\((H1 a=some (.dT ag)/\∀o,R (Rg a o ag) (upd H1 a (.dP o (.dT ag))))\/∃o,H1 a=some (.dP o (.dT ag))/\R (Rg a o ag) H1)
theorem Jt{aa:List (Addr×Obj)}{σ:St}{H:Hp}{s:Shared}{R:It->Hp->Prop}{a:Addr}{o:Obj}{ag:List (List bN×V)}(I:Inv X aa σ H s)(e:H a=some (.dP o (.dT ag)))(q:R (Rg a o ag) H):wpAny (model X.prog X.w) X.A (call (.builtin "dict.values") [.ref a]) (λv s1=>wpAny (model X.prog X.w) X.A (pyIter v) (Sj X aa σ tg R) X.xe s1) X.xe s:=by
 obtain⟨ho,hz,hs,xs,pr,o2,es,ep,h1,h2,h3,h4,h5⟩:=(show bH X.prog X.w H s.heap a (.dP o (.dT ag)) from I.bI a _ e);obtain rfl:o2=o:=bS (h1.symm.trans ho);have hl:es.size=ag.length:=by rw[pe pr,<- nA,h4,ay]
 refine call_meetsIn PySem.F.slot_dict_values ⟨_,ho,h2.1⟩ PySem.F.entry_dict_values (PySem.F.args_dict_values_1 _) (yB hs) ⟨⟨_,ho,h2⟩,?_⟩;have I1:=I.kept (t':=s.toks) (h':=s.heap.push {cls:=.type "dict_values",data:=.fields #[.ref a]}) λb o e=>aO _ e;have YK:(s.heap.push {cls:=.type "dict_values",data:=.fields #[.ref a]}).objs.size=s.heap.objs.size+1:=by simp
 refine Cq (s:={s with heap:=s.heap.push {cls:=.type "dict_values",data:=.fields #[.ref a]}}) ⟨_,cj _ rfl,rfl,rfl⟩ (aO _ ho) h3 ?_;refine⟨_,[_],_,_,H,rfl,I1.kept (t':=s.toks) λb o e=>aO _ e,Cs _ a o2 ag es ep h3 hl,⟨_,cj _ rfl,rfl,rfl⟩,λb hb=>?_,q⟩;obtain rfl:=iO.mp hb;exact I1.vF (aH _) (I1.bI.fresh (aH _))
theorem Ju{o:Expr}{ap cp:Pos}{te:TE}(he:PE X o te) (vQ:attributeBase o "values" X.env (eval o X.env)=eval o X.env) (vR:(ap.endLine==cp.line)=true):PI X tg (.Call (.Attribute o "values" ap) [] [] cp) (Tf te):=by
 intro aa s σ H R I h;refine wpAny_Call_method0_late vQ vR (cJ (he aa s σ H _ I h) ?_);rintro v s1 ⟨x,H1,I1,r1,a,ag,ex,q⟩;subst ex;cases r1
 have key:∀{H2:Hp}{o:Obj},Inv X aa σ H2 s1->H2 a=some (.dP o (.dT ag))->R (Rg a o ag) H2->MethodOn X.prog X.w X.A "values" cp (.ref a) [] (λv s1=>wpAny (model X.prog X.w) X.A (pyIter v) (Sj X aa σ tg R) X.xe s1) X.xe s1:=λ{H2 o} I2 e2 q2=>by
  obtain⟨ho,hz,hs,xs,pr,o2,es,ep,h1,h2,h3,h4,h5⟩:=(show bH X.prog X.w H2 s1.heap a (.dP o (.dT ag)) from I2.bI a _ e2);refine⟨"dict","dict.values",PySem.F.plainAttrs_dict,PySem.F.slot_dict_values,PySem.F.type_dict_values,⟨_,h1,h2.1⟩,λb hb=>?_,ME rfl (PySem.evalArgs_none (Jt I2 e2 q2))⟩;cases hb;exact⟨_,h1,h2.2.1⟩
 rcases q with⟨e,q⟩|⟨o,e,q⟩
 ·obtain⟨o,I2⟩:=I1.freeze e;exact key I2 a_ (q o)
 ·exact key I1 e q
noncomputable def insI(i:Int):List Int->List Int
 | []=>[i]
 | j::js=>if i<=j then i::j::js else j::insI i js
def mq:List Int->List Int
 | []=>[]
 | i::is=>insI i (mq is)
theorem pf:∀{is:List Int},(insI i is).Perm (i::is)
 | []=>List.Perm.refl _
 | j::js=>by
  unfold insI;split
  ·exact List.Perm.refl _
  ·exact((pf (i:=i) (is:=js)).cons j).trans (List.Perm.swap i j js)
theorem fQ:∀{is:List Int},(mq is).Perm is
 | []=>List.Perm.refl _
 | i::is=>pf.trans ((fQ (is:=is)).cons i)
theorem ph:∀{is:List Int},is.Pairwise (·<=·)->(insI i is).Pairwise (·<=·)
 | [],_=>List.pairwise_singleton _ _
 | j::js,h=>by
  unfold insI;rw[sD]at h;split
  ·rename_i Tg
   refine sD.mpr ⟨λx hx=>?_,sD.mpr h⟩;rcases bT.mp hx with rfl | hx
   ·exact Tg
   ·have:=h.1 x hx;omega
  ·rename_i Tg
   refine sD.mpr ⟨λx hx=>?_,ph h.2⟩;rcases bT.mp (pf.mem_iff.mp hx)with rfl | hx
   ·omega
   ·exact h.1 x hx
theorem pq:∀{is:List Int},(mq is).Pairwise (·<=·)
 | []=>.nil
 | i::is=>ph (pq (is:=is))
theorem pw:∀{a b:List Int},a.Perm b->a.Pairwise (·<=·)->b.Pairwise (·<=·)->a=b
 | [],b,p,_,_=>(List.Perm.nil_eq p)
 | x::a,[],p,_,_=>absurd p.length_eq (by simp)
 | x::a,y::b,p,ha,hb=>by
  rw[sD]at ha hb
  have h1:x=y:=by
   rcases bT.mp (p.mem_iff.mp dH)with e | e
   ·exact e
   ·rcases bT.mp (p.mem_iff.mpr dH)with e2 | e2
    ·exact e2.symm
    ·have:=ha.1 y e2;have:=hb.1 x e;omega
  subst h1;rw[pw (List.Perm.cons_inv p) ha.2 hb.2]
theorem wa:∀{is:List Int}{aA:List Value},aY (is.map V.int) aA->IntsAre aA is
 | [],_,.nil=>.nil
 | i::is,_,.cons r t=>by
  obtain⟨u,rfl⟩:=r;exact .cons _ _ (wa t)
theorem wb:∀{is:List Int}{aA:List Value},IntsAre aA is->aY (is.map V.int) aA
 | _,_,.nil=>.nil
 | _,_,.cons _ _ t=>.cons ⟨_,rfl⟩ (wb t)
end
end L2
end
section
namespace L2
open PySem PySem.Spec PyProof.Rows
def Ct(xs:Array Nat):Prop:=xs.toList.Pairwise (· < ·)
structure Tb (t:SetTable):Prop where
 ris:Ct t.place
 YL:t.dummies=#[]
theorem Ct.lt(h:Ct xs){i j x y:Nat}(hi:xs[i]?=some x)(hj:xs[j]?=some y)(l:i<j):x<y:=by
 have a:xs.toList[i]?=some x:=by rw[oG];exact hi
 have b:xs.toList[j]?=some y:=by rw[oG];exact hj
 obtain⟨h1,e1⟩:=bz.mp a;obtain⟨h2,e2⟩:=bz.mp b;rw[<- e1,<- e2];exact HP.mp h i j h1 h2 l
theorem px(r:Ct xs)(j:Nat):∀(f lo hi:Nat),hi-lo<=f->lo<=hi->hi<=xs.size->(∀i x,i<lo->xs[i]?=some x->x<j)->(∀i x,hi<=i->xs[i]?=some x->j<=x)->(SetTable.below.go xs j f lo hi<=xs.size/\(∀i x,i<SetTable.below.go xs j f lo hi->xs[i]?=some x->x<j)/\∀i x,SetTable.below.go xs j f lo hi<=i->xs[i]?=some x->j<=x)
 | 0,lo,hi,hf,hl,hs,a,b=>by
  have:lo=hi:=∅;subst this;exact⟨hs,a,b⟩
 | f+1,lo,hi,hf,hl,hs,a,b=>by
  unfold SetTable.below.go;split
  ·rename_i lt
   dsimp only;have hm:(lo+hi) / 2<xs.size:=∅;have hx:xs[(lo+hi) / 2]?=some xs[(lo+hi) / 2]:=ny hm;have hd:xs.getD ((lo+hi) / 2) j=xs[(lo+hi) / 2]:=by simp[Array.getD,hm]
   by_cases c:xs.getD ((lo+hi) / 2) j<j
   ·simp only[ar c];rw[hd]at c;refine px r j f ((lo+hi) / 2+1) hi ∅ ∅ hs (λi x h e=>?_) b;rcases fj i ((lo+hi) / 2)with q | q
    ·exact D0 (r.lt e hx q) c
    ·have:i=(lo+hi) / 2:=∅;subst this;rw[hx]at e;cases e;exact c
   ·simp only[aq c];rw[hd]at c;refine px r j f lo ((lo+hi) / 2) ∅ ∅ ∅ a λi x h e=>?_;rcases fj ((lo+hi) / 2) i with q | q
    ·exact qK (MS (Nat.not_lt.mp c) (r.lt hx e q))
    ·have:i=(lo+hi) / 2:=∅;subst this;rw[hx]at e;cases e;exact Nat.not_lt.mp c
  ·rename_i lt
   have:lo=hi:=∅;subst this;exact⟨hs,a,b⟩
theorem wc(r:Ct xs)(j:Nat):SetTable.below xs j<=xs.size/\(∀i x,i<SetTable.below xs j->xs[i]?=some x->x<j)/\∀i x,SetTable.below xs j<=i->xs[i]?=some x->j<=x :=
 px r j xs.size 0 xs.size ∅ (lV _) (aH _) (λi x h=>absurd h (Ij _)) λi x h e=>absurd (Array.getElem?_eq_some_iff.mp e).1 ∅
theorem Ct.insert(r:Ct xs){j:Nat}(n:xs[SetTable.below xs j]?≠some j):Ct (SetTable.insertAt xs (SetTable.below xs j) j):=by
 obtain⟨h1,h2,h3⟩:=wc r j;unfold Ct;rw[SetTable.toList_insertAt]
 have ta:∀x∈xs.toList.take (SetTable.below xs j),x<j:=λx hx=>by
  obtain⟨i,hi,e⟩:=qG.mp hx;rw[hG]at hi;rw[List.getElem_take]at e;exact h2 i x ∅ (by rw[<- oG,br ∅,e])
 have tb:∀x∈xs.toList.drop (SetTable.below xs j),j<x:=λx hx=>by
  obtain⟨i,hi,e⟩:=qG.mp hx;rw[Ie]at hi;rw[List.getElem_drop]at e;have ex:xs[SetTable.below xs j+i]?=some x:=by rw[<- oG,br ∅,e]
  have le:=h3 _ x (Nat.le_add_right _ _) ex;rcases fj j x with q | q
  ·exact q
  ·have:x=j:=∅;subst this
   cases i with
   | zero=>exact absurd ex n
   | succ i =>
    have hb:SetTable.below xs x<xs.size:=by have:=(Array.getElem?_eq_some_iff.mp ex).1;omega
    have eb:=ny hb;exact absurd (r.lt eb ex ∅) (by have:=h3 _ _ (aH _) eb;omega)
 refine List.pairwise_append.mpr ⟨List.Pairwise.sublist (DH _ _) r,sD.mpr ⟨tb,List.Pairwise.sublist (List.drop_sublist _ _) r⟩,λa ha b hb=>?_⟩;rcases bT.mp hb with rfl | hb
 ·exact ta a ha
 ·exact D0 (ta a ha) (tb b hb)
theorem Tb.slot(h:Tb t)  : t.slot j=.empty/\t.place[SetTable.below t.place j]?≠some j\/∃i,t.slot j=.live i:=by
 have hz:SetTable.has t.dummies j=false:=by
  rw[h.YL];unfold SetTable.has;simp
 unfold SetTable.slot;dsimp only;split
 ·exact .inr ⟨_,rfl⟩
 ·rename_i c
  rw[hz];exact .inl ⟨rfl,λe=>c (by rw[e];exact sF _)⟩
theorem we(ti:Tb t)  : ∀(f:Nat)(p:SetTable.Probe),p.dummy=none->SetTable.probe.go t (λ_=>h+1) h f p=some (.empty j d)->d=none/\t.place[SetTable.below t.place j]?≠some j
 | 0,p,hp,e=>by unfold SetTable.probe.go at e;cases e
 | f+1,p,hp,e=>by
  unfold SetTable.probe.go at e
  have adv:(t.advance p).dummy=none:=by
   unfold SetTable.advance;split
   ·exact hp
   ·exact hp
  rcases ti.slot (j:=p.j)with⟨z,q⟩|⟨i,z⟩
  ·rw[z]at e;dsimp only at e;cases e;exact⟨hp,q⟩
  ·rw[z]at e;dsimp only at e;have hb:(h+1==h)=false:=by rw[lP];omega
   rw[hb]at e;exact we ti f _ adv e
theorem Tb.free(ti:Tb t)(e:t.freeSlot h=some (sl,b)):t.place[SetTable.below t.place sl]?≠some sl:=by
 unfold SetTable.freeSlot at e;split at e
 ·rename_i j d q
  obtain⟨rfl,n⟩:=we ti _ _ rfl q;cases e;exact n
 ·cases e
theorem Cu(n:Nat):Ct (Array.range n):=by
 unfold Ct;rw[Array.toList_range];exact List.pairwise_lt_range
theorem kN(t:SetTable)(n:Nat):Tb (t.standIn n):=⟨Cu n,rfl⟩
theorem N8(ti:Tb t)(es:Array (Int×Value))(h:Int)(x:Value):Tb (layNew t es h x).2.1/\(layNew t es h x).2.1.led=t.led:=by
 unfold layNew;split
 ·rename_i sl b e
  dsimp only;have hz:SetTable.has t.dummies sl=false:=by rw[ti.YL];unfold SetTable.has;simp
  have tp:Tb (t.put sl).1/\(t.put sl).1.led=t.led:=by
   unfold SetTable.put;dsimp only;refine⟨⟨ti.ris.insert (ti.free e),?_⟩,rfl⟩;dsimp only;rw[hz];exact ti.YL
  unfold SetTable.orStandIn;split
  ·exact tp
  ·exact⟨kN _ _,tp.2⟩
 ·exact⟨kN _ _,rfl⟩
theorem EY(t:SetTable)(es:Array (Int×Value))(n:Nat):Tb (relayAll t es n).2.1/\(relayAll t es n).2.1.led=t.led:=by
 unfold relayAll;split
 ·rename_i t' order e
  dsimp only;split
  ·unfold SetTable.relaid SetTable.laid at e
   cases q:SetTable.layClean (SetTable.sizeAbove n-1) (es.map (·.1))with
   | none=>rw[q]at e;cases e
   | some ow =>
    rw[q]at e;cases e;refine⟨⟨?_,rfl⟩,rfl⟩;unfold Ct;dsimp only;rw[List.map_filterMap];refine List.Pairwise.filterMap _ (λa a' lt b hb b' Ds=>?_) List.pairwise_lt_range
    cases qa:ow.getD a none with
    | none=>rw[qa]at hb;cases hb
    | some _ =>
     cases qb:ow.getD a' none with
     | none=>rw[qb]at Ds;cases Ds
     | some _ =>
      rw[qa]at hb;rw[qb]at Ds;cases hb;cases Ds;exact lt
  ·exact⟨kN _ _,rfl⟩
 ·exact⟨kN _ _,rfl⟩
noncomputable def eN(prog:Program)(w:World)(h:Heap)(a:Addr)(led:Bool)(L:List Int):Prop :=
 ∃o es ep t,h.get? a=some o/\o.ExactSet/\o.data=.set es ep t/\ElemsOf (intKind prog w) es.toList/\(∀k,k∈L↔∃e∈es.toList,(intKind prog w).is k e.2=true)/\es.size<scanBound/\t.fits es.size=true/\es.size=L.length/\Tb t/\t.led=led
noncomputable def gT(L:List Int)(k:Int):List Int:=if k∈L then L else L++[k]
section
variable {prog:Program} {w:World} {A:Around} {E:Value->Shared->Prop} {s:Shared} {a:Addr} {led:Bool} {L:List Int}
theorem Ac{h:Heap}{o:Obj}{es iJ:Array (Int×Value)}{ep:Nat}{t t':SetTable}(ho:h.get? a=some o)(xU:o.ExactSet)(hd:o.data=.set es ep t)(x1:ElemsOf (intKind prog w) iJ.toList)(x2:∀k,k∈L↔∃e∈iJ.toList,(intKind prog w).is k e.2=true)(x3:iJ.size<scanBound)(x4:t'.fits iJ.size=true)(x5:iJ.size=L.length)(x6:Tb t')(x7:t'.led=led):∃o',(h.update a (Obj.putSet iJ t')).get? a=some o'/\o'.ExactSet/\o'.data=.set iJ (ep+1) t'/\eN prog w (h.update a (Obj.putSet iJ t')) a led L:=by
 have hg:=oF (Obj.putSet iJ t') ho (by rw[putSet_of iJ t' hd];rfl);rw[putSet_of iJ t' hd]at hg;exact⟨_,hg,xU,rfl,_,iJ,ep+1,t',hg,xU,rfl,x1,x2,x3,x4,x5,x6,x7⟩
theorem wg{g:Bool->Sem Unit}(hg:∀(b:Bool)(bt:Shared)(Q:Unit->Shared->Prop),Q () bt->wpAny (model prog w) A (g b) Q E bt){o:Obj}{es iJ:Array (Int×Value)}{ep:Nat}{t t':SetTable}{wd:Bool}{R:Option Bool->Shared->Prop}(ho:s.heap.get? a=some o)(xU:o.ExactSet)(hd:o.data=.set es ep t)(x1:ElemsOf (intKind prog w) iJ.toList)(x2:∀k,k∈L↔∃e∈iJ.toList,(intKind prog w).is k e.2=true)(x3:iJ.size<scanBound)(x4:t'.fits iJ.size=true)(x5:iJ.size=L.length)(x6:Tb t')(x7:t'.led=led)(h:∀h',Heap.SameBut a s.heap h'->eN prog w h' a led L->R (some true) {s with heap:=h'}):wpAny (model prog w) A (storeSet a iJ t' >>= λ_=>if (!wd&&t'.tooFull)=true then (g (relayAll t' iJ (SetTable.grown iJ.size)).2.2 >>= λ_=>storeSet a (relayAll t' iJ (SetTable.grown iJ.size)).1 (relayAll t' iJ (SetTable.grown iJ.size)).2.1 >>= λ_=>pure (some true)) else pure (some true)) R E s:=by
 obtain⟨o1,e1,z1,d1,i1⟩:=Ac (prog:=prog) (w:=w) ho xU hd x1 x2 x3 x4 x5 x6 x7;refine af (wpAny_storeSet_of ho hd ?_ (Ic x3));have b1:=jA s.heap a (Obj.putSet iJ t');split
 ·have p:=relayAll_perm t' iJ (SetTable.grown iJ.size);have sz:(relayAll t' iJ (SetTable.grown iJ.size)).1.size=iJ.size:=by rw[<- nA,p.length_eq,nA]
  have ti:=EY t' iJ (SetTable.grown iJ.size);obtain⟨_,_,_,_,i2⟩:=Ac (prog:=prog) (w:=w) (L:=L) (led:=led) e1 z1 d1 (x1.perm p) (λk=>(x2 k).trans ⟨λ⟨e,he,q⟩=>⟨e,p.mem_iff.mpr he,q⟩,λ⟨e,he,q⟩=>⟨e,p.mem_iff.mp he,q⟩⟩) (by rw[sz];exact x3) (relayAll_fits _ _ _) (by rw[sz];exact x5) ti.1 (ti.2.trans x7);refine af (hg _ _ _ (af (wpAny_storeSet_of e1 d1 (ah (h _ (b1.trans (jA _ a _)) i2)) (Ic (by rw[sz];exact x3)))))
 ·exact ah (h _ b1 i1)
theorem Jv{k:Int}{u:Tok}{Q:Bool->Shared->Prop}(hS:eN prog w s.heap a led L)(hr:L.length+1<scanBound)(h:∀b h',Heap.SameBut a s.heap h'->eN prog w h' a led (gT L k)->Q b {s with heap:=h'}):wpAny (model prog w) A (setAddHashed a (.int k u) ((intKind prog w).hash k)) Q E s:=by
 obtain⟨o,es,ep,t,ho,xU,hd,x1,x2,x3,x4,x5,x6,x7⟩:=id hS;have hk:(intKind prog w).is k (.int k u)=true:=intKind_is _ _ _ _;unfold setAddHashed setAddHashedIn;refine hV (af (BH ho hd x4 ?_));dsimp only;rw[byScan_of (knd:=intKind prog w) rfl x3 x1,ar rfl];unfold setAddByScan;refine af (af (nJ (af (wpAny_setScan_of (knd:=intKind prog w) hk ho hd x4 x1 ?_))))
 cases q:es.toList.findIdx? (λe=>(intKind prog w).is k e.2)with
 | some j =>
  obtain⟨hj,pj,_⟩:=RP.mp q;have RX:k∈L:=(x2 k).mpr ⟨_,kA hj,pj⟩;dsimp only;refine ah (ah ?_);have:=h false s.heap (Heap.SameBut.refl a s.heap) (by unfold gT;rw[ar RX];exact hS);exact this
 | none =>
  have YM:k∉L:=λz=>by
   obtain⟨e,he,p⟩:=(x2 k).mp z;have:=List.findIdx?_eq_none_iff.mp q e he;rw[p]at this;cases this
  dsimp only;have pm:=layNew_perm t es ((intKind prog w).hash k) (.int k u);have ft:=layNew_fits t es ((intKind prog w).hash k) (.int k u);have ti:=N8 x6 es ((intKind prog w).hash k) (.int k u);generalize layNew t es ((intKind prog w).hash k) (.int k u)=N at pm ft ti⊢;obtain⟨Th,t1,wd,gv⟩:=N;dsimp only at pm ft ti⊢;rw[Array.toList_push]at pm;have y1:ElemsOf (intKind prog w) Th.toList:=(x1.push hk rfl).perm pm;have sz:Th.size=es.size+1:=by rw[<- nA,pm.length_eq,cI,nA];rfl
  have y2:∀k',k'∈L++[k]↔∃e∈Th.toList,(intKind prog w).is k' e.2=true:=λk'=>by
   rw[dk,iO,x2 k'];constructor
   ·rintro(⟨e,he,p⟩ | rfl)
    ·exact⟨e,pm.mem_iff.mpr (HW _ he),p⟩
    ·exact⟨_,pm.mem_iff.mpr (nz _ (iO.mpr rfl)),hk⟩
   ·rintro⟨e,he,p⟩;rcases dk.mp (pm.mem_iff.mp he)with he | he
    ·exact .inl ⟨e,he,p⟩
    ·rw[iO]at he;subst he;exact .inr ((intKind prog w).inj _ k' k p hk)
  have fin:∀h',Heap.SameBut a s.heap h'->eN prog w h' a led (L++[k])->Q true {s with heap:=h'}:=λh' b i=>h true h' b (by unfold gT;rw[aq YM];exact i)
  have gw:∀(b:Bool)(bt:Shared)(Q':Unit->Shared->Prop),Q' () bt->wpAny (model prog w) A (match b with | true=>rule "set.scan.the-table-gave-way" | false=>pure ()) Q' E bt:=λb bt Q' z=>by
   cases b
   ·exact ah z
   ·exact nJ z
  have y5:Th.size=(L++[k]).length:=by rw[sz,x5,cI];rfl
  refine af (gw _ _ _ ?_);split
  ·rw[hashByValue_scannable 8 (x:=.int k u) rfl];refine af (ah ?_);show wpAny _ _ (storeSet a Th t1 >>= _) _ _ _;exact wg (L:=L++[k]) (led:=led) (λb bt Q' z=>by cases b<;>first | exact ah z | exact nJ z) ho xU hd y1 y2 ∅ ft y5 ti.1 (ti.2.trans x7) λh' b i=>ah (fin h' b i)
  ·refine af (ah ?_);exact wg (L:=L++[k]) (led:=led) (λb bt Q' z=>by cases b<;>first | exact ah z | exact nJ z) ho xU hd y1 y2 ∅ ft y5 ti.1 (ti.2.trans x7) λh' b i=>ah (fin h' b i)
end
end L2
end
section
namespace L2
open PySem PySem.Spec PyProof.Rows
def wj(val:Nat->Int):Nat->Nat->List Int->List Int
 | 0,_,L=>L
 | k+1,i,L=>wj val k (i+1) (gT L (val i))
theorem eN.keep(x:eN prog w h a led L)(k:∀o,h.get? a=some o->h'.get? a=some o):eN prog w h' a led L:=by
 obtain⟨o,es,ep,t,ho,r⟩:=x;exact⟨o,es,ep,t,k o ho,r⟩
theorem EZ(L:List Int)(k:Int):(gT L k).length<=L.length+1:=by
 unfold gT;split
 ·exact BW _
 ·rw[cI];exact aH _
section
variable {prog:Program} {w:World} {A:Around} {R:Result->Shared->Prop} {I S:Addr} {fp wr:List Addr} {G:Array GenState->Array GenState->Prop} {n:Nat} {P:Nat->Value->Prop} {St:Nat->Shared->Prop} {led:Bool}
theorem wk (W : WalksS prog w A.in1 I fp wr G n P St) (nS : S ∉ fp) (val : Nat -> Int) (Cn : ∀ i v, P i v -> ∃ t, v = .int (val i) t) (hb : n + 1 < scanBound) : ∀ (k i : Nat) (s : Shared) (L : List Int), i + k = n -> St i s -> eN prog w s.heap S led L -> L.length <= i ->
      (∀s',Moved (S::wr) G s s'->eN prog w s'.heap S led (wj val k i L)->R (.ok (.ret .none)) s')->codeAny (model prog w) A (.builtin "set.update.loop" ⟨[.ref S,.ref I],[]⟩) R s
  | 0,i,s,L,e,st,x,hl,fin=>by
    have e:i=n:=e;subst e;refine qI F.entry_set_update_loop ?_;rw[sA F.plain_set_update_loop _];show wpAny _ A.in1 (pyNext (.ref I) >>= _) _ _ s;refine af (W.done s _ _ st λs1 mv=>?_);show wpAny _ A.in1 (ret Value.none) _ _ s1;exact ah (fin s1 (mv.mono λb q=>da _ q) (x.keep λo q=>mv.heap S o (λz=>nS (W.sub _ z)) q))
  | k+1,i,s,L,e,st,x,hl,fin=>by
    refine qI F.entry_set_update_loop ?_;rw[sA F.plain_set_update_loop _];show wpAny _ A.in1 (pyNext (.ref I) >>= _) _ _ s;refine af (W.item i s _ _ ∅ st λv s1 pv st1 mv=>?_);obtain⟨t,rfl⟩:=Cn i v pv;have x1:eN prog w s1.heap S led L:=x.keep λo q=>mv.heap S o (λz=>nS (W.sub _ z)) q;show wpAny _ A.in1 (holding [Value.int (val i) t] (setAdd S (.int (val i) t)) >>= _) _ _ s1;refine af (hV ?_);unfold setAdd;refine hV (af ((intKind prog w).pyHash (k:=val i) (intKind_is _ _ _ _) ?_));refine Jv (s:={s1 with toks:=s1.toks+1}) x1 ∅ λb h' sb x2=>?_;refine ah ⟨vj F.plain_set_update_loop _,wk W nS val Cn hb k (i+1) _ (gT L (val i)) ∅ (W.frame _ s1 _ _ st1 (BW _) λc hc o q=>?_) x2 (dW (EZ _ _) (Nat.succ_le_succ hl)) λs2 mv2 x3=>?_⟩
    · rw[sb.2 c λz=>nS (z▸hc)];exact q
    · refine fin s2 (Moved.trans W.gtrans ((mv.mono λb q=>da _ q).then_heap (BW _) λc o hc q=>?_) mv2) x3;rw[sb.2 c λz=>hc (z▸dH)];exact q
end
section
variable {prog:Program} {w:World} {A:Around} {E:Value->Shared->Prop} {s:Shared}
abbrev d7(led:Bool):Obj:={cls:=.type "set",dict:=none,data:=.set #[] 0 (.fresh 0 0 led)}
theorem Jw(b:Value){Q:Value->Shared->Prop} (h:Q (.ref s.heap.objs.size) {s with heap:=s.heap.push (d7 (!w.params.followText "set-order"))}):codeAny (model prog w) A (.call (.builtin "set.__new__") ⟨[.type "set",b],[]⟩) (wants Q E) s:=by
 refine codeAny_of_tree ?_;show wpAny _ A.in1 (checkBuiltinCall "set.__new__" ⟨[.type "set",b],[]⟩ >>= λ_=>again (.builtin "set.__new__" ⟨[.type "set",b],[]⟩)) _ _ s;refine af (wpAny_of_eq (F.newCall_set_1 b) (ah ⟨vj F.plain_set_new _,qI F.entry_set_new ?_⟩));rw[sA F.plain_set_new _];unfold Builtin.«set.__new__» Builtin.Frozenset.newClass;have z:=sub_set_self;obtain⟨hp,g,d,tk,os⟩:=s;dsimp only
 wp_walk
 refine BN (ah ?_);dsimp only;simp only[newObj];exact af (wpAny_alloc (ah (ah h)))
theorem Cv(g:h.get? a=some (d7 led)):eN prog w h a led [] :=
 ⟨_,#[],0,_,g,⟨rfl,rfl,rfl⟩,rfl,λe he=>by simp at he,λk=>by simp,by decide,rfl,rfl,⟨List.Pairwise.nil,rfl⟩,rfl⟩
theorem E1(hh:A.handled=none)(hl:s.heap.IsList l items)(hi:IntsAre items.toList ns)(hb:items.size+1<scanBound)(h:∀h' tk,eN prog w h' s.heap.objs.size led (wj (λi=>ns.getD i 0) items.size 0 [])->(∀b o,s.heap.get? b=some o->h'.get? b=some o)->Q .none {s with heap:=h',toks:=tk}):codeAny (model prog w) A (.call (.builtin "set.__init__") ⟨[.ref s.heap.objs.size,.ref l],[]⟩) (wants Q E) {s with heap:=s.heap.push (d7 led)}:=by
 have gS:(s.heap.push (d7 led)).get? s.heap.objs.size=some (d7 led):=cj _ rfl;have hT:Shared.TypeIs {s with heap:=s.heap.push (d7 led)} (.ref s.heap.objs.size) "set" := ⟨_,gS,rfl⟩;refine codeAny_call_builtin vm.init.plain F.entry_set_init (check_set_init_1 hT ?_);obtain⟨⟨oc,od,odt,LF⟩,ho,hc,nl,hd⟩:=id hl;simp only at hc hd;subst hc;subst hd;have ET:=aO (d7 led) ho;have Cy:(s.heap.push (d7 led)).IsList l items:=⟨_,ET,rfl,nl,rfl⟩;have z1:=F.sub_list_set;have z2:=F.sub_list_frozenset;have z3:(Value.type "list" == Value.type "dict")=false:=by decide
 unfold Builtin.«set.__init__» noKeywords Builtin.Frozenset.updateFrom;generalize hp:pyIter=PI
 wp_walk
 subst hp;refine vf Cy (af (wpAny_runValue ?_));have lt:l<s.heap.objs.size:=bG ho;have e2:(s.heap.push (d7 led)).objs.size=s.heap.objs.size+1:=iR _ _;refine wk (led:=led) (S:=s.heap.objs.size) (I:=(s.heap.push (d7 led)).objs.size) (Walks.list (prog:=prog) (w:=w) (by simp[hh]) (s.heap.push (d7 led)).objs.size l (by rw[e2];exact b_ (iG lt)) items).toS (by rw[e2];simp only[bT,sE,fY,not_or];exact⟨b_ (iI _),nI lt⟩) (λi=>ns.getD i 0) (λi v q=>IntsAre.int_at hi i v (by rw[oG];exact q)) hb items.size 0 _ [] (Nat.zero_add _) ⟨⟨_,cj _ rfl,rfl,rfl⟩,Cy.push _⟩ (Cv (aO _ gS)) (aH _) λs1 mv x=>?_;obtain⟨h1,g1,d1,t1,o1⟩:=s1;have q1:g1=s.gens:=mv.gens;have q2:d1=s.drawn:=mv.drawn;have q3:o1=s.os:=mv.os;subst q1 q2 q3;show wpAny _ _ _ _ _ _;refine ah ?_;show wpAny _ _ (ret Value.none) _ _ _;refine ah (h h1 t1 x λb o q=>mv.heap b o ?_ (aO _ (aO _ q)));have q4:b<s.heap.objs.size:=bG q;rw[e2];simp only[bT,sE,fY,not_or];exact⟨b_ q4,b_ (iG q4)⟩
theorem E2(hh:A.handled=none)(hl:s.heap.IsList l items)(hi:IntsAre items.toList ns)(hb:items.size+1<scanBound) (h:∀h' tk,eN prog w h' s.heap.objs.size (!w.params.followText "set-order") (wj (λi=>ns.getD i 0) items.size 0 [])->(∀b o,s.heap.get? b=some o->h'.get? b=some o)->Q (.ref s.heap.objs.size) {s with heap:=h',toks:=tk}):wpAny (model prog w) A (call (.type "set") [.ref l]) Q E s:=by
 obtain⟨c,tl,f1⟩:=vm.mro;have f2:=vm.made;have f3:=vm.sub;have f4:=vm.notType;have f5:=vm.canCreate;have f6:=F.typeCall_set_1 (.ref l);refine wpAny_call (codeAny_of_tree ?_);show wpAny _ _ (callAny (.type "set") _) _ _ _;refine ah ⟨Code.quiet_builtin _ ⋯,qI F.entry_type_call ?_⟩;rw[Around.under_plain (weight_type_call_type "set" [.ref l] []) rfl]
 repeat (any_goals (first | assumption | wp_step))
 refine BU (Jw (.ref l) (E:=E) (Q:=λv bt=>v=.ref s.heap.objs.size/\bt={s with heap:=s.heap.push (d7 (!w.params.followText "set-order"))}) ⟨rfl,rfl⟩) λr bt hr=>?_
 cases r with
 | error e=>exact hr
 | ok fl =>
  cases fl with
  | ret v =>
   obtain⟨rfl,rfl⟩:=hr;have gS:(s.heap.push (d7 (!w.params.followText "set-order"))).get? s.heap.objs.size=some (d7 (!w.params.followText "set-order")):=cj _ rfl;have hT:Shared.TypeIs {s with heap:=s.heap.push (d7 (!w.params.followText "set-order"))} (.ref s.heap.objs.size) "set" := ⟨_,gS,rfl⟩;have f7:=vm.init.lookup;have f8:=vm.init.bind (.ref s.heap.objs.size)
   repeat (any_goals (first | assumption | wp_step))
   refine BU (E1 (A:=A.in1) (E:=E) (led:=!w.params.followText "set-order") (Q:=λv bt=>v=.none/\∃h' tk,bt={s with heap:=h',toks:=tk}/\eN prog w h' s.heap.objs.size (!w.params.followText "set-order") (wj (λi=>ns.getD i 0) items.size 0 [])/\∀b o,s.heap.get? b=some o->h'.get? b=some o) (by simp[hh]) hl hi hb λh' tk x k=>⟨rfl,h',tk,rfl,x,k⟩) λr bt hr=>?_
   cases r with
   | error e=>exact hr
   | ok fl =>
    cases fl with
    | ret v =>
     obtain⟨rfl,h',tk,rfl,x,k⟩:=hr
     repeat (any_goals (first | assumption | wp_step))
     exact h h' tk x k
    | _=>exact hr.elim
  | _=>exact hr.elim
end
end L2
end
section
namespace L2
open PySem PySem.Spec PyProof.Rows
theorem Ad:Manifest.owners.lookup (String.ofList "rotareti_tes".toList.reverse)=some Manifest.sig_set_iterator:=nofun
theorem dY:Slot "set_iterator" "__next__" "set_iterator.__next__" :=
 .of (owner := "set_iterator") (n := "__next__") (by rw[typeLookup_type,MI];kernel_rfl) ⋯ ⋯ ⋯
  (by first | exact .inl ⋯ | exact .inr ⋯) (by rw[isSubtype_type];kernel_rfl)
theorem nV:entryFor table "set_iterator.__next__" = some Builtin.«set_iterator.__next__»:=entryFor_of_tree (nofun)
theorem kO(a:Value):argsOk "set_iterator.__next__" ⟨[a],[]⟩:=by
 unfold argsOk;rw[signature?_of (id := "set_iterator.__next__") (n := "__txen__".toList) (o := "rotareti_tes".toList) (nofun) Ad];kernel_rfl
theorem Cz:entryFor table "set.__iter__" = some Builtin.«frozenset.__iter__»:=entryFor_alias (id' := "frozenset.__iter__") (nofun) rfl ⋯ (nofun)
noncomputable def Ae(h:Heap)(it:Addr)(f:Value)(i:Nat)(a:Addr)(n ep:Nat):Prop:=∃o,h.get? it=some o/\o.cls=.type "set_iterator" /\ o.data=.fields #[f,.int i 0,.ref a,.int n 0,.int ep 0]
section
variable {prog:Program} {w:World} {A:Around} {E:Value->Shared->Prop} {s:Shared} {a it:Addr}
theorem Ae.ty{f:Value}{i n ep:Nat}(x:Ae s.heap it f i a n ep):s.TypeIs (.ref it) "set_iterator" := by
 obtain⟨o,ho,hc,_⟩:=x;exact⟨o,ho,hc⟩
theorem tL(hn:0<n)(h:∀i d,i<n->Q i {s with drawn:=d}):wpAny (model prog w) A (choose d8 n) Q E s :=
 λΓ p hΓ=>⟨nI hn,h _ _ (Nat.mod_lt _ hn)⟩
theorem j3{α:Type}:∀{l:List α}{i:Nat}(h:i<l.length),(l[i]::l.eraseIdx i).Perm l
 | x::l,0,h=>.refl _
 | x::l,i+1,h=>(List.Perm.swap _ _ _).trans (.cons x (j3 (l:=l) (i:=i) (Nat.lt_of_succ_lt_succ h)))
theorem kP{α:Type}:∀(n:Nat)(xs:List α)(s:Shared)(Q:List α->Shared->Prop),xs.length=n->(∀ys d,ys.Perm xs->Q ys {s with drawn:=d})->wpAny (model prog w) A (drawOrder n xs) Q E s
 | 0,[],s,Q,e,h=>by unfold drawOrder;exact ah (h [] s.drawn .nil)
 | 0,_::_,s,Q,e,h=>by cases e
 | n+1,[],s,Q,e,h=>by cases e
 | n+1,x::xs,s,Q,e,h=>by
  unfold drawOrder;refine af (tL (by simp) λi d hi=>?_);rw[br hi];refine af (kP n _ _ _ ?_ λys d' p=>?_)
  ·rw[List.length_eraseIdx,ar hi];rw[e];rfl
  ·exact ah (h _ d' ((List.Perm.cons _ p).trans (j3 hi)))
noncomputable def CA(prog:Program)(w:World)(a:Addr)(o:Obj)(ep:Nat)(sl:Nat->Nat)(vs:List Value):Prop :=
 ∀(A:Around)(E:Value->Shared->Prop)(s:Shared)(Q:Option (Value×Nat)->Shared->Prop)(i:Nat),s.heap.get? a=some o->i<=vs.length->Q (vs[i]?.map λx=>(x,sl (i+1))) s->wpAny (model prog w) A (setNext a (sl i) i ep) Q E s
theorem Af{α:Type}(nx:Nat->Nat):∀(f k:Nat)(l:List α)(out:Array α),l.length=f->∃ys,ys.Perm l/\(pickOrder.go nx f k l out).toList=out.toList++ys
 | 0,k,l,out,e=>by
  obtain rfl:=MB.mp e;unfold pickOrder.go;exact⟨[],.nil,by simp⟩
 | f+1,k,l,out,e=>by
  unfold pickOrder.go;have hl:nx k % l.length<l.length:=Nat.mod_lt _ ∅;rw[br hl];obtain⟨ys,p,q⟩:=Af nx f (k+1) (l.eraseIdx (nx k % l.length)) (out.push l[nx k % l.length]) (by rw[List.length_eraseIdx,ar hl];omega);refine⟨l[nx k % l.length]::ys,(List.Perm.cons _ p).trans (j3 hl),?_⟩;dsimp only;rw[q];simp
theorem CB{α:Type}(nx:Nat->Nat)(es:Array α):(pickOrder nx es).toList.Perm es.toList:=by
 unfold pickOrder;obtain⟨ys,p,q⟩:=Af nx es.size 0 es.toList #[] (by simp);rw[q];simpa using p
theorem CD{o:Obj}{es:Array (Int×Value)}{ep:Nat}{t:SetTable}(hd:o.data=.set es ep t)(hf:t.fits es.size=true) (hT:w.params.followText "set-order" = true):∃vs,vs.Perm (es.toList.map (·.2))/\CA prog w a o ep (λ_=>0) vs:=by
 refine⟨_,(CB (w.params.setOrder a ep) es).map (·.2),λA E s Q i ho hi q=>?_⟩;unfold setNext;refine af (BH ho hd hf ?_);dsimp only;unfold setsByText;refine af (af (BN (ah ?_)));rw[show(Setting.params ⟨(model prog w).prog,(model prog w).w.params⟩).followText "set-order" = true from hT,ar rfl];rw[aq (by simp)];unfold setWalk;refine af (af (BH ho hd hf ?_));unfold setsByText;refine af (af (BN (ah ?_)));rw[show(Setting.params ⟨(model prog w).prog,(model prog w).w.params⟩).followText "set-order" = true from hT,ar rfl];refine af (BN (ah (ah ?_)))
 have e:((pickOrder (w.params.setOrder a ep) es)[i]?.map λe=>(e.2,0))=((pickOrder (w.params.setOrder a ep) es).toList.map (·.2))[i]?.map λx=>(x,0):=by
  rw[bc,oG];cases (pickOrder (w.params.setOrder a ep) es)[i]? <;> rfl
 show Q ((pickOrder (w.params.setOrder a ep) es)[i]?.map λe=>(e.2,0)) s;rw[e];exact q
noncomputable def slotAt(xs:Array Nat):Nat->Nat
 | 0=>0
 | i+1=>xs.getD i 0+1
theorem E3(r:Ct xs)(hi:i<=xs.size):SetTable.below xs (slotAt xs i)=i:=by
 obtain⟨h1,h2,h3⟩:=wc r (slotAt xs i)
 have lo:∀k x,k<i->xs[k]?=some x->x<slotAt xs i:=λk x hk e=>by
  cases i with
  | zero=>exact absurd hk (Ij _)
  | succ i =>
   have q:xs[i]?=some xs[i]:=ny hi;show x<xs.getD i 0+1;rw[show xs.getD i 0=xs[i] by simp[Array.getD,show i<xs.size from hi]];rcases fj k i with z | z
   ·exact iG (r.lt e q z)
   ·obtain rfl:k=i:=∅;rw[q]at e;cases e;exact iI _
 have up:∀k x,i<=k->xs[k]?=some x->slotAt xs i<=x:=λk x hk e=>by
  cases i with
  | zero=>exact lV _
  | succ i =>
   have q:xs[i]?=some xs[i]:=ny hi;show xs.getD i 0+1<=x;rw[show xs.getD i 0=xs[i] by simp[Array.getD,show i<xs.size from hi]];exact r.lt q e hk
 rcases BI (SetTable.below xs (slotAt xs i)) i with z | z | z
 ·have q:=ny (xs:=xs) (i:=SetTable.below xs (slotAt xs i)) ∅;have:=lo _ _ z q;have:=h3 _ _ (aH _) q;omega
 ·exact z
 ·have q:=ny (xs:=xs) (i:=i) ∅;have:=h2 _ _ z q;have:=up _ _ (aH _) q;omega
theorem CF{o:Obj}{es:Array (Int×Value)}{ep:Nat}{t:SetTable}(hd:o.data=.set es ep t)(hf:t.fits es.size=true) (hT:w.params.followText "set-order" = false) (hl:t.led=true) (ti:Tb t) (hp:(!t.plain&&decide (es.size>1))=false):CA prog w a o ep (slotAt t.place) (es.toList.map (·.2)):=by
 intro A E s Q i ho hi q
 have sz:t.place.size=es.size:=by
  unfold SetTable.fits at hf;simp only[aW,kC]at hf;exact hf.1
 unfold setNext;refine af (BH ho hd hf ?_);dsimp only;unfold setsByText;refine af (af (BN (ah ?_)));rw[show(Setting.params ⟨(model prog w).prog,(model prog w).w.params⟩).followText "set-order" = false from hT,aq aQ]
 rw[aq (λz=>by
  have z:(!t.plain&&decide (es.size>1))=true:=z;rw[hp]at z;cases z)]
 show wpAny _ _ ((if (!t.led && !es.isEmpty)=true then (unsupported "set:maker-not-led" : Sem Unit) else pure ()) >>= _) _ _ _;rw[hl,aq (by simp)];refine af (ah (ah ?_));rw[ay,nA]at hi;rw[E3 ti.ris ∅];rw[bc,oG]at q;rcases fj i es.size with z | z
 ·rw[ny z]at q⊢;rw[ny (xs:=t.place) (i:=i) ∅];have e:slotAt t.place (i+1)=t.place[i]+1:=by show t.place.getD i 0+1=_;simp[Array.getD,show i<t.place.size by omega]
  rw[e]at q;exact q
 ·rw[MF z]at q⊢;exact q
theorem E4(hd:o.data=.set es ep t)(hf:t.fits es.size=true)(rd:CA prog w a o ep sl vs)(st:Ae s.heap it (.int (sl i) 0) i a es.size ep)(ho:s.heap.get? a=some o)(hx:vs[i]?=some x)(q:∀h,Ae h it (.int (sl (i+1)) 0) (i+1) a es.size ep->Heap.SameBut it s.heap h->Q (some x) {s with heap:=h}):wpAny (model prog w) A (pyNext (.ref it)) Q E s:=by
 obtain⟨oi,qw,hc,tJ⟩:=id st;unfold pyNext;refine af (nH (jy (name:=Str.ofString "__next__") st.ty dY (fM dY st.ty nV ?_ (kO _))));unfold Builtin.«set_iterator.__next__»;refine af (ah ?_);refine af (vh qw tJ ?_);dsimp only;refine af (DG ho hd hf ?_);rw[aq (by simp)];simp only[gP];refine af (rd _ _ _ _ i ho (qK (bz.mp hx).1) ?_);rw[hx];dsimp only[Option.map];refine af (nF (i:=0) qw tJ (by simp) ?_);have g1:=oF (Obj.mapFields (·.setIfInBounds 0 (rawInt (sl (i+1))))) qw (xZ (ku tJ _));have d1:=ku tJ (·.setIfInBounds 0 (rawInt (sl (i+1))));refine af (nF (i:=1) g1 d1 (by simp) ?_);have g2:=oF (Obj.mapFields (·.setIfInBounds 1 (rawInt ((i:Int)+1)))) g1 (xZ (ku d1 _));exact ah ⟨_,rfl,ah (q _ ⟨_,g2,(BF ..).trans ((BF ..).trans hc),by rw[ku d1];simp[rawInt]⟩ ((jA ..).trans (jA ..)))⟩
theorem Ag (hh : A.handled = none) (q : ∀ h, (∀ b o, s.heap.get? b = some o -> h.get? b = some o) -> Q none { s with heap := h }) :
    wpAny (model prog w) A.in1 (newExc (.type "StopIteration") [] >>= λe=>raiseNew e) (λ(fin:Fin) s'=>∃v,fin=Fin.done (Flow.ret v)/\wpAny (model prog w) A (pure (some v)) Q E s')
      (λe s'=>wpAny (model prog w) A (isInstance e (.type "StopIteration") >>= λb=>if b=true then pure none else throw e) Q E s') s:=by
  refine af ?_;sleep 0;exact ah (q _ λb o e=>aO _ (aO _ e))
theorem Jx(hh:A.handled=none)(hd:o.data=.set es ep t)(hf:t.fits es.size=true)(rd:CA prog w a o ep sl vs)(st:Ae s.heap it (.int (sl i) 0) i a es.size ep)(ho:s.heap.get? a=some o)(hx:i=vs.length)(q:∀h,Heap.ExtBut it s.heap h->Q none {s with heap:=h}):wpAny (model prog w) A (pyNext (.ref it)) Q E s:=by
 obtain⟨oi,qw,hc,tJ⟩:=id st;sleep 9;simp only[gP];refine af (rd _ _ _ _ i ho (sJ hx) ?_);rw[gM (sJ hx.symm)];dsimp only[Option.map];refine af (nF (i:=2) qw tJ (by simp) ?_);exact Ag hh λh k=>q h λb o2 hb e=>k b o2 (((jA s.heap it _).2 b hb).trans e)
theorem E5{ep i p:Nat}{ps:List Nat}(hd:o.data=.set es ep t)(hf:t.fits es.size=true)(st:Ae s.heap it (.ref tp) i a es.size ep)(ho:s.heap.get? a=some o)(ht:∃ot n,s.heap.get? tp=some ot/\ot.data=.seq (ps.map λ(p:Nat)=>rawInt p).toArray n)(hp:ps[i]?=some p)(he:es[p]?=some e)(q:∀h,Ae h it (.ref tp) (i+1) a es.size ep->Heap.SameBut it s.heap h->Q (some e.2) {s with heap:=h}):wpAny (model prog w) A (pyNext (.ref it)) Q E s:=by
 obtain⟨oi,qw,hc,tJ⟩:=id st;obtain⟨ot,nt,YN,YO⟩:=ht;sleep 9;unfold seqItems?;refine af (af (BX YN ?_));rw[YO];refine ah ?_;dsimp only;simp only[gP,DF,bc,hp,Option.map,rawInt];unfold setNextDrawn;refine af (af (BH ho hd hf ?_));dsimp only;rw[aq (by simp)];simp only[gP,he];refine ah (af (nF (i:=1) qw tJ (by simp) ?_));have g2:=oF (Obj.mapFields (·.setIfInBounds 1 (.int ((i:Int)+1) 0))) qw (xZ (ku tJ _));exact ah ⟨_,rfl,ah (q _ ⟨_,g2,(BF ..).trans hc,by rw[ku tJ];simp⟩ (jA ..))⟩
theorem Jy{ep i:Nat}{ps:List Nat}(hh:A.handled=none)(hd:o.data=.set es ep t)(hf:t.fits es.size=true)(st:Ae s.heap it (.ref tp) i a es.size ep)(ho:s.heap.get? a=some o)(ht:∃ot n,s.heap.get? tp=some ot/\ot.data=.seq (ps.map λ(p:Nat)=>rawInt p).toArray n)(hp:i=ps.length)(q:∀h,Heap.ExtBut it s.heap h->Q none {s with heap:=h}):wpAny (model prog w) A (pyNext (.ref it)) Q E s:=by
 obtain⟨oi,qw,hc,tJ⟩:=id st;obtain⟨ot,nt,YN,YO⟩:=ht;sleep 9;unfold seqItems?;refine af (af (BX YN ?_));rw[YO];refine ah ?_;dsimp only;simp only[gP,DF,bc,gM (sJ hp.symm),Option.map];refine af (nF (i:=0) qw tJ (by simp) ?_);have g1:=oF (Obj.mapFields (·.setIfInBounds 0 (rawInt 0))) qw (xZ (ku tJ _));have d1:=ku tJ (·.setIfInBounds 0 (rawInt 0));refine af (nF (i:=2) g1 d1 (by simp) ?_);exact Ag hh λh k=>q h λb o2 hb e=>k b o2 (((jA _ it _).2 b hb).trans (((jA s.heap it _).2 b hb).trans e))
end
end L2
end
section
namespace L2
open PySem PySem.Spec PyProof.Rows
theorem rJ:Slot "set_iterator" "__iter__" "set_iterator.__iter__" :=
 .of (owner := "set_iterator") (n := "__iter__") (by rw[typeLookup_type,MI];kernel_rfl) ⋯ ⋯ ⋯
  (by first | exact .inl ⋯ | exact .inr ⋯) (by rw[isSubtype_type];kernel_rfl)
theorem E6:entryFor table "set_iterator.__iter__" = some Builtin.«dict_keyiterator.__iter__»:=entryFor_alias (id' := "dict_keyiterator.__iter__") (nofun) rfl ⋯ (nofun)
theorem CG(a:Value):argsOk "set_iterator.__iter__" ⟨[a],[]⟩:=by
 unfold argsOk;rw[signature?_of (id := "set_iterator.__iter__") (n := "__reti__".toList) (o := "rotareti_tes".toList) (nofun) Ad];kernel_rfl
section
variable {prog:Program} {w:World} {A:Around} {E:Value->Shared->Prop} {s:Shared} {a it:Addr} {o:Obj} {es:Array (Int×Value)} {ep:Nat} {t:SetTable}
theorem Ti(st:Ae s.heap it f i a n ep)(h:Q (.ref it) s):wpAny (model prog w) A (pyIter (.ref it)) Q E s:=by
 refine DK st.ty rJ (fM rJ st.ty E6 ?_ (CG _));show wpAny _ _ (ret (.ref it)) _ _ s;exact ah ⟨_,rfl,"set_iterator",_,st.ty,dY.lookup,h⟩
theorem Ae.keep(x:Ae h it f i a n ep)(k:∀o,h.get? it=some o->h'.get? it=some o):Ae h' it f i a n ep:=by
 obtain⟨o,e,r⟩:=x;exact⟨o,k o e,r⟩
theorem CH(hh:A.handled=none)(ne:a≠it)(hd:o.data=.set es ep t)(hf:t.fits es.size=true)(rd:CA prog w a o ep sl vs):WalksS prog w A it [it,a] [it] (λx y=>y=x) vs.length (λi v=>vs[i]?=some v) (λi s=>Ae s.heap it (.int (sl i) 0) i a es.size ep/\s.heap.get? a=some o) where
 sub:=λb hb=>by simp at hb;simp[hb]
 grefl:=λ_=>rfl
 gtrans:=λ_ _ _ p q=>q.trans p
 frame:=λi s h' tk st _ k=>⟨st.1.keep λo e=>k it (by simp) o e,k a (by simp) _ st.2⟩
 item:=λi s Q E hi st q=>by
  refine E4 hd hf rd st.1 st.2 (br hi) λh uX sb=>q _ _ (br hi) ⟨uX,(sb.2 a ne).trans st.2⟩ ⟨λb o hb e=>(sb.2 b (by simpa using hb)).trans e,rfl,rfl,rfl,aH _⟩
 done:=λs Q E st q=>Jx hh hd hf rd st.1 st.2 rfl λh eb=>q _ ⟨λb o hb e=>eb b o (by simpa using hb) e,rfl,rfl,rfl,aH _⟩
 self:=λi s Q E st q=>Ti st.1 q
theorem yC{ps:List Nat}{vs:List Value}(hh:A.handled=none)(ne:a≠it)(nt:tp≠it)(hd:o.data=.set es ep t)(hf:t.fits es.size=true)(hv:∀(i p:Nat),ps[i]?=some p->∃u,es[p]?=some u/\vs[i]?=some u.2)(hl:vs.length=ps.length):WalksS prog w A it [it,a,tp] [it] (λx y=>y=x) vs.length (λi v=>vs[i]?=some v) (λi s=>Ae s.heap it (.ref tp) i a es.size ep/\s.heap.get? a=some o/\∃ot n,s.heap.get? tp=some ot/\ot.data=.seq (ps.map λ(p:Nat)=>rawInt p).toArray n) where
 sub:=λb hb=>by simp at hb;simp[hb]
 grefl:=λ_=>rfl
 gtrans:=λ_ _ _ p q=>q.trans p
 frame:=λi s h' tk st _ k=>⟨st.1.keep λo e=>k it (by simp) o e,k a (by simp) _ st.2.1,by obtain⟨ot,n,e,d⟩:=st.2.2;exact⟨ot,n,k tp (by simp) _ e,d⟩⟩
 item:=λi s Q E hi st q=>by
  obtain⟨st1,xT,ot,n,e,d⟩:=st;have hp:ps[i]?=some ps[i]:=br ∅;obtain⟨u,he,ev⟩:=hv i _ hp;exact E5 hd hf st1 xT ⟨ot,n,e,d⟩ hp he λh uX sb=>q _ _ ev ⟨uX,(sb.2 a ne).trans xT,ot,n,(sb.2 tp nt).trans e,d⟩ ⟨λb o hb e=>(sb.2 b (by simpa using hb)).trans e,rfl,rfl,rfl,aH _⟩
 done:=λs Q E st q=>Jy hh hd hf st.1 st.2.1 st.2.2 hl λh eb=>q _ ⟨λb o hb e=>eb b o (by simpa using hb) e,rfl,rfl,rfl,aH _⟩
 self:=λi s Q E st q=>Ti st.1 q
abbrev yD(f:Value)(a:Addr)(n ep:Nat):Obj:={cls:=.type "set_iterator",data:=.fields #[f,.int 0 0,.ref a,.int n 0,.int ep 0]}
theorem E7{Q:Value->Shared->Prop}(ho:s.heap.get? a=some o)(xU:o.ExactSet)(hd:o.data=.set es ep t)(hf:t.fits es.size=true)(ti:Tb t) (hl:t.led=!w.params.followText "set-order") (hb:es.size<scanBound) (q1:∀sl vs,sl 0=0->vs.Perm (es.toList.map (·.2))->CA prog w a o ep sl vs->Q (.ref s.heap.objs.size) {s with heap:=s.heap.push (yD (.int 0 0) a es.size ep)}) (q2:∀(ps:List Nat) d,ps.Perm (List.range es.size)->Q (.ref (s.heap.objs.size+1)) {s with heap:=(s.heap.push {cls:=.type "tuple",data:=.seq (ps.map λ(p:Nat)=>rawInt p).toArray}).push (yD (.ref s.heap.objs.size) a es.size ep),drawn:=d}):wpAny (model prog w) A (pyIter (.ref a)) Q E s:=by
 have hT:s.TypeIs (.ref a) "set" := ⟨o,ho,xU.1⟩;refine DK hT PySem.F.slot_set_iter (fM PySem.F.slot_set_iter hT Cz ?_ (PySem.F.args_set_iter_1 _));unfold Builtin.«frozenset.__iter__» Builtin.Frozenset.slot0;refine af (af (ah (ah ?_)));unfold Builtin.Frozenset.sizeOf;refine af (af (DG ho hd hf (ah ?_)));unfold setDrawn;refine af (af (BH ho hd hf ?_));unfold setsByText;dsimp only;refine af (af (BN (ah (ah ?_))));have nx:=dY.lookup;by_cases E8:w.params.followText "set-order" = true
 ·rw[show(Setting.params ⟨(model prog w).prog,(model prog w).w.params⟩).followText "set-order" = true from E8];rw[aq (by simp)];refine af (ah (af (wpAny_setEpoch_of ho hd hf ?_)));obtain⟨vs,p,rd⟩:=CD (prog:=prog) (a:=a) hd hf E8;simp only[newFields];exact af (eP (ah ⟨_,rfl,"set_iterator",_,⟨_,cj _ rfl,rfl⟩,nx,q1 _ vs rfl p rd⟩))
 ·replace E8:w.params.followText "set-order" = false:=Bool.eq_false_iff.mpr E8
  rw[show(Setting.params ⟨(model prog w).prog,(model prog w).w.params⟩).followText "set-order" = false from E8];by_cases hp:(!t.plain&&decide (es.size>1))=true
  ·show wpAny _ _ (if (!t.plain&&decide (es.size>1))=true then _ else _) _ _ _;rw[ar hp];refine af (kP _ _ _ _ (lS ..) λps d p=>?_);simp only[newFields,newTuple];refine af (eP ?_ ?_)
   ·refine af (wpAny_setEpoch_of (aO _ ho) hd hf ?_);refine af (eP (ah ⟨_,rfl,"set_iterator",_,⟨_,cj _ rfl,rfl⟩,nx,?_⟩));have:=q2 ps d p;rw[<- iR s.heap {cls:=.type "tuple",data:=.seq (ps.map λ(p:Nat)=>rawInt p).toArray}]at this;exact this
   ·have hz:=Ic hb;have e:=p.length_eq;rw[lS]at e;show(ps.map λ(p:Nat)=>rawInt p).toArray.size<=sizeLine;rw[cG,ay,e];exact hz
  ·show wpAny _ _ (if (!t.plain&&decide (es.size>1))=true then _ else _) _ _ _;rw[aq hp];refine af (ah (af (wpAny_setEpoch_of ho hd hf ?_)));simp only[newFields];exact af (eP (ah ⟨_,rfl,"set_iterator",_,⟨_,cj _ rfl,rfl⟩,nx,q1 _ _ rfl (.refl _) (CF hd hf E8 (by rw[hl,E8];rfl) ti (Bool.eq_false_iff.mpr hp))⟩))
theorem wm:∀(vs:List Value),(∀v∈vs,∃k t,v=.int k t)->∃ns,IntsAre vs ns/\ns.length=vs.length/\∀k,k∈ns↔∃t,Value.int k t∈vs
 | [],_=>⟨[],.nil,rfl,λk=>by simp⟩
 | v::vs,h=>by
  obtain⟨k,t,rfl⟩:=h v (by simp);obtain⟨ns,r,l,m⟩:=wm vs λu hu=>h u (da _ hu);refine⟨k::ns,.cons k t r,by simp[l],λj=>?_⟩;rw[bT,m j];constructor
  ·rintro(rfl | ⟨u,z⟩)
   ·exact⟨t,by simp⟩
   ·exact⟨u,da _ z⟩
  ·rintro⟨u,z⟩;rcases bT.mp z with z | z
   ·cases z;exact .inl rfl
   ·exact .inr ⟨u,z⟩
theorem ints_set{L:List Int}{vs:List Value}(x1:ElemsOf (intKind prog w) es.toList)(x2:∀k,k∈L↔∃e∈es.toList,(intKind prog w).is k e.2=true)(x5:es.size=L.length)(p:vs.Perm (es.toList.map (·.2))):∃ns,IntsAre vs ns/\ns.length=L.length/\∀k,k∈ns↔k∈L:=by
 have shape:∀k v,(intKind prog w).is k v=true->∃t,v=.int k t:=λk v h=>Value.isInt_shape h
 obtain⟨ns,r,l,m⟩:=wm vs λv hv=>by
  obtain⟨e,he,rfl⟩:=dI.mp (p.mem_iff.mp hv);obtain⟨⟨k,hk,_⟩,_⟩:=x1 e he;exact⟨k,shape k _ hk⟩
 refine⟨ns,r,by rw[l,p.length_eq,ay,nA,x5],λk=>?_⟩;rw[m k,x2 k];constructor
 ·rintro⟨t,z⟩;obtain⟨e,he,q⟩:=dI.mp (p.mem_iff.mp z);exact⟨e,he,by rw[q];exact intKind_is _ _ _ _⟩
 ·rintro⟨e,he,q⟩;obtain⟨t,z⟩:=shape k _ q;exact⟨t,p.mem_iff.mpr (dI.mpr ⟨e,he,z⟩)⟩
theorem wq(ho:s.heap.get? a=some o)(xU:o.ExactSet)(q:Q false s):wpAny (model prog w) A (Builtin.List.listLengthHint (.ref a)) Q E s:=by
 have hT:s.TypeIs (.ref a) "set" := ⟨o,ho,xU.1⟩;unfold Builtin.List.listLengthHint;refine af (wpAny_specialOf hT PySem.F.slot_set_len.lookup ?_);generalize hid:("set.__len__" : String)=id0
 wp_delta
 rw[show splitId id0=some ("set","__len__") from by subst hid;decide +kernel];subst hid;refine af (BM (b:=true) hT (by rw[isSubtype_type];kernel_rfl) ?_);refine af (yd hT ?_);exact ah q
theorem wt{l:Addr}{Q:Unit->Shared->Prop} (hl:s.heap.get? l=some {cls:=.type "list",data:=.seq ([]:List Value).toArray}) (q:∀h' c,Heap.SameBut l s.heap h'->h'.get? l=some {cls:=.type "list",dict:=none,data:=.seq #[] c,slots:=#[]}->Q () {s with heap:=h'}):wpAny (model prog w) A (Builtin.List.listTouch (.ref l)) Q E s:=by
 unfold Builtin.List.listTouch;refine af (listUpdate_at hl rfl ?_ (by simp) (by show(#[].push Value.none).size<=_;simp));have g1:=oF (Obj.mapSeq (·.push Value.none)) hl rfl;refine listUpdate_at g1 rfl ?_ (by show(#[].push Value.none).size<=_;simp[BV]) (by show(#[].push Value.none).pop.size<=_;simp);have g2:=oF (Obj.mapSeq (·.pop)) g1 rfl;exact q _ _ ((jA ..).trans (jA ..)) g2
theorem wu {fp : List Addr} {n : Nat} {P : Nat -> Value -> Prop} {St : Nat -> Shared -> Prop} {l : Addr} {c : Nat} {Q : List Value -> Shared -> Prop} (W : WalksS prog w A.in1 it fp [it] (fun x y => y = x) n P St) (hn : n <= sizeLine) (hS : l ∉ fp) (st : St 0 s)
    (hl:s.heap.get? l=some {cls:=.type "list",dict:=none,data:=.seq #[] c,slots:=#[]}) (q:∀s' acc,Moved [l,it] (λx y=>y=x) s s'->ItemsOf P acc n->l<s'.heap.objs.size->Q acc.toList s') :
    codeAny (model prog w) A (.builtin "list.extend.loop" ⟨[.ref l,.ref it,.ref l],[]⟩) (λr s'=>match r with
      | .ok (.ret v)=>wpAny (model prog w) A (match v with
        | .ref a=>load a >>= λo=>match o.data with
          | .seq xs _=>pure xs.toList
          | _=>unsupported "internal:collect"
        | _=>unsupported "internal:collect") Q E s'
      | .ok _=>False
      | .error e=>E e s') s:=by
  refine codeAny_extend_loopS W hn l hS _ n 0 s #[] c rfl (lV _) st hl (ItemsOf.nil P) λs' acc c' mv g ia=>?_;dsimp only;refine af (BX g ?_);exact ah (q s' acc mv ia (bG g))
theorem CI(es:Array (Int×Value)):(List.range es.size).map (λp=>((es[p]?).map (λ(e:Int×Value)=>e.2)).getD .none)=es.toList.map (·.2):=by
 refine BJ λi=>?_;rw[bc,bc];rcases fj i es.size with z | z
 ·rw[jT z,oG,ny z];show some (((es[i]?).map (λ(e:Int×Value)=>e.2)).getD .none)=_;rw[ny z];rfl
 ·rw[gM (by simpa using z),gM (by simpa using z)];rfl
theorem wz{L:List Int}{Q:List Value->Shared->Prop}(hh:A.handled=none) (x:eN prog w s.heap a (!w.params.followText "set-order") L) (q:∀(vs:List Value)(ns:List Int)(s':Shared),IntsAre vs ns->ns.length=L.length->(∀k,k∈ns↔k∈L)->(∀b o,s.heap.get? b=some o->s'.heap.get? b=some o)->s'.os=s.os->s'.gens=s.gens->s.heap.objs.size<s'.heap.objs.size->Q vs s'):wpAny (model prog w) A (collect (.ref a)) Q E s:=by
 obtain⟨o,es,ep,t,ho,xU,hd,x1,x2,x3,x4,x5,x6,x7⟩:=x;have lt:a<s.heap.objs.size:=bG ho;unfold collect;refine af (wpAny_runValue (qI PySem.F.entry_proto_collect ?_));rw[sA PySem.F.plain_proto_collect _];show wpAny _ A.in1 (newList [] >>= λl=>again (.builtin "list.__iadd__" ⟨[l,.ref a],[]⟩)) _ _ s;refine af (eP (ah ⟨vj PySem.F.plain_list_iadd _,qI PySem.F.entry_list_iadd ?_⟩));rw[sA PySem.F.plain_list_iadd _];have ET:=aO {cls:=.type "list",data:=.seq ([]:List Value).toArray} ho;have gl:(s.heap.push {cls:=.type "list",data:=.seq ([]:List Value).toArray}).get? s.heap.objs.size=some {cls:=.type "list",data:=.seq ([]:List Value).toArray}:=cj _ rfl;have nl:Builtin.List.listSameRef (.ref s.heap.objs.size) (.ref a)=false:=by simp[Builtin.List.listSameRef,nI lt]
 show wpAny _ A.in1 (Builtin.List.listExtendWith (.ref s.heap.objs.size) (.ref a) (.ref s.heap.objs.size)) _ _ _;unfold Builtin.List.listExtendWith;refine af (yd (T := "set") ⟨o,ET,xU.1⟩ ?_);rw[aq (by rw[nl];decide)];have z1:(s.heap.push {cls:=.type "list",data:=.seq ([]:List Value).toArray}).objs.size=s.heap.objs.size+1:=iR _ _;have Dt:es.size<=sizeLine:=Ic x3
 have fin:∀{vs:List Value}{acc:Array Value}{s':Shared}{k:Addr},vs.Perm (es.toList.map (·.2))->ItemsOf (λi v=>vs[i]?=some v) acc vs.length->(∀b o,s.heap.get? b=some o->s'.heap.get? b=some o)->s'.os=s.os->s'.gens=s.gens->s.heap.objs.size<s'.heap.objs.size->Q acc.toList s':=λ{vs acc s' k} p ia kp eo eg gr=>by
  have e:acc.toList=vs:=by
   refine BJ λi=>?_;rw[oG]
   cases qa:acc[i]? with
   | some v=>exact(ia.2 i v qa).symm
   | none=>exact(gM (by have:=Array.getElem?_eq_none_iff.mp qa;rw[ia.1]at this;exact this)).symm
  obtain⟨ns,r,l,m⟩:=ints_set x1 x2 x5 p;rw[e];exact q vs ns s' r l m kp eo eg gr
 refine af (E7 ET xU hd x4 x6 x7 x3 (λsl vs s0 p rd=>?_) λps d p=>?_)
 ·have lv:vs.length=es.size:=by rw[p.length_eq,ay,nA]
  refine af (hV (wq (aO _ ET) xU ?_));rw[ar ⋯];refine af (nJ (af (wt (aO _ gl) λh' c sb g=>?_)));refine ah ⟨vj PySem.F.plain_extend_loop _,wu (CH (A:=A.in1) hh (by dsimp only;rw[z1];exact b_ (iG lt)) hd x4 rd) (by rw[lv];exact Dt) ?_ ?_ g λs' acc mv ia gr=>fin (k:=0) p ia (λb ob e=>?_) mv.os mv.gens gr⟩
  ·dsimp only;rw[z1];simp only[bT,sE,fY,not_or];exact⟨b_ (iI _),nI lt⟩
  ·refine⟨⟨_,(sb.2 _ ?_).trans (cj _ rfl),rfl,by rw[s0];rfl⟩,(sb.2 a (b_ lt)).trans (aO _ ET)⟩;dsimp only;rw[z1];exact nI (iI _)
  ·have lb:b<s.heap.objs.size:=bG e;refine mv.heap b ob ?_ ((sb.2 b (b_ lb)).trans (aO _ (aO _ e)));dsimp only;rw[z1];simp only[bT,sE,fY,not_or];exact⟨b_ lb,b_ (iG lb)⟩
 ·have lp:ps.length=es.size:=by rw[p.length_eq,lS]
  have pv:=p.map (λp=>((es[p]?).map (λ(e:Int×Value)=>e.2)).getD .none);rw[CI]at pv;have z2:((s.heap.push {cls:=.type "list",data:=.seq ([]:List Value).toArray}).push {cls:=.type "tuple",data:=.seq (ps.map λ(p:Nat)=>rawInt p).toArray}).objs.size=s.heap.objs.size+1+1:=by rw[iR,z1]
  have hv:∀(i p:Nat),ps[i]?=some p->∃u,es[p]?=some u/\(ps.map (λp=>((es[p]?).map (λ(e:Int×Value)=>e.2)).getD .none))[i]?=some u.2:=λi j e=>by
   have hj:j<es.size:=by have:=p.mem_iff.mp (cQ e);simpa using this
   refine⟨es[j],ny hj,?_⟩;rw[bc,e];show some (((es[j]?).map (λ(e:Int×Value)=>e.2)).getD .none)=_;rw[ny hj];rfl
  have zT:=aO {cls:=.type "tuple",data:=.seq (ps.map λ(p:Nat)=>rawInt p).toArray} ET;have gl2:=aO {cls:=.type "tuple",data:=.seq (ps.map λ(p:Nat)=>rawInt p).toArray} gl;have gt:((s.heap.push {cls:=.type "list",data:=.seq ([]:List Value).toArray}).push {cls:=.type "tuple",data:=.seq (ps.map λ(p:Nat)=>rawInt p).toArray}).get? (s.heap.objs.size+1)=some {cls:=.type "tuple",data:=.seq (ps.map λ(p:Nat)=>rawInt p).toArray}:=by rw[<- z1];exact cj _ rfl
  dsimp only;rw[z1];refine af (hV (wq (aO _ zT) xU ?_));rw[ar ⋯];refine af (nJ (af (wt (aO _ gl2) λh' c sb g=>?_)));have n1:s.heap.objs.size≠s.heap.objs.size+1+1:=b_ (iG (iI _));refine ah ⟨vj PySem.F.plain_extend_loop _,wu (yC (A:=A.in1) (tp:=s.heap.objs.size+1) hh (b_ (iG (iG lt))) (b_ (iI _)) hd x4 hv (by rw[ay])) (by rw[ay,lp];exact Dt) ?_ ?_ g λs' acc mv ia gr=>fin (k:=0) pv ia (λb ob e=>?_) mv.os mv.gens gr⟩
  ·simp only[bT,sE,fY,not_or];exact⟨n1,nI lt,b_ (iI _)⟩
  ·refine⟨⟨yD (.ref (s.heap.objs.size+1)) a es.size ep,(sb.2 _ (cW n1)).trans ?_,rfl,rfl⟩,(sb.2 a (b_ lt)).trans (aO _ zT),_,_,(sb.2 _ (nI (iI _))).trans (aO _ gt),rfl⟩;rw[<- z2];exact cj _ rfl
  ·have lb:b<s.heap.objs.size:=bG e;refine mv.heap b ob ?_ ((sb.2 b (b_ lb)).trans (aO _ (aO _ (aO _ e))));simp only[bT,sE,fY,not_or];exact⟨b_ lb,b_ (iG (iG lb))⟩
end
end L2
end
section
namespace L2
open PySem PySem.Spec PyProof.Rows
theorem rK:∀(xs pre L:List Int),wj (λi=>(pre++xs).getD i 0) xs.length pre.length L=xs.foldl gT L
 | [],pre,L=>rfl
 | x::xs,pre,L=>by
  have e:pre++x::xs=(pre++[x])++xs:=by simp
  have e2:pre.length+1=(pre++[x]).length:=by simp
  show wj (λi=>(pre++x::xs).getD i 0) xs.length (pre.length+1) (gT L ((pre++x::xs).getD pre.length 0))=xs.foldl gT (gT L x);have g:(pre++x::xs).getD pre.length 0=x:=by simp[List.getD]
  rw[g,e2,e];exact rK xs (pre++[x]) (gT L x)
def yE(is:List Int):List Int:=is.foldl gT []
theorem Jz(h:L.Nodup)(k:Int):(gT L k).Nodup:=by
 unfold gT;split
 ·exact h
 ·rename_i n
  rw[x_];refine⟨h,by simp,λx hx y hy=>?_⟩;obtain rfl:=iO.mp hy;exact λz=>n (z▸hx)
theorem E9:j∈gT L k↔j∈L\/j=k:=by
 unfold gT;split
 ·rename_i h
  exact⟨.inl,λz=>z.elim id λe=>e▸h⟩
 ·simp
theorem E_:∀(is L:List Int),L.Nodup->(is.foldl gT L).Nodup/\∀j,j∈is.foldl gT L↔j∈L\/j∈is
 | [],L,h=>⟨h,λj=>by simp⟩
 | k::is,L,h=>by
  obtain⟨a,b⟩:=E_ is (gT L k) (Jz h k);refine⟨a,λj=>?_⟩;rw[BO,b j,E9,bT];exact⟨λz=>by rcases z with(z | z) | z<;>simp[z],λz=>by rcases z with z | z | z<;>simp[z]⟩
theorem LP(is:List Int):(yE is).Nodup:=(E_ is [] .nil).1
theorem N9:j∈yE is↔j∈is:=by rw[yE,(E_ is [] .nil).2 j];simp
theorem Ah:∀{L ns:List Int},L.Nodup->(∀k∈L,k∈ns)->ns.length<=L.length->ns.Perm L
 | [],ns,_,_,h=>by
  obtain rfl:=MB.mp (Nat.le_zero.mp h);exact .refl _
 | k::L,ns,nd,sub,h=>by
  obtain⟨n1,n2⟩:=sG.mp nd;have hk:=sub k (by simp);have p:=List.perm_cons_erase hk;refine p.trans (.cons k (Ah n2 (λj hj=>?_) ?_))
  ·have:j≠k:=λz=>n1 (z▸hj);rw[List.mem_erase_of_ne this];exact sub j (da _ hj)
  ·rw[List.length_erase_of_mem hk];simp only[iP]at h;omega
section
variable {prog:Program} {w:World} {A:Around} {E:Value->Shared->Prop} {s:Shared} {a:Addr}
theorem yF{L:List Int}{Q:Value->Shared->Prop}(hh:A.handled=none) (x:eN prog w s.heap a (!w.params.followText "set-order") L) (nd:L.Nodup) (YQ:L.length<64) (q:∀(r:Addr)(out:Array Value)(c:Nat)(s':Shared),IntsAre out.toList (mq L)->s.heap.objs.size<=r->s'.heap.get? r=some (seqObj "list" out c)->(∀b o,s.heap.get? b=some o->s'.heap.get? b=some o)->s'.os=s.os->s'.gens=s.gens->Q (.ref r) s'):wpAny (model prog w) A (call (.builtin "sorted") [.ref a]) Q E s:=by
 refine Calls.call_function_entry kind_sorted plain_sorted entry_sorted (args_sorted1 _) ?_;unfold Builtin.«sorted»;refine af (m:=checkCount "sorted" 1 1 _) (ah ?_);refine af (wz (A:=A.in1) (by simp[hh]) x λvs ns s1 ia l m kp eo eg gr=>?_);have hv:vs.length=ns.length:=IntsAre.length ia;refine af (eP ?_ (by show vs.toArray.size<=sizeLine;rw[cG,BV];omega));have g:(s1.heap.push (seqObj "list" vs.toArray 0)).get? s1.heap.objs.size=some (seqObj "list" vs.toArray 0):=cj _ rfl;refine af (hV (fM slot_list_sort ⟨_,g,rfl⟩ entry_list_sort (list_sort_tree (s:={s1 with heap:=s1.heap.push (seqObj "list" vs.toArray 0)}) g ia ∅ λout ns' a1 a2 a3=>⟨_,rfl,?_⟩) (args_list_sort _)));have e:ns'=mq L:=pw ((a2.trans (Ah nd (λk hk=>(m k).mpr hk) (sJ l))).trans fQ.symm) a3 pq;subst e;obtain⟨c,gc⟩:=sortedHeap_at (out:=out) g;refine ah ⟨_,rfl,q _ out c _ a1 (qK gr) gc (λb o e=>?_) eo eg⟩;have e1:=kp b o e;show(sortedHeap _ _ _ _).get? b=_;rw[sortedHeap_old (b_ (bG e1)) (bG (aO _ e1))];exact aO _ e1
end
section
variable {X:Cx}
abbrev JA(X:Cx)(a:Addr)(L:List Int):HO:=.ext λh=>eN X.prog X.w h a (!X.w.params.followText "set-order") L
theorem CJ(hc:X.calm=true):dX X (.type "set") (λxs H Q=>∃p is,xs=[.ref p]/\fb X.K H p (is.map V.int)/\is.length+1<scanBound/\∀l,H l=none->Q (.ref l) (upd H l (JA X l (yE is)))):=by
 sleep 12;obtain⟨p,is,rfl,hq,hb,q⟩:=h;obtain⟨u,rfl,rx⟩:=vals1 r;cases rx;obtain⟨aA,r',pl,hz⟩:=I.list hq;have aZ:=r'.length;rw[ay]at aZ;refine E2 (items:=aA.toArray) (ns:=is) (I.ok.hd hc) pl.isList (wa r') (by simpa using (by omega:aA.length+1<scanBound)) λh' tk x kp=>?_;have e:=rK is [] [];rw[show wj (λi=>is.getD i 0) aA.toArray.size 0 []=yE is by rw[show aA.toArray.size=is.length by rw[cG,aZ]];exact e]at x;have hx:=id x;obtain⟨o,_,_,_,ho,_⟩:=hx;exact⟨.ref s.heap.objs.size,_,I.laid (t':=tk) kp (aH _) (show bH X.prog X.w _ _ _ (JA X s.heap.objs.size (yE is)) from ⟨x,⟨o,ho⟩,λh1 h2 y k=>y.keep λo e=>k o e⟩),rfl,q _ (I.bI.fresh (aH _))⟩
theorem yG(hc:X.calm=true):dX X (.builtin "sorted") (λxs H Q=>∃p L,xs=[.ref p]/\H p=some (JA X p L)/\L.Nodup/\L.length<64/\∀l,H l=none->Q (.ref l) (upd H l (.lst ((mq L).map V.int)))):=by
 sleep 12;obtain⟨p,L,rfl,hq,nd,YQ,q⟩:=h;obtain⟨u,rfl,rx⟩:=vals1 r;cases rx;obtain⟨x,_⟩:=(show bH X.prog X.w H s.heap p (JA X p L) from I.bI p _ hq);refine yF (I.ok.hd hc) x nd YQ λr out c s' ia le g kp eo eg=>?_;have nn:=I.bI.fresh le
 have bI:jE X.prog X.w (upd H r (.lst ((mq L).map V.int))) s'.heap:=I.bI.laid kp le (show bH X.prog X.w _ _ _ (.lst ((mq L).map V.int)) from ⟨by
  rw[ay,fQ.length_eq];exact dW (qK YQ) (by decide),out.toList,c,wb ia,by simpa using g⟩)
 exact⟨.ref r,_,I.Lv (ch:=[]) eo (Un.laid kp le nn) bI (by rw[eg];exact I.bare) (λ_ z=>nomatch z),rfl,q _ nn⟩
theorem yH:X3 X "list.extend" (λx vs H Q=>∃l b xs zs,x=.ref l/\vs=[.ref b]/\H l=some (.lst xs)/\fz X.K H b zs/\xs.length+zs.length<=sizeLine/\Q .aP (upd H l (.lst (xs++zs)))):=by
 intro aa s σ H x vs v us Q I rx rv h;obtain⟨l,b,xs,zs,rfl,rfl,hH,hB,hz,q⟩:=h;cases rx;obtain⟨u,rfl,ru⟩:=rv.one;cases ru;obtain⟨z,aA,n,r,hl,e⟩:=I.vT hH;obtain⟨jY,r2,⟨o2,e2,c2,n2,d2⟩,z2⟩:=I.tuple hB;have Dr:=r2.length;have hsz:aA.toArray.size+jY.toArray.size<=sizeLine:=by rw[cG,cG];omega
 have vU:¬(!aA.toArray.isEmpty&&Builtin.List.listTooLong (aA.toArray.size+jY.toArray.size))=true:=by
  rw[oY hsz,Bool.and_false];exact aQ
 refine fM H_ ⟨_,e,rfl⟩ F.entry_list_extend ?_ (F.args_list_extend_2 _ _);unfold Builtin.«list.extend»;refine af (ah ?_);show wpAny _ _ (Builtin.List.listExtendWith (.ref l) (.ref b) .none) _ _ s;unfold Builtin.List.listExtendWith;refine af (yd (T := "tuple") ⟨o2,e2,c2⟩ ?_);rw[ar (by simp)];refine af (listItems_at e2 d2 (af (listItems_at e rfl ?_)));rw[aq vU];refine af (listUpdate_at e rfl ?_ (by rw[cG];omega) (by show(aA.toArray++jY.toArray).size<=_;rw[Array.size_append];omega));exact ah ⟨_,rfl,.aP,_,I.IX (its':=aA++jY) hH e (by simp) (r.append r2) (by rw[cI];omega),rfl,q⟩
end
end L2
end
section
namespace Ev
open L2
open PySem PySem.Spec PyProof.Rows
inductive D where
 | aP | bl (b:Bool) | int (i:Int) | str (s:Str) | tup (ds:List D) | ai (n:Nat) | ls (ds:List D)
 deriving Inhabited
inductive MO where
 | lst (ds:List D) | jC (ds:List D) | dK (ag:List (bN×D)) | dT (ag:List (List bN×D)) | dF (ag:List (List bN×D))
 deriving Inhabited
abbrev aj:=List MO
abbrev En:=List (Option D)
inductive W where
 | d (x:D) | lv (ds:List D)
 deriving Inhabited
structure Exn where
 cls:Nat
 fs:List D
inductive cP (α:Type) where
 | ok (a:α) (M:aj) | err (x:Exn) (M:aj) | ae
noncomputable def cP.bind{α β:Type}(o:cP α)(f:α->aj->cP β):cP β:=match o with
 | .ok a M=>f a M
 | .err x M=>.err x M
 | .ae=>.ae
noncomputable def wA(K:Frag)(H:Hp)(a:Addr)(xs:List V):Prop :=
 (∃o,H a=some (.dP o (.lst xs)))\/∃(o:Obj) (aA:Array Value) (n:Nat),K.lookup a=some o/\o.cls=.type "list" /\ o.dict=none/\o.data=.seq aA n/\aA.size<=sizeLine/\aY xs aA.toList
theorem wA.sq{K:Frag}{H:Hp}{a:Addr}{xs:List V}(h:wA K H a xs):fb K H a xs:=by
 rcases h with⟨o,h⟩ | h
 ·exact .inl (.inr ⟨o,h⟩)
 ·exact .inr h
mutual
noncomputable def RD(K:Frag)(ads:List Addr)(H:Hp):D->V->Prop
 | .aP,v=>v=.aP
 | .bl b,v=>v=.bl b
 | .int i,v=>v=.int i
 | .str s,v=>v=.str s
 | .tup ds,v=>∃a xs,v=.ref a/\H a=some (.tup xs)/\aS K ads H ds xs
 | .ai n,v=>∃a,v=.ref a/\ads[n]?=some a
 | .ls ds,v=>∃a xs,v=.ref a/\wA K H a xs/\aS K ads H ds xs
noncomputable def aS(K:Frag)(ads:List Addr)(H:Hp):List D->List V->Prop
 | [],xs=>xs=[]
 | d::ds,xs=>∃x r,xs=x::r/\RD K ads H d x/\aS K ads H ds r
end
section
variable (K:Frag) (ads:List Addr) (H:Hp)
def cq{κ:Type}:List (κ×D)->List (κ×V)->Prop
 | [],xs=>xs=[]
 | p::ps,xs=>∃x r,xs=x::r/\p.1=x.1/\RD K ads H p.2 x.2/\cq ps r
def Rh(a:Addr):MO->Prop
 | .lst ds=>∃xs,H a=some (.lst xs)/\aS K ads H ds xs
 | .jC ds=>∃o xs,H a=some (.dP o (.lst xs))/\aS K ads H ds xs
 | .dK ag=>∃ks,H a=some (.dK ks)/\cq K ads H ag ks
 | .dT ag=>∃ks,H a=some (.dT ks)/\cq K ads H ag ks
 | .dF ag=>∃o ks,H a=some (.dP o (.dT ks))/\cq K ads H ag ks
structure aX (M:aj):Prop where
 nd:ads.Nodup
 len:ads.length=M.length
 obj:∀(n:Nat)(o:MO)(a:Addr),M[n]?=some o->ads[n]?=some a->Rh K ads H a o
def Tj(ρ:En)(σ:L2.St):Prop:=∀(i:Nat)(d:D),ρ[i]?=some (some d)->∃v,σ[i]?=some (some v)/\RD K ads H d v
def RW:W->V->Prop
 | .d x,v=>RD K ads H x v
 | .lv ds,v=>∃a xs,v=.ref a/\H a=some (.lst xs)/\a∉ads/\aS K ads H ds xs
end
noncomputable def Kept(ads:List Addr)(H H':Hp):Prop:=∀b o,b∉ads->H b=some o->H' b=some o
noncomputable def Tn(H H':Hp):Prop:=∀b xs,H b=some (.tup xs)->H' b=some (.tup xs)
structure aI (ads aE:List Addr) (H H':Hp):Prop where
 pre:∃r,aE=ads++r
 new:∀b∈aE,b∉ads->H b=none
 kept:Kept ads H H'
 hZ:Tn H H'
 dP:∀b o u,H b=some (.dP o u)->H' b=some (.dP o u)
theorem aI.refl(ads:List Addr)(H:Hp):aI ads ads H H:=⟨⟨[],by simp⟩,λb h n=>absurd h n,λ_ _ _ h=>h,λ_ _ h=>h,λ_ _ _ h=>h⟩
theorem aI.trans(g:aI a b H H1)(k:aI b c H1 H2):aI a c H H2:=by
 obtain⟨r,e⟩:=g.pre;obtain⟨r',e'⟩:=k.pre;refine⟨⟨r++r',by rw[e',e,oI]⟩,λx h n=>?_,λx o n h=>?_,λx xs h=>k.hZ x xs (g.hZ x xs h),λx o u h=>k.dP x o u (g.dP x o u h)⟩
 ·by_cases hb:x∈b
  ·exact g.new x hb n
  ·have:=k.new x h hb
   cases q:H x with
   | none=>rfl
   | some o=>rw[g.kept x o n q]at this;cases this
 ·refine k.kept x o (λhb=>?_) (g.kept x o n h);rw[g.new x hb n]at h;cases h
section
variable {K:Frag} {ads aE:List Addr} {H H':Hp}
theorem aI.get(g:aI ads aE H H'){n:Nat}(h:ads[n]?=some a):aE[n]?=some a:=by
 obtain⟨r,e⟩:=g.pre;rw[e,kr (by have:=(bz.mp h).1;exact this)];exact h
theorem aI.jC(g:aI ads aE H H')(h:wA K H a xs):wA K H' a xs:=by
 rcases h with⟨o,h⟩ | h
 ·exact .inl ⟨o,g.dP _ _ _ h⟩
 ·exact .inr h
mutual
theorem aI.rd(g:aI ads aE H H'):∀(d:D)(v:V),RD K ads H d v->RD K aE H' d v
 | .aP,_,h=>by unfold RD at *;exact h
 | .bl _,_,h=>by unfold RD at *;exact h
 | .int _,_,h=>by unfold RD at *;exact h
 | .str _,_,h=>by unfold RD at *;exact h
 | .ai n,v,h=>by unfold RD at *;obtain⟨a,e,h⟩:=h;exact⟨a,e,g.get h⟩
 | .tup ds,v,h=>by unfold RD at *;obtain⟨a,xs,e,h,r⟩:=h;exact⟨a,xs,e,g.hZ _ _ h,aI.pz g ds xs r⟩
 | .ls ds,v,h=>by unfold RD at *;obtain⟨a,xs,e,h,r⟩:=h;exact⟨a,xs,e,g.jC h,aI.pz g ds xs r⟩
theorem aI.pz(g:aI ads aE H H'):∀(ds:List D)(vs:List V),aS K ads H ds vs->aS K aE H' ds vs
 | [],_,h=>by unfold aS at *;exact h
 | d::ds,vs,h=>by unfold aS at *;obtain⟨x,r,e,h1,h2⟩:=h;exact⟨x,r,e,aI.rd g d x h1,aI.pz g ds r h2⟩
end
theorem aI.yI{κ:Type}(g:aI ads aE H H'):∀(ds:List (κ×D))(vs:List (κ×V)),cq K ads H ds vs->cq K aE H' ds vs
 | [],_,h=>by unfold cq at *;exact h
 | d::ds,vs,h=>by unfold cq at *;obtain⟨x,r,e,h0,h1,h2⟩:=h;exact⟨x,r,e,h0,g.rd d.2 x.2 h1,aI.yI g ds r h2⟩
theorem aI.ren(g:aI ads aE H H')(h:Tj K ads H ρ σ):Tj K aE H' ρ σ:=λi d e=>by
 obtain⟨v,e1,r⟩:=h i d e;exact⟨v,e1,g.rd d v r⟩
theorem aI.gk(g:aI ads aE H H')(n:a∉ads)(e:H a=some o):a∉aE:=λh=>by
 rw[g.new a h n]at e;cases e
theorem aI.rw(g:aI ads aE H H')(h:RW K ads H w v):RW K aE H' w v:=by
 cases w with
 | d x=>exact g.rd x v h
 | lv ds =>
  obtain⟨a,xs,e,h,n,r⟩:=h;exact⟨a,xs,e,g.kept a _ n h,g.gk n h,g.pz ds xs r⟩
theorem aS.len:∀{ds:List D}{vs:List V},aS K ads H ds vs->ds.length=vs.length
 | [],_,h=>by unfold aS at h;subst h;rfl
 | d::ds,vs,h=>by unfold aS at h;obtain⟨x,r,e,h1,h2⟩:=h;subst e;simp[aS.len h2]
theorem aS.get:∀{ds:List D}{vs:List V}{i:Nat}{d:D},aS K ads H ds vs->ds[i]?=some d->∃v,vs[i]?=some v/\RD K ads H d v
 | [],_,_,_,h,e=>by simp at e
 | d::ds,vs,0,d',h,e=>by sleep 31;simp at e;subst e;exact⟨x,rfl,h1⟩
 | d::ds,vs,i+1,d',h,e=>by
  sleep 31;obtain⟨v,e',r'⟩:=aS.get (i:=i) h2 (by simpa using e);exact⟨v,by simpa using e',r'⟩
theorem aS.app:∀{ds es:List D}{vs ws:List V},aS K ads H ds vs->aS K ads H es ws->aS K ads H (ds++es) (vs++ws)
 | [],_,vs,_,h,k=>by unfold aS at h;subst h;exact k
 | d::ds,es,vs,ws,h,k=>by
  sleep 31;show aS K ads H (d::(ds++es)) (x::(r++ws));unfold aS;exact⟨x,_,rfl,h1,aS.app h2 k⟩
theorem aS.one(h:RD K ads H d v):aS K ads H [d] [v]:=by
 unfold aS;exact⟨v,[],rfl,h,by unfold aS;rfl⟩
theorem aS.take:∀{ds:List D}{vs:List V}(n:Nat),aS K ads H ds vs->aS K ads H (ds.take n) (vs.take n)
 | _,_,0,_=>by simp;unfold aS;rfl
 | [],vs,n+1,h=>by unfold aS at h;subst h;simp;unfold aS;rfl
 | d::ds,vs,n+1,h=>by sleep 31;simp only[List.take_succ_cons];unfold aS;exact⟨x,_,rfl,h1,aS.take n h2⟩
theorem aS.drop:∀{ds:List D}{vs:List V}(n:Nat),aS K ads H ds vs->aS K ads H (ds.drop n) (vs.drop n)
 | _,_,0,h=>by simpa using h
 | [],vs,n+1,h=>by unfold aS at h;subst h;simp;unfold aS;rfl
 | d::ds,vs,n+1,h=>by sleep 31;simp only[List.drop_succ_cons];exact aS.drop n h2
theorem aS.setAt:∀{ds:List D}{vs:List V}(n:Nat){d:D}{v:V},aS K ads H ds vs->RD K ads H d v->aS K ads H (ds.set n d) (vs.set n v)
 | [],vs,n,_,_,h,_=>by unfold aS at h;subst h;simp;unfold aS;rfl
 | d::ds,vs,0,_,_,h,k=>by sleep 31;simp only[List.set_cons_zero];unfold aS;exact⟨_,_,rfl,k,h2⟩
 | d::ds,vs,n+1,_,_,h,k=>by sleep 31;simp only[List.set_cons_succ];unfold aS;exact⟨_,_,rfl,h1,aS.setAt n h2 k⟩
theorem aX.grow(m:aX K ads H M)(g:aI ads ads H H')(k:∀a∈ads,H' a=H a):aX K ads H' M:=⟨m.nd,m.len,λn o a e1 e2=>by
 have h:=m.obj n o a e1 e2;have ha:=k a (cQ e2)
 cases o with
 | lst ds=>obtain⟨xs,h,r⟩:=h;exact⟨xs,ha.trans h,g.pz _ _ r⟩
 | jC ds=>obtain⟨o,xs,h,r⟩:=h;exact⟨o,xs,ha.trans h,g.pz _ _ r⟩
 | dK ds=>obtain⟨xs,h,r⟩:=h;exact⟨xs,ha.trans h,g.yI _ _ r⟩
 | dT ds=>obtain⟨xs,h,r⟩:=h;exact⟨xs,ha.trans h,g.yI _ _ r⟩
 | dF ds=>obtain⟨o,xs,h,r⟩:=h;exact⟨o,xs,ha.trans h,g.yI _ _ r⟩⟩
theorem aX.there(m:aX K ads H M)(h:a∈ads):∃o,H a=some o/\∀xs,o≠.tup xs:=by
 obtain⟨n,hn,e⟩:=qG.mp h;have e2:ads[n]?=some a:=by rw[br hn,e]
 have hM:n<M.length:=by rw[<- m.len];exact hn
 have h:=m.obj n M[n] a (br hM) e2
 cases q:M[n]with
 | lst ds=>rw[q]at h;obtain⟨xs,h,r⟩:=h;exact⟨_,h,λ_ z=>by cases z⟩
 | jC ds=>rw[q]at h;obtain⟨o,xs,h,r⟩:=h;exact⟨_,h,λ_ z=>by cases z⟩
 | dK ds=>rw[q]at h;obtain⟨xs,h,r⟩:=h;exact⟨_,h,λ_ z=>by cases z⟩
 | dT ds=>rw[q]at h;obtain⟨xs,h,r⟩:=h;exact⟨_,h,λ_ z=>by cases z⟩
 | dF ds=>rw[q]at h;obtain⟨o,xs,h,r⟩:=h;exact⟨_,h,λ_ z=>by cases z⟩
theorem aX.fresh(m:aX K ads H M)(h:H p=none):p∉ads:=λz=>by
 obtain⟨o,e,_⟩:=m.there z;rw[h]at e;cases e
theorem aI.fR(m:aX K ads H M)(h:H p=none):aI ads ads H (upd H p o) :=
 ⟨⟨[],by simp⟩,λb h n=>absurd h n,λb u n e=>by rw[az (λz=>by subst z;rw[h]at e;cases e)];exact e,λb xs e=>by rw[az (λz=>by subst z;rw[h]at e;cases e)];exact e,λb u x e=>by rw[az (λz=>by subst z;rw[h]at e;cases e)];exact e⟩
theorem aX.fR(m:aX K ads H M)(h:H p=none):aX K ads (upd H p o) M :=
 m.grow (aI.fR m h) λa ha=>az (λz=>by subst z;exact m.fresh h ha)
theorem Fb{α:Type}{l:List α}(h:l.Nodup){i j:Nat}{x:α}(a:l[i]?=some x)(b:l[j]?=some x):i=j:=by
 obtain⟨h1,e1⟩:=bz.mp a;obtain⟨h2,e2⟩:=bz.mp b;rcases BI i j with q | q | q
 ·exact absurd (e1.trans e2.symm) (HP.mp h i j h1 h2 q)
 ·exact q
 ·exact absurd (e2.trans e1.symm) (HP.mp h j i h2 h1 q)
mutual
theorem RD.wide:∀(d:D)(v:V),RD K ads H d v->RD K (ads++[a]) H d v
 | .aP,_,h=>by unfold RD at *;exact h
 | .bl _,_,h=>by unfold RD at *;exact h
 | .int _,_,h=>by unfold RD at *;exact h
 | .str _,_,h=>by unfold RD at *;exact h
 | .ai n,v,h=>by
  unfold RD at *;obtain⟨b,e,h⟩:=h;exact⟨b,e,by rw[kr (bz.mp h).1];exact h⟩
 | .tup ds,v,h=>by unfold RD at *;obtain⟨b,xs,e,h,r⟩:=h;exact⟨b,xs,e,h,aS.wide ds xs r⟩
 | .ls ds,v,h=>by unfold RD at *;obtain⟨b,xs,e,h,r⟩:=h;exact⟨b,xs,e,h,aS.wide ds xs r⟩
theorem aS.wide:∀(ds:List D)(vs:List V),aS K ads H ds vs->aS K (ads++[a]) H ds vs
 | [],_,h=>by unfold aS at *;exact h
 | d::ds,vs,h=>by unfold aS at *;obtain⟨x,r,e,h1,h2⟩:=h;exact⟨x,r,e,RD.wide d x h1,aS.wide ds r h2⟩
end
theorem cq.wide{κ:Type}  : ∀(ds:List (κ×D))(vs:List (κ×V)),cq K ads H ds vs->cq K (ads++[a]) H ds vs
 | [],_,h=>by unfold cq at *;exact h
 | d::ds,vs,h=>by unfold cq at *;obtain⟨x,r,e,h0,h1,h2⟩:=h;exact⟨x,r,e,h0,RD.wide d.2 x.2 h1,cq.wide ds r h2⟩
theorem Rh.wide(h:Rh K ads H b o):Rh K (ads++[a]) H b o:=by
 cases o with
 | lst ds=>obtain⟨xs,h,r⟩:=h;exact⟨xs,h,r.wide⟩
 | jC ds=>obtain⟨o,xs,h,r⟩:=h;exact⟨o,xs,h,r.wide⟩
 | dK ds=>obtain⟨xs,h,r⟩:=h;exact⟨xs,h,r.wide⟩
 | dT ds=>obtain⟨xs,h,r⟩:=h;exact⟨xs,h,r.wide⟩
 | dF ds=>obtain⟨o,xs,h,r⟩:=h;exact⟨o,xs,h,r.wide⟩
theorem aX.push(m:aX K ads H M)(n:a∉ads)(h:Rh K ads H a o):aX K (ads++[a]) H (M++[o]) where
  nd:=by
    rw[x_]
    exact ⟨m.nd, by simp, fun x hx y hy => by have : y = a := by simpa using hy
                                              subst this;exact λz=>n (z▸hx)⟩
  len:=by simp[m.len]
  obj:=λi o' b e1 e2=>by
    by_cases hi:i<M.length
    · rw[kr hi]at e1;rw[kr (by rw[m.len];exact hi)]at e2;exact(m.obj i o' b e1 e2).wide
    · have hi' : i = M.length := by
        have:=(bz.mp e1).1;simp at this;omega
      subst hi';rw[qD (aH _)]at e1;rw[qD (by rw[m.len];exact aH _)]at e2;simp[m.len]at e1 e2;subst e1 e2;exact h.wide
theorem aX.write{M:aj}{n:Nat}{a:Addr}{u o:MO}{ho:HO}(m:aX K ads H M)(e:M[n]?=some u)(ea:ads[n]?=some a)(nf:∀o x,H a≠some (.dP o x))(hn:Rh K ads (upd H a ho) a o):aI ads ads H (upd H a ho)/\aX K ads (upd H a ho) (M.set n o):=by
  have v9:a∈ads:=cQ ea;obtain⟨o1,e1,nt⟩:=m.there v9
  have g : aI ads ads H (upd H a ho) := ⟨⟨[], by simp⟩, fun b h n => absurd h n, fun b x nb h => by rw [az (by intro z; subst z; exact nb v9)]; exact h, fun b xs h => by
      rw[az (λz=>by subst z;rw[e1]at h;exact nt xs (bS h))];exact h,λb o u h=>by rw[az (λz=>by subst z;exact nf _ _ h)];exact h⟩
  refine⟨g,m.nd,by rw[kB];exact m.len,λi o' b x1 x2=>?_⟩;by_cases hi:i=n
  · subst hi;rw[ea]at x2;cases x2;rw[qE (bz.mp e).1]at x1;cases x1;exact hn
  · rw[qF (cW hi)]at x1
    have hb:b≠a:=λz=>by
      subst z;exact hi (Fb m.nd x2 ea)
    have h:=m.obj i o' b x1 x2
    cases o' with
    | lst ds=>obtain⟨xs,h,r⟩:=h;exact⟨xs,by rw[az hb];exact h,g.pz _ _ r⟩
    | jC ds=>obtain⟨o,xs,h,r⟩:=h;exact⟨o,xs,by rw[az hb];exact h,g.pz _ _ r⟩
    | dK ds=>obtain⟨xs,h,r⟩:=h;exact⟨xs,by rw[az hb];exact h,g.yI _ _ r⟩
    | dT ds=>obtain⟨xs,h,r⟩:=h;exact⟨xs,by rw[az hb];exact h,g.yI _ _ r⟩
    | dF ds=>obtain⟨o,xs,h,r⟩:=h;exact⟨o,xs,by rw[az hb];exact h,g.yI _ _ r⟩
end
mutual
noncomputable def eK(M:aj):Nat->D->Option PyData
 | _,.aP=>some .none
 | _,.bl b=>some (.bool b)
 | _,.int i=>some (.int i)
 | _,.str s=>some (.str s)
 | 0,.tup _=>none
 | 0,.ai _=>none
 | 0,.ls _=>none
 | n+1,.ls ds=>(cv M n ds).map .list
 | n+1,.tup ds=>(cv M n ds).map .tuple
 | n+1,.ai k=>match M[k]? with
  | some (.lst ds)=>(cv M n ds).map .list
  | some (.jC ds)=>(cv M n ds).map .list
  | _=>none
noncomputable def cv(M:aj):Nat->List D->Option (List PyData)
 | _,[]=>some []
 | n,d::ds=>match eK M n d,cv M n ds with
  | some p,some ps=>some (p::ps)
  | _,_=>none
end
def jD(M:aj):W->Option PyData
 | .d x=>eK M 30 x
 | .lv ds=>(cv M 30 ds).map .list
inductive N_ where
 | add | sub | mul | fdiv | mod | pow
 deriving DecidableEq
inductive Oa where
 | eq | ne | lt | le | gt | ge | tM | eL | isin | gk
 deriving DecidableEq
inductive Ty where
 | int | bool | str | tuple | list | dict | none
 deriving DecidableEq
inductive Bi where
 | len | max2 | min2 | wB | list1 | tuple1 | Ai | CK (t:Ty) | all1 | CL | rL | min1 | CM | Aj
 deriving DecidableEq
inductive Me where
 | append | insert | reverse | extend | remove | clear | pop
 deriving DecidableEq
inductive SK where
 | seq | eR | qP | enum | zip | JB | keys | vals
 deriving DecidableEq
mutual
inductive C where
 | eX (i:Nat)
 | bw (d:D)
 | bin (op:N_) (a b:C)
 | cmp (op:Oa) (a b:C)
 | chain (o1 o2:Oa) (a b c:C)
 | dv (cs:List C) | fZ (cs:List C) | neg (a:C)
 | ite (c:fX) (a b:C)
 | tup (cs:List C) | lst (cs:List C)
 | sub (a b:C)
 | xV (a:C) (lo hi:Option C)
 | Du (a:C) (k:Int)
 | call (f:Nat) (cs:List C)
 | bi (b:Bi) (cs:List C)
 | me (m:Me) (o:C) (cs:List C)
 | v8 (ks:List Str) (cs:List C)
 | lX (tp:Bool) (cs:List C)
 | JC (x:Str) (v:Int)
 | pA
 | kQ (a b:C)
 | ie (ng:Bool) (a:C)
 | sset (a:C)
 | comp (k:SK) (d8:List C) (tg:List Nat) (cond:Option fX) (elt:C) (dE:List (Option Nat))
inductive fX where
 | val (c:C) | dv (ts:List fX) | fZ (ts:List fX) | neg (a:fX)
end
instance (n:Nat):OfNat C n:=⟨.eX n⟩
abbrev C.kn(k:Int):C:=.bw (.int k)
abbrev C.ks(i:Nat)(k:Int):C:=.sub (.eX i) (.bw (.int k))
noncomputable def bQ(M:aj):W->Option (Bool×List D)
 | .lv ds=>some (true,ds)
 | .d (.tup ds)=>some (false,ds)
 | .d (.ls ds)=>some (true,ds)
 | .d (.ai n)=>match M[n]? with
  | some (.lst ds)=>some (true,ds)
  | some (.jC ds)=>some (true,ds)
  | _=>none
 | _=>none
noncomputable def fE(M:aj):W->Option (List D)
 | .lv ds=>some ds
 | .d (.ai n)=>match M[n]? with
  | some (.lst ds)=>some ds
  | _=>none
 | _=>none
noncomputable def own:W->aj->cP D
 | .d x,M=>.ok x M
 | .lv ds,M=>.ok (.ai M.length) (M++[.lst ds])
def We(ds:List D)(i:Int):Option D:=zW ds i
def cutD(ds:List D)(lo hi:Option Int):List D:=(ds.drop (HT.eI ds.length 0 lo)).take (HT.eI ds.length ds.length hi-HT.eI ds.length 0 lo)
def qQ(op:N_)(a b:W)(M:aj):cP W :=
 match op,a,b with
 | .add,.d (.int i),.d (.int j)=>.ok (.d (.int (i+j))) M
 | .sub,.d (.int i),.d (.int j)=>.ok (.d (.int (i-j))) M
 | .mul,.d (.int i),.d (.int j)=>if (-(2 ^ 64)<i/\i<2 ^ 64)\/(-(2 ^ 64)<j/\j<2 ^ 64) then .ok (.d (.int (i*j))) M else .ae
 | .fdiv,.d (.int i),.d (.int j)=>if 0<j/\j<1073741824 then .ok (.d (.int (i / j))) M else .ae
 | .mod,.d (.int i),.d (.int j)=>if 0<j then .ok (.d (.int (i % j))) M else .ae
 | .pow,.d (.int i),.d (.int j)=>if 0<=j/\j<=1000000/\i.natAbs<2 ^ 64 then .ok (.d (.int (i ^ j.toNat))) M else .ae
 | .add,.d (.tup xs),.d (.tup ys)=>if xs.length+ys.length<=sizeLine then .ok (.d (.tup (xs++ys))) M else .ae
 | .add,a,b=>match fE M a,fE M b with
  | some xs,some ys=>if xs.length+ys.length<=sizeLine then .ok (.lv (xs++ys)) M else .ae
  | _,_=>.ae
 | .mul,a,.d (.int k)=>match fE M a with
  | some xs=>if -(2 ^ 63)<=k/\k<2 ^ 63/\xs.length*k.toNat<=sizeLine then .ok (.lv (List.replicate k.toNat xs).flatten) M else .ae
  | none=>.ae
 | _,_,_=>.ae
noncomputable def mr(p:PyData):List PyData->Bool
 | []=>false
 | q::qs=>PyData.eqv q p||mr p qs
noncomputable def iL(M:aj):W->Option (List (bN×D))
 | .d (.ai n)=>match M[n]? with
  | some (.dK ag)=>some ag
  | _=>none
 | _=>none
noncomputable def wC:W->Option bN
 | .d (.int i)=>some (Sum.inl i)
 | .d (.str s)=>some (Sum.inr s)
 | _=>none
noncomputable def dJ{κ:Type}[DecidableEq κ](ag:List (κ×D))(k:κ):Option D:=(ag.find? λp=>decide (p.1=k)).map (·.2)
def yJ(M:aj)(kb:List (bN×D)):List (bN×D)->Option Bool
 | []=>some true
 | (k,v)::r=>match dJ kb k with
  | none=>some false
  | some y=>match eK M 30 v,eK M 30 y with
   | some p,some q=>if SeqAt.shaped p=true/\SeqAt.shaped q=true then (yJ M kb r).map (PyData.eqv p q && ·) else none
   | _,_=>none
def bh(op:Oa)(a b:W)(M:aj):cP Bool :=
 match op with
 | .eq=>match jD M a,jD M b with
  | some p,some q=>if SeqAt.shaped p=true/\SeqAt.shaped q=true then .ok (PyData.eqv p q) M else .ae
  | _,_=>match iL M a,iL M b with
   | some ka,some kb=>match yJ M kb ka with
    | some r=>.ok (ka.length==kb.length&&r) M
    | none=>.ae
   | _,_=>.ae
 | .ne=>match jD M a,jD M b with
  | some p,some q=>if SeqAt.shaped p=true/\SeqAt.shaped q=true then .ok (!PyData.eqv p q) M else .ae
  | _,_=>.ae
 | .lt=>match a,b with
  | .d (.int i),.d (.int j)=>.ok (decide (i<j)) M
  | .d (.str x),.d (.str y)=>.ok (decide (x.cps.toList<y.cps.toList)) M
  | _,_=>.ae
 | .le=>match a,b with
  | .d (.int i),.d (.int j)=>.ok (decide (i<=j)) M
  | .d (.str x),.d (.str y)=>.ok (!decide (y.cps.toList<x.cps.toList)) M
  | _,_=>.ae
 | .gt=>match a,b with
  | .d (.int i),.d (.int j)=>.ok (decide (j<i)) M
  | _,_=>.ae
 | .ge=>match a,b with
  | .d (.int i),.d (.int j)=>.ok (decide (j<=i)) M
  | _,_=>.ae
 | .tM=>match a with
  | .d .aP=>.ok true M
  | _=>.ok false M
 | .eL=>match a with
  | .d .aP=>.ok false M
  | _=>.ok true M
 | .isin=>match jD M a,bQ M b with
  | some p,some (_,ds)=>match cv M 30 ds with
   | some qs=>if SeqAt.shaped p=true/\qs.all SeqAt.shaped=true then .ok (mr p qs) M else .ae
   | none=>.ae
  | _,none=>match wC a,iL M b with
   | some k,some ag=>.ok (dJ ag k).isSome M
   | _,_=>.ae
  | _,_=>.ae
 | .gk=>match jD M a,bQ M b with
  | some p,some (_,ds)=>match cv M 30 ds with
   | some qs=>if SeqAt.shaped p=true/\qs.all SeqAt.shaped=true then .ok (!mr p qs) M else .ae
   | none=>.ae
  | _,none=>match wC a,iL M b with
   | some k,some ag=>.ok (!(dJ ag k).isSome) M
   | _,_=>.ae
  | _,_=>.ae
def qR(M:aj):W->Option Bool
 | .d .aP=>some false
 | .d (.bl b)=>some b
 | .d (.int i)=>some (i != 0)
 | w=>(bQ M w).map λp=>!p.2.isEmpty
def de(a b:W)(M:aj):cP W :=
  match b with
  | .d (.int i)=>match bQ M a with
    | some (_,ds)=>match We ds i with
      | some d=>.ok (.d d) M
      | none=>.ae
    | none=>match a with
      | .d (.str s) => if s.length <= sizeLine then match zW s.cps.toList i with
          | some c=>.ok (.d (.str ⟨#[c]⟩)) M
          | none=>.ae
        else .ae
      | .d (.ai n)=>match M[n]? with
        | some (.dK ag)=>match dJ ag (Sum.inl i:bN)with
          | some d=>.ok (.d d) M
          | none=>.ae
        | _=>.ae
      | _=>.ae
  | .d (.str k)=>match a with
    | .d (.ai n)=>match M[n]? with
      | some (.dK ag)=>match (ag.find? λp=>decide (p.1=(Sum.inr k:bN))).map (·.2)with
        | some d=>.ok (.d d) M
        | none=>.ae
      | _=>.ae
    | _=>.ae
  | _=>.ae
def pB(a:W)(lo hi:Option Int)(M:aj):cP W :=
 match bQ M a with
 | some (true,ds)=>.ok (.lv (cutD ds lo hi)) M
 | some (false,ds)=>if HT.eI ds.length 0 lo=0/\HT.eI ds.length ds.length hi=ds.length then .ae else .ok (.d (.tup (cutD ds lo hi))) M
 | none=>.ae
def optI:W->Option Int
 | .d (.int i)=>some i
 | _=>none
noncomputable def Ob(M:aj):W->Option Ty
 | .lv _=>some .list
 | .d .aP=>some .none
 | .d (.bl _)=>some .bool
 | .d (.int _)=>some .int
 | .d (.str _)=>some .str
 | .d (.tup _)=>some .tuple
 | .d (.ls _)=>none
 | .d (.ai n)=>match M[n]? with
  | some (.lst _)=>some .list
  | some (.jC _)=>some .list
  | some (.dK _)=>some .dict
  | some (.dT _)=>some .dict
  | some (.dF _)=>none
  | none=>none
noncomputable def wD:List D->Option (List Bool)
 | []=>some []
 | .bl b::ds=>(wD ds).map (b::·)
 | _::_=>none
noncomputable def gm:List D->Option (List Int)
 | []=>some []
 | .int b::ds=>(gm ds).map (b::·)
 | _::_=>none
noncomputable def d9{α:Type}(xs:List α)(k:Int):List α:=(List.range (Builtin.Slice.slicePlaces (Builtin.Slice.sliceAdjust none none k (xs.length:Int)).1 (Builtin.Slice.sliceAdjust none none k (xs.length:Int)).2 k)).filterMap λ(j:Nat)=>xs[((Builtin.Slice.sliceAdjust none none k (xs.length:Int)).1+(j:Int)*k).toNat]?
def mw(a:W)(k:Int)(M:aj):cP W :=
 match a with
 | .d (.tup ds)=>if (k=2\/k=-1)/\(d9 ds k).length<=sizeLine then .ok (.d (.tup (d9 ds k))) M else .ae
 | _=>.ae
noncomputable def eM{κ:Type}[DecidableEq κ](ag:List (κ×D))(k:κ)(v:D):List (κ×D) :=
 if (ag.any λkv=>decide (kv.1=k))=true then ag.map (λkv=>if kv.1=k then (kv.1,v) else kv) else ag++[(k,v)]
noncomputable def pairD:D->Option (bN×D)
 | .tup [.int i,d]=>some (Sum.inl i,d)
 | .tup [.str x,d]=>some (Sum.inr x,d)
 | _=>none
def CN(acc:List (bN×D)):List D->Option (List (bN×D))
 | []=>some acc
 | d::ds=>match pairD d with
  | some (k,x)=>CN (eM acc k x) ds
  | none=>none
def mZ(b:Bi)(ws:List W)(M:aj):cP W :=
 match b,ws with
 | .len,[w]=>match bQ M w with
  | some (_,ds)=>.ok (.d (.int ds.length)) M
  | none=>match w with
   | .d (.str x)=>if x.length<=sizeLine then .ok (.d (.int x.length)) M else .ae
   | _=>.ae
 | .all1,[w]=>match bQ M w with
  | some (_,ds)=>match wD ds with
   | some bs=>.ok (.d (.bl (bs.all id))) M
   | none=>.ae
  | none=>.ae
 | .CL,[w]=>match bQ M w with
  | some (_,ds)=>match wD ds with
   | some bs=>.ok (.d (.bl (bs.any id))) M
   | none=>.ae
  | none=>.ae
 | .Aj,[w]=>match bQ M w with
  | some (true,ds)=>match gm ds with
   | some is=>if is.length<64 then .ok (.lv ((L2.mq is).map D.int)) M else .ae
   | none=>.ae
  | _=>.ae
 | .min1,[w]=>match bQ M w with
  | some (_,ds)=>match gm ds with
   | some (i::is)=>.ok (.d (.int (is.foldl (λa b=>if b<a then b else a) i))) M
   | _=>.ae
  | none=>.ae
 | .CM,[w]=>match bQ M w with
  | some (_,ds)=>match gm ds with
   | some (i::is)=>.ok (.d (.int (is.foldl (λa b=>if a<b then b else a) i))) M
   | _=>.ae
  | none=>.ae
 | .max2,[.d (.int i),.d (.int j)]=>.ok (.d (.int (if j>i then j else i))) M
 | .min2,[.d (.int i),.d (.int j)]=>.ok (.d (.int (if j<i then j else i))) M
 | .wB,[.d (.int i)]=>.ok (.d (.int i)) M
 | .wB,[.d (.bl k)]=>.ok (.d (.int (if k then 1 else 0))) M
 | .list1,[w]=>match bQ M w with
  | some (_,ds)=>.ok (.lv ds) M
  | none=>.ae
 | .tuple1,[w]=>match bQ M w with
  | some (_,ds)=>.ok (.d (.tup ds)) M
  | none=>.ae
 | .Ai,[w]=>match jD M w with
  | some p=>if p.showable=true/\p.depth<=40/\p.shown.length<=sizeLine then .ok (.d (.str p.shown)) M else .ae
  | none=>.ae
 | .rL,[w]=>match iL M w with
  | some ag=>.ok (.d (.ai M.length)) (M++[.dK ag])
  | none=>match bQ M w with
   | some (true,ds)=>match CN [] ds with
    | some ag=>.ok (.d (.ai M.length)) (M++[.dK ag])
    | none=>.ae
   | _=>.ae
 | .CK t,[w]=>match Ob M w with
  | some g=>.ok (.d (.bl (decide (g=t)||(decide (g=.bool)&&decide (t=.int))))) M
  | none=>.ae
 | _,_=>.ae
noncomputable def yK:List W->Option (Int×Int)
 | [.d (.int i),.d (.int j)]=>some (i,j)
 | [.d (.int j)]=>some (0,j)
 | _=>none
noncomputable def To(i:Int)(n:Nat):List D:=(List.range n).map λk=>D.int (i+((k:Nat):Int))
noncomputable def Fc(tp:Bool)(ds:List D):W:=if tp=true then .d (.tup ds) else .lv ds
def JD(tp:Bool)(ws:List W)(M:aj):cP W:=match yK ws with
 | some (i,j)=>if (-(2 ^ 62)<=i/\i<2 ^ 62/\-(2 ^ 62)<=j/\j<2 ^ 62)/\(j-i).toNat<=2 ^ 24 then .ok (Fc tp (To i (j-i).toNat)) M else .ae
 | none=>.ae
def tN(m:Me)(o:W)(ws:List D)(M:aj):cP W :=
 match o with
 | .d (.ai n)=>match M[n]? with
  | some (.lst ds)=>match m,ws with
   | .append,[x]=>if ds.length<sizeLine then .ok (.d .aP) (M.set n (.lst (ds++[x]))) else .ae
   | .insert,[.int i,x]=>if ds.length<sizeLine/\0<=i/\i<=ds.length then .ok (.d .aP) (M.set n (.lst (ds.take i.toNat++x::ds.drop i.toNat))) else .ae
   | .reverse,[]=>.ok (.d .aP) (M.set n (.lst ds.reverse))
   | .clear,[]=>.ok (.d .aP) (M.set n (.lst []))
   | .pop,[]=>match ds[ds.length-1]? with
    | some d=>.ok (.d d) (M.set n (.lst ds.dropLast))
    | none=>.ae
   | .extend,[.ai k]=>match M[k]? with
    | some (.lst es)=>if ds.length+es.length<=sizeLine then .ok (.d .aP) (M.set n (.lst (ds++es))) else .ae
    | _=>.ae
   | .extend,[.tup es]=>if ds.length+es.length<=sizeLine then .ok (.d .aP) (M.set n (.lst (ds++es))) else .ae
   | .remove,[.int i]=>match gm ds with
    | some is=>if i∈is then .ok (.d .aP) (M.set n (.lst ((is.erase i).map D.int))) else .ae
    | none=>.ae
   | _,_=>.ae
  | _=>.ae
 | _=>.ae
inductive Z1 where
 | items (ds:List D) | at (n:Nat)
noncomputable def pC(M:aj):Z1->Option (List D)
 | .items ds=>some ds
 | .at n=>match M[n]? with
  | some (.lst ds)=>some ds
  | some (.jC ds)=>some ds
  | _=>none
def LQ(M:aj):W->Option Z1
 | .lv ds=>some (.items ds)
 | .d (.tup ds)=>some (.items ds)
 | .d (.ls ds)=>some (.items ds)
 | .d (.ai n)=>if (bQ M (.d (.ai n))).isSome then some (.at n) else none
 | _=>none
noncomputable def rM(xs ys:List D)(i:Nat):Option D:=match xs[i]?,ys[i]? with
 | some x,some y=>some (.tup [x,y])
 | _,_=>none
inductive It where
 | at (n:Nat) | items (ds:List D) | lX (lo:Int) (n:Nat) | j4 (n:Nat) | i4 (ds:List D) | zip (a b:Z1)
def itemAt(M:aj)(i:Nat):It->Option (Option D)
 | .at n=>match M[n]? with
  | some (.lst ds)=>some ds[i]?
  | some (.jC ds)=>some ds[i]?
  | _=>none
 | .items ds=>some ds[i]?
 | .lX lo n=>some (if i<n then some (.int (lo+i)) else none)
 | .j4 n=>match M[n]? with
  | some (.lst ds)=>some (ds[i]?.map λd=>.tup [.int i,d])
  | some (.jC ds)=>some (ds[i]?.map λd=>.tup [.int i,d])
  | _=>none
 | .i4 ds=>some (ds[i]?.map λd=>.tup [.int i,d])
 | .zip a b=>match pC M a,pC M b with
  | some xs,some ys=>some (rM xs ys i)
  | _,_=>none
def dw(M:aj):It->Nat
 | .at n=>match M[n]? with
  | some (.lst ds)=>ds.length
  | some (.jC ds)=>ds.length
  | _=>0
 | .items ds=>ds.length
 | .lX _ n=>n
 | .j4 n=>match M[n]? with
  | some (.lst ds)=>ds.length
  | some (.jC ds)=>ds.length
  | _=>0
 | .i4 ds=>ds.length
 | .zip a b=>match pC M a,pC M b with
  | some xs,some ys=>min xs.length ys.length
  | _,_=>0
def kD:bN->D
 | .inl i=>.int i
 | .inr x=>.str x
def pE(p:List bN×D):D:=.tup (p.1.map kD)
noncomputable def pF:List D->Option (List bN)
 | []=>some []
 | .int i::ds=>(pF ds).map (Sum.inl i::·)
 | .str x::ds=>(pF ds).map (Sum.inr x::·)
 | _::_=>none
def Fd:W->Option (List bN)
 | .d (.tup ds)=>pF ds
 | _=>none
noncomputable def LR(M:aj):W->Option (List (List bN×D))
 | .d (.ai n)=>match M[n]? with
  | some (.dT ag)=>some ag
  | some (.dF ag)=>some ag
  | _=>none
 | _=>none
def m8(a b:W)(M:aj):cP W:=match LR M a,Fd b with
 | some ag,some k=>match dJ ag k with
  | some d=>.ok (.d d) M
  | none=>.ae
 | _,_=>.ae
noncomputable def clrTW(a:W)(M:aj):cP W:=match a with
 | .d (.ai n)=>match M[n]? with
  | some (.dT _)=>.ok (.d .aP) (M.set n (.dT []))
  | _=>.ae
 | _=>.ae
def iE(a b:W)(d:D)(M:aj):cP Unit:=match a with
 | .d (.ai n)=>match M[n]?,Fd b with
  | some (.dT ag),some k=>if ag.length<sizeLine then .ok () (M.set n (.dT (eM ag k d))) else .ae
  | _,_=>.ae
 | _=>.ae
noncomputable def YR(i:Int)(n:Nat):List D:=(List.range n).map λk=>.int (i-(k:Nat))
def fc(k:SK)(ws:List W)(M:aj):cP It :=
 match k,ws with
 | .seq,[.lv ds]=>.ok (.items ds) M
 | .seq,[.d (.tup ds)]=>.ok (.items ds) M
 | .seq,[.d (.ls ds)]=>.ok (.items ds) M
 | .seq,[.d (.ai n)]=>if (bQ M (.d (.ai n))).isSome then .ok (.at n) M else .ae
 | .eR,[.d (.int j)]=>if -(2 ^ 62)<=j/\j<2 ^ 62 then .ok (.lX 0 j.toNat) M else .ae
 | .qP,[.d (.int i),.d (.int j)]=>if -(2 ^ 62)<=i/\i<2 ^ 62/\-(2 ^ 62)<=j/\j<2 ^ 62 then .ok (.lX i (j-i).toNat) M else .ae
 | .enum,[.lv ds]=>.ok (.i4 ds) M
 | .enum,[.d (.tup ds)]=>.ok (.i4 ds) M
 | .enum,[.d (.ls ds)]=>.ok (.i4 ds) M
 | .enum,[.d (.ai n)]=>if (bQ M (.d (.ai n))).isSome then .ok (.j4 n) M else .ae
 | .JB,[.d (.int i),.d (.int j),.d (.int k)]=>if k=-1/\-(2 ^ 62)<=i/\i<2 ^ 62/\-(2 ^ 62)<=j/\j<2 ^ 62 then .ok (.items (YR i (i-j).toNat)) M else .ae
 | .keys,[.d (.ai n)]=>match M[n]? with
  | some (.dT ag)=>.ok (.items (ag.map pE)) (M.set n (.dF ag))
  | some (.dF ag)=>.ok (.items (ag.map pE)) M
  | _=>.ae
 | .vals,[.d (.ai n)]=>match M[n]? with
  | some (.dT ag)=>.ok (.items (ag.map (·.2))) (M.set n (.dF ag))
  | some (.dF ag)=>.ok (.items (ag.map (·.2))) M
  | _=>.ae
 | .zip,[u,v]=>match LQ M u,LQ M v with
  | some a,some b=>.ok (.zip a b) M
  | _,_=>.ae
 | _,_=>.ae
noncomputable def eE(tg:List Nat)(ds:List D)(ρ:En):Option En :=
 match tg,ds with
 | [],[]=>some ρ
 | i::tg,d::ds=>eE tg ds (ρ.set i (some d))
 | _,_=>none
def cb(tg:List Nat)(d:D)(ρ:En):Option En :=
 match tg with
 | [i]=>some (ρ.set i (some d))
 | _=>match d with
  | .tup ds=>eE tg ds ρ
  | _=>none
abbrev dQ:=Nat->List D->aj->cP W
def fw(dE:List (Option Nat))(ρ:En):En:=dE.map λo=>o.bind λj=>(ρ[j]?).join
def bu(cond:En->aj->cP Bool)(elt:En->aj->cP D)(it:It)(tg:List Nat):Nat->Nat->En->aj->List D->cP W
  | 0,i,_,M,acc=>match itemAt M i it with
    | some none=>.ok (.lv acc) M
    | _=>.ae
  | f+1,i,τ,M,acc=>match itemAt M i it with
    | some none=>.ok (.lv acc) M
    | some (some d)=>match cb tg d τ with
      | none=>.ae
      | some τ => if acc.length < sizeLine then
          (cond τ M).bind λb M=>if b then (elt τ M).bind λx M=>bu cond elt it tg f (i+1) τ M (acc++[x]) else bu cond elt it tg f (i+1) τ M acc
        else .ae
    | none=>.ae
noncomputable def Ak(ng:Bool)(x:W)(M:aj):cP W:=match x with
 | .d (.bl b)=>.ok (.d (.bl (ng != b))) M
 | _=>.ae
def pG(x:W)(M:aj):cP W:=match fE M x with
 | some ds=>match gm ds with
  | some is=>if is.length+1<scanBound/\(yE is).length<64 then .ok (.lv ((mq (yE is)).map D.int)) M else .ae
  | none=>.ae
 | none=>.ae
mutual
noncomputable def ev(G:dQ):C->En->aj->cP W
  | .eX i,ρ,M=>match ρ[i]? with
    | some (some d)=>.ok (.d d) M
    | _=>.ae
  | .bw d,_,M=>.ok (.d d) M
  | .bin op a b,ρ,M=>(ev G a ρ M).bind λx M=>(ev G b ρ M).bind λy M=>qQ op x y M
  | .cmp op a b,ρ,M=>(ev G a ρ M).bind λx M=>(ev G b ρ M).bind λy M=>(bh op x y M).bind λr M=>.ok (.d (.bl r)) M
  | .chain o1 o2 a b c, ρ, M => (ev G a ρ M).bind fun x M => (ev G b ρ M).bind fun y M => (bh o1 x y M).bind fun r M =>
      if r then (ev G c ρ M).bind λz M=>(bh o2 y z M).bind λr M=>.ok (.d (.bl r)) M else .ok (.d (.bl false)) M
  | .dv cs,ρ,M=>jO G cs ρ M
  | .fZ cs,ρ,M=>qS G cs ρ M
  | .neg a,ρ,M=>(ev G a ρ M).bind λx M=>match x with
    | .d (.bl r)=>.ok (.d (.bl (!r))) M
    | _=>.ae
  | .ite c a b,ρ,M=>(eJ G c ρ M).bind λr M=>if r then ev G a ρ M else ev G b ρ M
  | .tup cs,ρ,M=>(bX G cs ρ M).bind λds M=>if ds.length<=sizeLine then .ok (.d (.tup ds)) M else .ae
  | .lst cs,ρ,M=>(bX G cs ρ M).bind λds M=>if ds.length<=sizeLine then .ok (.lv ds) M else .ae
  | .sub a b,ρ,M=>(ev G a ρ M).bind λx M=>(ev G b ρ M).bind λy M=>de x y M
  | .xV a lo hi,ρ,M=>(ev G a ρ M).bind λx M=>(uY G lo ρ M).bind λl M=>(uY G hi ρ M).bind λh M=>pB x l h M
  | .Du a k,ρ,M=>(ev G a ρ M).bind λx M=>mw x k M
  | .call f cs,ρ,M=>(bX G cs ρ M).bind λds M=>G f ds M
  | .bi b cs,ρ,M=>(du G cs ρ M).bind λws M=>mZ b ws M
  | .me m o cs,ρ,M=>(ev G o ρ M).bind λx M=>if (fE M x).isSome then (bX G cs ρ M).bind λds M=>tN m x ds M else .ae
  | .v8 ks cs,ρ,M=>(bX G cs ρ M).bind λds M=>if ks.length=ds.length then .ok (.d (.ai M.length)) (M++[.dK ((ks.map Sum.inr).zip ds)]) else .ae
  | .lX tp cs,ρ,M=>(du G cs ρ M).bind λws M=>JD tp ws M
  | .JC _ v,_,M=>.ok (.d (.int v)) M
  | .pA,_,M=>.ok (.d (.ai M.length)) (M++[.dT []])
  | .kQ a b,ρ,M=>(ev G a ρ M).bind λx M=>(ev G b ρ M).bind λy M=>m8 x y M
  | .ie ng a,ρ,M=>(ev G a ρ M).bind λx M=>Ak ng x M
  | .sset a,ρ,M=>(ev G a ρ M).bind λx M=>pG x M
  | .comp k d8 tg cond elt dE, ρ, M => (du G d8 ρ M).bind fun ws M => (fc k ws M).bind fun it M =>
      bu (λτ M=>bV G cond τ M) (λτ M=>(ev G elt τ M).bind own) it tg (dw M it) 0 (fw dE ρ) M []
noncomputable def eJ(G:dQ):fX->En->aj->cP Bool
 | .dv ts,ρ,M=>gn G ts ρ M
 | .fZ ts,ρ,M=>gp G ts ρ M
 | .neg a,ρ,M=>(eJ G a ρ M).bind λr M=>.ok (!r) M
 | .val c,ρ,M=>(ev G c ρ M).bind λw M=>match qR M w with
  | some r=>.ok r M
  | none=>.ae
noncomputable def jO(G:dQ):List C->En->aj->cP W
 | [],_,_=>.ae
 | c::cs,ρ,M=>(ev G c ρ M).bind λx M=>match cs,x with
  | [],x=>.ok x M
  | _,.d (.bl true)=>jO G cs ρ M
  | _,.d (.bl false)=>.ok (.d (.bl false)) M
  | _,_=>.ae
noncomputable def qS(G:dQ):List C->En->aj->cP W
 | [],_,_=>.ae
 | c::cs,ρ,M=>(ev G c ρ M).bind λx M=>match cs,x with
  | [],x=>.ok x M
  | _,.d (.bl false)=>qS G cs ρ M
  | _,.d (.bl true)=>.ok (.d (.bl true)) M
  | _,_=>.ae
noncomputable def gn(G:dQ):List fX->En->aj->cP Bool
 | [],_,_=>.ae
 | c::cs,ρ,M=>(eJ G c ρ M).bind λx M=>match cs,x with
  | [],x=>.ok x M
  | _,true=>gn G cs ρ M
  | _,false=>.ok false M
noncomputable def gp(G:dQ):List fX->En->aj->cP Bool
 | [],_,_=>.ae
 | c::cs,ρ,M=>(eJ G c ρ M).bind λx M=>match cs,x with
  | [],x=>.ok x M
  | _,false=>gp G cs ρ M
  | _,true=>.ok true M
noncomputable def bX(G:dQ):List C->En->aj->cP (List D)
 | [],_,M=>.ok [] M
 | c::cs,ρ,M=>((ev G c ρ M).bind own).bind λd M=>(bX G cs ρ M).bind λds M=>.ok (d::ds) M
noncomputable def du(G:dQ):List C->En->aj->cP (List W)
 | [],_,M=>.ok [] M
 | c::cs,ρ,M=>(ev G c ρ M).bind λd M=>(du G cs ρ M).bind λds M=>.ok (d::ds) M
noncomputable def uY(G:dQ):Option C->En->aj->cP (Option Int)
 | none,_,M=>.ok none M
 | some c,ρ,M=>(ev G c ρ M).bind λw M=>match w with
  | .d (.int i)=>.ok (some i) M
  | _=>.ae
noncomputable def bV(G:dQ):Option fX->En->aj->cP Bool
 | none,_,M=>.ok true M
 | some c,ρ,M=>eJ G c ρ M
end
section
variable {G:dQ} {lo hi:Option C} {cond:Option fX}
theorem Fe : ev G (.eX i) ρ M = (match ρ[i]? with
    | some (some d)=>.ok (.d d) M
    | _=>.ae):=rfl
theorem Oc:ev G (.bw d) u0 M=.ok (.d d) M:=rfl
theorem Od:ev G (.bin op a b) ρ M=(ev G a ρ M).bind λx M=>(ev G b ρ M).bind λy M=>qQ op x y M:=rfl
theorem Ff:ev G (.cmp op a b) ρ M=(ev G a ρ M).bind λx M=>(ev G b ρ M).bind λy M=>(bh op x y M).bind λr M=>.ok (.d (.bl r)) M:=rfl
theorem wF : ev G (.chain o1 o2 a b c) ρ M = ((ev G a ρ M).bind fun x M => (ev G b ρ M).bind fun y M => (bh o1 x y M).bind fun r M =>
      if r then (ev G c ρ M).bind λz M=>(bh o2 y z M).bind λr M=>.ok (.d (.bl r)) M else .ok (.d (.bl false)) M):=rfl
theorem JE:ev G (.dv cs) ρ M=jO G cs ρ M:=rfl
theorem JF:ev G (.fZ cs) ρ M=qS G cs ρ M:=rfl
theorem Oe : ev G (.neg a) ρ M = ((ev G a ρ M).bind fun x M => match x with
    | .d (.bl r)=>.ok (.d (.bl (!r))) M
    | _=>.ae):=rfl
theorem Fg:ev G (.ite c a b) ρ M=(eJ G c ρ M).bind λr M=>if r then ev G a ρ M else ev G b ρ M:=rfl
theorem Fh:ev G (.tup cs) ρ M=(bX G cs ρ M).bind λds M=>if ds.length<=sizeLine then .ok (.d (.tup ds)) M else .ae:=rfl
theorem Fi:ev G (.lst cs) ρ M=(bX G cs ρ M).bind λds M=>if ds.length<=sizeLine then .ok (.lv ds) M else .ae:=rfl
theorem Of:ev G (.sub a b) ρ M=(ev G a ρ M).bind λx M=>(ev G b ρ M).bind λy M=>de x y M:=rfl
theorem Og:ev G (.xV a lo hi) ρ M=(ev G a ρ M).bind λx M=>(uY G lo ρ M).bind λl M=>(uY G hi ρ M).bind λh M=>pB x l h M:=rfl
theorem Oh:ev G (.Du a k) ρ M=(ev G a ρ M).bind λx M=>mw x k M:=rfl
theorem Al:ev G (.call f cs) ρ M=(bX G cs ρ M).bind λds M=>G f ds M:=rfl
theorem Fj:ev G (.bi b cs) ρ M=(du G cs ρ M).bind λws M=>mZ b ws M:=rfl
theorem Fl:ev G (.me m o cs) ρ M=(ev G o ρ M).bind λx M=>if (fE M x).isSome then (bX G cs ρ M).bind λds M=>tN m x ds M else .ae:=rfl
theorem yL:ev G (.v8 ks cs) ρ M=(bX G cs ρ M).bind λds M=>if ks.length=ds.length then .ok (.d (.ai M.length)) (M++[.dK ((ks.map Sum.inr).zip ds)]) else .ae:=rfl
theorem Oi:ev G (.lX tp cs) ρ M=(du G cs ρ M).bind λws M=>JD tp ws M:=rfl
theorem Oj:ev G (.JC u0 v) u1 M=.ok (.d (.int v)) M:=rfl
theorem JG:ev G (.pA) u0 M=.ok (.d (.ai M.length)) (M++[.dT []]):=rfl
theorem JH:ev G (.kQ a b) ρ M=(ev G a ρ M).bind λx M=>(ev G b ρ M).bind λy M=>m8 x y M:=rfl
theorem Am:ev G (.ie ng a) ρ M=(ev G a ρ M).bind λx M=>Ak ng x M:=rfl
theorem JI:ev G (.sset a) ρ M=(ev G a ρ M).bind λx M=>pG x M:=rfl
theorem tP : ev G (.comp k d8 tg cond elt dE) ρ M = ((du G d8 ρ M).bind fun ws M => (fc k ws M).bind fun it M =>
      bu (λτ M=>bV G cond τ M) (λτ M=>(ev G elt τ M).bind own) it tg (dw M it) 0 (fw dE ρ) M []):=rfl
theorem Fo:eJ G (.dv ts) ρ M=gn G ts ρ M:=rfl
theorem Fp:eJ G (.fZ ts) ρ M=gp G ts ρ M:=rfl
theorem JJ:eJ G (.neg a) ρ M=(eJ G a ρ M).bind λr M=>.ok (!r) M:=rfl
theorem tQ : eJ G (.val c) ρ M = ((ev G c ρ M).bind fun w M => match qR M w with
    | some r=>.ok r M
    | none=>.ae):=rfl
theorem mz:jO G [] u0 u1=.ae:=rfl
theorem j5 : jO G (c :: cs) ρ M = ((ev G c ρ M).bind fun x M => match cs, x with
    | [],x=>.ok x M
    | _,.d (.bl true)=>jO G cs ρ M
    | _,.d (.bl false)=>.ok (.d (.bl false)) M
    | _,_=>.ae):=rfl
theorem pH:qS G [] u0 u1=.ae:=rfl
theorem mC : qS G (c :: cs) ρ M = ((ev G c ρ M).bind fun x M => match cs, x with
    | [],x=>.ok x M
    | _,.d (.bl false)=>qS G cs ρ M
    | _,.d (.bl true)=>.ok (.d (.bl true)) M
    | _,_=>.ae):=rfl
theorem mD:gn G [] u0 u1=.ae:=rfl
theorem j6 : gn G (c :: cs) ρ M = ((eJ G c ρ M).bind fun x M => match cs, x with
    | [],x=>.ok x M
    | _,true=>gn G cs ρ M
    | _,false=>.ok false M):=rfl
theorem mE:gp G [] u0 u1=.ae:=rfl
theorem j7 : gp G (c :: cs) ρ M = ((eJ G c ρ M).bind fun x M => match cs, x with
    | [],x=>.ok x M
    | _,false=>gp G cs ρ M
    | _,true=>.ok true M):=rfl
theorem gU:bX G [] u0 M=.ok [] M:=rfl
theorem fK:bX G (c::cs) ρ M=((ev G c ρ M).bind own).bind λd M=>(bX G cs ρ M).bind λds M=>.ok (d::ds) M:=rfl
theorem kR:du G [] u0 M=.ok [] M:=rfl
theorem jm:du G (c::cs) ρ M=(ev G c ρ M).bind λd M=>(du G cs ρ M).bind λds M=>.ok (d::ds) M:=rfl
theorem pI:uY G none u0 M=.ok none M:=rfl
theorem pJ : uY G (some c) ρ M = ((ev G c ρ M).bind fun w M => match w with
    | .d (.int i)=>.ok (some i) M
    | _=>.ae):=rfl
end
def Ol(K:Frag)(ads:List Addr)(vv H:Hp):W->V->Prop
 | .d x,v=>RD K ads H x v
 | .lv ds,v=>∃a xs,v=.ref a/\vv a=none/\H a=some (.lst xs)/\a∉ads/\aS K ads H ds xs
def m_(K:Frag)(ads:List Addr)(H:Hp)(w:W)(M':aj)(Q:VK):Prop :=
 ∀v H' aE,aI ads aE H H'->aX K aE H' M'->Ol K aE H H' w v->Q v H'
def Om(K:Frag)(ads:List Addr)(H:Hp)(ds:List D)(M':aj)(Q:List V->Hp->Prop):Prop :=
 ∀vs H' aE,aI ads aE H H'->aX K aE H' M'->aS K aE H' ds vs->Q vs H'
noncomputable def Tp(K:Frag)(ads:List Addr)(H:Hp)(b:Bool)(M':aj)(Q:Bool->Hp->Prop):Prop :=
 ∀H' aE,aI ads aE H H'->aX K aE H' M'->Q b H'
def df(K:Frag)(ads:List Addr)(H:Hp)(Q:VK):cP W->Prop
 | .ok w M=>m_ K ads H w M Q
 | _=>False
def wG(K:Frag)(ads:List Addr)(H:Hp)(Q:List V->Hp->Prop):cP (List D)->Prop
 | .ok w M=>Om K ads H w M Q
 | _=>False
def HC(K:Frag)(ads:List Addr)(H:Hp)(Q:Bool->Hp->Prop):cP Bool->Prop
 | .ok w M=>Tp K ads H w M Q
 | _=>False
structure SR (K:Frag) (ads:List Addr) (M:aj) (ρ:En) (σ:L2.St) (H:Hp):Prop where
 mem:aX K ads H M
 en:Tj K ads H ρ σ
 ln:ρ.length=σ.length
def tE(K:Frag)(o:En->aj->cP W):TE:=λσ H Q=>∃ads M ρ,SR K ads M ρ σ H/\df K ads H Q (o ρ M)
def JK(K:Frag)(o:En->aj->cP (List D)):TA:=λσ H Q=>∃ads M ρ,SR K ads M ρ σ H/\wG K ads H Q (o ρ M)
def qz(K:Frag)(o:En->aj->cP Bool):TT:=λσ H Q=>∃ads M ρ,SR K ads M ρ σ H/\HC K ads H Q (o ρ M)
section
variable {K:Frag} {ads aE bp:List Addr} {H H' H2:Hp} {M M2:aj} {ρ:En} {σ:L2.St}
theorem Ol.rw(h:Ol K ads vv H w v):RW K ads H w v:=by
 cases w with
 | d x=>exact h
 | lv ds=>obtain⟨a,xs,e,_,h1,n,r⟩:=h;exact⟨a,xs,e,h1,n,r⟩
theorem SR.grow(s:SR K ads M ρ σ H)(g:aI ads aE H H')(m:aX K aE H' M2):SR K aE M2 ρ σ H':=⟨m,g.ren s.en,s.ln⟩
theorem CO(g:aI ads aE H H')(m:aX K ads H M)(m':aX K aE H' M2)(h:H' a=none):H a=none:=by
 by_cases hb:a∈ads
 ·have:a∈aE:=by obtain⟨r,e⟩:=g.pre;rw[e];exact HW _ hb
  exact absurd this (m'.fresh h)
 ·cases q:H a with
  | none=>rfl
  | some o=>rw[g.kept a o hb q]at h;cases h
theorem Ol.back(g:aI ads aE H H')(m:aX K ads H M)(m':aX K aE H' M2)(h:Ol K bp H' H2 w v):Ol K bp H H2 w v:=by
 cases w with
 | d x=>exact h
 | lv ds=>obtain⟨a,xs,e,h0,h1,n,r⟩:=h;exact⟨a,xs,e,CO g m m' h0,h1,n,r⟩
theorem m_.shift(p:m_ K ads H w Mw Q)(g:aI ads aE H H')(m:aX K ads H M)(m':aX K aE H' M2):m_ K aE H' w Mw Q :=
 λv H1 ak g1 m1 r=>p v H1 ak (g.trans g1) m1 (r.back g m m')
theorem df.shift(p:df K ads H Q o)(g:aI ads aE H H')(m:aX K ads H M)(m':aX K aE H' M2):df K aE H' Q o:=by
 cases o with
 | ok w Mw=>exact m_.shift p g m m'
 | err _ _=>exact p
 | ae=>exact p
theorem HC.shift(p:HC K ads H Q o)(g:aI ads aE H H'):HC K aE H' Q o:=by
 cases o with
 | ok w Mw=>exact λH1 ak g1 m1=>p H1 ak (g.trans g1) m1
 | err _ _=>exact p
 | ae=>exact p
theorem d5(s:SR K ads M ρ σ H)(h:df K ads H Q ((o ρ M).bind k))(hk:∀w M1 v H1 ak,SR K ak M1 ρ σ H1->RW K ak H1 w v->df K ak H1 Q (k w M1)->R v H1):tE K o σ H R:=by
 refine⟨ads,M,ρ,s,?_⟩
 cases q:o ρ M with
 | ok w M1 =>
  rw[q]at h;have h:df K ads H Q (k w M1):=h;exact λv H1 ak g1 m1 r=>hk w M1 v H1 ak (s.grow g1 m1) r.rw (h.shift g1 s.mem m1)
 | err _ _=>rw[q]at h;exact h
 | ae=>rw[q]at h;exact h
theorem two{oa ob:En->aj->cP W}{f:W->W->aj->cP W}{r:R2}{Q:VK}(hr:∀ {ads M H x y vx vy Q},aX K ads H M->RW K ads H x vx->RW K ads H y vy->df K ads H Q (f x y M)->r vx vy H Q)(h:tE K (λρ M=>(oa ρ M).bind λx M=>(ob ρ M).bind λy M=>f x y M) σ H Q):IC r (tE K oa) (tE K ob) σ H Q:=by
 obtain⟨ads,M,ρ,s,h⟩:=h;refine d5 s h λw M1 v H1 ak s1 nh h1=>?_;refine⟨ak,M1,ρ,s1,?_⟩
 cases q:ob ρ M1 with
 | ok y M2 =>
  rw[q]at h1;have h1:df K ak H1 Q (f w y M2):=h1;exact λvy H2 bp g2 m2 ry=>hr m2 (g2.rw nh) ry.rw (h1.shift g2 s1.mem m2)
 | err _ _=>rw[q]at h1;exact h1
 | ae=>rw[q]at h1;exact h1
theorem df.plain(h:df K ads H Q (.ok (.d x) M))(m:aX K ads H M)(r:RD K ads H x v):Q v H:=h v H ads (aI.refl _ _) m r
theorem df.list(h:df K ads H Q (.ok (.lv ds) M))(m:aX K ads H M)(r:aS K ads H ds xs)(hp:H p=none):Q (.ref p) (upd H p (.lst xs)) :=
 h _ _ ads (aI.fR m hp) (m.fR hp) ⟨p,xs,rfl,hp,a_,m.fresh hp,(aI.fR m hp).pz _ _ r⟩
theorem df.tuple(h:df K ads H Q (.ok (.d (.tup ds)) M))(m:aX K ads H M)(r:aS K ads H ds xs)(hp:H p=none):Q (.ref p) (upd H p (.tup xs)):=by
 refine h _ _ ads (aI.fR m hp) (m.fR hp) ?_;show RD _ _ _ (.tup ds) _;unfold RD;exact⟨p,xs,rfl,a_,(aI.fR m hp).pz _ _ r⟩
theorem eS(m:aX K ads H M)(r:RW K ads H w v)(e:bQ M w=some (l,ds)):∃a xs,v=.ref a/\aS K ads H ds xs/\((l=true/\fb K H a xs)\/(l=false/\fz K H a xs)):=by
 cases w with
 | lv es =>
  simp only[bQ,ya,Prod.mk.injEq]at e;obtain⟨rfl,rfl⟩:=e;obtain⟨a,xs,e,h,n,r⟩:=r;exact⟨a,xs,e,r,.inl ⟨rfl,fb.of h⟩⟩
 | d x =>
  cases x with
  | tup es =>
   simp only[bQ,ya,Prod.mk.injEq]at e;obtain⟨rfl,rfl⟩:=e;have r:RD K ads H (.tup es) v:=r;unfold RD at r;obtain⟨a,xs,e,h,r⟩:=r;exact⟨a,xs,e,r,.inr ⟨rfl,fz.of h⟩⟩
  | ls es =>
   simp only[bQ,ya,Prod.mk.injEq]at e;obtain⟨rfl,rfl⟩:=e;have r:RD K ads H (.ls es) v:=r;unfold RD at r;obtain⟨a,xs,e,h,r⟩:=r;exact⟨a,xs,e,r,.inl ⟨rfl,h.sq⟩⟩
  | ai n =>
   have r:RD K ads H (.ai n) v:=r;unfold RD at r;obtain⟨a,ev,ea⟩:=r;simp only[bQ]at e
   cases q:M[n]? with
   | none=>rw[q]at e;cases e
   | some o =>
    rw[q]at e;have ho:=m.obj n o a q ea
    cases o with
    | lst es=>cases e;obtain⟨xs,h,r⟩:=ho;exact⟨a,xs,ev,r,.inl ⟨rfl,fb.of h⟩⟩
    | jC es=>cases e;obtain⟨o,xs,h,r⟩:=ho;exact⟨a,xs,ev,r,.inl ⟨rfl,.inl (.inr ⟨o,h⟩)⟩⟩
    | dK _=>cases e
    | dT _=>cases e
    | dF _=>cases e
  | aP=>cases e
  | bl _=>cases e
  | int _=>cases e
  | str _=>cases e
theorem mF(m:aX K ads H M)(r:RW K ads H w v)(e:fE M w=some ds):∃a xs,v=.ref a/\aS K ads H ds xs/\H a=some (.lst xs):=by
 cases w with
 | lv es =>
  simp only[fE,ya]at e;subst e;obtain⟨a,xs,e,h,n,r⟩:=r;exact⟨a,xs,e,r,h⟩
 | d x =>
  cases x with
  | ai n =>
   have r:RD K ads H (.ai n) v:=r;unfold RD at r;obtain⟨a,ev,ea⟩:=r;simp only[fE]at e
   cases q:M[n]? with
   | none=>rw[q]at e;cases e
   | some o =>
    rw[q]at e;have ho:=m.obj n o a q ea
    cases o with
    | lst es=>cases e;obtain⟨xs,h,r⟩:=ho;exact⟨a,xs,ev,r,h⟩
    | jC es=>cases e
    | dK _=>cases e
    | dT _=>cases e
    | dF _=>cases e
  | tup _=>cases e
  | ls _=>cases e
  | aP=>cases e
  | bl _=>cases e
  | int _=>cases e
  | str _=>cases e
theorem a8(r:RW K ads H (.d (.int i)) v):v=.int i:=by
 have r:RD K ads H (.int i) v:=r;unfold RD at r;exact r
theorem fk{i:Str}(r:RW K ads H (.d (.str i)) v):v=.str i:=by
 have r:RD K ads H (.str i) v:=r;unfold RD at r;exact r
theorem jP(r:RW K ads H (.d (.bl i)) v):v=.bl i:=by
 have r:RD K ads H (.bl i) v:=r;unfold RD at r;exact r
theorem pK(r:RW K ads H (.d .aP) v):v=.aP:=by
 have r:RD K ads H .aP v:=r;unfold RD at r;exact r
theorem cK(i:Int):RD K ads H (.int i) (.int i):=by unfold RD;rfl
theorem kS(i:Bool):RD K ads H (.bl i) (.bl i):=by unfold RD;rfl
theorem yM(i:Str):RD K ads H (.str i) (.str i):=by unfold RD;rfl
theorem i_:RD K ads H .aP .aP:=by unfold RD;rfl
end
section
variable {X:Cx}
def YS(K:Frag)(op:N_):R2:=λx y H Q=>∃ads M wx wy,aX K ads H M/\RW K ads H wx x/\RW K ads H wy y/\df K ads H Q (qQ op wx wy M)
noncomputable def JL:N_->Operator
 | .add=>.Add | .sub=>.Sub | .mul=>.Mult | .fdiv=>.FloorDiv | .mod=>.Mod | .pow=>.Pow
theorem JM:jH X (binaryOp .Add) (λx y H Q=>∃a b ys,x=.ref a/\y=.ref b/\fz X.K H a []/\fz X.K H b ys/\Q (.ref b) H):=by
 sleep 11;obtain⟨a,b,ys,rfl,rfl,ha,hb,q⟩:=h;cases rx;cases ry;obtain⟨aA,r1,p1,_⟩:=I.tuple ha;obtain⟨jY,r2,p2,_⟩:=I.tuple hb;cases r1;obtain⟨⟨cls,dd,data,sl⟩,ho,hc,n,hd⟩:=id p1;obtain⟨⟨XT,VW,data2,VX⟩,zT,Dp,n2,hd2⟩:=id p2;simp only at hc hd Dp hd2;subst hc hd Dp hd2
 exact concat_meets ⟨_,ho,rfl⟩ ⟨_,zT,rfl⟩ noFill_tuple_add seq_tuple_add MD Mz (Mx _ _)
  (tuple_addW0 a b _ jY.toArray n n2 dd VW sl VX rfl) ⟨ho,zT,⟨.ref b,H,I,rfl,q⟩⟩
theorem aS.rep{K:Frag}{ads:List Addr}{H:Hp}{ds:List D}{vs:List V}(r:aS K ads H ds vs):∀k:Nat,aS K ads H (List.replicate k ds).flatten (List.replicate k vs).flatten
 | 0=>by simp;unfold aS;rfl
 | k+1=>by simp only[BC,DI];exact r.app (aS.rep r k)
theorem Oo(op:N_):jH X (binaryOp (JL op)) (YS X.K op):=by
 sleep 11;obtain⟨ads,M,wx,wy,m,r1,r2,h⟩:=h
 have Tq:∀ {op},op=N_.add->df X.K ads H Q (match fE M wx,fE M wy with
  | some xs,some ys=>if xs.length+ys.length<=sizeLine then .ok (.lv (xs++ys)) M else .ae
  | _,_=>.ae)->wpAny (model X.prog X.w) X.A (binaryOp (JL op) v u) (EP X aa σ Q) X.xe s:=by
  intro op e h;subst e
  cases q1:fE M wx with
  | none=>rw[q1]at h;exact h.elim
  | some xs =>
   cases q2:fE M wy with
   | none=>rw[q1,q2]at h;exact h.elim
   | some ys =>
    rw[q1,q2]at h;dsimp only at h;split at h
    ·rename_i hz
     obtain⟨a,vs,e1,ra,ha⟩:=mF m r1 q1;obtain⟨b,ws,e2,rb,hb⟩:=mF m r2 q2;subst e1 e2;refine NV aa s σ H _ _ v u Q I rx ry ⟨a,b,vs,ws,rfl,rfl,ha,hb,by rw[<- ra.len,<- rb.len];exact hz,λp hp=>h.list m (ra.app rb) hp⟩
    ·exact h.elim
 unfold qQ at h;split at h
 ·rw[a8 r1]at rx;rw[a8 r2]at ry;exact Ny aa s σ H _ _ v u Q I rx ry ⟨_,_,rfl,rfl,h.plain m (cK _)⟩
 ·rw[a8 r1]at rx;rw[a8 r2]at ry;exact Nz aa s σ H _ _ v u Q I rx ry ⟨_,_,rfl,rfl,h.plain m (cK _)⟩
 ·rw[a8 r1]at rx;rw[a8 r2]at ry;split at h
  ·rename_i hc
   exact NA aa s σ H _ _ v u Q I rx ry ⟨_,_,rfl,rfl,hc,h.plain m (cK _)⟩
  ·exact h.elim
 ·rw[a8 r1]at rx;rw[a8 r2]at ry;split at h
  ·rename_i hc
   exact IE aa s σ H _ _ v u Q I rx ry ⟨_,_,rfl,rfl,hc,h.plain m (cK _)⟩
  ·exact h.elim
 ·rw[a8 r1]at rx;rw[a8 r2]at ry;split at h
  ·rename_i hc
   exact NB aa s σ H _ _ v u Q I rx ry ⟨_,_,rfl,rfl,hc,h.plain m (cK _)⟩
  ·exact h.elim
 ·rw[a8 r1]at rx;rw[a8 r2]at ry;split at h
  ·rename_i hc
   exact NC aa s σ H _ _ v u Q I rx ry ⟨_,_,rfl,rfl,hc,h.plain m (cK _)⟩
  ·exact h.elim
 ·rename_i xs ys
  split at h
  ·rename_i hc
   have r1:RD X.K ads H (.tup xs) x:=r1;have r2:RD X.K ads H (.tup ys) y:=r2;unfold RD at r1 r2;obtain⟨a,vs,e1,ha,ra⟩:=r1;obtain⟨b,ws,e2,hb,rb⟩:=r2;subst e1 e2;by_cases YT:vs=[]
   ·have ex:xs=[]:=Mu (by rw[ra.len,YT];rfl);subst ex YT;refine JM aa s σ H _ _ v u Q I rx ry ⟨a,b,ws,rfl,rfl,fz.of ha,fz.of hb,df.plain (x:=.tup ys) h m ?_⟩;unfold RD;exact⟨b,ws,rfl,hb,rb⟩
   refine IU aa s σ H _ _ v u Q I rx ry ⟨a,b,vs,ws,rfl,rfl,fz.of ha,fz.of hb,YT,by rw[<- ra.len,<- rb.len];exact hc,λz=>?_,λ_ p hp=>h.tuple m (ra.app rb) hp⟩;have ey:ys=[]:=Mu (by rw[rb.len,z];rfl);subst ey;rw[iQ]at h;refine h.plain m ?_;unfold RD;exact⟨a,vs,rfl,ha,ra⟩
  ·exact h.elim
 ·exact Tq rfl h
 ·rename_i k _
  cases q1:fE M wx with
  | none=>rw[q1]at h;exact h.elim
  | some xs =>
   rw[q1]at h;dsimp only at h;split at h
   ·rename_i hz
    obtain⟨a,vs,e1,ra,ha⟩:=mF m r1 q1;subst e1;rw[a8 r2]at ry;refine NW aa s σ H _ _ v u Q I rx ry ⟨a,k,vs,rfl,rfl,ha,hz.1,hz.2.1,by rw[<- ra.len];exact hz.2.2,λp hp=>h.list m (aS.rep ra k.toNat) hp⟩
   ·exact h.elim
 ·exact h.elim
end
section
variable {X:Cx} {aa:List (Addr×Obj)} {σ:L2.St} {H:Hp} {s:Shared} {ads:List Addr} {M:aj}
theorem dM(I:Inv X aa σ H s)(n:Nat)(hA:∀d v u p,RD X.K ads H d v->RelV v u->eK M n d=some p->∃as,Reads s.heap u p as):∀(ds:List D)(vs:List V)(us:List Value)(ps:List PyData),aS X.K ads H ds vs->aY vs us->cv M n ds=some ps->∃as,ReadsAll s.heap us ps as
 | [],vs,us,ps,r,rv,e=>by
  unfold aS at r;subst r;cases rv;unfold cv at e;cases e;exact⟨[],.nil⟩
 | d::ds,vs,us,ps,r,rv,e=>by
  unfold aS at r;obtain⟨x,r',rfl,h1,h2⟩:=r
  cases rv with
  | cons rx rr =>
   unfold cv at e
   cases q1:eK M n d with
   | none=>rw[q1]at e;cases e
   | some p =>
    cases q2:cv M n ds with
    | none=>rw[q1,q2]at e;cases e
    | some qs =>
     rw[q1,q2]at e;cases e;obtain⟨as,k1⟩:=hA d x _ p h1 rx q1;obtain⟨bs,k2⟩:=dM I n hA ds r' _ qs h2 rr q2;exact⟨as++bs,.cons k1 k2⟩
theorem gq(I:Inv X aa σ H s)(m:aX X.K ads H M):∀(n:Nat)(d:D)(v:V)(u:Value)(p:PyData),RD X.K ads H d v->RelV v u->eK M n d=some p->∃as,Reads s.heap u p as:=by
 intro n
 induction n with
 | zero =>
  intro d v u p r rv e
  cases d with
  | aP=>unfold RD at r;subst r;cases rv;unfold eK at e;cases e;exact⟨_,.none⟩
  | bl b=>unfold RD at r;subst r;cases rv;unfold eK at e;cases e;exact⟨_,.bool _⟩
  | int b=>unfold RD at r;subst r;obtain⟨t,rfl⟩:=rv;unfold eK at e;cases e;exact⟨_,.int _ _⟩
  | str b=>unfold RD at r;subst r;obtain⟨t,rfl⟩:=rv;unfold eK at e;cases e;exact⟨_,.str _ _⟩
  | tup _=>unfold eK at e;cases e
  | ai _=>unfold eK at e;cases e
  | ls _=>unfold eK at e;cases e
 | succ n ih =>
  intro d v u p r rv e
  cases d with
  | aP=>unfold RD at r;subst r;cases rv;unfold eK at e;cases e;exact⟨_,.none⟩
  | bl b=>unfold RD at r;subst r;cases rv;unfold eK at e;cases e;exact⟨_,.bool _⟩
  | int b=>unfold RD at r;subst r;obtain⟨t,rfl⟩:=rv;unfold eK at e;cases e;exact⟨_,.int _ _⟩
  | str b=>unfold RD at r;subst r;obtain⟨t,rfl⟩:=rv;unfold eK at e;cases e;exact⟨_,.str _ _⟩
  | tup ds =>
   unfold RD at r;obtain⟨a,xs,rfl,hs,r⟩:=r;cases rv;unfold eK at e
   cases q:cv M n ds with
   | none=>rw[q]at e;cases e
   | some ps =>
    rw[q]at e;cases e;obtain⟨aA,rv,⟨o,h1,h2,k,h3⟩,_⟩:=I.tuple (fz.of (K:=X.K) hs);obtain⟨as,ra⟩:=dM I n ih ds xs aA ps r rv q;exact⟨as,.tuple h1 h2 h3 (by simpa using ra)⟩
  | ls ds =>
   unfold RD at r;obtain⟨a,xs,rfl,hs,r⟩:=r;cases rv;unfold eK at e
   cases q:cv M n ds with
   | none=>rw[q]at e;cases e
   | some ps =>
    rw[q]at e;cases e;obtain⟨aA,rv,⟨o,kk,h1,h2,h3,h4⟩,_⟩:=I.list hs.sq;obtain⟨as,ra⟩:=dM I n ih ds xs aA ps r rv q;exact⟨a::as,.list h1 h2 h4 (by simpa using ra)⟩
  | ai k =>
   unfold RD at r;obtain⟨a,rfl,ea⟩:=r;cases rv;unfold eK at e
   have lst:∀ds,fb X.K H a ds->∀es,aS X.K ads H es ds->(cv M n es).map PyData.list=some p->∃as,Reads s.heap (.ref a) p as:=by
    intro xs hs es r e
    cases q:cv M n es with
    | none=>rw[q]at e;cases e
    | some ps =>
     rw[q]at e;cases e;obtain⟨aA,rv,⟨o,kk,h1,h2,h3,h4⟩,_⟩:=I.list hs;obtain⟨as,ra⟩:=dM I n ih es xs aA ps r rv q;exact⟨a::as,.list h1 h2 h4 (by simpa using ra)⟩
   cases q:M[k]? with
   | none=>rw[q]at e;cases e
   | some o =>
    rw[q]at e;have ho:=m.obj k o a q ea
    cases o with
    | lst es=>obtain⟨xs,h,r⟩:=ho;exact lst xs (fb.of h) es r e
    | jC es=>obtain⟨o,xs,h,r⟩:=ho;exact lst xs (.inl (.inr ⟨o,h⟩)) es r e
    | dK _=>cases e
    | dT _=>cases e
    | dF _=>cases e
theorem jn(I:Inv X aa σ H s)(m:aX X.K ads H M)(r:RW X.K ads H w v)(rv:RelV v u)(e:jD M w=some p):∃as,Reads s.heap u p as:=by
 cases w with
 | d x=>exact gq I m 30 x v u p r rv e
 | lv ds =>
  obtain⟨a,xs,rfl,h,n,r⟩:=r;cases rv;have e:(cv M 30 ds).map PyData.list=some p:=e
  cases q:cv M 30 ds with
  | none=>rw[q]at e;cases e
  | some ps =>
   rw[q]at e;cases e;obtain⟨aA,rv,⟨o,kk,h1,h2,h3,h4⟩,_⟩:=I.list (fb.of (K:=X.K) h);obtain⟨as,ra⟩:=dM I 30 (gq I m 30) ds xs aA ps r rv q;exact⟨a::as,.list h1 h2 h4 (by simpa using ra)⟩
end
section
variable {K:Frag} {ads:List Addr} {H:Hp}
theorem cq.find{κ:Type}[DecidableEq κ]{k:κ}:∀{ag:List (κ×D)}{ks:List (κ×V)}{d:D},cq K ads H ag ks->(ag.find? λp=>decide (p.1=k)).map (·.2)=some d->∃v,kH ks k=some v/\RD K ads H d v
 | [],_,_,_,e=>by cases e
 | p::ps,ks,d,r,e=>by
  unfold cq at r;obtain⟨x,r',rfl,h0,h1,h2⟩:=r;by_cases hk:p.1=k
  ·have e':p.2=d:=by simpa[hU,hk]using e
   subst e';exact⟨x.2,kI (h0▸hk),h1⟩
  ·obtain⟨v,e1,rv⟩:=cq.find h2 (by simpa[hU,hk]using e);exact⟨v,(iX (h0▸hk)).trans e1,rv⟩
theorem cq.len{κ:Type}:∀{ag:List (κ×D)}{ks:List (κ×V)},cq K ads H ag ks->ag.length=ks.length
 | [],_,r=>by unfold cq at r;subst r;rfl
 | p::ps,ks,r=>by unfold cq at r;obtain⟨x,r',rfl,h0,h1,h2⟩:=r;simp[cq.len h2]
theorem cq.Fq{κ:Type}[DecidableEq κ]{k:κ}:∀{ag:List (κ×D)}{ks:List (κ×V)},cq K ads H ag ks->dJ ag k=none->kH ks k=none
 | [],_,r,_=>by unfold cq at r;subst r;rfl
 | p::ps,ks,r,e=>by
  unfold cq at r;obtain⟨x,r',rfl,h0,h1,h2⟩:=r;by_cases hk:p.1=k
  ·unfold dJ at e;simp[hU,hk]at e
  ·exact(iX (h0▸hk)).trans (cq.Fq h2 (by unfold dJ at e⊢;simpa[hU,hk]using e))
end
section
variable {X:Cx} {aa:List (Addr×Obj)} {σ:L2.St} {H:Hp} {s:Shared} {ads:List Addr} {M:aj}
theorem pL{w:W}{v:V}{ag:List (bN×D)}{K:Frag}(m:aX K ads H M)(r:RW K ads H w v)(e:iL M w=some ag):∃a ks,v=.ref a/\H a=some (.dK ks)/\cq K ads H ag ks:=by
 cases w with
 | lv es=>cases e
 | d x =>
  cases x with
  | ai n =>
   have r:RD K ads H (.ai n) v:=r;unfold RD at r;obtain⟨a,ev,ea⟩:=r;simp only[iL]at e
   cases q:M[n]? with
   | none=>rw[q]at e;cases e
   | some o =>
    rw[q]at e;have ho:=m.obj n o a q ea
    cases o with
    | lst es=>cases e
    | jC es=>cases e
    | dK _=>cases e;obtain⟨ks,h,r⟩:=ho;exact⟨a,ks,ev,h,r⟩
    | dT _=>cases e
    | dF _=>cases e
  | tup _=>cases e
  | ls _=>cases e
  | aP=>cases e
  | bl _=>cases e
  | int _=>cases e
  | str _=>cases e
theorem Ft{w:W}{v:V}{k:bN}{K:Frag}(r:RW K ads H w v)(e:wC w=some k):v=kV k:=by
 cases w with
 | lv es=>cases e
 | d x =>
  cases x with
  | int i=>cases e;exact a8 r
  | str i=>cases e;exact fk r
  | ai _=>cases e
  | tup _=>cases e
  | ls _=>cases e
  | aP=>cases e
  | bl _=>cases e
theorem An{K:Frag}{ag:List (bN×D)}{ks:List (bN×V)}{a:Addr}{k:bN}(ha:H a=some (.dK ks))(r:cq K ads H ag ks):∃o,kJ H a (kV k) o/\o.isSome=(dJ ag k).isSome:=by
 refine⟨_,kJ.k (k:=k) ha,?_⟩
 cases q:dJ ag k with
 | none=>rw[r.Fq q];rfl
 | some d=>obtain⟨v,e,_⟩:=r.find q;rw[e];rfl
theorem Ao(I:Inv X aa σ H s)(m:aX X.K ads H M)(hu:X.A.units+100<cLine){kb:List (bN×D)}{YU:List (bN×V)}{Wf:List (bN×Value)}(rb:cq X.K ads H kb YU)(vb:KV YU Wf):∀{ka:List (bN×D)}{Tr:List (bN×V)}{Ri:List (bN×Value)}{r:Bool},cq X.K ads H ka Tr->KV Tr Ri->yJ M kb ka=some r->PySem.W.KeqHits X.A.in1 s Wf Ri r
 | [],Tr,Ri,r,ra,va,e=>by
  unfold cq at ra;subst ra;cases va;cases e;exact .nil
 | (k,d)::ka,Tr,Ri,r,ra,va,e=>by
  unfold cq at ra;obtain⟨x,r',rfl,h0,h1,h2⟩:=ra;obtain⟨x1,x2⟩:=x;have h0:k=x1:=h0;subst h0;have h1:RD X.K ads H d x2:=h1
  cases va with
  | cons hp hr =>
   rename_i q vr
   obtain⟨q1,q2⟩:=q;obtain⟨e1,e2⟩:=hp;have e1:k=q1:=e1;subst e1;have e2:RelV x2 q2:=e2;have hv:=vb.val k;simp only[yJ]at e
   cases hg:dJ kb k with
   | none =>
    rw[hg]at e;cases e;rw[rb.Fq hg]at hv;exact .miss (jV.none_of hv)
   | some y =>
    rw[hg]at e;dsimp only at e;obtain⟨v',YV,Wg⟩:=rb.find hg;rw[YV]at hv;obtain⟨u',eu,ru⟩:=jV.some_of hv
    cases p1:eK M 30 d with
    | none=>rw[p1]at e;cases e
    | some p =>
     cases p2:eK M 30 y with
     | none=>rw[p1,p2]at e;cases e
     | some p' =>
      rw[p1,p2]at e;dsimp only at e;split at e
      ·rename_i hs
       cases HD:yJ M kb ka with
       | none=>rw[HD]at e;cases e
       | some b =>
        rw[HD]at e;have e:(PyData.eqv p p'&&b)=r:=bS e;subst e;obtain⟨as,rda⟩:=gq I m 30 d x2 q2 p h1 e2 p1;obtain⟨bs,rdb⟩:=gq I m 30 y v' u' p' Wg ru p2;exact .hit eu (PySem.W.keq_at rda rdb hs.1 hs.2 (by show X.A.units+1+64<cLine;omega)) (Ao I m hu rb vb h2 hr HD)
      ·cases e
end
noncomputable def Oq:Oa->CmpOp
 | .eq=>.Eq | .ne=>.NotEq | .lt=>.Lt | .le=>.LtE | .gt=>.Gt | .ge=>.GtE | .tM=>.Is | .eL=>.IsNot | .isin=>.In | .gk=>.NotIn
noncomputable def JN(K:Frag)(ads:List Addr)(H:Hp)(Q:VK):cP Bool->Prop
 | .ok b M=>∀H' aE,aI ads aE H H'->aX K aE H' M->Q (.bl b) H'
 | _=>False
def JO(K:Frag)(op:Oa):R2:=λx y H Q=>∃ads M wx wy,aX K ads H M/\RW K ads H wx x/\RW K ads H wy y/\((op=.tM\/op=.eL)->y=.aP)/\JN K ads H Q (bh op wx wy M)
theorem JN.now{K:Frag}{ads:List Addr}{H:Hp}{Q:VK}{b:Bool}{M:aj}(h:JN K ads H Q (.ok b M))(m:aX K ads H M):Q (.bl b) H:=h H ads (aI.refl _ _) m
section
variable {X:Cx}
open Classical in
noncomputable def wH(h:Heap)(p:PyData)(y:Value):Bool:=decide (∃q' cs',Reads h y q' cs'/\PyData.eqv q' p=true)
open Classical in
theorem wI(ry:Reads h y q cs):wH h p y=PyData.eqv q p:=by
 unfold wH
 cases hb:PyData.eqv q p with
 | true=>exact fh ⟨q,cs,ry,hb⟩
 | false =>
  refine dO ?_;rintro⟨q',cs',ry',Ts⟩;obtain⟨e,_⟩:=PyProof.Rows.reads_det (λ_ _ e _=>e) ry ry';rw[<- e,Ts]at hb;cases hb
theorem Fv{s:Shared}{A:Around}{x:Value}{p:PyData}{as:List Addr}(rx:Reads s.heap x p as)(hx:SeqAt.shaped p=true)(hu:A.units+65<cLine):∀{us:List Value}{qs:List PyData}{bs:List Addr},ReadsAll s.heap us qs bs->qs.all SeqAt.shaped=true->(∀y∈us,SeqAt.EqAt A.in1 s y x (wH s.heap p y))/\us.any (wH s.heap p)=mr p qs
 | _,_,_,.nil,_=>⟨(λy hy=>by cases hy),rfl⟩
 | _,_,_,.cons (v:=v) (d:=q) ry rr,hq=>by
  rw[List.all_cons,aW]at hq;have Ts:=hq;obtain⟨k1,k2⟩:=Fv rx hx hu rr Ts.2;have e0:=SeqAt.eqAt_reads q p A.in1 s v x _ _ ry rx (SeqAt.canLay_of_shaped Ts.1) (SeqAt.canLay_of_shaped hx) (SeqAt.room_of_shaped Ts.1 (by show A.units+1+64<cLine;omega));rw[<- wI ry]at e0;refine⟨λy hy=>?_,?_⟩
  ·rcases bT.mp hy with z | z
   ·subst z;exact e0
   ·exact k1 y z
  ·rw[DZ,k2,wI ry];rfl
theorem nW{s:Shared}{A:Around}{x:Value}{p:PyData}{as:List Addr}(rx:Reads s.heap x p as)(hx:SeqAt.shaped p=true)(hu:A.units+65<cLine){us:List Value}{qs:List PyData}{bs:List Addr}(r:ReadsAll s.heap us qs bs)(hq:qs.all SeqAt.shaped=true):∃e:Value->Bool,(∀y∈us,SeqAt.EqAt A.in1 s y x (e y))/\us.any e=mr p qs :=
 ⟨wH s.heap p,Fv rx hx hu r hq⟩
theorem CP:jH X (compareOp .LtE) (λx y H Q=>∃i j,x=.str i/\y=.str j/\Q (.bl (!decide (j.cps.toList<i.cps.toList))) H):=by
 sleep 11;obtain⟨i,j,rfl,rfl,q⟩:=h;obtain⟨t,rfl⟩:=rx;obtain⟨t',rfl⟩:=ry;exact PySem.P.le_str ⟨.bl _,H,I,rfl,q⟩
theorem mG(hu:X.A.units+100<cLine)(op:Oa):jH X (compareOp (Oq op)) (JO X.K op):=by
 sleep 11;obtain⟨ads,M,wx,wy,m,r1,r2,hn,h⟩:=h;unfold bh at h
 cases op with
 | eq =>
  dsimp only at h
  have LS:JN X.K ads H Q (match iL M wx,iL M wy with
   | some ka,some kb=>match yJ M kb ka with
    | some r=>.ok (ka.length==kb.length&&r) M
    | none=>.ae
   | _,_=>.ae)->wpAny (model X.prog X.w) X.A (compareOp .Eq v u) (EP X aa σ Q) X.xe s:=by
   intro h
   cases q1:iL M wx with
   | none=>rw[q1]at h;exact h.elim
   | some ka =>
    cases q2:iL M wy with
    | none=>rw[q1,q2]at h;exact h.elim
    | some kb =>
     rw[q1,q2]at h;dsimp only at h
     cases q3:yJ M kb ka with
     | none=>rw[q3]at h;exact h.elim
     | some r =>
      rw[q3]at h;dsimp only at h;obtain⟨a,Tr,rfl,ha,ra⟩:=pL m r1 q1;obtain⟨b,YU,rfl,hb,rb⟩:=pL m r2 q2;cases rx;cases ry;obtain⟨za,YW,Ri,va,dda⟩:=vM I.bI ha;obtain⟨zb,NK,Wf,vb,ddb⟩:=vM I.bI hb;refine PySem.W.keq_eq YW NK dda ddb ∅ (λ_=>Ao I m hu rb vb ra va q3) ⟨.bl _,H,I,rfl,?_⟩;have e1:Ri.length=ka.length:=by rw[<- va.length,ra.len]
      have e2:Wf.length=kb.length:=by rw[<- vb.length,rb.len]
      rw[e1,e2];exact h.now m
  cases q1:jD M wx with
  | none=>rw[q1]at h;exact LS h
  | some p =>
   cases q2:jD M wy with
   | none=>rw[q1,q2]at h;exact LS h
   | some q =>
    rw[q1,q2]at h;dsimp only at h;split at h
    ·rename_i hs
     obtain⟨as,ra⟩:=jn I m r1 rx q1;obtain⟨bs,rb⟩:=jn I m r2 ry q2;exact SeqAt.compareEq_shaped ra rb hs.1 hs.2 ∅ ⟨.bl _,H,I,rfl,h.now m⟩
    ·exact h.elim
 | ne =>
  dsimp only at h
  cases q1:jD M wx with
  | none=>rw[q1]at h;exact h.elim
  | some p =>
   cases q2:jD M wy with
   | none=>rw[q1,q2]at h;exact h.elim
   | some q =>
    rw[q1,q2]at h;dsimp only at h;split at h
    ·rename_i hs
     obtain⟨as,ra⟩:=jn I m r1 rx q1;obtain⟨bs,rb⟩:=jn I m r2 ry q2;exact SeqAt.compareNe_shaped ra rb hs.1 hs.2 ∅ ⟨.bl _,H,I,rfl,h.now m⟩
    ·exact h.elim
 | lt =>
  dsimp only at h;split at h
  ·rw[a8 r1]at rx;rw[a8 r2]at ry;exact Ss aa s σ H _ _ v u Q I rx ry ⟨_,_,rfl,rfl,h.now m⟩
  ·rw[fk r1]at rx;rw[fk r2]at ry;exact B7 aa s σ H _ _ v u Q I rx ry ⟨_,_,rfl,rfl,h.now m⟩
  ·exact h.elim
 | le =>
  dsimp only at h;split at h
  ·rw[a8 r1]at rx;rw[a8 r2]at ry;exact Su aa s σ H _ _ v u Q I rx ry ⟨_,_,rfl,rfl,h.now m⟩
  ·rw[fk r1]at rx;rw[fk r2]at ry;exact CP aa s σ H _ _ v u Q I rx ry ⟨_,_,rfl,rfl,h.now m⟩
  ·exact h.elim
 | gt =>
  dsimp only at h;split at h
  ·rw[a8 r1]at rx;rw[a8 r2]at ry;exact Sv aa s σ H _ _ v u Q I rx ry ⟨_,_,rfl,rfl,h.now m⟩
  ·exact h.elim
 | ge =>
  dsimp only at h;split at h
  ·rw[a8 r1]at rx;rw[a8 r2]at ry;exact Sw aa s σ H _ _ v u Q I rx ry ⟨_,_,rfl,rfl,h.now m⟩
  ·exact h.elim
 | tM =>
  have e:=hn (.inl rfl)
  have hx:∀b,bh .tM wx wy M=.ok b M->b=decide (x=.aP):=by
   intro b e;unfold bh at e;dsimp only at e;split at e
   ·cases e;rw[pK r1];rfl
   ·rename_i mW
    cases e;refine(dO ?_).symm;intro z;subst z
    cases wx with
    | lv ds=>obtain⟨a,xs,e,_⟩:=r1;cases e
    | d z=>cases z with
     | aP=>exact mW rfl
     | bl b=>have:=jP r1;cases this
     | int b=>have:=a8 r1;cases this
     | str b=>have:=fk r1;cases this
     | tup b=>have r1:RD X.K ads H (.tup b) .aP:=r1;unfold RD at r1;obtain⟨a,xs,e,_⟩:=r1;cases e
     | ai b=>have r1:RD X.K ads H (.ai b) .aP:=r1;unfold RD at r1;obtain⟨a,e,_⟩:=r1;cases e
     | ls b=>have r1:RD X.K ads H (.ls b) .aP:=r1;unfold RD at r1;obtain⟨a,xs,e,_⟩:=r1;cases e
  subst e;have:∃b,bh .tM wx wy M=.ok b M:=by unfold bh;dsimp only;split<;>exact⟨_,rfl⟩
  obtain⟨b,hb⟩:=this;have h:JN X.K ads H Q (bh .tM wx wy M):=h;rw[hb]at h;refine ND aa s σ H _ _ v u Q I rx ry ⟨rfl,?_⟩;rw[<- hx b hb];exact h.now m
 | eL =>
  have e:=hn (.inr rfl)
  have hx:∀b,bh .eL wx wy M=.ok b M->b=!decide (x=.aP):=by
   intro b e;unfold bh at e;dsimp only at e;split at e
   ·cases e;rw[pK r1];rfl
   ·rename_i mW
    cases e
    have:decide (x=.aP)=false:=by
     refine dO ?_;intro z;subst z
     cases wx with
     | lv ds=>obtain⟨a,xs,e,_⟩:=r1;cases e
     | d z=>cases z with
      | aP=>exact mW rfl
      | bl b=>have:=jP r1;cases this
      | int b=>have:=a8 r1;cases this
      | str b=>have:=fk r1;cases this
      | tup b=>have r1:RD X.K ads H (.tup b) .aP:=r1;unfold RD at r1;obtain⟨a,xs,e,_⟩:=r1;cases e
      | ai b=>have r1:RD X.K ads H (.ai b) .aP:=r1;unfold RD at r1;obtain⟨a,e,_⟩:=r1;cases e
      | ls b=>have r1:RD X.K ads H (.ls b) .aP:=r1;unfold RD at r1;obtain⟨a,xs,e,_⟩:=r1;cases e
    rw[this];rfl
  subst e;have:∃b,bh .eL wx wy M=.ok b M:=by unfold bh;dsimp only;split<;>exact⟨_,rfl⟩
  obtain⟨b,hb⟩:=this;have h:JN X.K ads H Q (bh .eL wx wy M):=h;rw[hb]at h;refine IF aa s σ H _ _ v u Q I rx ry ⟨rfl,?_⟩;rw[<- hx b hb];exact h.now m
 | isin =>
  dsimp only at h
  cases q2:bQ M wy with
  | none =>
   rw[q2]at h
   have h:JN X.K ads H Q (match wC wx,iL M wy with
    | some k,some ag=>.ok ((dJ ag k).isSome) M
    | _,_=>.ae):=by cases hp:jD M wx<;>rw[hp]at h<;>exact h
   cases q3:wC wx with
   | none=>rw[q3]at h;exact h.elim
   | some k =>
    cases q4:iL M wy with
    | none=>rw[q3,q4]at h;exact h.elim
    | some ag =>
     rw[q3,q4]at h;have ek:=Ft r1 q3;subst ek;obtain⟨a,ks,rfl,ha,ra⟩:=pL m r2 q4;cases ry;obtain⟨o,g,eo⟩:=An (k:=k) ha ra;refine XS ∅ I g rx λs' I'=>⟨.bl _,H,I',rfl,?_⟩;rw[eo];exact h.now m
  | some YX =>
   cases q1:jD M wx with
   | none=>rw[q1,q2]at h;exact h.elim
   | some p =>
    obtain⟨l,ds⟩:=YX;rw[q1,q2]at h;dsimp only at h
    cases q3:cv M 30 ds with
    | none=>rw[q3]at h;exact h.elim
    | some qs =>
     rw[q3]at h;dsimp only at h;split at h
     ·rename_i hs
      obtain⟨as,ra⟩:=jn I m r1 rx q1;obtain⟨a,xs,ea,rd,sq⟩:=eS m r2 q2;subst ea;cases ry;rcases sq with⟨_,sq⟩|⟨_,sq⟩
      ·obtain⟨aA,rv,pl,_⟩:=I.list sq;sleep 15;refine SeqAt.in_listAt e pl.isList (λy hy=>he y (by simpa using hy)) ⟨.bl _,H,I,rfl,?_⟩;have:aA.toArray.any e=mr p qs:=by rw[<- yN];simp
       rw[this];exact h.now m
      ·obtain⟨aA,rv,pl,_⟩:=I.tuple sq;sleep 15;refine SeqAt.in_tupleAt e (show s.heap.IsTuple a aA.toArray from pl) (λy hy=>he y (by simpa using hy)) ⟨.bl _,H,I,rfl,?_⟩;have:aA.toArray.any e=mr p qs:=by rw[<- yN];simp
       rw[this];exact h.now m
     ·exact h.elim
 | gk =>
  dsimp only at h
  cases q2:bQ M wy with
  | none =>
   rw[q2]at h
   have h:JN X.K ads H Q (match wC wx,iL M wy with
    | some k,some ag=>.ok (!(dJ ag k).isSome) M
    | _,_=>.ae):=by cases hp:jD M wx<;>rw[hp]at h<;>exact h
   cases q3:wC wx with
   | none=>rw[q3]at h;exact h.elim
   | some k =>
    cases q4:iL M wy with
    | none=>rw[q3,q4]at h;exact h.elim
    | some ag =>
     rw[q3,q4]at h;have ek:=Ft r1 q3;subst ek;obtain⟨a,ks,rfl,ha,ra⟩:=pL m r2 q4;cases ry;obtain⟨o,g,eo⟩:=An (k:=k) ha ra;refine IK ∅ I g rx λs' I'=>⟨.bl _,H,I',rfl,?_⟩;rw[eo];exact h.now m
  | some YX =>
   cases q1:jD M wx with
   | none=>rw[q1,q2]at h;exact h.elim
   | some p =>
    obtain⟨l,ds⟩:=YX;rw[q1,q2]at h;dsimp only at h
    cases q3:cv M 30 ds with
    | none=>rw[q3]at h;exact h.elim
    | some qs =>
     rw[q3]at h;dsimp only at h;split at h
     ·rename_i hs
      obtain⟨as,ra⟩:=jn I m r1 rx q1;obtain⟨a,xs,ea,rd,sq⟩:=eS m r2 q2;subst ea;cases ry;rcases sq with⟨_,sq⟩|⟨_,sq⟩
      ·obtain⟨aA,rv,pl,_⟩:=I.list sq;sleep 15;refine SeqAt.notIn_listAt e pl.isList (λy hy=>he y (by simpa using hy)) ⟨.bl _,H,I,rfl,?_⟩;have:aA.toArray.any e=mr p qs:=by rw[<- yN];simp
       rw[this];exact h.now m
      ·obtain⟨aA,rv,pl,_⟩:=I.tuple sq;sleep 15;refine SeqAt.notIn_tupleAt e (show s.heap.IsTuple a aA.toArray from pl) (λy hy=>he y (by simpa using hy)) ⟨.bl _,H,I,rfl,?_⟩;have:aA.toArray.any e=mr p qs:=by rw[<- yN];simp
       rw[this];exact h.now m
     ·exact h.elim
end
section
variable {K:Frag} {ads:List Addr} {H:Hp} {M:aj}
theorem Tt(m:aX K ads H M)(r:RW K ads H w v)(e:qR M w=some k):Ek K v H k:=by
 have seq:∀w,RW K ads H w v->((bQ M w).map λp=>!p.2.isEmpty)=some k->Ek K v H k:=by
  intro w r e
  cases q:bQ M w with
  | none=>rw[q]at e;cases e
  | some p =>
   obtain⟨l,ds⟩:=p;rw[q]at e;have e:(!ds.isEmpty)=k:=bS e;obtain⟨a,xs,rfl,rd,sq⟩:=eS m r q;have hl:=rd.len
   have ex:k=!xs.isEmpty:=by
    rw[<- e];cases ds<;>cases xs<;>simp_all
   rcases sq with⟨_,sq⟩|⟨_,sq⟩
   ·exact .inl ⟨xs,sq,ex⟩
   ·exact .inr (.inl ⟨xs,sq,ex⟩)
 cases w with
 | lv ds=>exact seq _ r e
 | d x =>
  cases x with
  | aP=>rw[pK r];exact(bS e).symm
  | bl b=>rw[jP r];exact(bS e).symm
  | int i=>rw[a8 r];exact(bS e).symm
  | str s=>exact seq _ r e
  | tup ds=>exact seq _ r e
  | ai n=>exact seq _ r e
  | ls n=>exact seq _ r e
theorem aS.zW(r:aS K ads H ds xs)(e:L2.zW ds i=some d):∃v,L2.zW xs i=some v/\RD K ads H d v:=by
 unfold L2.zW at e⊢;rw[<- r.len]
 cases q:EC ds.length i with
 | none=>rw[q]at e;cases e
 | some j=>rw[q]at e;exact r.get e
theorem aS.cut{ds:List D}{xs:List V}{lo hi:Option Int}(r:aS K ads H ds xs):aS K ads H (cutD ds lo hi) (vP xs lo hi):=by
 unfold cutD vP;rw[<- r.len];exact(r.drop _).take _
theorem cq.any{κ:Type}[DecidableEq κ]{k:κ}:∀{ag:List (κ×D)}{ks:List (κ×V)},cq K ads H ag ks->(ag.any λkv=>decide (kv.1=k))=(ks.any λkv=>decide (kv.1=k))
 | [],_,r=>by unfold cq at r;subst r;rfl
 | p::ps,ks,r=>by unfold cq at r;obtain⟨x,r',rfl,h0,h1,h2⟩:=r;simp[cq.any h2,h0]
theorem cq.map{κ:Type}[DecidableEq κ]{k:κ}{d:D}{v:V}(rd:RD K ads H d v):∀{ag:List (κ×D)}{ks:List (κ×V)},cq K ads H ag ks->cq K ads H (ag.map λkv=>if kv.1=k then (kv.1,d) else kv) (ks.map λkv=>if kv.1=k then (kv.1,v) else kv)
 | [],_,r=>by unfold cq at r;subst r;simp;unfold cq;rfl
 | p::ps,ks,r=>by
  unfold cq at r;obtain⟨x,r',rfl,h0,h1,h2⟩:=r;simp only[fi];unfold cq;refine⟨_,_,rfl,?_,?_,cq.map rd h2⟩
  ·rw[h0];split<;>first | rfl | exact h0
  ·rw[h0];split<;>first | exact rd | exact h1
theorem cq.app{κ:Type}:∀{ag es:List (κ×D)}{ks fs:List (κ×V)},cq K ads H ag ks->cq K ads H es fs->cq K ads H (ag++es) (ks++fs)
 | [],_,_,_,r,q=>by unfold cq at r;subst r;exact q
 | p::ps,es,ks,fs,r,q=>by
  unfold cq at r;obtain⟨x,r',rfl,h0,h1,h2⟩:=r;show cq K ads H (p::(ps++es)) (x::(r'++fs));unfold cq;exact⟨x,_,rfl,h0,h1,cq.app h2 q⟩
theorem cq.put{κ:Type}[DecidableEq κ]{k:κ}{d:D}{v:V}{ag:List (κ×D)}{ks:List (κ×V)}(r:cq K ads H ag ks)(rd:RD K ads H d v):cq K ads H (eM ag k d) (eC ks k v):=by
 unfold eM eC;rw[r.any (k:=k)];split
 ·exact cq.map rd r
 ·refine r.app ?_;unfold cq;exact⟨_,[],rfl,rfl,rd,by unfold cq;rfl⟩
end
section
variable {X:Cx} {M':aj}
def Sz(K:Frag):R2:=λx y H Q=>∃ads M wx wy,aX K ads H M/\RW K ads H wx x/\RW K ads H wy y/\df K ads H Q (de wx wy M)
theorem Ot(hu:X.A.units+1<cLine):Q_ X (Sz X.K):=by
 intro value jK aa s σ H x y v u Q I rx ry h hs;obtain⟨ads,M,wx,wy,m,r1,r2,h⟩:=h;unfold de at h;split at h
 ·rename_i i
  have ey:=a8 r2;subst ey
  cases q:bQ M wx with
  | some p =>
   obtain⟨l,ds⟩:=p;rw[q]at h;dsimp only at h
   cases q2:We ds i with
   | none=>rw[q2]at h;exact h.elim
   | some d =>
    rw[q2]at h;obtain⟨a,xs,rfl,rd,sq⟩:=eS m r1 q;obtain⟨z,e2,rz⟩:=rd.zW q2;rcases sq with⟨_,sq⟩|⟨_,sq⟩
    ·exact IV value jK aa s σ H _ _ v u Q I rx ry ⟨a,xs,i,z,rfl,rfl,sq,e2,h.plain m rz⟩ hs
    ·exact NR value jK aa s σ H _ _ v u Q I rx ry ⟨a,xs,i,z,rfl,rfl,sq,e2,h.plain m rz⟩ hs
  | none =>
   rw[q]at h;dsimp only at h;split at h
   ·split at h
    ·rename_i z hz
     have ex:=fk r1;subst ex
     cases q2:L2.zW z.cps.toList i with
     | none=>rw[q2]at h;exact h.elim
     | some c =>
      rw[q2]at h;exact NS value jK aa s σ H _ _ v u Q I rx ry ⟨_,i,c,rfl,rfl,hz,q2,h.plain m (yM _)⟩ hs
    ·exact h.elim
   ·rename_i n
    sleep 19;split at h
    ·rename_i ag q
     obtain⟨ks,hk,rk⟩:=m.obj n _ a q ea;split at h
     ·rename_i d q2
      obtain⟨z,e2,rz⟩:=rk.find (k:=Sum.inl i) q2;cases rx;have g:kJ H a (kV (Sum.inl i)) (some z):=by have:=kJ.k (k:=Sum.inl i) hk;rw[e2]at this;exact this
      sleep 30
     ·exact h.elim
    ·exact h.elim
   ·exact h.elim
 ·rename_i k
  have ey:=fk r2;subst ey;split at h
  ·rename_i n
   sleep 19;split at h
   ·rename_i ag q
    obtain⟨ks,hk,rk⟩:=m.obj n _ a q ea;split at h
    ·rename_i d q2
     obtain⟨z,e2,rz⟩:=rk.find (k:=Sum.inr k) q2;cases rx;have g:kJ H a (kV (Sum.inr k)) (some z):=by have:=kJ.k (k:=Sum.inr k) hk;rw[e2]at this;exact this
     sleep 30
    ·exact h.elim
   ·exact h.elim
  ·exact h.elim
 ·exact h.elim
def YY(K:Frag):V->Option Int->Option Int->Hp->VK->Prop:=λx lo hi H Q=>∃ads M wx,aX K ads H M/\RW K ads H wx x/\df K ads H Q (pB wx lo hi M)
theorem Ou:VY X (YY X.K):=by
 intro aa s σ H x v vl vu lo hi sl Q I rx hs pl pu h;obtain⟨ads,M,wx,m,r1,h⟩:=h;unfold pB at h;split at h
 ·rename_i ds q
  obtain⟨a,xs,rfl,rd,sq⟩:=eS m r1 q;rcases sq with⟨_,sq⟩|⟨e,_⟩
  ·exact IW aa s σ H _ v vl vu lo hi sl Q I rx hs pl pu ⟨a,xs,rfl,sq,λp hp=>h.list m rd.cut hp⟩
  ·cases e
 ·rename_i ds q
  obtain⟨a,xs,rfl,rd,sq⟩:=eS m r1 q;rcases sq with⟨e,_⟩|⟨_,sq⟩
  ·cases e
  ·split at h
   ·exact h.elim
   ·rename_i hw
    refine NQ aa s σ H _ v vl vu lo hi sl Q I rx hs pl pu ⟨a,xs,rfl,sq,by rw[<- rd.len];exact hw,λp hp=>h.tuple m rd.cut hp⟩
 ·exact h.elim
theorem df.Ov{K:Frag}{ads:List Addr}{H:Hp}{Q:VK}{M:aj}{ag:List (bN×D)}{ks:List (bN×V)}{p:Addr}(q:df K ads H Q (.ok (.d (.ai M.length)) (M++[.dK ag])))(m:aX K ads H M)(hp:H p=none)(r:cq K ads H ag ks):Q (.ref p) (upd H p (.dK ks)):=by
 have pn:=m.fresh hp;have g0:aI ads ads H (upd H p (.dK ks)):=aI.fR m hp;have m1:aX K ads (upd H p (.dK ks)) M:=m.fR hp;have m2:=m1.push (o:=.dK ag) pn ⟨_,a_,g0.yI _ _ r⟩;refine q (.ref p) _ (ads++[p]) ⟨⟨[p],rfl⟩,λb hb nb=>?_,g0.kept,g0.hZ,g0.dP⟩ m2 ?_
 ·rcases dk.mp hb with z | z
  ·exact absurd z nb
  ·have:b=p:=by simpa using z
   subst this;exact hp
 ·show RD K (ads++[p]) (upd H p (.dK ks)) (.ai M.length) (.ref p);unfold RD;exact⟨p,rfl,by rw[qD (by rw[m.len];exact aH _)];simp[m.len]⟩
def LU(K:Frag)(ads:List Addr)(H:Hp):List W->List V->Prop
 | [],vs=>vs=[]
 | w::ws,vs=>∃v r,vs=v::r/\RW K ads H w v/\LU K ads H ws r
def Fw(K:Frag)(b:Bi):List V->Hp->VK->Prop:=λvs H Q=>∃ads M ws,aX K ads H M/\LU K ads H ws vs/\df K ads H Q (mZ b ws M)
theorem LU.one{K:Frag}{ads:List Addr}{H:Hp}{w:W}{vs:List V}(r:LU K ads H [w] vs):∃v,vs=[v]/\RW K ads H w v:=by
 obtain⟨v,r,rfl,h,h2⟩:=r;have h2:r=[]:=h2;subst h2;exact⟨v,rfl,h⟩
theorem LU.two{K:Frag}{ads:List Addr}{H:Hp}{w w2:W}{vs:List V}(r:LU K ads H [w,w2] vs):∃v v2,vs=[v,v2]/\RW K ads H w v/\RW K ads H w2 v2:=by
 obtain⟨v,r,rfl,h,h2⟩:=r;obtain⟨v2,rfl,h3⟩:=LU.one h2;exact⟨v,v2,rfl,h,h3⟩
theorem j8(ps:List (bN×Value)):∀n,n<=ps.length->mY (λi=>ps.getD i (Sum.inl 0,.none)) n=(ps.take n).foldl (λacc p=>stored acc p.1 p.2) []
 | 0,_=>by simp[mY]
 | n+1,h=>by
  have hn:n<ps.length:=h;rw[MU,br hn,Option.toList_some,DL,<- j8 ps n (qK hn)];show stored _ _ _=stored _ _ _
  try simp only[gL,br hn,Option.getD_some]
theorem Ap:∀{qs:List (bN×V)}{ps:List (bN×Value)}{a:List (bN×V)}{b:List (bN×Value)},KV qs ps->KV a b->KV (qs.foldl (λacc p=>eC acc p.1 p.2) a) (ps.foldl (λacc p=>stored acc p.1 p.2) b)
 | [],_,a,b,r,k=>by cases r;exact k
 | q::qs,_,a,b,r,k=>by
  cases r with
  | cons h r =>
   rename_i p ps
   obtain⟨h1,h2⟩:=h;have k2:KV (eC a q.1 q.2) (stored b p.1 p.2):=by rw[<- h1];exact k.put q.1 h2
   exact Ap (qs:=qs) (ps:=ps) r k2
theorem Ow(r:RelV (.int i) u):∃t,u=.int i t:=r
theorem Ox{x:Str}(r:RelV (.str x) u):∃t,u=.str x t:=r
theorem Fx{H0:Hp}{h:Heap}(ok:jE X.prog X.w H0 h){K:Frag}{ads:List Addr}:∀{ds:List D}{acc ag:List (bN×D)}{va:List (bN×V)}{ys:List V}{aA:List Value},CN acc ds=some ag->cq K ads H0 acc va->aS K ads H0 ds ys->aY ys aA->∃(ps:List (bN×Value)) (qs:List (bN×V)),ps.length=aA.length/\KV qs ps/\cq K ads H0 ag (qs.foldl (λacc p=>eC acc p.1 p.2) va)/\∀i v,aA[i]?=some v->∃a uk,v=.ref a/\iT (ps.getD i (Sum.inl 0,.none)).1 uk=true/\IsTup h a #[uk,(ps.getD i (Sum.inl 0,.none)).2]
 | [],acc,ag,va,ys,aA,e,ra,rd,rv=>by
  cases e;unfold aS at rd;subst rd;cases rv;exact⟨[],[],rfl,.nil,ra,λi v h=>by simp at h⟩
 | d::ds,acc,ag,va,ys,aA,e,ra,rd,rv=>by
  unfold aS at rd;obtain⟨y,yr,rfl,r1,r2⟩:=rd
  cases rv with
  | cons hv rv =>
   rename_i u us
   unfold CN at e
   cases hp:pairD d with
   | none=>rw[hp]at e;cases e
   | some kx =>
    obtain⟨k,x⟩:=kx;rw[hp]at e
    have main:∀kd:D,d=.tup [kd,x]->(∀z uz,RD K ads H0 kd z->RelV z uz->iT k uz=true)->∃(ps:List (bN×Value)) (qs:List (bN×V)),ps.length=(u::us).length/\KV qs ps/\cq K ads H0 ag (qs.foldl (λacc p=>eC acc p.1 p.2) va)/\∀i v,(u::us)[i]?=some v->∃a uk,v=.ref a/\iT (ps.getD i (Sum.inl 0,.none)).1 uk=true/\IsTup h a #[uk,(ps.getD i (Sum.inl 0,.none)).2]:=by
     intro kd ed hk;subst ed;unfold RD at r1;obtain⟨a,xs,rfl,ha,rx⟩:=r1;unfold aS at rx;obtain⟨z,zr,rfl,rz,rx⟩:=rx;unfold aS at rx;obtain⟨z2,zr2,rfl,rz2,rx⟩:=rx;unfold aS at rx;subst rx;obtain⟨_,tits,tv,tt⟩:=ok a _ ha
     cases tv with
     | cons t1 tv =>
      cases tv with
      | cons t2 tv =>
       cases tv
       rename_i uk uv
       obtain⟨ps,qs,l,kk,rr,hh⟩:=Fx ok e (ra.put (k:=k) rz2) r2 rv;refine⟨(k,uv)::ps,(k,z2)::qs,by simp[l],.cons ⟨rfl,t2⟩ kk,rr,λi v hi=>?_⟩
       cases i with
       | zero =>
        have hi:u=v:=by simpa using hi
        subst hi;have hu:u=.ref a:=hv;exact⟨a,uk,hu,hk z uk rz t1,tt⟩
       | succ i =>
        obtain⟨a',uk',q1,q2,q3⟩:=hh i v (by simpa using hi);exact⟨a',uk',q1,by simpa using q2,by simpa using q3⟩
    unfold pairD at hp;split at hp
    ·rename_i i dd
     cases hp;refine main _ rfl λz uz rz hz=>?_;unfold RD at rz;subst rz;obtain⟨t,rfl⟩:=Ow hz;exact qY i t
    ·rename_i i dd
     cases hp;refine main _ rfl λz uz rz hz=>?_;unfold RD at rz;subst rz;obtain⟨t,rfl⟩:=Ox hz;exact qZ i t
    ·cases hp
theorem JP(hc:X.calm=true):dX X (.type "dict") (Fw X.K .rL):=by
 sleep 5
 ·exact h.elim
 ·sleep 23;split at h
  ·rename_i ag q
   obtain⟨a,ks,rfl,ha,ra⟩:=pL m rv q;obtain⟨u,rfl,ru⟩:=vals1 r;cases ru;obtain⟨z,hd,vs,va,dd⟩:=vM I.bI ha;refine kt_call_dict hd dd (by rw[<- va.length];exact z) λh' RZ hs=>?_
   have kp:∀b o',s.heap.get? b=some o'->h'.get? b=some o':=λb o' e=>by
    have hb:b≠s.heap.objs.size:=λz=>by subst z;exact absurd (bG e) (iS _)
    rw[hs.2 b hb];exact aO _ e
   refine⟨.ref s.heap.objs.size,_,I.laid (t':=s.toks) (o:=.dK ks) kp (aH _) ?_,rfl,h.Ov m (I.bI.fresh (aH _)) ra⟩;exact⟨z,lP.mpr (cW (b_ I.big)),vs,va,RZ⟩
  ·split at h
   ·rename_i ds q
    split at h
    ·rename_i ag qp
     obtain⟨a,ys,rfl,rd,sq⟩:=eS m rv q;rcases sq with⟨_,sq⟩|⟨e,_⟩
     ·obtain⟨u,rfl,ru⟩:=vals1 r;cases ru;obtain⟨aA,vy,pl,hz⟩:=I.list sq;obtain⟨ps,qs,l,kk,rr,hh⟩:=Fx I.bI qp (va:=[]) (show cq X.K ads H [] [] by unfold cq;rfl) rd vy;refine Jp (I.ok.hd hc) pl (by rw[<- vy.length];exact hz) (λi=>ps.getD i (Sum.inl 0,.none)) hh λh' tk kp hd=>?_;rw[<- l,j8 ps _ (aH _),gD]at hd;refine⟨.ref s.heap.objs.size,_,I.laid (t':=tk) (o:=.dK (qs.foldl (λacc p=>eC acc p.1 p.2) [])) kp (aH _) ?_,rfl,h.Ov m (I.bI.fresh (aH _)) rr⟩;have kf:=Ap kk (a:=[]) (b:=[]) .nil;refine⟨?_,lP.mpr (cW (b_ I.big)),_,kf,hd⟩;have l1:=DY kf;have l2:=mj (λi=>ps.getD i (Sum.inl 0,.none)) ps.length;rw[j8 ps _ (aH _),gD]at l2;rw[l1];exact dW l2 (by rw[l,<- vy.length];exact hz)
     ·cases e
    ·exact h.elim
   ·exact h.elim
 ·exact h.elim
theorem Oy:dX X (.builtin "len") (Fw X.K .len):=by
 sleep 5
 ·exact h.elim
 ·sleep 23;split at h
  ·rename_i l ds q
   obtain⟨a,ys,rfl,rd,sq⟩:=eS m rv q;refine tm aa s σ H _ us Q I r ⟨a,ys,rfl,?_,by rw[<- rd.len];exact h.plain m (cK _)⟩;rcases sq with⟨_,sq⟩|⟨_,sq⟩
   ·exact .inl sq
   ·exact .inr sq
  ·split at h
   ·split at h
    ·rename_i hz
     have e1:=fk rv;subst e1;exact tq aa s σ H _ us Q I r ⟨_,rfl,hz,h.plain m (cK _)⟩
    ·exact h.elim
   ·exact h.elim
 ·exact h.elim
theorem rN (hh : A.handled = none) (I : Inv X aa σ H s) (sq : fb X.K H a xs \/ fz X.K H a xs) 
    (q:∀(aA:List Value)(I1:Addr)(fp wr:List Addr)(St:Nat->Heap->Prop)(s2:Shared),aY xs aA->Walks X.prog X.w A I1 fp wr aA.length (λi v=>aA[i]?=some v) St->St 0 s2.heap->(∀b∈fp,b<s2.heap.objs.size) ->
      (∀h' tk,(∀b o,b∉wr->s2.heap.get? b=some o->h'.get? b=some o)->Inv X aa σ H {s2 with heap:=h',toks:=tk})->Q (.ref I1) s2):wpAny (model X.prog X.w) A (pyIter (.ref a)) Q E s:=by
  have kp:∀{o:Obj}{h':Heap}{tk:Nat},(∀b u,b∉[s.heap.objs.size]->(s.heap.push o).get? b=some u->h'.get? b=some u)->Inv X aa σ H {s with heap:=h',toks:=tk}:=λ{o h' tk} k =>
    I.kept λb u e=>k b u (λz=>by
      have hb:b=s.heap.objs.size:=by simpa using z
      exact absurd (bG e) (by rw[hb];exact iS _)) (aO _ e)
  rcases sq with sq | sq
  · obtain⟨aA,rv,pl,hz⟩:=I.list sq;obtain⟨o,ho,hc,n,hd⟩:=pl.isList;have jM:=bG ho;have W:=Walks.list (prog:=X.prog) (w:=X.w) hh s.heap.objs.size a (b_ jM) aA.toArray;simp only[cG,DF]at W;refine vf pl.isList (q aA _ _ _ _ _ rv W ⟨⟨_,cj _ rfl,rfl,rfl⟩,⟨o,aO _ ho,hc,n,hd⟩⟩ (λb hb=>?_) λh' tk k=>kp k);show b<(s.heap.push _).objs.size;rw[iR];have hb:b=s.heap.objs.size\/b=a:=by simpa using hb
    rcases hb with z | z
    · rw[z];exact iI _
    · rw[z];exact iG jM
  · obtain⟨aA,rv,pl,hz⟩:=I.tuple sq;obtain⟨o,ho,hc,n,hd⟩:=id pl;have jM:=bG ho;have W:=Walks.tuple (prog:=X.prog) (w:=X.w) hh s.heap.objs.size a (b_ jM) aA.toArray;simp only[cG,DF]at W;refine vd (show s.heap.IsTuple a aA.toArray from pl) (q aA _ _ _ _ _ rv W ⟨⟨_,cj _ rfl,rfl,rfl⟩,⟨o,aO _ ho,hc,n,hd⟩⟩ (λb hb=>?_) λh' tk k=>kp k);show b<(s.heap.push _).objs.size;rw[iR];have hb:b=s.heap.objs.size\/b=a:=by simpa using hb
    rcases hb with z | z
    · rw[z];exact iI _
    · rw[z];exact iG jM
theorem Fy{K:Frag}{ads:List Addr}{H:Hp}:∀{ds:List D}{bs:List Bool}{ys:List V}{aA:List Value},wD ds=some bs->aS K ads H ds ys->aY ys aA->aA=bs.map Value.bool
 | [],bs,ys,aA,e,r,v=>by
  cases e;unfold aS at r;subst r;cases v;rfl
 | d::ds,bs,ys,aA,e,r,v=>by
  unfold aS at r;obtain⟨x,r',rfl,h1,h2⟩:=r;cases d<;>first | cases e | skip
  rename_i b
  unfold RD at h1;subst h1
  cases v with
  | cons hv hr =>
   cases hv;unfold wD at e
   cases q:wD ds with
   | none=>rw[q]at e;cases e
   | some cs =>
    rw[q]at e;cases e;rw[Fy q h2 hr];rfl
theorem CQ(bs:List Bool):(List.range bs.length).any (λi=>bs.getD i true)=bs.any id:=by
 rw[Bool.eq_iff_iff,Ig,Ig];constructor
 ·rintro⟨i,hi,h⟩;have hi:=qJ.mp hi;refine⟨bs[i],kA hi,?_⟩;simpa[gL,hi]using h
 ·rintro⟨b,hb,h⟩;obtain⟨i,hi,rfl⟩:=qG.mp hb;refine⟨i,qJ.mpr hi,?_⟩;simpa[gL,hi]using h
theorem CS(bs:List Bool):TruthOf X.prog X.w A (λi v=>(bs.map Value.bool)[i]?=some v) λi=>bs.getD i true:=by
 intro i v s Q E hP hQ;rw[bc]at hP
 cases q:bs[i]? with
 | none=>rw[q]at hP;cases hP
 | some b =>
  rw[q]at hP;cases hP;have e:bs.getD i true=b:=by rw[gL,q];rfl
  have hQ:Q (bs.getD i true) s:=hQ;rw[e]at hQ;unfold truthy;exact ah hQ
theorem Oz(hc:X.calm=true):dX X (.builtin "any") (Fw X.K .CL):=by
 sleep 5
 ·exact h.elim
 ·sleep 23;split at h
  ·rename_i l ds q
   split at h
   ·rename_i bs qb
    obtain⟨a,ys,rfl,rd,sq⟩:=eS m rv q;obtain⟨u,rfl,ru⟩:=vals1 r;cases ru;refine call_any_walk (rN (A:=X.A.in1) (I.ok.hd hc) I (sq.elim (λz=>.inl z.2) λz=>.inr z.2) λaA I1 fp wr St s2 vs W st hfp inv=>?_);have e:=Fy qb rd vs;subst e;refine⟨I1,fp,wr,(bs.map Value.bool).length,_,St,λi=>bs.getD i true,rfl,W,st,CS bs,λh' tk hk=>⟨.bl (bs.any id),H,inv h' tk hk,?_,h.plain m (kS _)⟩⟩;rw[ay,CQ];rfl
   ·exact h.elim
  ·exact h.elim
 ·exact h.elim
theorem JQ:dX X (.type "list") (Fw X.K .list1):=by
 sleep 5
 ·exact h.elim
 ·sleep 23;split at h
  ·rename_i l ds q
   obtain⟨a,ys,rfl,rd,sq⟩:=eS m rv q;refine tu aa s σ H _ us Q I r ⟨a,ys,rfl,?_,λp hp=>h.list m rd hp⟩;rcases sq with⟨_,sq⟩|⟨_,sq⟩
   ·exact .inl sq
   ·exact .inr sq
  ·exact h.elim
 ·exact h.elim
theorem Fz:dX X (.type "tuple") (Fw X.K .tuple1):=by
 sleep 5
 ·exact h.elim
 ·sleep 23;split at h
  ·rename_i l ds q
   have hq:=q;obtain⟨a,ys,rfl,rd,sq⟩:=eS m rv q;rcases sq with⟨_,sq⟩|⟨el,sq⟩
   ·exact jL aa s σ H _ us Q I r ⟨a,ys,rfl,.inl ⟨sq,λp hp=>h.tuple m rd hp⟩⟩
   ·refine jL aa s σ H _ us Q I r ⟨a,ys,rfl,.inr ⟨sq,h.plain m ?_⟩⟩;subst el
    cases w with
    | lv es=>cases hq
    | d x =>
     cases x with
     | tup es =>
      have e:es=ds:=by simpa[bQ]using hq
      subst e;exact rv
     | ai n =>
      simp only[bQ]at hq;split at hq<;>cases hq
     | ls _=>cases hq
     | aP=>cases hq
     | bl _=>cases hq
     | int _=>cases hq
     | str _=>cases hq
  ·exact h.elim
 ·exact h.elim
theorem Aq{K:Frag}{ads:List Addr}{H:Hp}:∀{ds:List D}{bs:List Int}{ys:List V}{aA:List Value},gm ds=some bs->aS K ads H ds ys->aY ys aA->aA.length=bs.length/\∀(i:Nat)(v:Value),aA[i]?=some v->∃t,v=Value.int (bs.getD i 0) t
 | [],bs,ys,aA,e,r,v=>by
  cases e;unfold aS at r;subst r;cases v;exact⟨rfl,λi v e=>by simp at e⟩
 | d::ds,bs,ys,aA,e,r,v=>by
  unfold aS at r;obtain⟨y,r',rfl,h1,h2⟩:=r;cases d<;>first | cases e | skip
  rename_i b
  have e:(gm ds).map (b::·)=some bs:=e
  cases q:gm ds with
  | none=>rw[q]at e;cases e
  | some bs' =>
   rw[q]at e;cases e;unfold RD at h1;subst h1
   cases v with
   | cons hv ht =>
    obtain⟨e1,e2⟩:=Aq q h2 ht;obtain⟨t,rfl⟩:=hv;refine⟨by simp[e1],λi v e=>?_⟩
    cases i with
    | zero=>exact⟨t,by simpa using e.symm⟩
    | succ i=>exact e2 i v (by simpa using e)
theorem rO(c:Int->Int->Bool)(i0:Int)(is:List Int):∀k,k<(i0::is).length->(i0::is).getD (argBest (λi j=>c ((i0::is).getD i 0) ((i0::is).getD j 0)) k) 0=(is.take k).foldl (λa b=>if c b a=true then b else a) i0
 | 0,_=>by simp[argBest]
 | k+1,h=>by
  have ih:=rO c i0 is k ∅;have hk:k<is.length:=by simpa using h
  rw[MU,br hk,DL];simp only[Option.toList_some,BO,List.foldl_nil];rw[<- ih];have hg:(i0::is).getD (k+1) 0=is[k]:=by simp[gL,hk]
  show(i0::is).getD (if c ((i0::is).getD (k+1) 0) ((i0::is).getD (argBest (λi j=>c ((i0::is).getD i 0) ((i0::is).getD j 0)) k) 0)=true then k+1 else argBest (λi j=>c ((i0::is).getD i 0) ((i0::is).getD j 0)) k) 0=_;rw[hg];by_cases q:c is[k] ((i0::is).getD (argBest (λi j=>c ((i0::is).getD i 0) ((i0::is).getD j 0)) k) 0)=true
  ·rw[ar q,ar q];exact hg
  ·rw[aq q,aq q]
theorem JR(hc:X.calm=true):dX X (.builtin "max") (Fw X.K .CM):=by
 sleep 5
 ·exact h.elim
 ·sleep 23;split at h
  ·rename_i l ds q
   split at h
   ·rename_i i0 is qb
    obtain⟨a,ys,rfl,rd,sq⟩:=eS m rv q;obtain⟨u,rfl,ru⟩:=vals1 r;cases ru;refine call_max_walk (rN (A:=X.A.in1) (I.ok.hd hc) I (sq.elim (λz=>.inl z.2) λz=>.inr z.2) λaA I1 fp wr St s2 vs W st hfp inv=>?_);obtain⟨e1,e2⟩:=Aq qb rd vs;refine⟨I1,fp,wr,aA.length,_,St,_,rfl,W,st,hfp,by rw[e1];simp,CmpOf.ints_gt (λi=>(i0::is).getD i 0) e2,λv h' tk hv hk=>?_⟩;obtain⟨t,rfl⟩:=e2 _ _ hv;have e3:=rO (λa b=>decide (a>b)) i0 is (aA.length-1) (by rw[e1];simp);rw[e1]at e3;simp only[iP,Nat.add_sub_cancel,gD,oJ,gt_iff_lt]at e3;refine⟨.int (is.foldl (λa b=>if a<b then b else a) i0),H,inv h' tk hk,⟨t,?_⟩,h.plain m (cK _)⟩;rw[e1];simp only[iP,Nat.add_sub_cancel,gt_iff_lt];rw[e3]
   ·exact h.elim
  ·exact h.elim
 ·exact h.elim
theorem OA(hc:X.calm=true):dX X (.builtin "max") (Fw X.K .max2):=by
 sleep 12;obtain⟨ads,M,ws,m,rw,h⟩:=h;rcases ws with _|⟨w,_|⟨w2,_|⟨w3,ws⟩⟩⟩
 ·exact h.elim
 ·rcases w with⟨_|_|_|_|_|_⟩|_<;>exact h.elim
 ·rcases w with⟨_|_ | i | _|_|_⟩|_<;>first | exact h.elim | skip
  rcases w2 with⟨_|_ | j | _|_|_⟩|_<;>first | exact h.elim | skip
  obtain⟨v,v2,rfl,r1,r2⟩:=rw.two;have e1:=a8 r1;have e2:=a8 r2;subst e1 e2;exact B8 hc aa s σ H _ us Q I r ⟨i,j,rfl,df.plain h m (cK _)⟩
 ·rcases w with⟨_|_ | i | _|_|_⟩|_<;>first | exact h.elim | skip
  rcases w2 with⟨_|_ | j | _|_|_⟩|_<;>exact h.elim
theorem OB(hc:X.calm=true):dX X (.builtin "min") (Fw X.K .min2):=by
 sleep 12;obtain⟨ads,M,ws,m,rw,h⟩:=h;rcases ws with _|⟨w,_|⟨w2,_|⟨w3,ws⟩⟩⟩
 ·exact h.elim
 ·rcases w with⟨_|_|_|_|_|_⟩|_<;>exact h.elim
 ·rcases w with⟨_|_ | i | _|_|_⟩|_<;>first | exact h.elim | skip
  rcases w2 with⟨_|_ | j | _|_|_⟩|_<;>first | exact h.elim | skip
  obtain⟨v,v2,rfl,r1,r2⟩:=rw.two;have e1:=a8 r1;have e2:=a8 r2;subst e1 e2;exact B9 hc aa s σ H _ us Q I r ⟨i,j,rfl,df.plain h m (cK _)⟩
 ·rcases w with⟨_|_ | i | _|_|_⟩|_<;>first | exact h.elim | skip
  rcases w2 with⟨_|_ | j | _|_|_⟩|_<;>exact h.elim
theorem OC:dX X (.type "int") (Fw X.K .wB):=by
 sleep 5
 ·exact h.elim
 ·obtain⟨v,rfl,rv⟩:=rw.one
  cases w with
  | lv ds=>exact h.elim
  | d x =>
   cases x with
   | int i =>
    have e:=a8 rv;subst e;exact q_ aa s σ H _ us Q I r (.inl ⟨i,rfl,df.plain h m (cK _)⟩)
   | bl i =>
    have e:=jP rv;subst e;exact q_ aa s σ H _ us Q I r (.inr ⟨i,rfl,df.plain h m (cK _)⟩)
   | aP=>exact h.elim
   | str _=>exact h.elim
   | tup _=>exact h.elim
   | ai _=>exact h.elim
   | ls _=>exact h.elim
 ·rcases w with⟨_|_|_|_|_|_⟩|_<;>exact h.elim
noncomputable def wJ:Ty->String
 | .int => "int" | .bool => "bool" | .str => "str" | .tuple => "tuple" | .list => "list" | .dict => "dict" | .none => "NoneType"
theorem JS(K:Frag):∀g t:Ty,PySem.W.kitOne K (.type (wJ g)) (.type (wJ t))=some (decide (g=t)||(decide (g=.bool)&&decide (t=.int))):=by
 intro g t;cases g<;>cases t<;>kernel_rfl
theorem OD{K:Frag}{ads:List Addr}{H:Hp}{M:aj}{w:W}{v:V}{g:Ty}(m:aX K ads H M)(r:RW K ads H w v)(e:Ob M w=some g):l9 K H v (.type (wJ g)):=by
 cases w with
 | lv ds=>cases e;obtain⟨a,xs,rfl,h,_⟩:=r;exact .lst h
 | d x =>
  cases x with
  | aP=>cases e;rw[pK r];exact .aP
  | bl b=>cases e;rw[jP r];exact .bl b
  | int b=>cases e;rw[a8 r];exact .int b
  | str b=>cases e;rw[fk r];exact .str b
  | ls b=>cases e
  | tup b=>cases e;have r:RD K ads H (.tup b) v:=r;unfold RD at r;obtain⟨a,xs,rfl,h,_⟩:=r;exact .tup h
  | ai n =>
   have r:RD K ads H (.ai n) v:=r;unfold RD at r;obtain⟨a,rfl,ea⟩:=r;simp only[Ob]at e
   cases q:M[n]? with
   | none=>rw[q]at e;cases e
   | some o =>
    rw[q]at e;have ho:=m.obj n o a q ea
    cases o with
    | lst es=>cases e;obtain⟨xs,h,_⟩:=ho;exact .lst h
    | jC es=>cases e;obtain⟨o,xs,h,_⟩:=ho;exact .dP h
    | dK es=>cases e;obtain⟨xs,h,_⟩:=ho;exact .dK h
    | dT es=>cases e;obtain⟨xs,h,_⟩:=ho;exact .dT h
    | dF es=>cases e
theorem OE(t:Ty):dX X (.builtin "isinstance") (λvs H Q=>∃v,vs=[v,.ty (wJ t)]/\Fw X.K (.CK t) [v] H Q):=by
 sleep 12;obtain⟨v,rfl,ads,M,ws,m,rw,h⟩:=h;obtain⟨u,u2,rfl,r1,r2⟩:=vals2 r;rcases ws with _|⟨w,_|⟨w2,ws⟩⟩
 ·exact h.elim
 ·obtain⟨v',e,rv⟩:=rw.one;cases e;unfold mZ at h;dsimp only at h;split at h
  ·rename_i g q
   have e2:u2=Value.type (wJ t):=r2;subst e2;exact Ca I r1 (OD m rv q) (JS X.K g t) λtk=>⟨.bl _,H,I.tok tk,rfl,h.plain m (kS _)⟩
  ·exact h.elim
 ·obtain⟨_,_,e,_,_,_,e2,_⟩:=rw;cases e;cases e2
end
section
variable {X:Cx}
def Tu(K:Frag)(me:Me):V->List V->Hp->VK->Prop:=λx vs H Q=>∃ads M wx ds,aX K ads H M/\RW K ads H wx x/\aS K ads H ds vs/\df K ads H Q (tN me wx ds M)
theorem aS.JT{K:Frag}{ads:List Addr}{H:Hp}{d:D}{vs:List V}(r:aS K ads H [d] vs):∃v,vs=[v]/\RD K ads H d v:=by
 unfold aS at r;obtain⟨v,r',rfl,h,h2⟩:=r;unfold aS at h2;subst h2;exact⟨v,rfl,h⟩
theorem aS.YZ{K:Frag}{ads:List Addr}{H:Hp}{d e:D}{vs:List V}(r:aS K ads H [d,e] vs):∃v w,vs=[v,w]/\RD K ads H d v/\RD K ads H e w:=by
 unfold aS at r;obtain⟨v,r',rfl,h,h2⟩:=r;obtain⟨w,rfl,h3⟩:=h2.JT;exact⟨v,w,rfl,h,h3⟩
theorem df.wrote{K:Frag}{ads:List Addr}{H:Hp}{M:aj}{n:Nat}{a:Addr}{ds es:List D}{ys:List V}{x:D}{Q:VK}{v:V}(h:df K ads H Q (.ok (.d x) (M.set n (.lst es))))(m:aX K ads H M)(q:M[n]?=some (.lst ds))(ea:ads[n]?=some a)(ha:∃xs,H a=some (.lst xs))(ry:aS K ads H es ys)(rx:RD K ads (upd H a (.lst ys)) x v):Q v (upd H a (.lst ys)):=by
 obtain⟨xs,ha⟩:=ha;have nf:∀o x,H a≠some (.dP o x):=λo x z=>by rw[ha]at z;cases z
 have g:aI ads ads H (upd H a (.lst ys)):=by
  have v9:a∈ads:=cQ ea
  exact⟨⟨[],by simp⟩,λb h n=>absurd h n,λb x nb h=>by rw[az (by intro z;subst z;exact nb v9)];exact h,λb xs h=>by
   rw[az (λz=>by subst z;rw[ha]at h;cases h)];exact h,λb o u h=>by rw[az (λz=>by subst z;exact nf _ _ h)];exact h⟩
 obtain⟨g',m'⟩:=m.write (o:=.lst es) (ho:=.lst ys) q ea nf ⟨ys,a_,g.pz _ _ ry⟩;exact h v _ ads g m' rx
theorem rP:Ra X "list.append" (Tu X.K .append):=by
 sleep 20
 sleep 19;simp only[tN]at h
 cases q:M[n]? with
 | none=>rw[q]at h;exact h.elim
 | some o =>
  rw[q]at h
  cases o with
  | lst es =>
   rcases ds with _|⟨d,_|⟨d2,ds⟩⟩
   ·exact h.elim
   ·dsimp only at h;split at h
    ·rename_i hz
     obtain⟨y,rfl,ry⟩:=r2.JT;obtain⟨xs,ha,rd⟩:=m.obj n _ a q ea;exact rB aa s σ H _ _ v us Q I rx rv ⟨a,xs,y,rfl,rfl,ha,by rw[<- rd.len];exact hz,df.wrote h m q ea ⟨xs,ha⟩ (rd.app (.one ry)) i_⟩
    ·exact h.elim
   ·exact h.elim
  | jC _=>exact h.elim
  | dK _=>exact h.elim
  | dT _=>exact h.elim
  | dF _=>exact h.elim
theorem rQ:Ra X "list.extend" (Tu X.K .extend):=by
 sleep 20
 sleep 19;simp only[tN]at h
 cases q:M[n]? with
 | none=>rw[q]at h;exact h.elim
 | some o =>
  rw[q]at h
  cases o with
  | lst es =>
   rcases ds with _|⟨d,_|⟨d2,ds⟩⟩
   ·exact h.elim
   ·cases d<;>first | exact h.elim | skip
    ·rename_i fs
     dsimp only at h;split at h
     ·rename_i hz
      obtain⟨y,rfl,ry⟩:=r2.JT;unfold RD at ry;obtain⟨b,ys,rfl,hb,Tv⟩:=ry;obtain⟨xs,ha,rd⟩:=m.obj n _ a q ea;exact yH aa s σ H _ _ v us Q I rx rv ⟨a,b,xs,ys,rfl,rfl,ha,fz.of hb,by rw[<- rd.len,<- Tv.len];exact hz,df.wrote h m q ea ⟨xs,ha⟩ (rd.app Tv) i_⟩
     ·exact h.elim
    ·rename_i k
     dsimp only at h
     cases q2:M[k]? with
     | none=>rw[q2]at h;exact h.elim
     | some o2 =>
      rw[q2]at h
      cases o2 with
      | lst fs =>
       dsimp only at h;split at h
       ·rename_i hz
        obtain⟨y,rfl,ry⟩:=r2.JT;unfold RD at ry;obtain⟨b,rfl,eb⟩:=ry;obtain⟨xs,ha,rd⟩:=m.obj n _ a q ea;obtain⟨ys,hb,Tv⟩:=m.obj k _ b q2 eb;exact Cc aa s σ H _ _ v us Q I rx rv ⟨a,b,xs,ys,rfl,rfl,ha,hb,by rw[<- rd.len,<- Tv.len];exact hz,df.wrote h m q ea ⟨xs,ha⟩ (rd.app Tv) i_⟩
       ·exact h.elim
      | jC _=>exact h.elim
      | dK _=>exact h.elim
      | dT _=>exact h.elim
      | dF _=>exact h.elim
   ·cases d<;>exact h.elim
  | jC _=>exact h.elim
  | dK _=>exact h.elim
  | dT _=>exact h.elim
  | dF _=>exact h.elim
theorem Ar{K:Frag}{ads:List Addr}{H:Hp}:∀(is:List Int),aS K ads H (is.map D.int) (is.map V.int)
 | []=>by unfold aS;rfl
 | i::is=>by
  show aS K ads H (D.int i::is.map D.int) (V.int i::is.map V.int);unfold aS;exact⟨_,_,rfl,cK _,Ar is⟩
theorem ints_of{K:Frag}{ads:List Addr}{H:Hp}:∀{ds:List D}{is:List Int}{xs:List V},gm ds=some is->aS K ads H ds xs->xs=is.map V.int
 | [],_,_,e,r=>by cases e;unfold aS at r;exact r
 | d::ds,_,_,e,r=>by
  unfold aS at r;obtain⟨y,r',rfl,h1,h2⟩:=r;cases d<;>first | cases e | skip
  rename_i b
  have e:(gm ds).map (b::·)=some _:=e
  cases q:gm ds with
  | none=>rw[q]at e;cases e
  | some bs =>
   rw[q]at e;cases e;unfold RD at h1;rw[h1,ints_of q h2];rfl
theorem FA{K:Frag}{ads:List Addr}{H:Hp}:∀{ds:List D}{ks:List bN}{xs:List V},pF ds=some ks->aS K ads H ds xs->xs=ks.map kV
 | [],_,_,e,r=>by cases e;unfold aS at r;exact r
 | d::ds,_,_,e,r=>by
  unfold aS at r;obtain⟨y,r',rfl,h1,h2⟩:=r;cases d<;>first | cases e | skip
  all_goals
   rename_i b
   have e:(pF ds).map (_::·)=some _:=e
   cases q:pF ds with
   | none=>rw[q]at e;cases e
   | some bs =>
    rw[q]at e;cases e;unfold RD at h1;rw[h1,FA q h2];rfl
theorem LV{K:Frag}{ads:List Addr}{H:Hp}:∀(ks:List bN),aS K ads H (ks.map kD) (ks.map kV)
 | []=>by unfold aS;rfl
 | k::ks=>by
  show aS K ads H (kD k::ks.map kD) (kV k::ks.map kV);unfold aS;refine⟨_,_,rfl,?_,LV ks⟩
  cases k with
  | inl i=>exact cK _
  | inr x=>exact yM _
theorem As{K:Frag}{ads:List Addr}{H:Hp}{w:W}{v:V}{k:List bN}(r:RW K ads H w v)(e:Fd w=some k):∃b,v=.ref b/\H b=some (.tup (k.map kV)):=by
 rcases w with⟨_|_|_|_ | ds | _|_⟩|_<;>first | cases e | skip
 have r:RD K ads H (.tup ds) v:=r;unfold RD at r;obtain⟨b,xs,rfl,hb,rd⟩:=r;have e:pF ds=some k:=e;exact⟨b,rfl,by rw[<- FA e rd];exact hb⟩
theorem Tw{K:Frag}{ads:List Addr}{H:Hp}{M:aj}{w:W}{v:V}{ag:List (List bN×D)}(m:aX K ads H M)(r:RW K ads H w v)(e:LR M w=some ag):∃a ks,v=.ref a/\Rd H a (.dT ks)/\cq K ads H ag ks:=by
 rcases w with⟨_|_|_|_|_ | n | _⟩|_<;>first | cases e | skip
 have r:RD K ads H (.ai n) v:=r;unfold RD at r;obtain⟨a,rfl,ea⟩:=r;unfold LR at e;dsimp only at e;split at e
 ·rename_i q
  cases e;obtain⟨ks,h,rk⟩:=m.obj n _ a q ea;exact⟨a,ks,rfl,.inl h,rk⟩
 ·rename_i q
  cases e;obtain⟨o,ks,h,rk⟩:=m.obj n _ a q ea;exact⟨a,ks,rfl,.inr ⟨o,h⟩,rk⟩
 ·cases e
theorem OF(h:Rd H a (.dT ks))(hb:H b=some (.tup (k.map kV))):kJ H a (.ref b) (kH ks k):=.inr ⟨ks,k,b,h,rfl,hb,rfl⟩
def JU:V->List V->Hp->VK->Prop:=λx vs H Q=>∃l xs i y,x=.ref l/\vs=[.int i,y]/\H l=some (.lst xs)/\xs.length<sizeLine/\0<=i/\i<=xs.length/\Q .aP (upd H l (.lst (xs.take i.toNat++y::xs.drop i.toNat)))
theorem CT:Ra X "list.insert" JU:=by
 intro aa s σ H x vs v us Q I rx rv h;obtain⟨l,xs,i,y,rfl,rfl,hH,hz,h0,h1,q⟩:=h;cases rx;obtain⟨u,w,rfl,ru,yq⟩:=rv.two;obtain⟨t,rfl⟩:=ru;obtain⟨z,aA,n,r,hl,e⟩:=I.vT hH;have hs:sizeLine=16777216:=BV;refine BY F.slot_list_insert ⟨_,e,rfl⟩ F.entry_list_insert (F.args_list_insert_3 _ _ _) (AutoSeq1.list_insert_list_int_val_1 l aA.toArray n i t w ?_ (by rw[cG];omega)) ⟨e,?_⟩
 ·simp only[Builtin.List.listFitsIndex,kz,Bool.not_eq_false];have:(i:Int)<=16777216:=∅;simp;omega
 ·refine⟨.aP,_,I.IX (its':=aA.take i.toNat++w::aA.drop i.toNat) hH e ?_ ((r.take _).append (.cons yq (r.drop _))) ?_,rfl,q⟩
  ·dsimp only;rw[aq ∅];have hk:min i.toNat aA.toArray.size=i.toNat:=by rw[cG];omega
   rw[hk];apply Array.ext';simp only[Array.toList_append,Array.toList_push,Array.toList_extract,List.extract_eq_take_drop,cG,List.drop_zero,Nat.sub_zero];rw[MG (l:=List.drop i.toNat aA) (by simp)];simp
  ·simp;omega
theorem rR:Ra X "list.insert" (Tu X.K .insert):=by
 sleep 20
 sleep 19;simp only[tN]at h
 cases q:M[n]? with
 | none=>rw[q]at h;exact h.elim
 | some o =>
  rw[q]at h
  cases o with
  | lst es =>
   rcases ds with _|⟨d,_|⟨d2,_|⟨d3,ds⟩⟩⟩
   ·exact h.elim
   ·rcases d with _|_|_|_|_|_<;>exact h.elim
   ·rcases d with _|_ | i | _|_|_<;>first | exact h.elim | skip
    dsimp only at h;split at h
    ·rename_i hz
     obtain⟨vi,y,rfl,ri,ry⟩:=r2.YZ;unfold RD at ri;subst ri;obtain⟨xs,ha,rd⟩:=m.obj n _ a q ea;refine CT aa s σ H _ _ v us Q I rx rv ⟨a,xs,i,y,rfl,rfl,ha,by rw[<- rd.len];exact hz.1,hz.2.1,by rw[<- rd.len];exact hz.2.2,df.wrote h m q ea ⟨xs,ha⟩ ((rd.take _).app ?_) i_⟩;show aS X.K ads H (d2::es.drop i.toNat) (y::xs.drop i.toNat);unfold aS;exact⟨y,_,rfl,ry,rd.drop _⟩
    ·exact h.elim
   ·rcases d with _|_ | i | _|_|_<;>exact h.elim
  | jC _=>exact h.elim
  | dK _=>exact h.elim
  | dT _=>exact h.elim
  | dF _=>exact h.elim
def ig(o i:W)(d:D)(M:aj):cP Unit :=
 match o with
 | .d (.ai n)=>match M[n]? with
  | some (.lst ds)=>match i with
   | .d (.int k)=>match EC ds.length k with
    | some j=>.ok () (M.set n (.lst (ds.set j d)))
    | none=>.ae
   | _=>.ae
  | some (.dK ag)=>match i with
   | .d (.str k)=>if ag.length<sizeLine then .ok () (M.set n (.dK (eM ag (Sum.inr k) d))) else .ae
   | .d (.int k)=>if ag.length<sizeLine then .ok () (M.set n (.dK (eM ag (Sum.inl k) d))) else .ae
   | _=>.ae
  | _=>.ae
 | _=>.ae
noncomputable def Y0(K:Frag)(ads:List Addr)(H:Hp)(Q:Hp->Prop):cP Unit->Prop
 | .ok _ M=>∀H' aE,aI ads aE H H'->aX K aE H' M->Q H'
 | _=>False
def Y1(K:Frag):Np:=λo i v H Q=>∃ads M wo wi d,aX K ads H M/\RW K ads H wo o/\RW K ads H wi i/\RD K ads H d v/\Y0 K ads H Q (ig wo wi d M)
theorem OG(hu:X.A.units+1<cLine):Iz X (Y1 X.K):=by
 intro aa s σ H o i v ov iv u Q I ro ri rv h;obtain⟨ads,M,wo,wi,d,m,r1,r2,r3,h⟩:=h;rcases wo with⟨_|_|_|_|_ | n⟩|_<;>first | exact h.elim | skip
 have r1:RD X.K ads H (.ai n) o:=r1;sleep 24;simp only[ig]at h
 cases q:M[n]? with
 | none=>rw[q]at h;exact h.elim
 | some ob =>
  rw[q]at h;have v9:a∈ads:=cQ ea
  cases ob with
  | lst ds =>
   rcases wi with⟨_|_ | k | _|_|_⟩|_<;>first | exact h.elim | skip
   have ei:=a8 r2;subst ei;dsimp only at h
   cases q2:EC ds.length k with
   | none=>rw[q2]at h;exact h.elim
   | some j =>
    rw[q2]at h;obtain⟨xs,ha,rd⟩:=m.obj n _ a q ea;refine ED aa s σ H _ _ v ov iv u Q I ro ri rv ⟨a,xs,k,j,rfl,rfl,ha,by rw[<- rd.len];exact q2,?_⟩;have nf:∀o x,H a≠some (.dP o x):=λo x z=>by rw[ha]at z;cases z
    have hg:aI ads ads H (upd H a (.lst (xs.set j v))):=⟨⟨[],by simp⟩,λb h n=>absurd h n,λb x nb h=>by rw[az (by intro z;subst z;exact nb v9)];exact h,λb xs h=>by
     rw[az (λz=>by subst z;rw[ha]at h;cases h)];exact h,λb o u h=>by rw[az (λz=>by subst z;exact nf _ _ h)];exact h⟩
    obtain⟨g',m'⟩:=m.write (o:=.lst (ds.set j d)) (ho:=.lst (xs.set j v)) q ea nf ⟨_,a_,hg.pz _ _ (rd.setAt j r3)⟩;exact h _ ads hg m'
  | dK ag =>
   obtain⟨ks,ha,rk⟩:=m.obj n _ a q ea;have nf:∀o x,H a≠some (.dP o x):=λo x z=>by rw[ha]at z;cases z
   have put:∀(k:bN),i=kV k->ag.length<sizeLine->Y0 X.K ads H Q (.ok () (M.set n (.dK (eM ag k d))))->wpAny (model X.prog X.w) X.A (setItem ov iv u) (λ_ s'=>∃H',Inv X aa σ H' s'/\Q H') X.xe s:=by
    intro k ek hz h;subst ek;cases ro;refine rq hu I (yp.k (k:=k) ha (by rw[<- rk.len];exact hz)) ri rv λs' I'=>⟨_,I',?_⟩
    have hg:aI ads ads H (upd H a (.dK (eC ks k v))):=⟨⟨[],by simp⟩,λb h n=>absurd h n,λb x nb h=>by rw[az (by intro z;subst z;exact nb v9)];exact h,λb xs h=>by
     rw[az (λz=>by subst z;rw[ha]at h;cases h)];exact h,λb o u h=>by rw[az (λz=>by subst z;exact nf _ _ h)];exact h⟩
    obtain⟨g',m'⟩:=m.write (o:=.dK (eM ag k d)) (ho:=.dK (eC ks k v)) q ea nf ⟨_,a_,hg.yI _ _ (rk.put r3)⟩;exact h _ ads hg m'
   rcases wi with⟨_|_ | k | k | _|_⟩|_<;>first | exact h.elim | skip
   ·have ei:=a8 r2;subst ei;dsimp only at h;split at h
    ·rename_i hz
     exact put (Sum.inl k) rfl hz h
    ·exact h.elim
   ·have ei:=fk r2;subst ei;dsimp only at h;split at h
    ·rename_i hz
     exact put (Sum.inr k) rfl hz h
    ·exact h.elim
  | jC _=>exact h.elim
  | dT _=>exact h.elim
  | dF _=>exact h.elim
def Tz(K:Frag):V->V->V->Hp->(Hp->Prop)->Prop:=λo i v H Q=>∃ads M wo wi d,aX K ads H M/\RW K ads H wo o/\RW K ads H wi i/\RD K ads H d v/\Y0 K ads H Q (iE wo wi d M)
theorem JV(hu:X.A.units+1<cLine):Iz X (Tz X.K):=by
 intro aa s σ H o i v ov iv u Q I ro ri rv h;obtain⟨ads,M,wo,wi,d,m,r1,r2,r3,h⟩:=h;rcases wo with⟨_|_|_|_|_ | n⟩|_<;>first | exact h.elim | skip
 have r1:RD X.K ads H (.ai n) o:=r1;sleep 24;have v9:a∈ads:=cQ ea;unfold iE at h;dsimp only at h;split at h
 ·rename_i ag k q qk
  split at h
  ·rename_i hz
   obtain⟨ks,ha,rk⟩:=m.obj n _ a q ea;have nf:∀o x,H a≠some (.dP o x):=λo x z=>by rw[ha]at z;cases z
   obtain⟨b,rfl,hb⟩:=As r2 qk;cases ro;refine rq hu I (yp.t (k:=k) ha hb (by rw[<- rk.len];exact hz)) ri rv λs' I'=>⟨_,I',?_⟩
   have hg:aI ads ads H (upd H a (.dT (eC ks k v))):=⟨⟨[],by simp⟩,λb h n=>absurd h n,λb x nb h=>by rw[az (by intro z;subst z;exact nb v9)];exact h,λb xs h=>by
    rw[az (λz=>by subst z;rw[ha]at h;cases h)];exact h,λb o u h=>by rw[az (λz=>by subst z;exact nf _ _ h)];exact h⟩
   obtain⟨g',m'⟩:=m.write (o:=.dT (eM ag k d)) (ho:=.dT (eC ks k v)) q ea nf ⟨_,a_,hg.yI _ _ (rk.put r3)⟩;exact h _ ads hg m'
  ·exact h.elim
 ·exact h.elim
end
structure CC where
 N:List Str
 names:List (Str×NameKind)
 fs:List (Str×Nat)
 gs:List (Str×Int)
noncomputable def Rj(cc:CC)(x:Str):Bool:=match cc.names.lookup x with
 | some .local=>true
 | some .cell=>true
 | some .free=>true
 | _=>false
noncomputable def glob(cc:CC)(x:Str):Bool:=match cc.names.lookup x with
 | some .globalImplicit=>true
 | _=>false
noncomputable def d_(x:Str):Bool:=!(x==("__debug__" : Str)) && !(x==("__classdict__" : Str)) && !(x==("__name__" : Str))
theorem cu{p:Prop}[d:Decidable p]{f:p->Bool}(h:(if h:p then f h else false)=true):p:=by
 cases d with
 | isTrue q=>exact q
 | isFalse q=>rw[dif_neg q]at h;exact absurd h aQ
noncomputable def gV(e:Expr)(f:BoolOp->List Expr->Pos->Bool):Bool:=if h:e.ctorIdx=0 then Expr.BoolOp.elim (motive_1:=λ_=>Bool) e h f else false
theorem gu{P:Expr->Prop}{e:Expr}{f:BoolOp->List Expr->Pos->Bool}(h:gV e f=true)(k:∀a b c,f a b c=true->P (.BoolOp a b c)):P e :=
 Expr.BoolOp.elim (motive_1:=λe=>gV e f=true->P e) e (cu h) (λa b c h=>k a b c h) h
noncomputable def tR(e:Expr)(f:Expr->Operator->Expr->Pos->Bool):Bool:=if h:e.ctorIdx=2 then Expr.BinOp.elim (motive_1:=λ_=>Bool) e h f else false
theorem yO{P:Expr->Prop}{e:Expr}{f:Expr->Operator->Expr->Pos->Bool}(h:tR e f=true)(k:∀a b c d,f a b c d=true->P (.BinOp a b c d)):P e :=
 Expr.BinOp.elim (motive_1:=λe=>tR e f=true->P e) e (cu h) (λa b c d h=>k a b c d h) h
noncomputable def fL(e:Expr)(f:UnaryOp->Expr->Pos->Bool):Bool:=if h:e.ctorIdx=3 then Expr.UnaryOp.elim (motive_1:=λ_=>Bool) e h f else false
theorem fF{P:Expr->Prop}{e:Expr}{f:UnaryOp->Expr->Pos->Bool}(h:fL e f=true)(k:∀a b c,f a b c=true->P (.UnaryOp a b c)):P e :=
 Expr.UnaryOp.elim (motive_1:=λe=>fL e f=true->P e) e (cu h) (λa b c h=>k a b c h) h
noncomputable def tS(e:Expr)(f:Expr->Expr->Expr->Pos->Bool):Bool:=if h:e.ctorIdx=5 then Expr.IfExp.elim (motive_1:=λ_=>Bool) e h f else false
theorem yP{P:Expr->Prop}{e:Expr}{f:Expr->Expr->Expr->Pos->Bool}(h:tS e f=true)(k:∀a b c d,f a b c d=true->P (.IfExp a b c d)):P e :=
 Expr.IfExp.elim (motive_1:=λe=>tS e f=true->P e) e (cu h) (λa b c d h=>k a b c d h) h
noncomputable def tT(e:Expr)(f:List (Option Expr)->List Expr->Pos->Bool):Bool:=if h:e.ctorIdx=6 then Expr.Dict.elim (motive_1:=λ_=>Bool) e h f else false
theorem rS{P:Expr->Prop}{e:Expr}{f:List (Option Expr)->List Expr->Pos->Bool}(h:tT e f=true)(k:∀a b c,f a b c=true->P (.Dict a b c)):P e :=
 Expr.Dict.elim (motive_1:=λe=>tT e f=true->P e) e (cu h) (λa b c h=>k a b c h) h
noncomputable def ik(e:Expr)(f:Expr->List Comprehension->Scope->Pos->Bool):Bool:=if h:e.ctorIdx=8 then Expr.ListComp.elim (motive_1:=λ_=>Bool) e h f else false
theorem jQ{P:Expr->Prop}{e:Expr}{f:Expr->List Comprehension->Scope->Pos->Bool}(h:ik e f=true)(k:∀a b c d,f a b c d=true->P (.ListComp a b c d)):P e :=
 Expr.ListComp.elim (motive_1:=λe=>ik e f=true->P e) e (cu h) (λa b c d h=>k a b c d h) h
noncomputable def gW(e:Expr)(f:Expr->List CmpOp->List Expr->Pos->Bool):Bool:=if h:e.ctorIdx=15 then Expr.Compare.elim (motive_1:=λ_=>Bool) e h f else false
theorem il{P:Expr->Prop}{e:Expr}{f:Expr->List CmpOp->List Expr->Pos->Bool}(h:gW e f=true)(k:∀a b c d,f a b c d=true->P (.Compare a b c d)):P e :=
 Expr.Compare.elim (motive_1:=λe=>gW e f=true->P e) e (cu h) (λa b c d h=>k a b c d h) h
noncomputable def eT(e:Expr)(f:Expr->List Expr->List Keyword->Pos->Bool):Bool:=if h:e.ctorIdx=16 then Expr.Call.elim (motive_1:=λ_=>Bool) e h f else false
theorem dh{P:Expr->Prop}{e:Expr}{f:Expr->List Expr->List Keyword->Pos->Bool}(h:eT e f=true)(k:∀a b c d,f a b c d=true->P (.Call a b c d)):P e :=
 Expr.Call.elim (motive_1:=λe=>eT e f=true->P e) e (cu h) (λa b c d h=>k a b c d h) h
noncomputable def cX(e:Expr)(f:Const->Nat->Pos->Bool):Bool:=if h:e.ctorIdx=19 then Expr.Constant.elim (motive_1:=λ_=>Bool) e h f else false
theorem cE{P:Expr->Prop}{e:Expr}{f:Const->Nat->Pos->Bool}(h:cX e f=true)(k:∀a b c,f a b c=true->P (.Constant a b c)):P e :=
 Expr.Constant.elim (motive_1:=λe=>cX e f=true->P e) e (cu h) (λa b c h=>k a b c h) h
noncomputable def gz(e:Expr)(f:Expr->Str->Pos->Bool):Bool:=if h:e.ctorIdx=20 then Expr.Attribute.elim (motive_1:=λ_=>Bool) e h f else false
theorem ja{P:Expr->Prop}{e:Expr}{f:Expr->Str->Pos->Bool}(h:gz e f=true)(k:∀a b c,f a b c=true->P (.Attribute a b c)):P e :=
 Expr.Attribute.elim (motive_1:=λe=>gz e f=true->P e) e (cu h) (λa b c h=>k a b c h) h
noncomputable def cS(e:Expr)(f:Expr->Expr->Pos->Bool):Bool:=if h:e.ctorIdx=21 then Expr.Subscript.elim (motive_1:=λ_=>Bool) e h f else false
theorem cL{P:Expr->Prop}{e:Expr}{f:Expr->Expr->Pos->Bool}(h:cS e f=true)(k:∀a b c,f a b c=true->P (.Subscript a b c)):P e :=
 Expr.Subscript.elim (motive_1:=λe=>cS e f=true->P e) e (cu h) (λa b c h=>k a b c h) h
noncomputable def dR(e:Expr)(f:Str->Pos->Bool):Bool:=if h:e.ctorIdx=23 then Expr.Name.elim (motive_1:=λ_=>Bool) e h f else false
theorem bR{P:Expr->Prop}{e:Expr}{f:Str->Pos->Bool}(h:dR e f=true)(k:∀a b,f a b=true->P (.Name a b)):P e :=
 Expr.Name.elim (motive_1:=λe=>dR e f=true->P e) e (cu h) (λa b h=>k a b h) h
noncomputable def yQ(e:Expr)(f:List Expr->Pos->Bool):Bool:=if h:e.ctorIdx=24 then Expr.List.elim (motive_1:=λ_=>Bool) e h f else false
theorem CU{P:Expr->Prop}{e:Expr}{f:List Expr->Pos->Bool}(h:yQ e f=true)(k:∀a b,f a b=true->P (.List a b)):P e :=
 Expr.List.elim (motive_1:=λe=>yQ e f=true->P e) e (cu h) (λa b h=>k a b h) h
noncomputable def nX(e:Expr)(f:List Expr->Nat->Pos->Bool):Bool:=if h:e.ctorIdx=25 then Expr.Tuple.elim (motive_1:=λ_=>Bool) e h f else false
theorem j9{P:Expr->Prop}{e:Expr}{f:List Expr->Nat->Pos->Bool}(h:nX e f=true)(k:∀a b c,f a b c=true->P (.Tuple a b c)):P e :=
 Expr.Tuple.elim (motive_1:=λe=>nX e f=true->P e) e (cu h) (λa b c h=>k a b c h) h
noncomputable def nY(e:Expr)(f:Option Expr->Option Expr->Option Expr->Pos->Bool):Bool:=if h:e.ctorIdx=26 then Expr.Slice.elim (motive_1:=λ_=>Bool) e h f else false
theorem pM{P:Expr->Prop}{e:Expr}{f:Option Expr->Option Expr->Option Expr->Pos->Bool}(h:nY e f=true)(k:∀a b c d,f a b c d=true->P (.Slice a b c d)):P e :=
 Expr.Slice.elim (motive_1:=λe=>nY e f=true->P e) e (cu h) (λa b c d h=>k a b c d h) h
noncomputable def kT(e:Stmt)(f:Option Expr->Pos->Bool):Bool:=if h:e.ctorIdx=3 then Stmt.Return.elim (motive_2:=λ_=>Bool) e h f else false
theorem ni{P:Stmt->Prop}{e:Stmt}{f:Option Expr->Pos->Bool}(h:kT e f=true)(k:∀a b,f a b=true->P (.Return a b)):P e :=
 Stmt.Return.elim (motive_2:=λe=>kT e f=true->P e) e (cu h) (λa b h=>k a b h) h
noncomputable def gX(e:Stmt)(f:List Expr->Expr->Pos->Bool):Bool:=if h:e.ctorIdx=5 then Stmt.Assign.elim (motive_2:=λ_=>Bool) e h f else false
theorem gA{P:Stmt->Prop}{e:Stmt}{f:List Expr->Expr->Pos->Bool}(h:gX e f=true)(k:∀a b c,f a b c=true->P (.Assign a b c)):P e :=
 Stmt.Assign.elim (motive_2:=λe=>gX e f=true->P e) e (cu h) (λa b c h=>k a b c h) h
noncomputable def FC(e:Stmt)(f:Expr->Expr->List Stmt->List Stmt->Pos->Bool):Bool:=if h:e.ctorIdx=9 then Stmt.For.elim (motive_2:=λ_=>Bool) e h f else false
theorem FD{P:Stmt->Prop}{e:Stmt}{f:Expr->Expr->List Stmt->List Stmt->Pos->Bool}(h:FC e f=true)(k:∀a b c d e,f a b c d e=true->P (.For a b c d e)):P e :=
 Stmt.For.elim (motive_2:=λe=>FC e f=true->P e) e (cu h) (λa b c d e h=>k a b c d e h) h
noncomputable def OH(e:Stmt)(f:Expr->List Stmt->List Stmt->Pos->Bool):Bool:=if h:e.ctorIdx=12 then Stmt.If.elim (motive_2:=λ_=>Bool) e h f else false
theorem JW{P:Stmt->Prop}{e:Stmt}{f:Expr->List Stmt->List Stmt->Pos->Bool}(h:OH e f=true)(k:∀a b c d,f a b c d=true->P (.If a b c d)):P e :=
 Stmt.If.elim (motive_2:=λe=>OH e f=true->P e) e (cu h) (λa b c d h=>k a b c d h) h
noncomputable def yR(e:Stmt)(f:Expr->Pos->Bool):Bool:=if h:e.ctorIdx=24 then Stmt.Expr.elim (motive_2:=λ_=>Bool) e h f else false
theorem CV{P:Stmt->Prop}{e:Stmt}{f:Expr->Pos->Bool}(h:yR e f=true)(k:∀a b,f a b=true->P (.Expr a b)):P e :=
 Stmt.Expr.elim (motive_2:=λe=>yR e f=true->P e) e (cu h) (λa b h=>k a b h) h
noncomputable def yS(e:Stmt)(f:Pos->Bool):Bool:=if h:e.ctorIdx=25 then Stmt.Pass.elim (motive_2:=λ_=>Bool) e h f else false
theorem CW{P:Stmt->Prop}{e:Stmt}{f:Pos->Bool}(h:yS e f=true)(k:∀a,f a=true->P (.Pass a)):P e :=
 Stmt.Pass.elim (motive_2:=λe=>yS e f=true->P e) e (cu h) (λa h=>k a h) h
noncomputable def tU(e:Stmt)(f:Pos->Bool):Bool:=if h:e.ctorIdx=26 then Stmt.Break.elim (motive_2:=λ_=>Bool) e h f else false
theorem yT{P:Stmt->Prop}{e:Stmt}{f:Pos->Bool}(h:tU e f=true)(k:∀a,f a=true->P (.Break a)):P e :=
 Stmt.Break.elim (motive_2:=λe=>tU e f=true->P e) e (cu h) (λa h=>k a h) h
noncomputable def j_(e:Stmt)(f:Pos->Bool):Bool:=if h:e.ctorIdx=27 then Stmt.Continue.elim (motive_2:=λ_=>Bool) e h f else false
theorem qT{P:Stmt->Prop}{e:Stmt}{f:Pos->Bool}(h:j_ e f=true)(k:∀a,f a=true->P (.Continue a)):P e :=
 Stmt.Continue.elim (motive_2:=λe=>j_ e f=true->P e) e (cu h) (λa h=>k a h) h
def isInt(k:Int):Const->Bool
 | .int j=>k==j
 | _=>false
def JX:Const->Bool
 | .none=>true
 | _=>false
def isNone(e:Expr):Bool:=cX e λc _ _=>JX c
def JY:Const->Bool
 | .bool true=>true
 | _=>false
def tV(e:Expr):Bool:=cX e λc _ _=>JY c
def Au:BoolOp->Bool
 | .And=>true
 | .Or=>false
def FE:UnaryOp->Bool
 | .USub=>true
 | _=>false
def LW:UnaryOp->Bool
 | .Not=>true
 | _=>false
def fG(e:Expr):Bool:=!Nat.beq e.ctorIdx 26
noncomputable def jo(e:Expr):Bool:=[23,16,21,24,25,19,2].contains e.ctorIdx
def jb(e:Expr):Bool:=!(eT e λf as ks _=>Nat.beq f.ctorIdx 23&&as.isEmpty&&ks.isEmpty)
def aN(e:Expr):Bool:=!Nat.beq e.ctorIdx 22
noncomputable def FF:Bi->Str
 | .len => "len" | .max2 => "max" | .min2 => "min" | .wB => "int" | .list1 => "list" | .tuple1 => "tuple" | .Ai => "repr" | .CK _ => "isinstance" | .all1 => "all" | .CL => "any" | .rL => "dict" | .min1 => "min" | .CM => "max" | .Aj => "sorted"
noncomputable def FG:Me->Str
 | .append => "append" | .insert => "insert" | .reverse => "reverse" | .extend => "extend" | .remove => "remove" | .clear => "clear" | .pop => "pop"
noncomputable def cC:List Str:=["len","max","min","int","list","tuple","repr","isinstance","all","any","bool","str","dict","range","enumerate","zip","sorted","set"]
noncomputable def TB:Me->Bool
 | .append=>true | .insert=>true | .reverse=>false | .extend=>true | .remove=>false | .clear=>false | .pop=>false
noncomputable def OI:Bi->Bool
 | .all1=>false
 | .min1=>false
 | .Ai=>false
 | .Aj=>false
 | .CK _=>false
 | _=>true
def isStr(k:Str):Const->Bool
 | .str s=>k==s
 | _=>false
def kU:List Str->List (Option Expr)->Bool
 | [],[]=>true
 | k::ks,some e::es=>(cX e λc _ _=>isStr k c)&&kU ks es
 | _,_=>false
noncomputable def fS(sc:Scope):List Str:=(sc.names.filter λy=>y.2 == .local||y.2 == .free||y.2 == .cell).map (·.1)
def pN(cc:CC)(sc:Scope):List (Option Nat):=(fS sc).map λx=>if sc.names.lookup x==some .free then cc.N.findIdx? (· == x) else none
def tW(cc:CC)(sc:Scope):CC:=⟨fS sc,sc.names,cc.fs,cc.gs⟩
def wK(cc:CC)(sc:Scope):Bool:=sc.kind == .function&&sc.names.all (λy=>y.2 != .cell||sc.names.lookup y.1==some .cell)&&sc.names.all (λy=>y.2 != .local||sc.names.lookup y.1==some .local)&&decide (fS sc).Nodup &&
 sc.names.all (λy=>y.2 != .free||(sc.names.lookup y.1==some .free&&(cc.names.lookup y.1==some .cell||cc.names.lookup y.1==some .free)))
def kW(cc:CC):List Nat->List Expr->Bool
 | [],[]=>true
 | i::tg,e::es=>(dR e λx _=>cc.N[i]? == some x&&(cc.names.lookup x==some .local||cc.names.lookup x==some .cell))&&kW cc tg es
 | _,_=>false
def jR(cc:CC)(tg:List Nat)(e:Expr):Bool:=match tg with
 | []=>false
 | [i]=>kW cc [i] [e]
 | i::j::r=>nX e λes _ _=>kW cc (i::j::r) es&&decide ((i::j::r).length<20)
def jq(e:Expr):Bool:=Nat.beq e.ctorIdx 25
def dm(e:Expr):Bool:=!Nat.beq e.ctorIdx 7
noncomputable def Y2:D->Const->Bool
 | .int i,.int j=>i==j
 | .bl i,.bool j=>i==j
 | .str i,.str j=>i==j
 | .aP,.none=>true
 | _,_=>false
noncomputable def OJ:D->Const->Bool
 | .int i,.int j=>i == -j
 | _,_=>false
def FH(d:D)(e:Expr):Bool:=(cX e λc _ _=>Y2 d c)||fL e λop x _=>FE op&&cX x λc _ _=>OJ d c
def FI:Bi->Option Ty
 | .CK t=>some t
 | _=>none
theorem yU(h:FI b=some t):b=.CK t:=by
 cases b<;>first | (cases h;rfl) | cases h
mutual
noncomputable def cg(cc:CC):C->Expr->Bool
 | .eX i,e=>dR e λx _=>cc.N[i]? == some x&&Rj cc x&&d_ x
 | .bw d,e=>FH d e
 | .bin op a b,e=>tR e λl o r _=>o==JL op&&cg cc a l&&cg cc b r
 | .cmp op a b,e=>gW e λl os rs _=>match os,rs with
  | [o],[r]=>o==Oq op && !behindInMarks o r&&(if op=.tM\/op=.eL then isNone r else true)&&cg cc a l&&cg cc b r
  | _,_=>false
 | .chain o1 o2 a b c,e=>gW e λl os rs _=>match os,rs with
  | [p,q],[m,r]=>p==Oq o1&&q==Oq o2 && !lastMarks [p,q] [m,r] && !(decide (o1=.tM)||decide (o1=.eL)||decide (o2=.tM)||decide (o2=.eL))&&cg cc a l&&cg cc b m&&cg cc c r
  | _,_=>false
 | .dv cs,e=>gV e λop es _=>Au op&&cY cc cs es && !es.isEmpty
 | .fZ cs,e=>gV e λop es _=>!Au op&&cY cc cs es && !es.isEmpty
 | .neg a,e=>fL e λop x _=>LW op&&cg cc a x
 | .ite t a b,e=>tS e λc x y _=>mH cc t c&&cg cc a x&&cg cc b y
 | .tup cs,e=>nX e λes _ _=>cY cc cs es
 | .lst cs,e=>yQ e λes _=>cY cc cs es
 | .sub a b,e=>cS e λe i _=>fG i&&cg cc a e&&cg cc b i
 | .xV a lo hi,e=>cS e λe i _=>nY i λl h st _=>st.isNone&&cg cc a e&&OK cc lo l&&OK cc hi h
 | .Du a k,e=>cS e λe i _=>nY i λl h st _=>match l,h,st with
  | none,none,some ke=>((cX ke λc _ _=>isInt k c)||fL ke λop x _=>FE op&&cX x λc _ _=>isInt (-k) c)&&cg cc a e
  | _,_,_=>false
 | .call f cs,e=>eT e λfe args fH _=>dR fe λx _=>match args,fH with
  | e::es,[]=>cc.fs[f]? == some (x,cs.length)&&glob cc x&&d_ x&&cY cc cs (e::es)
  | _,_=>false
 | .bi b cs,e=>eT e λfe args fH _=>dR fe λx _=>fH.isEmpty&&x==FF b&&glob cc x&&match FI b,args with
  | some t,[e,f]=>(dR f λy _=>y==Str.ofString (wJ t)&&glob cc y&&decide (t≠.none))&&cY cc cs [e]
  | none,e::es=>OI b&&cY cc cs (e::es)
  | _,_=>false
 | .me m o cs,e=>eT e λfe es fH cp=>gz fe λe n ap=>fH.isEmpty&&n==FG m&&TB m&&ap.endLine==cp.line&&jb e&&cg cc o e&&cY cc cs es&&decide (es.length<20)
 | .v8 ks cs,e=>tT e λkeys vs _=>(kU ks keys&&decide ks.Nodup && !keys.isEmpty&&decide (keys.length<=15)&&cY cc cs vs&&decide (ks.length=cs.length))||(ks.isEmpty&&cs.isEmpty&&keys.isEmpty&&vs.isEmpty)
 | .lX tp cs,e=>false
 | .JC x v,e=>dR e λy _=>y==x&&glob cc x&&d_ x&&cc.gs.lookup x==some v
 | .ie ng a,e=>gW e λl os rs _=>match os,rs with
  | [o],[r]=>o==(if ng=true then CmpOp.IsNot else CmpOp.Is) && !behindInMarks o r&&tV r&&cg cc a l
  | _,_=>false
 | .pA,e=>tT e λkeys vs _=>keys.isEmpty&&vs.isEmpty
 | .kQ a b,e=>cS e λe i _=>fG i&&cg cc a e&&cg cc b i
 | .sset a,e=>eT e λfe args fH _=>dR fe λx _=>match args,fH with
  | [i],[]=>eT i λf2 Av JZ _=>dR f2 λy _=>match Av,JZ with
   | [b],[]=>x == "sorted" && y == "set" && glob cc x&&glob cc y&&aN b&&cg cc a b
   | _,_=>false
  | _,_=>false
 | .comp k d8 tg cond elt dE,e=>ik e λel gens sc _=>match gens with
  | [⟨t,aJ,ifs,as⟩]=>as==0&&wK cc sc&&decide (dE=pN cc sc)&&tX cc k d8 t aJ&&jR (tW cc sc) tg t&&J0 (tW cc sc) cond ifs&&cg (tW cc sc) elt el
  | _=>false
noncomputable def J0(cc:CC):Option fX->List Expr->Bool
 | none,[]=>true
 | some t,[e]=>mH cc t e
 | _,_=>false
noncomputable def tX(cc:CC):SK->List C->Expr->Expr->Bool
 | .seq,[c],_,e=>dm e&&cg cc c e
 | .eR,[c],_,e=>eT e λfe args fH _=>dR fe λx _=>match args,fH with
  | [a],[]=>x == "range" && glob cc x&&aN a&&cg cc c a
  | _,_=>false
 | .qP,[c,d],_,e=>eT e λfe args fH _=>dR fe λx _=>match args,fH with
  | [a,b],[]=>x == "range" && glob cc x&&aN a&&aN b&&cg cc c a&&cg cc d b
  | _,_=>false
 | .enum,[c],t,e=>eT e λfe args fH _=>dR fe λx _=>match args,fH with
  | [a],[]=>x == "enumerate" && jq t&&glob cc x&&aN a&&cg cc c a
  | _,_=>false
 | .keys,[c],_,e=>dm e&&cg cc c e
 | .vals,[c],_,e=>eT e λfe args fH cp=>gz fe λe n ap=>match args,fH with
  | [],[]=>n == "values" && ap.endLine==cp.line&&jb e&&cg cc c e
  | _,_=>false
 | .zip,[c,d],t,e=>eT e λfe args fH _=>dR fe λx _=>match args,fH with
  | [a,b],[]=>x == "zip" && glob cc x&&aN a&&aN b&&cg cc c a&&cg cc d b
  | _,_=>false
 | _,_,_,_=>false
noncomputable def mH(cc:CC):fX->Expr->Bool
 | .dv ts,e=>gV e λop es _=>Au op&&pO cc ts es && !es.isEmpty
 | .fZ ts,e=>gV e λop es _=>!Au op&&pO cc ts es && !es.isEmpty
 | .neg a,e=>fL e λop x _=>LW op&&mH cc a x
 | .val (.cmp op a b),e=>cg cc (.cmp op a b) e
 | .val (.chain o1 o2 a b c),e=>cg cc (.chain o1 o2 a b c) e
 | .val (.ie ng a),e=>cg cc (.ie ng a) e
 | .val c,e=>jo e&&cg cc c e
noncomputable def pO(cc:CC):List fX->List Expr->Bool
 | [],[]=>true
 | c::cs,e::es=>mH cc c e&&pO cc cs es
 | _,_=>false
noncomputable def cY(cc:CC):List C->List Expr->Bool
 | [],[]=>true
 | c::cs,e::es=>aN e&&cg cc c e&&cY cc cs es
 | _,_=>false
noncomputable def OK(cc:CC):Option C->Option Expr->Bool
 | none,none=>true
 | some c,some e=>cg cc c e
 | _,_=>false
end
noncomputable def OL(X:Cx)(x:Str):NameKind->Prop
 | .local=>X.env.kindOf x=some .local
 | .cell=>X.env.kindOf x=some .cell
 | .free=>X.env.kindOf x=some .cell\/X.env.kindOf x=some .free
 | .globalImplicit=>X.env.kindOf x=some .globalImplicit
 | _=>True
def J1(K:Frag)(n:Nat)(F:List D->aj->cP W):Sp:=λvs H Q _=>∃ads M ds,aX K ads H M/\aS K ads H ds vs/\ds.length=n/\df K ads H Q (F ds M)
structure Good (kk:Nat) (X:Cx) (cc:CC) (G:dQ):Prop where
 calm:X.calm=true
 room:jB kk X.A
 N:X.N=cc.N
 nd:cc.N.Nodup
 kinds:∀x k,cc.names.lookup x=some k->OL X x k
 fnc:∀x,cc.names.lookup x=some .cell->X.fn x=true
 blt:∀b∈cC,X.mg b=none
 gls:∀(x:Str)(v:Int),cc.gs.lookup x=some v->∃t,X.mg x=some (.int v t)
 fns:∀(i:Nat)(x:Str)(n:Nat),cc.fs[i]?=some (x,n)->∃f fd ps,iW X.prog X.w X.K X.mg X.base Cf kk f fd ps (J1 X.K n (G i))/\X.mg x=some (.ref f)/\PySem.W.keepIn X.K (.ref f)=true/\Binds X.K fd ps []
section
variable {kk:Nat} {X:Cx} {cc:CC} {G:dQ}
theorem Good.Rj(g:Good kk X cc G){x:Str}(h:Rj cc x=true):VO X.env.scope x:=by
 unfold Ev.Rj at h;split at h
 ·rename_i q;exact .inl (g.kinds x _ q)
 ·rename_i q;exact .inr (.inl (g.kinds x _ q))
 ·rename_i q
  rcases g.kinds x _ q with z | z
  ·exact .inr (.inl z)
  ·exact .inr (.inr z)
 ·cases h
theorem Good.gl(g:Good kk X cc G){x:Str}(h:glob cc x=true):Gl X x:=by
 unfold glob at h;split at h
 ·rename_i q;exact g.kinds x _ q
 ·cases h
theorem mI{x:Str}(h:d_ x=true):(x==("__debug__" : Str))=false/\(x==("__classdict__" : Str))=false/\x≠("__name__" : Str):=by
 unfold d_ at h;simp only[aW,kz]at h;exact⟨h.1.1,h.1.2,λz=>by rw[z]at h;simp at h⟩
theorem fT(h:PE X e t)(f:∀σ H Q,u σ H Q->t σ H Q):PE X e u:=λaa s σ H Q I q=>h aa s σ H Q I (f σ H Q q)
theorem J2(h:PT X e t)(f:∀σ H Q,u σ H Q->t σ H Q):PT X e u:=λaa s σ H Q I q=>h aa s σ H Q I (f σ H Q q)
theorem Wh(h:PW X e t)(f:∀σ H Q,u σ H Q->t σ H Q):PW X e u:=λwh aa s σ H Q I q=>h wh aa s σ H Q I (f σ H Q q)
theorem Wi(h:PA X e t)(f:∀σ H Q,u σ H Q->t σ H Q):PA X e u:=λp aa s σ H Q I q=>h p aa s σ H Q I (f σ H Q q)
theorem bB(h:aN e=true)(es:List Expr)(env:Env):starEach (e::es) env=(false,eval e env)::starEach es env:=by
 cases e<;>first | rfl | exact absurd (show false=true from h) aQ
theorem TC(g:Good kk X cc G)(h:cg cc (.eX i) e=true):PE X e (tE X.K (ev G (.eX i))):=by
 refine bR (P:=λe=>PE X e _) h λx pos h=>?_;have h:(cc.N[i]? == some x&&Rj cc x&&d_ x)=true:=h;simp only[aW,kC]at h;obtain⟨⟨h1,h2⟩,h3⟩:=h;obtain⟨d1,d2,_⟩:=mI h3;refine fT (D7 (i:=i) (by rw[g.N];exact h1) (g.Rj h2) d1 d2) λσ H Q q=>?_;obtain⟨ads,M,ρ,s,q⟩:=q;simp only[Fe]at q;split at q
 ·rename_i d e
  obtain⟨v,YV,r⟩:=s.en i d e;exact⟨v,YV,q.plain s.mem r⟩
 ·exact q.elim
theorem wL(hd:∀ads H,RD X.K ads H d v)(σ:L2.St)(H:Hp)(Q:VK)(h:tE X.K (ev G (.bw d)) σ H Q):tC v σ H Q:=by
 obtain⟨ads,M,ρ,s,q⟩:=h;exact df.plain q s.mem (hd _ _)
theorem TH(h:cg cc (.bw d) e=true):PE X e (tE X.K (ev G (.bw d))):=by
 replace h:FH d e=true:=h
 rcases(BQ _ _).mp h with h | h
 case inr =>
  refine fF (P:=λe=>PE X e _) h λop x pos h=>?_
  replace h:=(aW _ _).mp h
  have h0:=h.1
  replace h:=h.2
  cases op<;>first | exact absurd (show false=true from h0) aQ | skip
  refine cE (P:=λx=>PE X (.UnaryOp .USub x pos) _) h λc j p h=>?_;clear h0;rcases d with _|_ | i | _|_|_|_<;>first | exact absurd (show false=true from h) aQ | skip
  rcases c with _|_ | k | _|_|_|_|_<;>first | exact absurd (show false=true from h) aQ | skip
  have h:i=-k:=eq_of_beq h;subst h;exact fT (LC Eh sP) λσ H Q q=>⟨k,rfl,wL (λ_ _=>cK _) σ H Q q⟩
 refine cE (P:=λe=>PE X e _) h λc j pos h=>?_
 cases d with
 | int i =>
  cases c<;>first | exact absurd (show false=true from h) aQ | skip
  have h:=eq_of_beq (show(i==_)=true from h);subst h;exact fT sP (wL λ_ _=>cK _)
 | bl i =>
  cases c<;>first | exact absurd (show false=true from h) aQ | skip
  have h:=eq_of_beq (show(i==_)=true from h);subst h;exact fT Lw (wL λ_ _=>kS _)
 | str i =>
  cases c<;>first | exact absurd (show false=true from h) aQ | skip
  have h:=eq_of_beq (show(i==_)=true from h);subst h;exact fT D8 (wL λ_ _=>yM _)
 | aP =>
  cases c<;>first | exact absurd (show false=true from h) aQ | skip
  exact fT Nf (wL λ_ _=>i_)
 | tup _=>cases h
 | ai _=>cases h
 | ls _=>cases h
theorem TJ(Aw:∀e,cg cc a e=true->PE X e (tE X.K (ev G a)))(OM:∀e,cg cc b e=true->PE X e (tE X.K (ev G b)))(h:cg cc (.bin op a b) e=true):PE X e (tE X.K (ev G (.bin op a b))):=by
 refine yO (P:=λe=>PE X e _) h λl o r pos h=>?_;have h:(o==JL op&&cg cc a l&&cg cc b r)=true:=h;simp only[aW,kC]at h;obtain⟨⟨rfl,h1⟩,h2⟩:=h;refine fT (Sq (Oo op) (Aw l h1) (OM r h2)) λσ H Q q=>?_;exact two (λm r1 r2 h=>⟨_,_,_,_,m,r1,r2,h⟩) q
theorem yV{K:Frag}{ads:List Addr}{H:Hp}{Q:VK}{o:cP Bool}(h:df K ads H Q (o.bind λr M=>.ok (.d (.bl r)) M)):JN K ads H Q o:=by
 cases o with
 | ok b M=>exact λH' aE g m=>h (.bl b) H' aE g m (show RD K aE H' (.bl b) _ from kS _)
 | err _ _=>exact h
 | ae=>exact h
theorem FJ(hn:isNone e=true)(hb:cg cc b e=true):b=.bw .aP:=by
 revert hb;refine cE (P:=λe=>cg cc b e=true->b=.bw .aP) hn λc j pos hn hb=>?_;cases c<;>first | cases hn | skip
 cases b<;>first | exact absurd (show false=true from hb) aQ | skip
 rename_i d
 cases d<;>first | rfl | exact absurd (show false=true from hb) aQ
theorem LX(g:Good kk X cc G)(Aw:∀e,cg cc a e=true->PE X e (tE X.K (ev G a)))(OM:∀e,cg cc b e=true->PE X e (tE X.K (ev G b)))(h:cg cc (.cmp op a b) e=true):PE X e (tE X.K (ev G (.cmp op a b)))/\PT X e (kF (tE X.K (ev G (.cmp op a b)))):=by
 refine il (P:=λe=>PE X e (tE X.K (ev G (.cmp op a b)))/\PT X e (kF (tE X.K (ev G (.cmp op a b))))) h λl ops rs pos h=>?_;rcases ops with _|⟨o,_|⟨o2,ops⟩⟩<;>rcases rs with _|⟨r,_|⟨r2,rs⟩⟩<;>first | exact absurd (show false=true from h) aQ | skip
 have h:(o==Oq op && !behindInMarks o r&&(if op=.tM\/op=.eL then isNone r else true)&&cg cc a l&&cg cc b r)=true:=h;simp only[aW,kC,kz]at h;obtain⟨⟨⟨⟨rfl,hm⟩,hn⟩,h1⟩,h2⟩:=h;have TK:=g.room.un
 have key:∀σ H Q,tE X.K (ev G (.cmp op a b)) σ H Q->IC (JO X.K op) (tE X.K (ev G a)) (tE X.K (ev G b)) σ H Q:=by
  intro σ H Q q;by_cases hop:op=.tM\/op=.eL
  ·rw[ar hop]at hn;have eb:=FJ hn h2;subst eb;obtain⟨ads,M,ρ,s,q⟩:=q;refine d5 s q λw M1 v H1 ak s1 nh q1=>⟨ak,M1,ρ,s1,?_⟩;intro vy H2 bp g2 m2 ry;have ey:=pK ry;refine⟨bp,M1,w,.d .aP,m2,g2.rw nh,(show RD X.K bp H2 .aP vy by rw[ey];exact i_),λ_=>ey,?_⟩;have q1:df X.K ak H1 Q ((bh op w (.d .aP) M1).bind λr M=>.ok (.d (.bl r)) M):=q1;exact yV (q1.shift g2 s1.mem m2)
  ·exact two (λm r1 r2 h=>⟨_,_,_,_,m,r1,r2,λz=>absurd z hop,yV h⟩) q
 exact⟨fT (sU (mG ∅ op) (Aw l h1) (OM r h2) hm) key,J2 (sV (mG ∅ op) (Aw l h1) (OM r h2) hm) λσ H Q q=>key σ H _ q⟩
theorem TL(Aw:∀e,cg cc a e=true->PE X e (tE X.K (ev G a)))(h:cg cc (.neg a) e=true):PE X e (tE X.K (ev G (.neg a))):=by
 refine fF (P:=λe=>PE X e _) h λop x pos h=>?_;obtain⟨h0,h⟩:=(aW _ _).mp h;cases op<;>first | exact absurd (show false=true from h0) aQ | skip
 refine fT (Nk (Aw x h)) λσ H Q q=>?_;obtain⟨ads,M,ρ,s,q⟩:=q;sleep 33
 exact⟨b,jP nh,df.plain q1 s1.mem (kS _)⟩
theorem TM(ih:∀es,cY cc cs es=true->PA X es (JK X.K (bX G cs)))(h:cg cc (.tup cs) e=true):PE X e (tE X.K (ev G (.tup cs))):=by
 refine j9 (P:=λe=>PE X e _) h λes k pos h=>?_;refine fT (NH (ih es h)) λσ H Q q=>?_;sleep 1;simp only[Fh]at q
 cases hq:bX G cs ρ M with
 | ok ds M1 =>
  rw[hq]at q;have q:df X.K ads H Q (if ds.length<=sizeLine then .ok (.d (.tup ds)) M1 else .ae):=q;intro vs H1 ak g1 m1 r1;split at q
  ·rename_i hz
   exact⟨by rw[<- r1.len];exact hz,λp hp=>(q.shift g1 s.mem m1).tuple m1 r1 hp⟩
  ·exact q.elim
 | err _ _=>rw[hq]at q;exact q
 | ae=>rw[hq]at q;exact q
theorem TN(ih:∀es,cY cc cs es=true->PA X es (JK X.K (bX G cs)))(h:cg cc (.lst cs) e=true):PE X e (tE X.K (ev G (.lst cs))):=by
 refine CU (P:=λe=>PE X e _) h λes pos h=>?_;refine fT (NI (ih es h)) λσ H Q q=>?_;sleep 1;simp only[Fi]at q
 cases hq:bX G cs ρ M with
 | ok ds M1 =>
  rw[hq]at q;have q:df X.K ads H Q (if ds.length<=sizeLine then .ok (.lv ds) M1 else .ae):=q;intro vs H1 ak g1 m1 r1;split at q
  ·rename_i hz
   exact⟨by rw[<- r1.len];exact hz,λp hp=>(q.shift g1 s.mem m1).list m1 r1 hp⟩
  ·exact q.elim
 | err _ _=>rw[hq]at q;exact q
 | ae=>rw[hq]at q;exact q
theorem tY{K:Frag}{ads aE:List Addr}{H H':Hp}{w:W}{v:V}{M1:aj}{d:D}{M2:aj}(m:aX K ads H M)(g:aI ads aE H H')(m1:aX K aE H' M1)(r:Ol K aE H H' w v)(e:own w M1=.ok d M2):∃bp,aI ads bp H H'/\aX K bp H' M2/\RD K bp H' d v:=by
 cases w with
 | d x=>cases e;exact⟨aE,g,m1,r⟩
 | lv ds =>
  cases e;obtain⟨a,xs,rfl,h0,h1,n,r⟩:=r;refine⟨aE++[a],⟨?_,λb hb nb=>?_,g.kept,g.hZ,g.dP⟩,m1.push n ⟨xs,h1,r⟩,?_⟩
  ·obtain⟨t,e⟩:=g.pre;exact⟨t++[a],by rw[e,oI]⟩
  ·rcases dk.mp hb with z | z
   ·exact g.new b z nb
   ·have:b=a:=by simpa using z
    subst this;exact h0
  ·unfold RD;exact⟨a,rfl,by rw[qD (by rw[m1.len];exact aH _)];simp[m1.len]⟩
theorem TQ:PA X [] (JK X.K (bX G [])):=Wi ib λσ H Q q=>by
 obtain⟨ads,M,ρ,s,q⟩:=q;exact q [] H ads (aI.refl _ _) s.mem (by unfold aS;rfl)
theorem ON(hs:aN e=true)(ha:PE X e (tE X.K (ev G c)))(hr:PA X es (JK X.K (bX G cs))):PA X (e::es) (JK X.K (bX G (c::cs))):=by
 refine Wi (d4 ha hr (bB hs es X.env)) λσ H Q q=>?_;sleep 1;simp only[gU,fK]at q
 cases hq:ev G c ρ M with
 | ok w M1 =>
  sleep 39
  cases ho:own w M1 with
  | ok d M2 =>
   have q:wG X.K ads H Q ((own w M1).bind λd M=>(bX G cs ρ M).bind λds M=>.ok (d::ds) M):=q;rw[ho]at q;obtain⟨bp,g2,m2,rd⟩:=tY s.mem g1 m1 r1 ho;refine⟨bp,M2,ρ,s.grow g2 m2,?_⟩;have q:wG X.K ads H Q ((bX G cs ρ M2).bind λds M=>.ok (d::ds) M):=q
   cases FK:bX G cs ρ M2 with
   | ok ds M3 =>
    rw[FK]at q;intro vs H3 eF g3 m3 r3;refine q (v::vs) H3 eF (g2.trans g3) m3 ?_;unfold aS;exact⟨v,vs,rfl,g3.rd _ _ rd,r3⟩
   | err _ _=>rw[FK]at q;exact q
   | ae=>rw[FK]at q;exact q
  | err _ _=>cases w<;>cases ho
  | ae=>cases w<;>cases ho
 | err _ _=>rw[hq]at q;exact q
 | ae=>rw[hq]at q;exact q
end
section
variable {kk:Nat} {X:Cx} {cc:CC} {G:dQ}
theorem Ax(g:Good kk X cc G)(Aw:∀e,cg cc a e=true->PE X e (tE X.K (ev G a)))(OM:∀e,cg cc b e=true->PE X e (tE X.K (ev G b)))(Wj:∀e,cg cc c e=true->PE X e (tE X.K (ev G c)))(h:cg cc (.chain o1 o2 a b c) e=true):PE X e (tE X.K (ev G (.chain o1 o2 a b c)))/\PT X e (kF (tE X.K (ev G (.chain o1 o2 a b c)))):=by
 refine il (P:=λe=>PE X e (tE X.K (ev G (.chain o1 o2 a b c)))/\PT X e (kF (tE X.K (ev G (.chain o1 o2 a b c))))) h λl ops rs pos h=>?_;rcases ops with _|⟨p,_|⟨q,_|⟨_,ops⟩⟩⟩<;>rcases rs with _|⟨m,_|⟨r,_|⟨_,rs⟩⟩⟩<;>first | exact absurd (show false=true from h) aQ | skip
 have h:(p==Oq o1&&q==Oq o2 && !lastMarks [p,q] [m,r] && !(decide (o1=.tM)||decide (o1=.eL)||decide (o2=.tM)||decide (o2=.eL))&&cg cc a l&&cg cc b m&&cg cc c r)=true:=h;simp only[aW,kC,kz,Bool.or_eq_false_iff,decide_eq_false_iff_not]at h;obtain⟨⟨⟨⟨⟨⟨rfl,rfl⟩,hm⟩,⟨⟨⟨n1,n2⟩,n3⟩,n4⟩⟩,h1⟩,h2⟩,h3⟩:=h;have TK:=g.room.un
 have key:∀σ H Q,tE X.K (ev G (.chain o1 o2 a b c)) σ H Q->yj (JO X.K o1) (JO X.K o2) (tE X.K (ev G a)) (tE X.K (ev G b)) (tE X.K (ev G c)) σ H Q:=by
  intro σ H Q q;obtain⟨ads,M,ρ,s,q⟩:=q;refine d5 s q λx M1 v H1 ak s1 rx q1=>?_;refine⟨ak,M1,ρ,s1,?_⟩
  cases hq:ev G b ρ M1 with
  | ok y M2 =>
   rw[hq]at q1;intro vy H2 bp g2 m2 ry;have q2:df X.K ak H1 Q ((bh o1 x y M2).bind λr M=>if r then (ev G c ρ M).bind λz M=>(bh o2 y z M).bind λr M=>.ok (.d (.bl r)) M else .ok (.d (.bl false)) M):=q1;have s2:=s1.grow g2 m2;refine⟨bp,M2,x,y,m2,g2.rw rx,ry.rw,λz=>absurd z (by simp[n1,n2]),?_⟩
   cases hc:bh o1 x y M2 with
   | ok k M3 =>
    rw[hc]at q2;intro H3 eF g3 m3;have s3:=s2.grow g3 m3;have ry3:=g3.rw ry.rw;refine⟨k,rfl,?_⟩;have q3:df X.K eF H3 Q (if k then (ev G c ρ M3).bind λz M=>(bh o2 y z M).bind λr M=>.ok (.d (.bl r)) M else .ok (.d (.bl false)) M3):=df.shift q2 (g2.trans g3) s1.mem m3
    cases k with
    | false=>rw[aq (by simp)]at q3⊢;exact df.plain q3 m3 (kS _)
    | true =>
     rw[ar rfl]at q3⊢;refine⟨eF,M3,ρ,s3,?_⟩
     cases hz:ev G c ρ M3 with
     | ok z M4 =>
      rw[hz]at q3;intro vz H4 CY g4 m4 rz;exact⟨CY,M4,y,z,m4,g4.rw ry3,rz.rw,λw=>absurd w (by simp[n3,n4]),yV (df.shift (o:=(bh o2 y z M4).bind λr M=>.ok (.d (.bl r)) M) q3 g4 m3 m4)⟩
     | err _ _=>rw[hz]at q3;exact q3
     | ae=>rw[hz]at q3;exact q3
   | err _ _=>rw[hc]at q2;exact q2
   | ae=>rw[hc]at q2;exact q2
  | err _ _=>rw[hq]at q1;exact q1
  | ae=>rw[hq]at q1;exact q1
 exact⟨fT (Ei (mG ∅ o1) (mG ∅ o2) (Aw l h1) (OM m h2) (Wj r h3) hm) key,J2 (Ej (mG ∅ o1) (mG ∅ o2) (Aw l h1) (OM m h2) (Wj r h3) hm) λσ H Q q=>key σ H _ q⟩
theorem CZ{P:Expr->Prop}{e:Expr}(h:tV e=true)(k:∀j p,P (.Constant (.bool true) j p)):P e:=cE (P:=P) h λc j p h=>by
 rcases c with _ | b | _|_|_|_|_|_<;>first | exact absurd (show false=true from h) aQ | skip
 cases b with
 | true=>exact k j p
 | false=>exact absurd (show false=true from h) aQ
theorem wM(q:tE X.K (ev G (.ie ng a)) σ H Q):IC (λx y H Q=>∃b c,x=.bl b/\y=.bl c/\Q (.bl (ng != (b==c))) H) (tE X.K (ev G a)) (tC (.bl true)) σ H Q:=by
 obtain⟨ads,M,ρ,s,q⟩:=q;refine d5 s q λw M1 v H1 ak s1 nh q1=>?_;rcases w with⟨_ | b | _|_|_|_|_⟩|_<;>first | exact q1.elim | skip
 refine⟨b,true,jP nh,rfl,?_⟩;rw[show(b==true)=b from by cases b<;>rfl];exact df.plain q1 s1.mem (kS _)
theorem FL{ng:Bool}{a:C}{e:Expr}(Aw:∀e,cg cc a e=true->PE X e (tE X.K (ev G a)))(h:cg cc (.ie ng a) e=true):PE X e (tE X.K (ev G (.ie ng a)))/\PT X e (kF (tE X.K (ev G (.ie ng a)))):=by
 refine il (P:=λe=>PE X e (tE X.K (ev G (.ie ng a)))/\PT X e (kF (tE X.K (ev G (.ie ng a))))) h λl ops rs pos h=>?_;rcases ops with _|⟨o,_|⟨o2,ops⟩⟩<;>rcases rs with _|⟨r,_|⟨r2,rs⟩⟩<;>first | exact absurd (show false=true from h) aQ | skip
 have h:(o==(if ng=true then CmpOp.IsNot else CmpOp.Is) && !behindInMarks o r&&tV r&&cg cc a l)=true:=h;simp only[aW,kC,kz]at h;obtain⟨⟨⟨ho,hm⟩,hr⟩,h1⟩:=h;have pc:PE X r (tC (.bl true)):=CZ (P:=λr=>PE X r (tC (.bl true))) hr λj p=>Lw
 cases ng with
 | true =>
  have ho:o=.IsNot:=ho;subst ho
  have key:∀σ H Q,tE X.K (ev G (.ie true a)) σ H Q->IC (λx y H Q=>∃b c,x=.bl b/\y=.bl c/\Q (.bl (!(b==c))) H) (tE X.K (ev G a)) (tC (.bl true)) σ H Q:=λσ H Q q=>by
   have:=wM q;simp only[Bool.true_bne]at this;exact this
  exact⟨fT (sU Aa (Aw l h1) pc hm) key,J2 (sV Aa (Aw l h1) pc hm) λσ H Q q=>key σ H _ q⟩
 | false =>
  have ho:o=.Is:=ho;subst ho
  have key:∀σ H Q,tE X.K (ev G (.ie false a)) σ H Q->IC (λx y H Q=>∃b c,x=.bl b/\y=.bl c/\Q (.bl (b==c)) H) (tE X.K (ev G a)) (tC (.bl true)) σ H Q:=λσ H Q q=>by
   have:=wM q;simp only[Bool.false_bne]at this;exact this
  exact⟨fT (sU EU (Aw l h1) pc hm) key,J2 (sV EU (Aw l h1) pc hm) λσ H Q q=>key σ H _ q⟩
theorem J3(ρ:En)(M:aj)(w:W)(M':aj)(h:ev G (.ie ng a) ρ M=.ok w M'):∃k,w=.d (.bl k):=by
 simp only[Am]at h
 cases h1:ev G a ρ M with
 | ok x M1 =>
  rw[h1]at h;rcases x with⟨_ | b | _|_|_|_|_⟩|_<;>first | cases h | skip
  exact⟨_,rfl⟩
 | err _ _=>rw[h1]at h;cases h
 | ae=>rw[h1]at h;cases h
theorem LY{op:BoolOp}:∀(cs:List C)(es:List Expr)(pos:Pos),(∀c∈cs,∀e,cg cc c e=true->PE X e (tE X.K (ev G c)))->cY cc cs es=true->es≠[]->PE X (.BoolOp .And es pos) (tE X.K (jO G cs))
 | [],[],_,_,_,h=>absurd rfl h
 | [],_::_,_,_,h,_=>by cases h
 | _::_,[],_,_,h,_=>by cases h
 | c::cs,e::es,pos,ih,h,_=>by
  sleep 16;have he:=ih c dH e h'.1.2
  cases es with
  | nil =>
   cases cs with
   | cons _ _=>cases h'.2
   | nil =>
    refine fT (D9 he) λσ H Q q=>?_;sleep 1;simp only[mz,j5]at q
    cases hq:ev G c ρ M with
    | ok w M1=>rw[hq]at q;exact q
    | err _ _=>rw[hq]at q;exact q
    | ae=>rw[hq]at q;exact q
  | cons e2 es =>
   cases cs with
   | nil=>cases h'.2
   | cons c2 cs =>
    have hr:=LY (op:=op) (c2::cs) (e2::es) pos (λc hc=>ih c (da _ hc)) h'.2 (by simp);refine fT (Nj he hr) λσ H Q q=>?_;obtain⟨ads,M,ρ,s,q⟩:=q
    have q:df X.K ads H Q ((ev G c ρ M).bind λx M=>match c2::cs,x with
     | [],x=>.ok x M
     | _,.d (.bl true)=>jO G (c2::cs) ρ M
     | _,.d (.bl false)=>.ok (.d (.bl false)) M
     | _,_=>.ae):=by unfold jO at q;exact q
    sleep 33
    refine⟨b,jP nh,?_⟩
    cases b with
    | false=>rw[aq (by simp)];exact df.plain q1 s1.mem (kS _)
    | true=>rw[ar rfl];exact⟨ak,M1,ρ,s1,q1⟩
theorem TR:∀(cs:List C)(es:List Expr)(pos:Pos),(∀c∈cs,∀e,cg cc c e=true->PE X e (tE X.K (ev G c)))->cY cc cs es=true->es≠[]->PE X (.BoolOp .Or es pos) (tE X.K (qS G cs))
 | [],[],_,_,_,h=>absurd rfl h
 | [],_::_,_,_,h,_=>by cases h
 | _::_,[],_,_,h,_=>by cases h
 | c::cs,e::es,pos,ih,h,_=>by
  sleep 16;have he:=ih c dH e h'.1.2
  cases es with
  | nil =>
   cases cs with
   | cons _ _=>cases h'.2
   | nil =>
    refine fT (D9 he) λσ H Q q=>?_;sleep 1;simp only[pH,mC]at q
    cases hq:ev G c ρ M with
    | ok w M1=>rw[hq]at q;exact q
    | err _ _=>rw[hq]at q;exact q
    | ae=>rw[hq]at q;exact q
  | cons e2 es =>
   cases cs with
   | nil=>cases h'.2
   | cons c2 cs =>
    have hr:=TR (c2::cs) (e2::es) pos (λc hc=>ih c (da _ hc)) h'.2 (by simp);refine fT (R9 he hr) λσ H Q q=>?_;obtain⟨ads,M,ρ,s,q⟩:=q
    have q:df X.K ads H Q ((ev G c ρ M).bind λx M=>match c2::cs,x with
     | [],x=>.ok x M
     | _,.d (.bl false)=>qS G (c2::cs) ρ M
     | _,.d (.bl true)=>.ok (.d (.bl true)) M
     | _,_=>.ae):=by unfold qS at q;exact q
    sleep 33
    refine⟨b,jP nh,?_⟩
    cases b with
    | true=>rw[ar rfl];exact df.plain q1 s1.mem (kS _)
    | false=>rw[aq (by simp)];exact⟨ak,M1,ρ,s1,q1⟩
theorem tZ{K:Frag}{ads:List Addr}{H:Hp}{M:aj}{ρ:En}{σ:L2.St}{o:En->aj->cP Bool}{k:Bool->aj->cP Bool}{Q:Bool->Hp->Prop}{R:Bool->Hp->Prop}(s:SR K ads M ρ σ H)(h:HC K ads H Q ((o ρ M).bind k))(hk:∀w M1 H1 ak,SR K ak M1 ρ σ H1->HC K ak H1 Q (k w M1)->R w H1):qz K o σ H R:=by
 refine⟨ads,M,ρ,s,?_⟩
 cases q:o ρ M with
 | ok w M1 =>
  rw[q]at h;have h:HC K ads H Q (k w M1):=h;exact λH1 ak g1 m1=>hk w M1 H1 ak (s.grow g1 m1) (h.shift g1)
 | err _ _=>rw[q]at h;exact h
 | ae=>rw[q]at h;exact h
theorem TU(h:qz X.K (eJ G (.val c)) σ H Q):tE X.K (ev G c) σ H λx H'=>∃k,Ek X.K x H' k/\Q k H':=by
 obtain⟨ads,M,ρ,s,q⟩:=h;refine⟨ads,M,ρ,s,?_⟩;simp only[tQ]at q
 cases hq:ev G c ρ M with
 | ok w M1 =>
  sleep 39;have q:HC X.K ads H Q (match qR M1 w with | some r=>.ok r M1 | none=>.ae):=q
  cases ht:qR M1 w with
  | none=>rw[ht]at q;exact q.elim
  | some k=>rw[ht]at q;exact⟨k,Tt m1 r1.rw ht,q H1 ak g1 m1⟩
 | err _ _=>rw[hq]at q;exact q
 | ae=>rw[hq]at q;exact q
theorem J4(h:jo e=true)(env:Env):∀oP,isTrue e env oP=(do let v <- oP;standAt e.pos;holding [v] (truthy v)):=by
 cases e<;>first | (intro _;rfl) | exact absurd (show false=true from h) aQ
theorem J5(hp:jo e=true)(he:PE X e (tE X.K (ev G c))):PT X e (qz X.K (eJ G (.val c))) :=
 J2 (El he (J4 hp X.env)) λσ H Q q=>TU q
theorem yW(hb:∀ρ M w M',ev G c ρ M=.ok w M'->∃k,w=.d (.bl k))(he:PT X e (kF (tE X.K (ev G c)))):PT X e (qz X.K (eJ G (.val c))):=by
 refine J2 he λσ H Q q=>?_;sleep 1;simp only[tQ]at q
 cases hq:ev G c ρ M with
 | ok w M1 =>
  rw[hq]at q;obtain⟨k,rfl⟩:=hb _ _ _ _ hq;intro v H1 ak g1 m1 r1;exact⟨k,jP r1,q H1 ak g1 m1⟩
 | err _ _=>rw[hq]at q;exact q
 | ae=>rw[hq]at q;exact q
theorem OO(ρ:En)(M:aj)(w:W)(M':aj)(h:ev G (.cmp op a b) ρ M=.ok w M'):∃k,w=.d (.bl k):=by
 simp only[Ff]at h
 cases h1:ev G a ρ M with
 | ok x M1 =>
  rw[h1]at h;simp only[cP.bind]at h
  cases h2:ev G b ρ M1 with
  | ok y M2 =>
   rw[h2]at h;simp only at h
   cases h3:bh op x y M2 with
   | ok k M3=>rw[h3]at h;cases h;exact⟨k,rfl⟩
   | err _ _=>rw[h3]at h;cases h
   | ae=>rw[h3]at h;cases h
  | err _ _=>rw[h2]at h;cases h
  | ae=>rw[h2]at h;cases h
 | err _ _=>rw[h1]at h;cases h
 | ae=>rw[h1]at h;cases h
theorem FN(ρ:En)(M:aj)(w:W)(M':aj)(h:ev G (.chain o1 o2 a b c) ρ M=.ok w M'):∃k,w=.d (.bl k):=by
 simp only[wF]at h
 cases h1:ev G a ρ M with
 | ok x M1 =>
  rw[h1]at h;simp only[cP.bind]at h
  cases h2:ev G b ρ M1 with
  | ok y M2 =>
   rw[h2]at h;simp only at h
   cases h3:bh o1 x y M2 with
   | ok k M3 =>
    rw[h3]at h;simp only at h
    cases k with
    | false=>cases h;exact⟨_,rfl⟩
    | true =>
     simp only[e_]at h
     cases h4:ev G c ρ M3 with
     | ok z M4 =>
      rw[h4]at h;simp only at h
      cases h5:bh o2 y z M4 with
      | ok k M5=>rw[h5]at h;cases h;exact⟨k,rfl⟩
      | err _ _=>rw[h5]at h;cases h
      | ae=>rw[h5]at h;cases h
     | err _ _=>rw[h4]at h;cases h
     | ae=>rw[h4]at h;cases h
   | err _ _=>rw[h3]at h;cases h
   | ae=>rw[h3]at h;cases h
  | err _ _=>rw[h2]at h;cases h
  | ae=>rw[h2]at h;cases h
 | err _ _=>rw[h1]at h;cases h
 | ae=>rw[h1]at h;cases h
theorem TV(ih:PT X e (qz X.K (eJ G t))):PT X (.UnaryOp .Not e pos) (qz X.K (eJ G (.neg t))):=by
 refine J2 (Ni ih) λσ H Q q=>?_;obtain⟨ads,M,ρ,s,q⟩:=q;exact tZ s q λw M1 H1 ak s1 q1=>q1 H1 ak (aI.refl _ _) s1.mem
theorem LZ:∀(ts:List fX)(es:List Expr)(pos:Pos),(∀t∈ts,∀e,mH cc t e=true->PT X e (qz X.K (eJ G t)))->pO cc ts es=true->es≠[]->PW X (.BoolOp .And es pos) (qz X.K (gn G ts))
 | [],[],_,_,_,h=>absurd rfl h
 | [],_::_,_,_,h,_=>by cases h
 | _::_,[],_,_,h,_=>by cases h
 | c::cs,e::es,pos,ih,h,_=>by
  have h':(mH cc c e&&pO cc cs es)=true:=h;simp only[aW]at h';have he:=ih c dH e h'.1
  cases es with
  | nil =>
   cases cs with
   | cons _ _=>cases h'.2
   | nil =>
    refine Wh (Ir he) λσ H Q q=>?_;sleep 1;simp only[mD,j6]at q
    cases hq:eJ G c ρ M with
    | ok w M1=>rw[hq]at q;exact q
    | err _ _=>rw[hq]at q;exact q
    | ae=>rw[hq]at q;exact q
  | cons e2 es =>
   cases cs with
   | nil=>cases h'.2
   | cons c2 cs =>
    have hr:=LZ (c2::cs) (e2::es) pos (λc hc=>ih c (da _ hc)) h'.2 (by simp);refine Wh (Nh he hr) λσ H Q q=>?_;obtain⟨ads,M,ρ,s,q⟩:=q
    have q:HC X.K ads H Q ((eJ G c ρ M).bind λx M=>match c2::cs,x with
     | [],x=>.ok x M
     | _,true=>gn G (c2::cs) ρ M
     | _,false=>.ok false M):=by unfold gn at q;exact q
    refine tZ s q λw M1 H1 ak s1 q1=>?_
    cases w with
    | false=>rw[aq (by simp)];exact q1 H1 ak (aI.refl _ _) s1.mem
    | true=>rw[ar rfl];exact⟨ak,M1,ρ,s1,q1⟩
theorem L1:∀(ts:List fX)(es:List Expr)(pos:Pos),(∀t∈ts,∀e,mH cc t e=true->PT X e (qz X.K (eJ G t)))->pO cc ts es=true->es≠[]->PW X (.BoolOp .Or es pos) (qz X.K (gp G ts))
 | [],[],_,_,_,h=>absurd rfl h
 | [],_::_,_,_,h,_=>by cases h
 | _::_,[],_,_,h,_=>by cases h
 | c::cs,e::es,pos,ih,h,_=>by
  have h':(mH cc c e&&pO cc cs es)=true:=h;simp only[aW]at h';have he:=ih c dH e h'.1
  cases es with
  | nil =>
   cases cs with
   | cons _ _=>cases h'.2
   | nil =>
    refine Wh (Ng he) λσ H Q q=>?_;sleep 1;simp only[mE,j7]at q
    cases hq:eJ G c ρ M with
    | ok w M1=>rw[hq]at q;exact q
    | err _ _=>rw[hq]at q;exact q
    | ae=>rw[hq]at q;exact q
  | cons e2 es =>
   cases cs with
   | nil=>cases h'.2
   | cons c2 cs =>
    have hr:=L1 (c2::cs) (e2::es) pos (λc hc=>ih c (da _ hc)) h'.2 (by simp);refine Wh (R6 he hr) λσ H Q q=>?_;obtain⟨ads,M,ρ,s,q⟩:=q
    have q:HC X.K ads H Q ((eJ G c ρ M).bind λx M=>match c2::cs,x with
     | [],x=>.ok x M
     | _,false=>gp G (c2::cs) ρ M
     | _,true=>.ok true M):=by unfold gp at q;exact q
    refine tZ s q λw M1 H1 ak s1 q1=>?_
    cases w with
    | true=>rw[ar rfl];exact q1 H1 ak (aI.refl _ _) s1.mem
    | false=>rw[aq (by simp)];exact⟨ak,M1,ρ,s1,q1⟩
theorem TX(ht:PT X c (qz X.K (eJ G t)))(ha:PE X x (tE X.K (ev G a)))(hb:PE X y (tE X.K (ev G b))):PE X (.IfExp c x y pos) (tE X.K (ev G (.ite t a b))):=by
 refine fT (D_ ht ha hb) λσ H Q q=>?_;sleep 1;simp only[Fg]at q
 cases hq:eJ G t ρ M with
 | ok w M1 =>
  rw[hq]at q;intro H1 ak g1 m1;have q:df X.K ads H Q (if w then ev G a ρ M1 else ev G b ρ M1):=q;have q:=q.shift g1 s.mem m1
  cases w with
  | true=>rw[ar rfl]at q⊢;exact⟨ak,M1,ρ,s.grow g1 m1,q⟩
  | false=>rw[aq (by simp)]at q⊢;exact⟨ak,M1,ρ,s.grow g1 m1,q⟩
 | err _ _=>rw[hq]at q;exact q
 | ae=>rw[hq]at q;exact q
end
section
variable {kk:Nat} {X:Cx} {cc:CC} {G:dQ}
theorem pP(h:fG b=true):zY b:=by
 intro o i;cases b<;>first | rfl | exact absurd (show false=true from h) aQ
theorem TY(g:Good kk X cc G)(hs:fG i=true)(ha:PE X e (tE X.K (ev G a)))(hb:PE X i (tE X.K (ev G b))):PE X (.Subscript e i pos) (tE X.K (ev G (.sub a b))):=by
 have TK:=g.room.un;refine fT (LH (Ot ∅) ha hb (pP hs)) λσ H Q q=>?_;exact two (λm r1 r2 h=>⟨_,_,_,_,m,r1,r2,h⟩) q
noncomputable def OkO(K:Frag)(ads:List Addr)(H:Hp)(Q:Option Int->Hp->Prop):cP (Option Int)->Prop
 | .ok o M=>∀H' aE,aI ads aE H H'->aX K aE H' M->Q o H'
 | _=>False
def tO(K:Frag)(o:En->aj->cP (Option Int)):TO:=λσ H Q=>∃ads M ρ,SR K ads M ρ σ H/\OkO K ads H Q (o ρ M)
theorem OP:PO X none (tO X.K (uY G none)):=λaa s σ H Q I q=>IS aa s σ H Q I (by
 obtain⟨ads,M,ρ,s,q⟩:=q;exact q H ads (aI.refl _ _) s.mem)
theorem OQ(h:PE X e (tE X.K (ev G c))):PO X (some e) (tO X.K (uY G (some c))):=λaa s σ H Q I q=>IT h aa s σ H Q I (by
 sleep 1;simp only[pI,pJ]at q
 cases hq:ev G c ρ M with
 | ok w M1 =>
  sleep 39;rcases w with⟨_|_ | i | _|_|_⟩|_<;>first | exact q.elim | skip
  exact⟨i,a8 r1,q H1 ak g1 m1⟩
 | err _ _=>rw[hq]at q;exact q
 | ae=>rw[hq]at q;exact q)
theorem TZ{lo hi:Option C}{l h:Option Expr}(ha:PE X e (tE X.K (ev G a)))(hl:PO X l (tO X.K (uY G lo)))(hh:PO X h (tO X.K (uY G hi))):PE X (.Subscript e (.Slice l h none p2) pos) (tE X.K (ev G (.xV a lo hi))):=by
 refine fT (EB Ou ha hl hh) λσ H Q q=>?_;obtain⟨ads,M,ρ,s,q⟩:=q;refine d5 s q λw M1 v H1 ak s1 nh q1=>⟨ak,M1,ρ,s1,?_⟩
 cases hq:uY G lo ρ M1 with
 | ok o1 M2 =>
  rw[hq]at q1;have q1:df X.K ak H1 Q ((uY G hi ρ M2).bind λh M=>pB w o1 h M):=q1;intro H2 bp g2 m2;have s2:=s1.grow g2 m2;refine⟨bp,M2,ρ,s2,?_⟩
  cases FO:uY G hi ρ M2 with
  | ok o2 M3 =>
   rw[FO]at q1;intro H3 eF g3 m3;exact⟨eF,M3,w,m3,g3.rw (g2.rw nh),df.shift (o:=pB w o1 o2 M3) q1 (g2.trans g3) s1.mem m3⟩
  | err _ _=>rw[FO]at q1;exact q1
  | ae=>rw[FO]at q1;exact q1
 | err _ _=>rw[hq]at q1;exact q1
 | ae=>rw[hq]at q1;exact q1
theorem wN:∀(cs:List C)(ρ:En)(M:aj)(ds:List D)(M':aj),bX G cs ρ M=.ok ds M'->ds.length=cs.length
 | [],ρ,M,ds,M',h=>by cases h;rfl
 | c::cs,ρ,M,ds,M',h=>by
  simp only[gU,fK]at h
  cases h1:(ev G c ρ M).bind own with
  | ok d M1 =>
   rw[h1]at h;simp only[cP.bind]at h
   cases h2:bX G cs ρ M1 with
   | ok es M2=>rw[h2]at h;cases h;simp[wN cs ρ M1 es _ h2]
   | err _ _=>rw[h2]at h;cases h
   | ae=>rw[h2]at h;cases h
  | err _ _=>rw[h1]at h;cases h
  | ae=>rw[h1]at h;cases h
theorem eU(h:cY cc cs es=true)(env:Env)(pos:Pos):(backTo pos (starEach es env)).any (·.1)=false:=by
 have:∀(cs:List C)(es:List Expr),cY cc cs es=true->(starEach es env).any (·.1)=false:=by
  intro cs
  induction cs with
  | nil=>intro es h;cases es with
   | nil=>rfl
   | cons _ _=>cases h
  | cons c cs ih =>
   intro es h
   cases es with
   | nil=>cases h
   | cons e es =>
    sleep 16;rw[bB h'.1.1,DZ,ih es h'.2];rfl
 have e:=this cs es h;unfold backTo;simp only[List.any_map];exact e
theorem OR{x:Str}(g:Good kk X cc G)(hf:cc.fs[f]?=some (x,cs.length))(hg:glob cc x=true)(hp:d_ x=true)(hc:cY cc cs (e::es)=true)(ha:PA X (e::es) (JK X.K (bX G cs))):PE X (.Call (.Name x p) (e::es) [] pos) (tE X.K (ev G (.call f cs))):=by
 obtain⟨fa,fd,ps,F,hm,hk,hb⟩:=g.fns f x _ hf
 have fB:aN e=true/\cY cc cs.tail es=true:=by
  cases cs with
  | nil=>cases hc
  | cons c cs =>
   have h':(aN e&&cg cc c e&&cY cc cs es)=true:=hc;simp only[aW]at h';exact⟨h'.1.1,h'.2⟩
 refine fT (IJ (pos:=pos) (p:=p) (E:=E0) F g.room (g.gl hg) hm hk hb .nil SW ha (mI hp).1 (bB fB.1 es X.env) (eU fB.2 X.env pos)) λσ H Q q=>?_;sleep 1;simp only[Al]at q
 cases hq:bX G cs ρ M with
 | ok ds M1 =>
  rw[hq]at q;intro vs H1 ak g1 m1 r1;refine⟨ak,M1,ds,m1,?_,wN cs ρ M ds M1 hq,df.shift (o:=G f ds M1) q g1 s.mem m1⟩;rw[iQ];exact r1
 | err _ _=>rw[hq]at q;exact q
 | ae=>rw[hq]at q;exact q
def T1(K:Frag)(ads:List Addr)(H:Hp)(Q:List V->Hp->Prop):cP (List W)->Prop
 | .ok ws M=>∀vs H' aE,aI ads aE H H'->aX K aE H' M->LU K aE H' ws vs->Q vs H'
 | _=>False
def Rk(K:Frag)(o:En->aj->cP (List W)):TA:=λσ H Q=>∃ads M ρ,SR K ads M ρ σ H/\T1 K ads H Q (o ρ M)
theorem T3:PA X [] (Rk X.K (du G [])):=Wi ib λσ H Q q=>by
 obtain⟨ads,M,ρ,s,q⟩:=q;exact q [] H ads (aI.refl _ _) s.mem rfl
theorem OS(hs:aN e=true)(ha:PE X e (tE X.K (ev G c)))(hr:PA X es (Rk X.K (du G cs))):PA X (e::es) (Rk X.K (du G (c::cs))):=by
 refine Wi (d4 ha hr (bB hs es X.env)) λσ H Q q=>?_;sleep 1;simp only[kR,jm]at q
 cases hq:ev G c ρ M with
 | ok w M1 =>
  sleep 39;refine⟨ak,M1,ρ,s.grow g1 m1,?_⟩;have q:T1 X.K ads H Q ((du G cs ρ M1).bind λds M=>.ok (w::ds) M):=q
  cases FK:du G cs ρ M1 with
  | ok ds M3 =>
   rw[FK]at q;intro vs H3 eF g3 m3 r3;exact q (v::vs) H3 eF (g1.trans g3) m3 ⟨v,vs,rfl,g3.rw r1.rw,r3⟩
  | err _ _=>rw[FK]at q;exact q
  | ae=>rw[FK]at q;exact q
 | err _ _=>rw[hq]at q;exact q
 | ae=>rw[hq]at q;exact q
theorem ip(q:tE X.K (ev G (.bi b cs)) σ H Q):XR (Fw X.K b) (Rk X.K (du G cs)) σ H Q:=by
 sleep 1;simp only[Fj]at q
 cases hq:du G cs ρ M with
 | ok ws M1 =>
  rw[hq]at q;intro vs H1 ak g1 m1 r1;exact⟨ak,M1,ws,m1,r1,df.shift (o:=mZ b ws M1) q g1 s.mem m1⟩
 | err _ _=>rw[hq]at q;exact q
 | ae=>rw[hq]at q;exact q
theorem Y3{x:Str}(g:Good kk X cc G)(hb:OI b=true)(hx:x=FF b)(hg:glob cc x=true)(hs:aN e=true)(hc:cY cc cs.tail es=true)(ha:PA X (e::es) (Rk X.K (du G cs))):PE X (.Call (.Name x p) (e::es) [] pos) (tE X.K (ev G (.bi b cs))):=by
 have t5:=g.gl hg;have fB:=bB hs es X.env;have sY:=eU hc X.env pos;have hm:X.mg x=none:=g.blt x (by subst hx;cases b<;>first | (show _∈cC;decide +kernel) | (exact absurd hb (by simp[OI])));subst hx
 cases b with
 | len=>exact fT (fO Oy t5 hm boot_len ha ⋯ ⋯ fB sY) λσ H Q q=>ip q
 | max2=>exact fT (fO (OA g.calm) t5 hm boot_max ha ⋯ ⋯ fB sY) λσ H Q q=>ip q
 | min2=>exact fT (fO (OB g.calm) t5 hm boot_min ha ⋯ ⋯ fB sY) λσ H Q q=>ip q
 | Ai=>cases hb
 | wB=>exact fT (gQ OC t5 hm ⋯ ha ⋯ ⋯ fB sY) λσ H Q q=>ip q
 | list1=>exact fT (gQ JQ t5 hm ⋯ ha ⋯ ⋯ fB sY) λσ H Q q=>ip q
 | tuple1=>exact fT (gQ Fz t5 hm ⋯ ha ⋯ ⋯ fB sY) λσ H Q q=>ip q
 | rL=>exact fT (gQ (JP g.calm) t5 hm ⋯ ha ⋯ ⋯ fB sY) λσ H Q q=>ip q
 | all1=>cases hb
 | CL=>exact fT (fO (Oz g.calm) t5 hm boot_any ha ⋯ ⋯ fB sY) λσ H Q q=>ip q
 | CK t=>cases hb
 | Aj=>cases hb
 | min1=>cases hb
 | CM=>exact fT (fO (JR g.calm) t5 hm boot_max ha ⋯ ⋯ fB sY) λσ H Q q=>ip q
theorem Y4{y:Str}{T:String}{pos:Pos}(hg:Gl X y)(hm:X.mg y=none)(hv:bootBuiltins y=some (.type T)) (hn:y≠ "__name__") (hd:(y==("__debug__" : Str))=false):PE X (.Name y pos) (tC (.ty T)) :=
 Iq hg hm hv rfl hn hd
theorem T4{t:Ty}{c:C}{x y:Str}{e:Expr}{p py pos:Pos}(g:Good kk X cc G) (hx:x = "isinstance") (Y5:glob cc x=true) (hy:y=Str.ofString (wJ t)) (Y6:glob cc y=true) (ht:t≠.none) (hs:aN e=true) (ha:PE X e (tE X.K (ev G c))):PE X (.Call (.Name x p) [e,.Name y py] [] pos) (tE X.K (ev G (.bi (.CK t) [c]))):=by
 have hmx:X.mg x=none:=g.blt x (by subst hx;show _∈cC;decide +kernel);have hmy:X.mg y=none:=g.blt y (by subst hy;cases t<;>first | exact absurd rfl ht | (show _∈cC;decide +kernel))
 have pty:PE X (.Name y py) (tC (.ty (wJ t))):=by
  subst hy;cases t<;>first | exact absurd rfl ht | exact Y4 (g.gl Y6) hmy ⋯ ⋯ ⋯
 have t5:=g.gl Y5;subst hx;refine fT (fO (OE t) t5 hmx boot_isinstance (d4 ha (d4 pty ib) (bB hs _ X.env)) ⋯ ⋯ (bB hs _ X.env) rfl) λσ H Q q=>?_;sleep 1;simp only[Fj,kR,jm]at q
 cases hq:ev G c ρ M with
 | ok w M1 =>
  sleep 39;exact⟨v,rfl,ak,M1,[w],m1,⟨v,[],rfl,r1.rw,rfl⟩,df.shift (o:=mZ (.CK t) [w] M1) q g1 s.mem m1⟩
 | err _ _=>rw[hq]at q;exact q
 | ae=>rw[hq]at q;exact q
section
variable {prog:Program} {w:World} {A:Around} {E:Value->Shared->Prop} {s:Shared}
theorem t6(hs:s.heap.IsSliceOf sl .none .none (.int k u))(hk:k≠0)(h:Q ((Builtin.Slice.sliceAdjust none none k (n:Int)).1,k,Builtin.Slice.slicePlaces (Builtin.Slice.sliceAdjust none none k (n:Int)).1 (Builtin.Slice.sliceAdjust none none k (n:Int)).2 k) s):wpAny (model prog w) A (Builtin.Slice.sliceApplied (.ref sl) (pure (n:Int))) Q E s:=by
 obtain⟨os,Ez,SJ,Dq⟩:=id hs;unfold Builtin.Slice.sliceApplied Builtin.Slice.sliceFields;refine af (af (e9 Ez Dq (x:=.none) rfl (af (e9 Ez Dq (x:=.none) rfl (af (e9 Ez Dq (x:=.int k u) rfl (ah ?_)))))));refine af (slicePart_int ?_);show wpAny _ _ (if (k==0)=true then _ else _) _ _ s;rw[aq (by simpa using hk)];refine af (slicePart_none (af (slicePart_none (af (ah ?_)))));exact ah h
theorem t7(ht:IsTup s.heap t aA.toArray)(hs:s.heap.IsSliceOf sl .none .none (.int k u))(hk:k≠0)(hk1:k≠1)(hsz:(d9 aA k).length<=sizeLine) (h:Q (.ref s.heap.objs.size) {s with heap:=s.heap.push {cls:=.type "tuple",data:=.seq (d9 aA k).toArray}}):wpAny (model prog w) A (getItem (.ref t) (.ref sl)) Q E s:=by
 have Wk:sizeOk (.seq (d9 aA k).toArray):=by
  show(d9 aA k).toArray.size<=sizeLine;rw[cG];exact hsz
 obtain⟨os,Ez,SJ,Dq⟩:=id hs;have XU:s.TypeIs (.ref sl) "slice" := ⟨os,Ez,SJ⟩;unfold getItem
 try with_reducible refine hV ?_
 first | refine af (ah ?_) | skip
 refine af (wpAny_sequenceKey ht.typeIs (by decide) ?_)
 refine af (jy (name:=Str.ofString "__getitem__") ht.typeIs BB
  (fM BB ht.typeIs entry_tuple_getitem ?_ (args_tuple_getitem _ _)))
 show wpAny _ _ (Builtin.Tuple.tupleItemsOf (.ref t) >>= _) _ _ s;refine af (tupleItemsOf_ ht ?_);refine af (yd XU ?_);rw[ar (by decide)];refine af (t6 hs hk ?_)
 have Q9:∀(a b:Bool),¬((a&&(k==(1:Int))&&b)=true):=by
  intro a b z;have:(k==(1:Int))=false:=lP.mpr hk1;rw[this]at z;simp at z
 dsimp only;rw[aq (Q9 _ _)];have e:∀(f:Nat->Nat)(l:List Nat),(l.filterMap λj=>aA.toArray[f j]?)=l.filterMap λj=>aA[f j]?:=λf l=>by simp
 rw[e];have hl:(aA.toArray.size:Int)=(aA.length:Int):=by simp
 rw[hl]
 first
  | exact af (m:=Builtin.Tuple.tupleExact _) (eP (ah ⟨_,rfl,ah h⟩) Wk)
  | exact af (m:=Builtin.Tuple.tupleExact _) (eP (af (ah (ah ⟨_,rfl,ah h⟩))) Wk)
  | exact af (af (m:=Builtin.Tuple.tupleExact _) (eP (ah (ah ⟨_,rfl,ah h⟩)) Wk))
  | exact af (af (m:=Builtin.Tuple.tupleExact _) (eP (ah ⟨_,rfl,ah h⟩) Wk))
end
theorem nZ{K:Frag}{ads:List Addr}{H:Hp}{ds:List D}{xs:List V}(r:aS K ads H ds xs)(f:Nat->Nat):∀js:List Nat,aS K ads H (js.filterMap λj=>ds[f j]?) (js.filterMap λj=>xs[f j]?)
 | []=>by simp;unfold aS;rfl
 | j::js=>by
  cases q:ds[f j]? with
  | none =>
   have:xs[f j]?=none:=by rw[su]at q⊢;rw[<- r.len];exact q
   simp only[lQ,q,this];exact nZ r f js
  | some d =>
   obtain⟨v,e,rv⟩:=r.get q;simp only[lQ,q,e];unfold aS;exact⟨_,_,rfl,rv,nZ r f js⟩
theorem jr(r:aY xs us)(f:Nat->Nat):∀js:List Nat,aY (js.filterMap λj=>xs[f j]?) (js.filterMap λj=>us[f j]?)
 | []=>.nil
 | j::js=>by
  cases q:xs[f j]? with
  | none =>
   have:us[f j]?=none:=by rw[su]at q⊢;rw[<- r.length];exact q
   simp only[lQ,q,this];exact jr r f js
  | some d =>
   obtain⟨v,e,rv⟩:=r.get q;simp only[lQ,q,e];exact .cons rv (jr r f js)
theorem T5{a:C}{k:Int}{e ke:Expr}{pos p2:Pos}(hke:PE X ke (tC (.int k)))(ha:PE X e (tE X.K (ev G a))):PE X (.Subscript e (.Slice none none (some ke) p2) pos) (tE X.K (ev G (.Du a k))):=by
 intro aa s σ H Q I h;obtain⟨ads,M,ρ,sr,q⟩:=h
 have h1:tE X.K (ev G a) σ H (λx H1=>∃ak M1 w,aX X.K ak H1 M1/\RW X.K ak H1 w x/\df X.K ak H1 Q (mw w k M1)):=by
  refine d5 sr q λw M1 v H1 ak s1 nh q1=>⟨ak,M1,w,s1.mem,nh,q1⟩
 refine Subscript_ (cJ (ha aa s σ H _ I h1) ?_);rintro v s1 ⟨x,H1,I1,r1,ak,M1,w,m1,nh,q1⟩;rcases w with⟨_|_|_|_ | ds | _|_⟩|_<;>first | exact q1.elim | skip
 have nh:RD X.K ak H1 (.tup ds) x:=nh;unfold RD at nh;obtain⟨p,xs,rfl,hp,rd⟩:=nh;cases r1;simp only[mw]at q1;split at q1
 ·rename_i hk
  refine wpAny_Slice ?_;rw[evalPart_none];refine ah ?_;refine ah ?_;rw[evalPart_some];refine cJ (hke aa s1 σ H1 (λz H'=>z=.int k/\H1=H') I1 ⟨rfl,rfl⟩) ?_;rintro u s2 ⟨z,H2,I2,rz,rfl,rfl⟩;obtain⟨t,rfl⟩:=rz;have I3:Inv X aa σ H1 {s2 with heap:=s2.heap.push {cls:=.type "slice",data:=.fields #[.none,.none,.int k t]}}:=I2.kept (t':=s2.toks) λb ob q=>aO _ q;obtain⟨aA,rv,ht,hz⟩:=I3.tuple (fz.of (K:=X.K) hp)
  have aZ:(d9 aA k).length=(d9 ds k).length:=by
   have e1:aA.length=xs.length:=rv.length.symm;have e2:xs.length=ds.length:=rd.len.symm;have r1:=(nZ rd (λ(j:Nat)=>((Builtin.Slice.sliceAdjust none none k (ds.length:Int)).1+(j:Int)*k).toNat) (List.range (Builtin.Slice.slicePlaces (Builtin.Slice.sliceAdjust none none k (ds.length:Int)).1 (Builtin.Slice.sliceAdjust none none k (ds.length:Int)).2 k))).len;have r2:=(jr rv (λ(j:Nat)=>((Builtin.Slice.sliceAdjust none none k (ds.length:Int)).1+(j:Int)*k).toNat) (List.range (Builtin.Slice.slicePlaces (Builtin.Slice.sliceAdjust none none k (ds.length:Int)).1 (Builtin.Slice.sliceAdjust none none k (ds.length:Int)).2 k))).length;unfold d9;rw[e1,e2,<- r2,<- r1]
  have rd':aS X.K ak H1 (d9 ds k) (d9 xs k):=by
   unfold d9;rw[<- rd.len];exact nZ rd _ _
  have Wg:aY (d9 xs k) (d9 aA k):=by
   unfold d9;rw[<- rv.length];exact jr rv _ _
  have Ay:({s2 with heap:=s2.heap.push {cls:=.type "slice",data:=.fields #[.none,.none,.int k t]}}:Shared).heap.IsSliceOf s2.heap.objs.size .none .none (.int k t):=Heap.IsSliceOf.new ..;show wpAny (model X.prog X.w) X.A (subscriptTail e (.Slice none none (some ke) p2) (.ref p) (.ref s2.heap.objs.size)) (EP X aa σ Q) X.xe {s2 with heap:=s2.heap.push {cls:=.type "slice",data:=.fields #[.none,.none,.int k t]}};refine tail_any (ops:=[.ref p,.ref s2.heap.objs.size]) ht.typeIs BB.lookup (t7 ht Ay (by rcases hk.1 with z | z<;>rw[z]<;>decide) (by rcases hk.1 with z | z<;>rw[z]<;>decide) (by rw[aZ];exact hk.2) ?_) (by with_unfolding_all rfl);refine⟨.ref _,_,I3.laid (t':=s2.toks) (o:=.tup (d9 xs k)) (λb ob q=>aO _ q) (aH _) ?_,rfl,q1.tuple m1 rd' (I3.bI.fresh (aH _))⟩;exact⟨by rw[Wg.length,aZ];exact hk.2,_,Wg,IsTup.new _ _⟩
 ·exact q1.elim
theorem kL(h:jb e=true)(n:Str)(env:Env)(wh:Sem Value):attributeBase e n env wh=wh:=by
 cases e<;>first | rfl | skip
 rename_i f args fH pos
 cases f<;>first | rfl | skip
 cases args<;>first | rfl | skip
 cases fH<;>first | rfl | exact absurd (show false=true from h) aQ
theorem yX{m:Me}{o:C}{cs:List C}{σ:L2.St}{H:Hp}{Q:VK}(q:tE X.K (ev G (.me m o cs)) σ H Q):tBM X.K "list" (Tu X.K m) (tE X.K (ev G o)) (JK X.K (bX G cs)) σ H Q:=by
 obtain⟨ads,M,ρ,s,q⟩:=q;have q:df X.K ads H Q ((ev G o ρ M).bind λx M=>if (fE M x).isSome then (bX G cs ρ M).bind λds M=>tN m x ds M else .ae):=by simp only[Fl]at q;exact q
 refine d5 s q λw M1 v H1 ak s1 nh q1=>?_;split at q1
 ·rename_i hs
  obtain⟨es,he⟩:=sv.mp hs;obtain⟨a,xs,rfl,rd,ha⟩:=mF s1.mem nh he;refine⟨.inl ⟨rfl,xs,fb.of ha⟩,ak,M1,ρ,s1,?_⟩
  cases hq:bX G cs ρ M1 with
  | ok ds M2 =>
   rw[hq]at q1;intro vs H2 bp g2 m2 r2;exact⟨bp,M2,w,ds,m2,g2.rw nh,r2,df.shift (o:=tN m w ds M2) q1 g2 s1.mem m2⟩
  | err _ _=>rw[hq]at q1;exact q1
  | ae=>rw[hq]at q1;exact q1
 ·exact q1.elim
theorem t9{m:Me}{o:C}{σ:L2.St}{H:Hp}{Q:VK}(q:tE X.K (ev G (.me m o [])) σ H Q):SQ X.K "list" (Tu X.K m) (tE X.K (ev G o)) σ H Q:=by
 obtain⟨ads,M,ρ,s,q⟩:=q;have q:df X.K ads H Q ((ev G o ρ M).bind λx M=>if (fE M x).isSome then (bX G [] ρ M).bind λds M=>tN m x ds M else .ae):=by simp only[Fl]at q;exact q
 refine d5 s q λw M1 v H1 ak s1 nh q1=>?_;split at q1
 ·rename_i hs
  obtain⟨es,he⟩:=sv.mp hs;obtain⟨a,xs,rfl,rd,ha⟩:=mF s1.mem nh he;exact⟨.inl ⟨rfl,xs,fb.of ha⟩,ak,M1,w,[],s1.mem,nh,(by unfold aS;rfl),q1⟩
 ·exact q1.elim
theorem OT(h:cY cc cs es=true)(hl:es.length<20)(env:Env)(fC:Pos):((backTo fC (starEach es env)).all (λx=>!x.1)&&(backToKw fC (keywordEach [] env)).all (λx=>x.1.isSome)&&decide (es.length+([]:List Keyword).length+(if ([]:List Keyword).isEmpty then 0 else 1)<30))=true:=by
 have h1:=eU h env fC
 have h2:(backTo fC (starEach es env)).all (λx=>!x.1)=true:=by
  rw[DO];intro x hx;rw[MT]at h1;have:=h1 x hx;simpa using this
 rw[h2];simp[keywordEach,backToKw];omega
theorem Y7{n:Str}(hn:n=FG m)(hm:TB m=true)(hl:(ap.endLine==cp.line)=true)(h0:jb e=true)(hc:cY cc cs es=true)(aZ:es.length<20)(ho:PE X e (tE X.K (ev G o)))(ha:PA X es (JK X.K (bX G cs))):PE X (.Call (.Attribute e n ap) es [] cp) (tE X.K (ev G (.me m o cs))):=by
 have hb:=kL h0 n X.env (eval e X.env);subst hn
 cases es with
 | nil =>
  cases cs with
  | cons _ _=>cases hc
  | nil =>
   cases m with
   | append=>exact fT (yx BK F.slot_list_append F.type_list_append rP ho hb hl) λσ H Q q=>t9 q
   | insert=>exact fT (yx BK F.slot_list_insert F.type_list_insert rR ho hb hl) λσ H Q q=>t9 q
   | reverse=>cases hm
   | extend=>exact fT (yx BK H_ F.type_list_extend rQ ho hb hl) λσ H Q q=>t9 q
   | remove=>cases hm
   | pop=>cases hm
   | clear=>cases hm
 | cons e1 es =>
  have fB:aN e1=true/\cY cc cs.tail es=true:=by
   cases cs with
   | nil=>cases hc
   | cons c cs =>
    have h':(aN e1&&cg cc c e1&&cY cc cs es)=true:=hc;simp only[aW]at h';exact⟨h'.1.1,h'.2⟩
  have vS:=OT hc aZ X.env cp
  cases m with
  | append=>exact fT (EF BK F.slot_list_append F.type_list_append rP ho ha hb vS hl (bB fB.1 es X.env) (eU fB.2 X.env cp)) λσ H Q q=>yX q
  | insert=>exact fT (EF BK F.slot_list_insert F.type_list_insert rR ho ha hb vS hl (bB fB.1 es X.env) (eU fB.2 X.env cp)) λσ H Q q=>yX q
  | reverse=>cases hm
  | extend=>exact fT (EF BK H_ F.type_list_extend rQ ho ha hb vS hl (bB fB.1 es X.env) (eU fB.2 X.env cp)) λσ H Q q=>yX q
  | remove=>cases hm
  | pop=>cases hm
  | clear=>cases hm
theorem T6{x:Str}(g:Good kk X cc G)(hg:glob cc x=true)(hp:d_ x=true)(hl:cc.gs.lookup x=some v):PE X (.Name x pos) (tE X.K (ev G (.JC x v))):=by
 obtain⟨t,ht⟩:=g.gls x v hl;refine fT (Io (v:=.int v) (g.gl hg) ht ⟨t,rfl⟩ (mI hp).1) λσ H Q q=>?_;obtain⟨ads,M,ρ,s,q⟩:=q;exact df.plain q s.mem (cK _)
def T7(K:Frag):R2:=λx y H Q=>∃ads M wx wy,aX K ads H M/\RW K ads H wx x/\RW K ads H wy y/\df K ads H Q (m8 wx wy M)
theorem OU(hu:X.A.units+1<cLine):Q_ X (T7 X.K):=by
 intro value jK aa s σ H x y v u Q I rx ry h hs;obtain⟨ads,M,wx,wy,m,r1,r2,h⟩:=h;unfold m8 at h;split at h
 ·rename_i ag k qd qk
  split at h
  ·rename_i d q
   obtain⟨b,rfl,hb⟩:=As r2 qk;obtain⟨a,ks,rfl,ha,rk⟩:=Tw m r1 qd;obtain⟨z,e2,rz⟩:=rk.find (k:=k) q;cases rx;have g:kJ H a (.ref b) (some z):=by have:=OF ha hb;rw[e2]at this;exact this
   sleep 30
  ·exact h.elim
 ·exact h.elim
theorem OV(g:Good kk X cc G)(hs:fG i=true)(ha:PE X e (tE X.K (ev G a)))(hb:PE X i (tE X.K (ev G b))):PE X (.Subscript e i pos) (tE X.K (ev G (.kQ a b))):=by
 have TK:=g.room.un;exact fT (LH (OU ∅) ha hb (pP hs)) λσ H Q q=>two (λm r1 r2 h=>⟨_,_,_,_,m,r1,r2,h⟩) q
theorem OW{a:C}{x y:Str}{e:Expr}{p p2 pos OX:Pos}(g:Good kk X cc G) (hx:x = "sorted") (Y5:glob cc x=true) (hy:y = "set") (Y6:glob cc y=true) (hs:aN e=true) (ha:PE X e (tE X.K (ev G a))):PE X (.Call (.Name x p) [.Call (.Name y p2) [e] [] OX] [] pos) (tE X.K (ev G (.sset a))):=by
 have gx:=g.gl Y5;have gy:=g.gl Y6;have mx:X.mg x=none:=g.blt x (by subst hx;show _∈cC;decide +kernel);have my:X.mg y=none:=g.blt y (by subst hy;show _∈cC;decide +kernel);subst hx hy;have fB:=bB hs [] X.env;refine fT (fO (yG g.calm) gx mx boot_sorted (d4 (gQ (CJ g.calm) gy my ⋯ (d4 ha ib fB) ⋯ ⋯ fB rfl) ib rfl) ⋯ ⋯ rfl rfl) λσ H Q q=>?_;obtain⟨ads,M,ρ,s,q⟩:=q;refine d5 s q λw M1 v H1 ak s1 r1 h1=>?_;unfold pG at h1;split at h1
 ·rename_i ds q1
  split at h1
  ·rename_i is q2
   split at h1
   ·rename_i hb
    obtain⟨a,xs,rfl,rd,sq⟩:=mF s1.mem r1 q1;have ex:=ints_of q2 rd;subst ex;exact⟨a,is,rfl,fb.of sq,hb.1,λl hl=>⟨l,yE is,rfl,a_,LP is,hb.2,λr hr=>(h1.shift (aI.fR s1.mem hl) s1.mem (s1.mem.fR hl)).list (s1.mem.fR hl) (Ar _) hr⟩⟩
   ·exact h1.elim
  ·exact h1.elim
 ·exact h1.elim
end
section
variable {kk:Nat} {X:Cx} {cc:CC} {G:dQ}
structure TF (H H':Hp):Prop where
 tup:Tn H H'
 dP:∀b o u,H b=some (.dP o u)->H' b=some (.dP o u)
theorem TF.jC{K:Frag}{H H':Hp}(t:TF H H'){a:Addr}{xs:List V}(h:wA K H a xs):wA K H' a xs:=by
 rcases h with⟨o,h⟩ | h
 ·exact .inl ⟨o,t.dP _ _ _ h⟩
 ·exact .inr h
mutual
theorem RD.keep{K:Frag}{ads:List Addr}{H H':Hp}(t:TF H H'):∀(d:D)(v:V),RD K ads H d v->RD K ads H' d v
 | .aP,_,h=>by unfold RD at *;exact h
 | .bl _,_,h=>by unfold RD at *;exact h
 | .int _,_,h=>by unfold RD at *;exact h
 | .str _,_,h=>by unfold RD at *;exact h
 | .ai n,v,h=>by unfold RD at *;exact h
 | .tup ds,v,h=>by unfold RD at *;obtain⟨a,xs,e,h,r⟩:=h;exact⟨a,xs,e,t.tup _ _ h,aS.keep t ds xs r⟩
 | .ls ds,v,h=>by unfold RD at *;obtain⟨a,xs,e,h,r⟩:=h;exact⟨a,xs,e,t.jC h,aS.keep t ds xs r⟩
theorem aS.keep{K:Frag}{ads:List Addr}{H H':Hp}(t:TF H H'):∀(ds:List D)(vs:List V),aS K ads H ds vs->aS K ads H' ds vs
 | [],_,h=>by unfold aS at *;exact h
 | d::ds,vs,h=>by unfold aS at *;obtain⟨x,r,e,h1,h2⟩:=h;exact⟨x,r,e,RD.keep t d x h1,aS.keep t ds r h2⟩
end
theorem cq.keep{κ:Type}{K:Frag}{ads:List Addr}{H H':Hp}(t:TF H H'):∀(ds:List (κ×D))(vs:List (κ×V)),cq K ads H ds vs->cq K ads H' ds vs
 | [],_,h=>by unfold cq at *;exact h
 | d::ds,vs,h=>by unfold cq at *;obtain⟨x,r,e,h0,h1,h2⟩:=h;exact⟨x,r,e,h0,RD.keep t d.2 x.2 h1,cq.keep t ds r h2⟩
theorem aX.keep{K:Frag}{ads:List Addr}{H H':Hp}{M:aj}(m:aX K ads H M)(t:TF H H')(k:∀a∈ads,H' a=H a):aX K ads H' M:=⟨m.nd,m.len,λn o a e1 e2=>by
 have h:=m.obj n o a e1 e2;have ha:=k a (cQ e2)
 cases o with
 | lst ds=>obtain⟨xs,h,r⟩:=h;exact⟨xs,ha.trans h,aS.keep t _ _ r⟩
 | jC ds=>obtain⟨o,xs,h,r⟩:=h;exact⟨o,xs,ha.trans h,aS.keep t _ _ r⟩
 | dK ds=>obtain⟨xs,h,r⟩:=h;exact⟨xs,ha.trans h,cq.keep t _ _ r⟩
 | dT ds=>obtain⟨xs,h,r⟩:=h;exact⟨xs,ha.trans h,cq.keep t _ _ r⟩
 | dF ds=>obtain⟨o,xs,h,r⟩:=h;exact⟨o,xs,ha.trans h,cq.keep t _ _ r⟩⟩
theorem kX:∀(ag acc:List (bN×V)),(acc.map (·.1)++ag.map (·.1)).Nodup->gE acc ag=acc++ag
 | [],acc,_=>by simp[gE]
 | p::ps,acc,h=>by
  have hn:¬p.1∈acc.map (·.1):=by
   intro hm;rw[x_]at h;exact h.2.2 _ hm _ (by simp) rfl
  have ha:(acc.any λkv=>decide (kv.1=p.1))=false:=by
   rw[MT];intro x hx;simp only[oJ];exact λe=>hn (e▸List.mem_map_of_mem hx)
  have e:gE acc (p::ps)=gE (acc++[p]) ps:=by
   show gE (eC acc p.1 p.2) ps=_;unfold eC;rw[ha];simp
  rw[e,kX ps (acc++[p]) (by simpa using h)];simp
def mJ(K:Frag)(G:dQ):List Str->List C->List (TE×TE)
 | k::ks,c::cs=>(tC (.str k),tE K (ev G c))::mJ K G ks cs
 | _,_=>[]
theorem pQ{K:Frag}(ks:List Str)(cs:List C):∀t∈mJ K G ks cs,(∀σ H A B,(∀v H,A v H->B v H)->t.1 σ H A->t.1 σ H B)/\(∀σ H A B,(∀v H,A v H->B v H)->t.2 σ H A->t.2 σ H B):=by
 intro t ht
 have:∀(ks:List Str)(cs:List C),t∈mJ K G ks cs->∃k c,t=(tC (.str k),tE K (ev G c)):=by
  intro ks
  induction ks with
  | nil=>intro cs h;cases cs<;>cases h
  | cons k ks ih =>
   intro cs h
   cases cs with
   | nil=>cases h
   | cons c cs =>
    rcases bT.mp h with z | z
    ·exact⟨k,c,z⟩
    ·exact ih cs z
 obtain⟨k,c,rfl⟩:=this ks cs ht;refine⟨λσ H A B f h=>f _ _ h,λσ H A B f h=>?_⟩;obtain⟨ads,M,ρ,s,q⟩:=h;refine⟨ads,M,ρ,s,?_⟩
 cases hq:ev G c ρ M with
 | ok w M1=>rw[hq]at q;exact λv H' aE g m r=>f _ _ (q v H' aE g m r)
 | err _ _=>rw[hq]at q;exact q
 | ae=>rw[hq]at q;exact q
theorem wQ{K:Frag}{ρ:En}{σ:L2.St}:∀(ks:List Str)(cs:List C){ads:List Addr}{H:Hp}{M:aj}{R:List V->Hp->Prop},ks.length=cs.length->SR K ads M ρ σ H->wG K ads H R (bX G cs ρ M)->ic (mJ K G ks cs) σ H λps H2=>∃vs,ps=(ks.map V.str).zip vs/\vs.length=ks.length/\R vs H2
 | [],[],ads,H,M,R,_,s,h=>⟨[],rfl,rfl,h [] H ads (aI.refl _ _) s.mem (by unfold aS;rfl)⟩
 | [],_::_,_,_,_,_,e,_,_=>by cases e
 | _::_,[],_,_,_,_,e,_,_=>by cases e
 | k::ks,c::cs,ads,H,M,R,e,s,h=>by
  show tE K (ev G c) σ H λy H2=>ic (mJ K G ks cs) σ H2 λps H3=>_;refine⟨ads,M,ρ,s,?_⟩;simp only[gU,fK]at h
  cases hq:ev G c ρ M with
  | ok w M1 =>
   rw[hq]at h;intro v H1 ak g1 m1 r1
   cases ho:own w M1 with
   | ok d M2 =>
    have h:wG K ads H R ((own w M1).bind λd M=>(bX G cs ρ M).bind λds M=>.ok (d::ds) M):=h;rw[ho]at h;obtain⟨bp,g2,m2,rd⟩:=tY s.mem g1 m1 r1 ho;have h:wG K ads H R ((bX G cs ρ M2).bind λds M=>.ok (d::ds) M):=h
    have h2:wG K bp H1 (λvs H'=>R (v::vs) H') (bX G cs ρ M2):=by
     cases FK:bX G cs ρ M2 with
     | ok ds M3 =>
      rw[FK]at h;intro vs H3 eF g3 m3 r3;refine h (v::vs) H3 eF (g2.trans g3) m3 ?_;unfold aS;exact⟨v,vs,rfl,g3.rd _ _ rd,r3⟩
     | err _ _=>rw[FK]at h;exact h
     | ae=>rw[FK]at h;exact h
    have ih:=wQ ks cs (by simpa using e) (s.grow g2 m2) h2
    have mono:∀(qN:List (TE×TE))(H:Hp)(P Q:List (V×V)->Hp->Prop),(∀ps H,P ps H->Q ps H)->(∀t∈qN,(∀σ H A B,(∀v H,A v H->B v H)->t.1 σ H A->t.1 σ H B)/\(∀σ H A B,(∀v H,A v H->B v H)->t.2 σ H A->t.2 σ H B))->ic qN σ H P->ic qN σ H Q:=by
     intro qN
     induction qN with
     | nil=>intro H P Q f _ h;exact f _ _ h
     | cons t qN ih =>
      intro H P Q f hm h;obtain⟨m1,m2⟩:=hm t dH;refine m1 σ H _ _ (λx H1 h1=>m2 σ H1 _ _ (λy H2 h2=>ih H2 _ _ (λps H3 h3=>f _ _ h3) (λt ht=>hm t (da _ ht)) h2) h1) h
    refine mono _ _ _ _ ?_ ?_ ih
    ·rintro ps H3 ⟨vs,rfl,hl,hR⟩;exact⟨v::vs,rfl,by simp[hl],hR⟩
    ·intro t ht;exact pQ ks cs t ht
   | err _ _=>cases w<;>cases ho
   | ae=>cases w<;>cases ho
  | err _ _=>rw[hq]at h;exact h
  | ae=>rw[hq]at h;exact h
theorem FP{ks:List Str}  : ∀{keys:List (Option Expr)}{vs:List Expr}{pos:Pos},kU ks keys=true->ks.length=cs.length->cY cc cs vs=true->(∀c∈cs,∀e,cg cc c e=true->PE X e (tE X.K (ev G c)))->Q8 X pos keys vs (mJ X.K G ks cs):=by
 induction ks generalizing cs with
 | nil =>
  intro keys vs pos h1 h2 h3 ih
  cases keys with
  | cons _ _=>cases h1
  | nil =>
   cases cs with
   | cons _ _=>cases h2
   | nil =>
    cases vs with
    | cons _ _=>cases h3
    | nil=>exact IL
 | cons k ks ihk =>
  intro keys vs pos h1 h2 h3 ih
  cases cs with
  | nil=>cases h2
  | cons c cs =>
   cases vs with
   | nil=>cases h3
   | cons e es =>
    have h':(aN e&&cg cc c e&&cY cc cs es)=true:=h3;simp only[aW]at h'
    cases keys with
    | nil=>cases h1
    | cons ky keys =>
     cases ky with
     | none=>cases h1
     | some ke =>
      obtain⟨h1,hk⟩:=(aW _ _).mp h1;refine cE (P:=λke=>Q8 X pos (some ke::keys) (e::es) _) h1 λcn j p h1=>?_;cases cn<;>first | exact absurd (show false=true from h1) aQ | skip
      rename_i st
      obtain rfl:k=st:=eq_of_beq h1;exact Ey D8 (ih c dH e h'.1.2) (ihk hk (by simpa using h2) h'.2 λc hc=>ih c (da _ hc))
theorem kY:∀{ks:List Str}{keys:List (Option Expr)},kU ks keys=true->keys.all (·.isSome)=true/\keys.length=ks.length
 | [],[],_=>⟨rfl,rfl⟩
 | [],_::_,h=>by cases h
 | _::_,[],h=>by cases h
 | k::ks,ky::keys,h=>by
  cases ky with
  | none=>cases h
  | some ke =>
   obtain⟨a,b⟩:=kY ((aW _ _).mp h).2;exact⟨by simp[a],by simp[b]⟩
theorem wR:∀{cs:List C}{es:List Expr},cY cc cs es=true->cs.length=es.length
 | [],[],_=>rfl
 | [],_::_,h=>by cases h
 | _::_,[],h=>by cases h
 | c::cs,e::es,h=>by
  sleep 16;simp[wR h'.2]
theorem Az{α β:Type}:∀(l:List α)(r:List β),l.length=r.length->(l.zip r).map (·.1)=l
 | [],_,_=>by simp
 | a::l,[],h=>by simp at h
 | a::l,b::r,h=>by simp[Az l r (by simpa using h)]
theorem AA{K:Frag}{ads:List Addr}{H:Hp}:∀(ks:List bN){ds:List D}{vs:List V},aS K ads H ds vs->ks.length=ds.length->cq K ads H (ks.zip ds) (ks.zip vs)
 | [],ds,vs,r,h=>by simp;unfold cq;rfl
 | k::ks,[],vs,r,h=>by simp at h
 | k::ks,d::ds,vs,r,h=>by
  unfold aS at r;obtain⟨x,r',rfl,h1,h2⟩:=r;show cq K ads H ((k,d)::ks.zip ds) ((k,x)::ks.zip r');unfold cq;exact⟨_,_,rfl,rfl,h1,AA ks h2 (by simpa using h)⟩
theorem OY:PE X (.Dict [] [] pos) (tE X.K (ev G (.v8 [] []))):=by
 refine fT Eu λσ H Q q=>?_;obtain⟨ads,M,ρ,s,q⟩:=q;intro p hp
 have q:df X.K ads H Q (.ok (.d (.ai M.length)) (M++[.dK []])):=by
  simp only[yL,gU,fK]at q;exact q
 exact q.Ov s.mem hp (show cq X.K ads H [] [] by unfold cq;rfl)
theorem OZ:PE X (.Dict [] [] pos) (tE X.K (ev G .pA)):=fT Ew λσ H Q q=>by
 obtain⟨ads,M,ρ,s,q⟩:=q;intro p hp;have np:=s.mem.fresh hp;refine q (.ref p) _ (ads++[p]) ?_ ((s.mem.fR (o:=.dT []) hp).push np ⟨[],a_,rfl⟩) ?_
 ·exact⟨⟨[p],rfl⟩,λb hb nb=>by
   rcases dk.mp hb with z | z
   ·exact absurd z nb
   ·rw[iO.mp z];exact hp,λb u n e=>by rw[az (λz=>by subst z;rw[hp]at e;cases e)];exact e,λb xs e=>by rw[az (λz=>by subst z;rw[hp]at e;cases e)];exact e,λb u x e=>by rw[az (λz=>by subst z;rw[hp]at e;cases e)];exact e⟩
 ·show RD X.K (ads++[p]) (upd H p (.dT [])) (.ai M.length) (.ref p);unfold RD;exact⟨p,rfl,by rw[qD (by rw[s.mem.len];exact aH _)];simp[s.mem.len]⟩
theorem T8{ks:List Str}{cs:List C}{keys:List (Option Expr)}{vs:List Expr}{pos:Pos}(h1:kU ks keys=true)(hn:ks.Nodup)(h0:keys≠[])(SI:keys.length<=15)(hc:cY cc cs vs=true)(hl:ks.length=cs.length)(ih:∀c∈cs,∀e,cg cc c e=true->PE X e (tE X.K (ev G c))):PE X (.Dict keys vs pos) (tE X.K (ev G (.v8 ks cs))):=by
 obtain⟨k1,k2⟩:=kY h1;refine fT (IM (FP h1 hl hc ih) k1 (by rw[k2,hl,wR hc]) h0 SI) λσ H Q q=>?_;obtain⟨ads,M,ρ,s,q⟩:=q;intro p hp;have hpn:=s.mem.fresh hp;have g0:aI ads ads H (upd H p (.dK [])):=aI.fR s.mem hp;have s0:SR X.K ads M ρ σ (upd H p (.dK [])):=s.grow g0 (s.mem.fR hp);simp only[yL]at q
 have main:wG X.K ads (upd H p (.dK [])) (λvs H2=>H2 p=some (.dK [])/\(vs.length=ks.length->Q (.ref p) (upd H2 p (.dK ((ks.map Sum.inr).zip vs))))) (bX G cs ρ M):=by
  cases hq:bX G cs ρ M with
  | ok ds M1 =>
   rw[hq]at q;have q:df X.K ads H Q (if ks.length=ds.length then .ok (.d (.ai M1.length)) (M1++[.dK ((ks.map Sum.inr).zip ds)]) else .ae):=q;split at q
   ·rename_i Rl
    intro vs H2 bp g2 m2 r2;have e2:H2 p=some (.dK []):=g2.kept p _ hpn a_;refine⟨e2,λWl=>?_⟩;have pn2:p∉bp:=g2.gk hpn a_;have tk:TF H2 (upd H2 p (.dK ((ks.map Sum.inr).zip vs))):=⟨λb xs h=>by rw[az (λz=>by subst z;rw[e2]at h;cases h)];exact h,λb o u h=>by rw[az (λz=>by subst z;rw[e2]at h;cases h)];exact h⟩;have m3:aX X.K bp (upd H2 p (.dK ((ks.map Sum.inr).zip vs))) M1:=m2.keep tk λa ha=>az (λz=>by subst z;exact pn2 ha);have r3:=aS.keep (K:=X.K) (ads:=bp) tk _ _ r2;have m4:=m3.push (o:=.dK ((ks.map Sum.inr).zip ds)) pn2 ⟨_,a_,AA (ks.map Sum.inr) r3 (by simpa using Rl)⟩;obtain⟨t,et⟩:=g2.pre;refine q (.ref p) _ (bp++[p]) ⟨⟨t++[p],by rw[et,oI]⟩,λb hb nb=>?_,λb x nb h=>?_,λb xs h=>?_,λb o u h=>?_⟩ m4 ?_
    ·rcases dk.mp hb with z | z
     ·have:=g2.new b z nb;by_cases FQ:b=p
      ·subst FQ;exact hp
      ·rw[az FQ]at this;exact this
     ·have:b=p:=by simpa using z
      subst this;exact hp
    ·have FQ:b≠p:=λz=>by subst z;rw[hp]at h;cases h
     rw[az FQ];exact g2.kept b x nb (by rw[az FQ];exact h)
    ·have FQ:b≠p:=λz=>by subst z;rw[hp]at h;cases h
     rw[az FQ];exact g2.hZ b xs (by rw[az FQ];exact h)
    ·have FQ:b≠p:=λz=>by subst z;rw[hp]at h;cases h
     rw[az FQ];exact g2.dP b o u (by rw[az FQ];exact h)
    ·show RD X.K (bp++[p]) (upd H2 p (.dK ((ks.map Sum.inr).zip vs))) (.ai M1.length) (.ref p);unfold RD;exact⟨p,rfl,by rw[qD (by rw[m2.len];exact aH _)];simp[m2.len]⟩
   ·exact q.elim
  | err _ _=>rw[hq]at q;exact q
  | ae=>rw[hq]at q;exact q
 have h:=wQ ks cs hl s0 main
 have mono:∀(qN:List (TE×TE))(H:Hp)(P Q:List (V×V)->Hp->Prop),(∀ps H,P ps H->Q ps H)->(∀t∈qN,(∀σ H A B,(∀v H,A v H->B v H)->t.1 σ H A->t.1 σ H B)/\(∀σ H A B,(∀v H,A v H->B v H)->t.2 σ H A->t.2 σ H B))->ic qN σ H P->ic qN σ H Q:=by
  intro qN
  induction qN with
  | nil=>intro H P Q f _ h;exact f _ _ h
  | cons t qN ih =>
   intro H P Q f hm h;obtain⟨m1,m2⟩:=hm t dH;refine m1 σ H _ _ (λx H1 h1=>m2 σ H1 _ _ (λy H2 h2=>ih H2 _ _ (λps H3 h3=>f _ _ h3) (λt ht=>hm t (da _ ht)) h2) h1) h
 refine mono _ _ _ _ ?_ (pQ ks cs) h;rintro ps H2 ⟨vs,rfl,Wl,e2,hQ⟩;refine⟨e2,(ks.map Sum.inr).zip vs,?_,?_,?_⟩
 ·rw[List.zip_map_left,List.zip_map_left,sL];rfl
 ·rw[List.length_zip,ay,Wl];omega
 ·have hnd:((([]:List (bN×V)).map (·.1))++((ks.map (Sum.inr (α:=Int))).zip vs).map (·.1)).Nodup:=by
   rw[Az _ _ (by rw[ay];exact Wl.symm)];simp only[oM,List.nil_append];exact List.Pairwise.map _ (λa b Rm z=>Rm (Sum.inr.inj z)) hn
  rw[kX _ _ hnd];exact hQ Wl
end
def HE(K:Frag)(ads:List Addr)(H:Hp)(it:Ev.It)(J:L2.It):Prop :=
 ∀(i:Nat)(ak:List Addr)(H1:Hp)(M1:aj),aI ads ak H H1->aX K ak H1 M1 ->
  (itemAt M1 i it=some none->J.stop i H1) /\
  (∀d,itemAt M1 i it=some (some d)->J.go i H1/\∀x H2,J.Q5 i H1 x H2->aI ak ak H1 H2/\aX K ak H2 M1/\RD K ak H2 d x)
def gI(K:Frag)(ads:List Addr)(H:Hp)(R:L2.It->Hp->Prop):cP Ev.It->Prop
 | .ok it M=>∀J H' aE,aI ads aE H H'->aX K aE H' M->HE K aE H' it J->R J H'
 | _=>False
def tI(K:Frag)(o:En->aj->cP Ev.It):TI:=λσ H R=>∃ads M ρ,SR K ads M ρ σ H/\gI K ads H R (o ρ M)
def cF(G:dQ)(k:SK)(d8:List C)(ρ:En)(M:aj):cP Ev.It:=(du G d8 ρ M).bind λws M=>fc k ws M
section
variable {K:Frag} {ads:List Addr} {H:Hp} {M:aj}
theorem AB(lo:Int)(n:Nat):HE K ads H (.lX lo n) (Sk lo n):=by
 intro i ak H1 M1 g1 m1;refine⟨λe=>?_,λd e=>?_⟩
 ·by_cases h:i<n
  ·simp[itemAt,h]at e
  ·exact Nat.not_lt.mp h
 ·by_cases h:i<n
  ·simp only[itemAt,ar h,ya]at e;subst e;refine⟨h,λx H2 y=>?_⟩;obtain⟨rfl,rfl⟩:=y;exact⟨aI.refl _ _,m1,cK _⟩
  ·simp[itemAt,h]at e
theorem pR(h:∀(i:Nat)(ak:List Addr)(H1:Hp)(M1:aj),aI ads ak H H1->aX K ak H1 M1->∀o,itemAt M1 i it=some o->∃ds xs,o=ds[i]?/\aS K ak H1 ds xs/\fb K H1 a xs):HE K ads H it (XB K a):=by
 intro i ak H1 M1 g1 m1;refine⟨λe=>?_,λd e=>?_⟩
 ·obtain⟨ds,xs,e2,rd,sq⟩:=h i ak H1 M1 g1 m1 _ e;refine⟨xs,sq,?_⟩;rw[<- rd.len];exact su.mp e2.symm
 ·obtain⟨ds,xs,e2,rd,sq⟩:=h i ak H1 M1 g1 m1 _ e;obtain⟨v,ev,rv⟩:=rd.get e2.symm;refine⟨⟨xs,v,sq,ev⟩,λx H2 y=>?_⟩;obtain⟨rfl,y⟩:=y;have:=y xs sq;rw[ev]at this;cases this;exact⟨aI.refl _ _,m1,rv⟩
theorem J6(ha:H a=some (.tup xs))(rd:aS K ads H ds xs):HE K ads H (.items ds) (XC K a):=by
 intro i ak H1 M1 g1 m1;have sq:fz K H1 a xs:=fz.of (g1.hZ _ _ ha);have rd1:=g1.pz _ _ rd;refine⟨λe=>?_,λd e=>?_⟩
 ·refine⟨xs,sq,?_⟩;rw[<- rd.len];exact su.mp (bS e)
 ·obtain⟨v,ev,rv⟩:=rd1.get (bS e);refine⟨⟨xs,v,sq,ev⟩,λx H2 y=>?_⟩;obtain⟨rfl,y⟩:=y;have:=y xs sq;rw[ev]at this;cases this;exact⟨aI.refl _ _,m1,rv⟩
end
theorem t_{K:Frag}{ads:List Addr}{H:Hp}{M:aj}{n:Nat}{v:V}{p:Bool×List D}(m:aX K ads H M)(r:RD K ads H (.ai n) v)(hp:bQ M (.d (.ai n))=some p):∃a,v=.ref a/\∃xs,fb K H a xs:=by
 obtain⟨l,ds⟩:=p;obtain⟨a,xs,e,rd,sq⟩:=eS (w:=.d (.ai n)) m r hp;rcases sq with⟨_,sq⟩|⟨hl,_⟩
 ·exact⟨a,e,xs,sq⟩
 ·simp only[bQ]at hp;split at hp
  ·cases hp;cases hl
  ·cases hp;cases hl
  ·cases hp
theorem wU{K:Frag}{ads bp:List Addr}{H H2:Hp}{M2:aj}{n i:Nat}{a:Addr}{o:Option D}(r:RD K ads H (.ai n) (.ref a))(g2:aI ads bp H H2)(m2:aX K bp H2 M2)(e:itemAt M2 i (.at n)=some o):∃ds xs,o=ds[i]?/\aS K bp H2 ds xs/\fb K H2 a xs:=by
 unfold RD at r;obtain⟨b,eb,ea⟩:=r;cases eb;have Rn:=g2.get ea;simp only[itemAt]at e;split at e
 ·rename_i ds q
  obtain⟨xs,h,rd⟩:=m2.obj n _ a q Rn;exact⟨ds,xs,(bS e).symm,rd,fb.of h⟩
 ·rename_i ds q
  obtain⟨o,xs,h,rd⟩:=m2.obj n _ a q Rn;exact⟨ds,xs,(bS e).symm,rd,.inl (.inr ⟨o,h⟩)⟩
 ·cases e
section
variable {kk:Nat} {X:Cx} {cc:CC} {G:dQ} {tg:Expr} {K:Frag} {ads:List Addr} {H:Hp}
theorem Ro(h:PI X tg aJ t)(f:∀σ H R,u σ H R->t σ H R):PI X tg aJ u:=λaa s σ H R I q=>h aa s σ H R I (f σ H R q)
theorem J7(he:PE X aJ (tE X.K (ev G c))):PI X tg aJ (tI X.K (cF G .seq [c])):=by
 intro aa s σ H R I q;obtain⟨ads,M,ρ,sr,q⟩:=q;simp only[cF,du]at q
 cases hq:ev G c ρ M with
 | ok w M1 =>
  rw[hq]at q;have q:gI X.K ads H R (fc .seq [w] M1):=q
  cases w with
  | lv ds =>
   have q:gI X.K ads H R (.ok (.items ds) M1):=q;refine sT he aa s σ H R I ⟨ads,M,ρ,sr,?_⟩;rw[hq];intro v H1 ak g1 m1 r1;obtain⟨a,xs,rfl,h0,h1,n,rd⟩:=r1;refine⟨a,rfl,⟨xs,fb.of h1⟩,q _ H1 ak g1 m1 (pR λi bp H2 M2 g2 m2 o e=>?_)⟩;exact⟨ds,xs,(bS e).symm,g2.pz _ _ rd,fb.of (g2.kept a _ n h1)⟩
  | d x =>
   cases x with
   | tup ds =>
    have q:gI X.K ads H R (.ok (.items ds) M1):=q;refine Nr he aa s σ H R I ⟨ads,M,ρ,sr,?_⟩;rw[hq];intro v H1 ak g1 m1 r1;have r1:RD X.K ak H1 (.tup ds) v:=r1;unfold RD at r1;obtain⟨a,xs,rfl,h1,rd⟩:=r1;exact⟨a,rfl,⟨xs,fz.of h1⟩,q _ H1 ak g1 m1 (J6 h1 rd)⟩
   | ls ds =>
    have q:gI X.K ads H R (.ok (.items ds) M1):=q;refine sT he aa s σ H R I ⟨ads,M,ρ,sr,?_⟩;rw[hq];intro v H1 ak g1 m1 r1;have r1:RD X.K ak H1 (.ls ds) v:=r1;unfold RD at r1;obtain⟨a,xs,rfl,h1,rd⟩:=r1;refine⟨a,rfl,⟨xs,h1.sq⟩,q _ H1 ak g1 m1 (pR λi bp H2 M2 g2 m2 o e=>?_)⟩;exact⟨ds,xs,(bS e).symm,g2.pz _ _ rd,(g2.jC h1).sq⟩
   | ai n =>
    have q:gI X.K ads H R (if (bQ M1 (.d (.ai n))).isSome then .ok (.at n) M1 else .ae):=q;split at q
    ·rename_i hs
     obtain⟨p,hp⟩:=sv.mp hs;refine sT he aa s σ H R I ⟨ads,M,ρ,sr,?_⟩;rw[hq];intro v H1 ak g1 m1 r1;obtain⟨a,ea,sq⟩:=t_ m1 r1 hp;subst ea;exact⟨a,rfl,sq,q _ H1 ak g1 m1 (pR λi bp H2 M2 g2 m2 o e=>wU r1 g2 m2 e)⟩
    ·exact q.elim
   | aP=>exact q.elim
   | bl _=>exact q.elim
   | int _=>exact q.elim
   | str _=>exact q.elim
 | err _ _=>rw[hq]at q;exact q.elim
 | ae=>rw[hq]at q;exact q.elim
theorem FR{c:C}{a:Expr}{x:Str}{p pos:Pos}(g:Good kk X cc G) (hx:x = "range") (hg:glob cc x=true) (hs:aN a=true) (he:PE X a (tE X.K (ev G c))):PI X tg (.Call (.Name x p) [a] [] pos) (tI X.K (cF G .eR [c])):=by
 sleep 21;refine Ro (B4 t5 hm (d4 he ib (bB hs [] X.env)) (bB hs [] X.env)) λσ H R q=>?_;sleep 14
 cases hq:ev G c ρ M with
 | ok w M1 =>
  rw[hq]at q;have q:gI X.K ads H R (fc .eR [w] M1):=q;intro v H1 ak g1 m1 r1;rcases w with⟨_|_ | j | _|_|_⟩|_<;>first | exact q.elim | skip
  have q:gI X.K ads H R (if -(2 ^ 62)<=j/\j<2 ^ 62 then .ok (.lX 0 j.toNat) M1 else .ae):=q;split at q
  ·rename_i hj
   exact⟨j,by rw[a8 r1],hj.1,hj.2,q _ H1 ak g1 m1 (AB _ _)⟩
  ·exact q.elim
 | err _ _=>rw[hq]at q;exact q.elim
 | ae=>rw[hq]at q;exact q.elim
theorem FT{c d:C}{a b:Expr}{x:Str}{p pos:Pos}(g:Good kk X cc G) (hx:x = "range") (hg:glob cc x=true) (hs:aN a=true) (yh:aN b=true) (he:PE X a (tE X.K (ev G c))) (hd:PE X b (tE X.K (ev G d))):PI X tg (.Call (.Name x p) [a,b] [] pos) (tI X.K (cF G .qP [c,d])):=by
 sleep 21;refine Ro (B5 t5 hm (d4 he (d4 hd ib (bB yh [] X.env)) (bB hs [b] X.env)) (by rw[bB hs,bB yh];rfl) (bB yh [] X.env)) λσ H R q=>?_;sleep 14
 cases hq:ev G c ρ M with
 | ok w M1 =>
  sleep 39;have s1:=s.grow g1 m1;refine⟨ak,M1,ρ,s1,?_⟩;simp only[cP.bind]at q
  cases FO:ev G d ρ M1 with
  | ok w2 M2 =>
   rw[FO]at q;have q:gI X.K ads H R (fc .qP [w,w2] M2):=q;intro v2 H2 bp g2 m2 r2;rcases w with⟨_|_ | i | _|_|_⟩|_<;>first | exact q.elim | skip
   rcases w2 with⟨_|_ | j | _|_|_⟩|_<;>first | exact q.elim | skip
   have q:gI X.K ads H R (if -(2 ^ 62)<=i/\i<2 ^ 62/\-(2 ^ 62)<=j/\j<2 ^ 62 then .ok (.lX i (j-i).toNat) M2 else .ae):=q;split at q
   ·rename_i hj
    exact⟨i,j,by rw[a8 r1,a8 r2],hj,q _ H2 bp (g1.trans g2) m2 (AB _ _)⟩
   ·exact q.elim
  | err _ _=>rw[FO]at q;exact q.elim
  | ae=>rw[FO]at q;exact q.elim
 | err _ _=>rw[hq]at q;exact q.elim
 | ae=>rw[hq]at q;exact q.elim
theorem cq.at{κ:Type}  : ∀{ag:List (κ×D)}{ks:List (κ×V)}(i:Nat),cq K ads H ag ks->(ag[i]?).map (·.1)=(ks[i]?).map (·.1)
 | [],_,_,r=>by unfold cq at r;subst r;rfl
 | p::ag,_,i,r=>by
  unfold cq at r;obtain⟨x,r',rfl,h0,_,h2⟩:=r
  cases i with
  | zero=>simp[h0]
  | succ i=>simpa using cq.at i h2
theorem wV(hk:H a=some (.dP o (.dT ks)))(rk:cq K ads H ag ks):HE K ads H (.items (ag.map pE)) (Td a o ks):=by
 intro i ak H1 M1 g1 m1;have h1:=g1.dP _ _ _ hk;have hl:=rk.len
 have e0:itemAt M1 i (.items (ag.map pE))=some ((ag[i]?).map pE):=by
  show some ((ag.map pE)[i]?)=_;rw[bc]
 rw[e0];refine⟨λe=>⟨h1,?_⟩,λd e=>?_⟩
 ·have e:(ag[i]?).map pE=none:=bS e;have:=su.mp (Option.map_eq_none_iff.mp e);omega
 ·obtain⟨p,hp,rfl⟩:=MC.mp (bS e);have hi:=(bz.mp hp).1;refine⟨⟨h1,∅⟩,λx H2 y=>?_⟩;obtain⟨rfl,k,v,b,Y8,rfl,hb⟩:=y;refine⟨aI.refl _ _,m1,?_⟩
  have ek:p.1=k:=by
   have:=rk.at i;rw[hp,Y8]at this;simpa using this
  show RD K ak H2 (.tup (p.1.map kD)) (.ref b);unfold RD;exact⟨b,k.map kV,rfl,hb,by rw[ek];exact LV k⟩
theorem FU(he:PE X aJ (tE X.K (ev G c))):PI X tg aJ (tI X.K (cF G .keys [c])):=by
 refine Ro (Js he) λσ H R q=>?_;sleep 14
 cases hq:ev G c ρ M with
 | ok w M1 =>
  rw[hq]at q;have q:gI X.K ads H R (fc .keys [w] M1):=q;intro v H1 ak g1 m1 r1;rcases w with⟨_|_|_|_|_ | n | _⟩|_<;>first | exact q.elim | skip
  have r1:RD X.K ak H1 (.ai n) v:=r1;sleep 24
  have q:gI X.K ads H R (match M1[n]? with
   | some (.dT ag)=>.ok (.items (ag.map pE)) (M1.set n (.dF ag))
   | some (.dF ag)=>.ok (.items (ag.map pE)) M1
   | _=>.ae):=q
  cases qm:M1[n]? with
  | none=>rw[qm]at q;exact q.elim
  | some ob =>
   rw[qm]at q
   cases ob with
   | dT ag =>
    obtain⟨ks,hk,rk⟩:=m1.obj n _ a qm ea;have nf:∀o x,H1 a≠some (.dP o x):=λo x z=>by rw[hk]at z;cases z
    refine⟨a,ks,rfl,.inl ⟨hk,λo=>?_⟩⟩;have v9:a∈ak:=cQ ea
    have hg:aI ak ak H1 (upd H1 a (.dP o (.dT ks))):=⟨⟨[],by simp⟩,λb h n=>absurd h n,λb x nb h=>by rw[az (by intro z;subst z;exact nb v9)];exact h,λb xs h=>by
     rw[az (λz=>by subst z;rw[hk]at h;cases h)];exact h,λb o u h=>by rw[az (λz=>by subst z;exact nf _ _ h)];exact h⟩
    obtain⟨g',m'⟩:=m1.write (o:=.dF ag) (ho:=.dP o (.dT ks)) qm ea nf ⟨o,ks,a_,hg.yI _ _ rk⟩;exact q _ _ ak (g1.trans hg) m' (wV a_ (hg.yI _ _ rk))
   | dF ag =>
    obtain⟨o,ks,hk,rk⟩:=m1.obj n _ a qm ea;exact⟨a,ks,rfl,.inr ⟨o,hk,q _ H1 ak g1 m1 (wV hk rk)⟩⟩
   | lst _=>exact q.elim
   | jC _=>exact q.elim
   | dK _=>exact q.elim
 | err _ _=>rw[hq]at q;exact q.elim
 | ae=>rw[hq]at q;exact q.elim
theorem cq.atV{κ:Type}  : ∀{ag:List (κ×D)}{ks:List (κ×V)}{i:Nat}{p:κ×D}{x:κ×V},cq K ads H ag ks->ag[i]?=some p->ks[i]?=some x->RD K ads H p.2 x.2
 | p::ag,_,i,_,_,r,e1,e2=>by
  unfold cq at r;obtain⟨x,r',rfl,_,h1,h2⟩:=r
  cases i with
  | zero=>cases e1;cases e2;exact h1
  | succ i=>exact cq.atV (i:=i) h2 e1 e2
theorem wW(hk:H a=some (.dP o (.dT ks)))(rk:cq K ads H ag ks):HE K ads H (.items (ag.map (·.2))) (Rg a o ks):=by
 intro i ak H1 M1 g1 m1;have h1:=g1.dP _ _ _ hk;have hl:=rk.len
 have e0:itemAt M1 i (.items (ag.map (·.2)))=some ((ag[i]?).map (·.2)):=by
  show some ((ag.map (·.2))[i]?)=_;rw[bc]
 rw[e0];refine⟨λe=>⟨h1,?_⟩,λd e=>?_⟩
 ·have e:(ag[i]?).map (·.2)=none:=bS e;have:=su.mp (Option.map_eq_none_iff.mp e);omega
 ·obtain⟨p,hp,rfl⟩:=MC.mp (bS e);have hi:=(bz.mp hp).1;refine⟨⟨h1,∅⟩,λx H2 y=>?_⟩;obtain⟨rfl,k,Y8⟩:=y;exact⟨aI.refl _ _,m1,(g1.yI _ _ rk).atV hp Y8⟩
theorem FV{c:C}{o:Expr}{ap cp:Pos}(he:PE X o (tE X.K (ev G c)))(hb:jb o=true)(hl:(ap.endLine==cp.line)=true):PI X tg (.Call (.Attribute o "values" ap) [] [] cp) (tI X.K (cF G .vals [c])):=by
 refine Ro (Ju he (kL hb _ X.env (eval o X.env)) hl) λσ H R q=>?_;sleep 14
 cases hq:ev G c ρ M with
 | ok w M1 =>
  rw[hq]at q;have q:gI X.K ads H R (fc .vals [w] M1):=q;intro v H1 ak g1 m1 r1;rcases w with⟨_|_|_|_|_ | n | _⟩|_<;>first | exact q.elim | skip
  have r1:RD X.K ak H1 (.ai n) v:=r1;sleep 24
  have q:gI X.K ads H R (match M1[n]? with
   | some (.dT ag)=>.ok (.items (ag.map (·.2))) (M1.set n (.dF ag))
   | some (.dF ag)=>.ok (.items (ag.map (·.2))) M1
   | _=>.ae):=q
  cases qm:M1[n]? with
  | none=>rw[qm]at q;exact q.elim
  | some ob =>
   rw[qm]at q
   cases ob with
   | dT ag =>
    obtain⟨ks,hk,rk⟩:=m1.obj n _ a qm ea;have nf:∀o x,H1 a≠some (.dP o x):=λo x z=>by rw[hk]at z;cases z
    refine⟨a,ks,rfl,.inl ⟨hk,λo=>?_⟩⟩;have v9:a∈ak:=cQ ea
    have hg:aI ak ak H1 (upd H1 a (.dP o (.dT ks))):=⟨⟨[],by simp⟩,λb h n=>absurd h n,λb x nb h=>by rw[az (by intro z;subst z;exact nb v9)];exact h,λb xs h=>by
     rw[az (λz=>by subst z;rw[hk]at h;cases h)];exact h,λb o u h=>by rw[az (λz=>by subst z;exact nf _ _ h)];exact h⟩
    obtain⟨g',m'⟩:=m1.write (o:=.dF ag) (ho:=.dP o (.dT ks)) qm ea nf ⟨o,ks,a_,hg.yI _ _ rk⟩;exact q _ _ ak (g1.trans hg) m' (wW a_ (hg.yI _ _ rk))
   | dF ag =>
    obtain⟨o,ks,hk,rk⟩:=m1.obj n _ a qm ea;exact⟨a,ks,rfl,.inr ⟨o,hk,q _ H1 ak g1 m1 (wW hk rk)⟩⟩
   | lst _=>exact q.elim
   | jC _=>exact q.elim
   | dK _=>exact q.elim
 | err _ _=>rw[hq]at q;exact q.elim
 | ae=>rw[hq]at q;exact q.elim
theorem kZ(h:∀(i:Nat)(ak:List Addr)(H1:Hp)(M1:aj),aI ads ak H H1->aX K ak H1 M1->∀o,itemAt M1 i it=some o->∃ds xs,o=(ds[i]?.map λd=>D.tup [.int i,d])/\aS K ak H1 ds xs/\nT K H1 l a xs):HE K ads H it (V9 K l a):=by
 intro i ak H1 M1 g1 m1;refine⟨λe=>?_,λd e=>?_⟩
 ·obtain⟨ds,xs,e2,rd,sq⟩:=h i ak H1 M1 g1 m1 _ e;refine⟨xs,sq,?_⟩;rw[<- rd.len]
  cases q:ds[i]? with
  | none=>exact su.mp q
  | some d=>rw[q]at e2;cases e2
 ·obtain⟨ds,xs,e2,rd,sq⟩:=h i ak H1 M1 g1 m1 _ e
  cases q:ds[i]? with
  | none=>rw[q]at e2;cases e2
  | some d' =>
   rw[q]at e2;cases e2;obtain⟨v,ev,rv⟩:=rd.get q;refine⟨⟨xs,v,sq,ev⟩,λx H2 y=>?_⟩;obtain⟨p,y,rfl,hp,rfl,yt⟩:=y;have:=yt xs sq;rw[ev]at this;cases this;refine⟨aI.fR m1 hp,m1.fR hp,?_⟩;have g2:=aI.fR (o:=.tup [.int i,v]) m1 hp;unfold RD;refine⟨p,_,rfl,a_,?_⟩;unfold aS;exact⟨.int i,[v],rfl,cK _,.one (g2.rd _ _ rv)⟩
theorem FW{c:C}{a t:Expr}{x:Str}{p pos:Pos}(g:Good kk X cc G) (hx:x = "enumerate") (ht:jq t=true) (hg:glob cc x=true) (hs:aN a=true) (he:PE X a (tE X.K (ev G c))):PI X t (.Call (.Name x p) [a] [] pos) (tI X.K (cF G .enum [c])):=by
 sleep 21;cases t<;>first | cases ht | skip
 refine Ro (Jm t5 hm (d4 he ib (bB hs [] X.env)) (bB hs [] X.env)) λσ H R q=>?_;sleep 14
 cases hq:ev G c ρ M with
 | ok w M1 =>
  rw[hq]at q;have q:gI X.K ads H R (fc .enum [w] M1):=q;intro v H1 ak g1 m1 r1;rcases w with⟨_|_|_|_ | ds | n | ds⟩ | ds<;>first | exact q.elim | skip
  ·have q:gI X.K ads H R (.ok (.i4 ds) M1):=q;have r1:RD X.K ak H1 (.tup ds) v:=r1;unfold RD at r1;obtain⟨b,xs,rfl,h1,rd⟩:=r1;refine⟨false,b,rfl,⟨xs,fz.of h1⟩,q _ H1 ak g1 m1 (kZ λi bp H2 M2 g2 m2 o e=>⟨ds,xs,(bS e).symm,g2.pz _ _ rd,fz.of (g2.hZ _ _ h1)⟩)⟩
  ·have q:gI X.K ads H R (if (bQ M1 (.d (.ai n))).isSome then .ok (.j4 n) M1 else .ae):=q;split at q
   ·rename_i hs
    obtain⟨p,hp⟩:=sv.mp hs;obtain⟨b,ea,sq⟩:=t_ m1 r1 hp;subst ea;refine⟨true,b,rfl,sq,q _ H1 ak g1 m1 (kZ λi bp H2 M2 g2 m2 o e=>?_)⟩
    have e':∃o',itemAt M2 i (.at n)=some o'/\o=o'.map λd=>D.tup [.int i,d]:=by
     simp only[itemAt]at e⊢;split at e
     ·exact⟨_,rfl,(bS e).symm⟩
     ·exact⟨_,rfl,(bS e).symm⟩
     ·cases e
    obtain⟨o',e1,e2⟩:=e';obtain⟨ds,xs,e3,rd,Y9⟩:=wU r1 g2 m2 e1;exact⟨ds,xs,by rw[e2,e3],rd,Y9⟩
   ·exact q.elim
  ·have q:gI X.K ads H R (.ok (.i4 ds) M1):=q;have r1:RD X.K ak H1 (.ls ds) v:=r1;unfold RD at r1;obtain⟨b,xs,rfl,h1,rd⟩:=r1;exact⟨true,b,rfl,⟨xs,h1.sq⟩,q _ H1 ak g1 m1 (kZ λi bp H2 M2 g2 m2 o e=>⟨ds,xs,(bS e).symm,g2.pz _ _ rd,(g2.jC h1).sq⟩)⟩
  ·have q:gI X.K ads H R (.ok (.i4 ds) M1):=q;obtain⟨b,xs,rfl,h0,h1,n,rd⟩:=r1;exact⟨true,b,rfl,⟨xs,fb.of h1⟩,q _ H1 ak g1 m1 (kZ λi bp H2 M2 g2 m2 o e=>⟨ds,xs,(bS e).symm,g2.pz _ _ rd,fb.of (g2.kept b _ n h1)⟩)⟩
 | err _ _=>rw[hq]at q;exact q.elim
 | ae=>rw[hq]at q;exact q.elim
theorem L3{K:Frag}{ads:List Addr}{H:Hp}{M:aj}{w:W}{v:V}{z:Z1}(m:aX K ads H M)(r:RW K ads H w v)(hz:LQ M w=some z):∃(l:Bool) (a:Addr),v=.ref a/\(∃xs,nT K H l a xs)/\∀bp H2 M2,aI ads bp H H2->aX K bp H2 M2->∀ds,pC M2 z=some ds->∃xs,aS K bp H2 ds xs/\nT K H2 l a xs:=by
 rcases w with⟨_|_|_|_ | ds | n | ds⟩ | ds<;>first | cases hz | skip
 ·have r:RD K ads H (.tup ds) v:=r;unfold RD at r;obtain⟨b,xs,rfl,h1,rd⟩:=r;exact⟨false,b,rfl,⟨xs,fz.of h1⟩,λbp H2 M2 g2 m2 es e=>by cases e;exact⟨xs,g2.pz _ _ rd,fz.of (g2.hZ _ _ h1)⟩⟩
 ·have hz:(if (bQ M (.d (.ai n))).isSome then some (Z1.at n) else none)=some z:=hz;split at hz
  ·rename_i hs
   cases hz;obtain⟨p,hp⟩:=sv.mp hs;obtain⟨b,ea,sq⟩:=t_ m r hp;subst ea;refine⟨true,b,rfl,sq,λbp H2 M2 g2 m2 es e=>?_⟩;have r:RD K ads H (.ai n) (.ref b):=r;unfold RD at r;obtain⟨b',eb,ea⟩:=r;cases eb;have Rn:=g2.get ea;simp only[pC]at e;split at e
   ·rename_i ds q
    cases e;obtain⟨xs,h,rd⟩:=m2.obj n _ b q Rn;exact⟨xs,rd,fb.of h⟩
   ·rename_i ds q
    cases e;obtain⟨o,xs,h,rd⟩:=m2.obj n _ b q Rn;exact⟨xs,rd,.inl (.inr ⟨o,h⟩)⟩
   ·cases e
  ·cases hz
 ·have r:RD K ads H (.ls ds) v:=r;unfold RD at r;obtain⟨b,xs,rfl,h1,rd⟩:=r;exact⟨true,b,rfl,⟨xs,h1.sq⟩,λbp H2 M2 g2 m2 es e=>by cases e;exact⟨xs,g2.pz _ _ rd,(g2.jC h1).sq⟩⟩
 ·obtain⟨b,xs,rfl,h1,n,rd⟩:=r;exact⟨true,b,rfl,⟨xs,fb.of h1⟩,λbp H2 M2 g2 m2 es e=>by cases e;exact⟨xs,g2.pz _ _ rd,fb.of (g2.kept b _ n h1)⟩⟩
theorem J8(h1:∀bp H2 M2,aI ads bp H H2->aX K bp H2 M2->∀ds,pC M2 z=some ds->∃xs,aS K bp H2 ds xs/\nT K H2 l a xs)(h2:∀bp H2 M2,aI ads bp H H2->aX K bp H2 M2->∀ds,pC M2 y=some ds->∃xs,aS K bp H2 ds xs/\nT K H2 m b xs):HE K ads H (.zip z y) (YA K l m a b):=by
 intro i ak H1 M1 g1 m1
 have key:∀o,itemAt M1 i (.zip z y)=some o->∃ds es xs ys,o=rM ds es i/\aS K ak H1 ds xs/\nT K H1 l a xs/\aS K ak H1 es ys/\nT K H1 m b ys:=λo e=>by
  simp only[itemAt]at e;split at e
  ·rename_i ds es q1 q2
   obtain⟨xs,r1,s1⟩:=h1 ak H1 M1 g1 m1 ds q1;obtain⟨ys,r2,s2⟩:=h2 ak H1 M1 g1 m1 es q2;exact⟨ds,es,xs,ys,(bS e).symm,r1,s1,r2,s2⟩
  ·cases e
 refine⟨λe=>?_,λd e=>?_⟩
 ·obtain⟨ds,es,xs,ys,e2,r1,s1,r2,s2⟩:=key _ e;refine⟨xs,ys,s1,s2,?_⟩;rw[<- r1.len,<- r2.len];unfold rM at e2
  cases q1:ds[i]? with
  | none=>exact .inl (su.mp q1)
  | some d1 =>
   cases q2:es[i]? with
   | none=>exact .inr (su.mp q2)
   | some d2=>rw[q1,q2]at e2;cases e2
 ·obtain⟨ds,es,xs,ys,e2,r1,s1,r2,s2⟩:=key _ e;unfold rM at e2
  cases q1:ds[i]? with
  | none=>rw[q1]at e2;cases e2
  | some d1 =>
   cases q2:es[i]? with
   | none=>rw[q1,q2]at e2;cases e2
   | some d2 =>
    rw[q1,q2]at e2;cases e2;obtain⟨v1,ev1,rv1⟩:=r1.get q1;obtain⟨v2,ev2,rv2⟩:=r2.get q2;refine⟨⟨xs,ys,v1,v2,s1,s2,ev1,ev2⟩,λx H2 yy=>?_⟩;obtain⟨p,x1,x2,rfl,hp,rfl,a1,a2⟩:=yy;have t1:=a1 xs s1;have t2:=a2 ys s2;rw[ev1]at t1;rw[ev2]at t2;cases t1;cases t2;have g2:=aI.fR (o:=.tup [v1,v2]) m1 hp;refine⟨g2,m1.fR hp,?_⟩;unfold RD;refine⟨p,_,rfl,a_,?_⟩;unfold aS;exact⟨v1,[v2],rfl,g2.rd _ _ rv1,.one (g2.rd _ _ rv2)⟩
theorem J9{c d:C}{a b t:Expr}{x:Str}{p pos:Pos}(g:Good kk X cc G) (hx:x = "zip") (hg:glob cc x=true) (hs:aN a=true) (yh:aN b=true) (he:PE X a (tE X.K (ev G c))) (hd:PE X b (tE X.K (ev G d))):PI X t (.Call (.Name x p) [a,b] [] pos) (tI X.K (cF G .zip [c,d])):=by
 sleep 21;refine Ro (N7 t5 hm (d4 he (d4 hd ib (bB yh [] X.env)) (bB hs [b] X.env)) (bB hs [b] X.env) (bB yh [] X.env)) λσ H R q=>?_;sleep 14
 cases hq:ev G c ρ M with
 | ok w M1 =>
  sleep 39;have s1:=s.grow g1 m1;refine⟨ak,M1,ρ,s1,?_⟩;simp only[cP.bind]at q
  cases FO:ev G d ρ M1 with
  | ok w2 M2 =>
   rw[FO]at q;have q:gI X.K ads H R (fc .zip [w,w2] M2):=q;intro v2 H2 bp g2 m2 r2
   have q:gI X.K ads H R (match LQ M2 w,LQ M2 w2 with
    | some a,some b=>.ok (.zip a b) M2
    | _,_=>.ae):=q
   cases q1:LQ M2 w with
   | none=>rw[q1]at q;exact q.elim
   | some z1 =>
    cases q2:LQ M2 w2 with
    | none=>rw[q1,q2]at q;exact q.elim
    | some z2 =>
     rw[q1,q2]at q;obtain⟨l,a1,rfl,sq1,k1⟩:=L3 m2 (g2.rw r1.rw) q1;obtain⟨m,b1,rfl,Y9,k2⟩:=L3 m2 r2.rw q2;exact⟨l,m,a1,b1,rfl,sq1,Y9,q _ H2 bp (g1.trans g2) m2 (J8 k1 k2)⟩
  | err _ _=>rw[FO]at q;exact q.elim
  | ae=>rw[FO]at q;exact q.elim
 | err _ _=>rw[hq]at q;exact q.elim
 | ae=>rw[hq]at q;exact q.elim
end
def tG(K:Frag)(tg:List Nat):TG:=λv σ H Q=>∃ads M ρ d,SR K ads M ρ σ H/\RD K ads H d v/\∃ff,cb tg d ρ=some ff/\∀dD,SR K ads M ff dD H->Q dD H
theorem SR.set{K:Frag}{ads:List Addr}{M:aj}{ρ:En}{σ:L2.St}{H:Hp}(s:SR K ads M ρ σ H)(i:Nat){d:D}{v:V}(r:RD K ads H d v):SR K ads M (ρ.set i (some d)) (σ.set i (some v)) H :=
 ⟨s.mem,λj d' e=>by
  by_cases h:i=j
  ·subst h
   have hl:i<ρ.length:=by
    have:=(bz.mp e).1;simpa using this
   rw[qE hl]at e;cases e;exact⟨v,by rw[qE (by rw[<- s.ln];exact hl)],r⟩
  ·rw[qF h]at e⊢;exact s.en j d' e,by simp[s.ln]⟩
def gN:List Nat->Q3
 | []=>Sh
 | i::r=>Lz (Ly i) (gN r)
section
variable {kk:Nat} {X:Cx} {cc:CC} {G:dQ}
theorem Good.nm(g:Good kk X cc G){x:Str}(h:(cc.names.lookup x==some .local||cc.names.lookup x==some .cell)=true):Loc X.env.scope x/\(X.fn x=true\/X.env.scope.names.lookup x=some .local):=by
 rw[BQ]at h;rcases h with h | h
 ·have h:=eq_of_beq h;exact⟨.inl (g.kinds x _ h),.inr (g.kinds x _ h)⟩
 ·have h:=eq_of_beq h;exact⟨.inr (g.kinds x _ h),.inl (g.fnc x h)⟩
theorem AD(g:Good kk X cc G):∀(tg:List Nat)(es:List Expr),kW cc tg es=true->Q4 X es (gN tg)/\es.length=tg.length/\(assignEach es X.env).length=tg.length/\(assignEach es X.env).findIdx? (·.1)=none
 | [],[],_=>⟨IA,rfl,rfl,rfl⟩
 | [],_::_,h=>by cases h
 | _::_,[],h=>by cases h
 | i::tg,e::es,h=>by
  obtain⟨h,h3⟩:=(aW _ _).mp h;obtain⟨ih,l1,l2,l3⟩:=AD g tg es h3;refine bR (P:=λe=>Q4 X (e::es) (gN (i::tg))/\(e::es).length=(i::tg).length/\(assignEach (e::es) X.env).length=(i::tg).length/\(assignEach (e::es) X.env).findIdx? (·.1)=none) h λx p h=>?_;obtain⟨h1,h2⟩:=(aW _ _).mp h;obtain⟨n1,n2⟩:=g.nm h2;refine⟨Ed (sQ (by rw[g.N];exact g.nd) (by rw[g.N];exact eq_of_beq h1) n1 n2) ih,by simp[l1],?_,?_⟩
  ·show(assignEach es X.env).length+1=_;rw[l2];rfl
  ·show List.findIdx? _ ((false,_)::assignEach es X.env)=none;rw[List.findIdx?_cons];simp only[x9,jU];rw[l3];rfl
theorem L4{K:Frag}{ads:List Addr}{M:aj}{H:Hp}{Q:L2.St->Hp->Prop}{ff:En}(hQ:∀dD,SR K ads M ff dD H->Q dD H):∀(tg:List Nat)(ds:List D)(xs:List V)(ρ:En)(σ:L2.St),SR K ads M ρ σ H->aS K ads H ds xs->eE tg ds ρ=some ff->gN tg xs σ H Q
 | [],[],xs,ρ,σ,s,r,e=>by
  unfold aS at r;subst r;cases e;exact⟨rfl,hQ σ s⟩
 | [],_::_,_,_,_,_,_,e=>by cases e
 | _::_,[],_,_,_,_,_,e=>by cases e
 | i::tg,d::ds,xs,ρ,σ,s,r,e=>by
  unfold aS at r;obtain⟨x,r',rfl,h1,h2⟩:=r;exact⟨x,r',rfl,L4 hQ tg ds r' _ _ (s.set i h1) h2 e⟩
theorem pS:∀(tg:List Nat)(ds:List D)(ρ ff:En),eE tg ds ρ=some ff->ds.length=tg.length
 | [],[],_,_,_=>rfl
 | [],_::_,_,_,e=>by cases e
 | _::_,[],_,_,e=>by cases e
 | i::tg,d::ds,ρ,ff,e=>by simp[pS tg ds _ ff e]
theorem k0(g:Good kk X cc G)(h:jR cc tg t=true):PG X t (tG X.K tg):=by
 rcases tg with _|⟨i,_|⟨j,tl⟩⟩
 ·exact absurd h aQ
 ·refine bR (P:=λt=>PG X t _) ((aW _ _).mp h).1 λx p h=>?_;obtain⟨h1,h2⟩:=(aW _ _).mp h;obtain⟨n1,n2⟩:=g.nm h2;intro aa s σ H v u Q I r q;refine sQ (by rw[g.N];exact g.nd) (by rw[g.N];exact eq_of_beq h1) n1 n2 aa s σ H v u Q I r ?_;obtain⟨ads,M,ρ,d,sr,rd,ff,e,hQ⟩:=q;cases e;exact hQ _ (sr.set i rd)
 ·refine j9 (P:=λt=>PG X t _) h λes kq p h=>?_;obtain⟨a,l1,l2,l3⟩:=AD g (i::j::tl) es ((aW _ _).mp h).1;intro aa s σ H v u Q I r q;refine Nq (pos:=p) (k:=kq) g.calm a l2 l3 aa s σ H v u Q I r ?_;obtain⟨ads,M,ρ,d,sr,rd,ff,e,hQ⟩:=q
  have e':∃ds,d=.tup ds/\eE (i::j::tl) ds ρ=some ff:=by
   cases d<;>first | cases e | exact⟨_,rfl,e⟩
  obtain⟨ds,rfl,e2⟩:=e';unfold RD at rd;obtain⟨b,xs,rfl,hb,rd⟩:=rd;exact⟨b,xs,rfl,fz.of hb,by rw[<- rd.len,pS _ ds ρ ff e2],L4 hQ _ ds xs ρ σ sr rd e2⟩
end
theorem kc : ∀ (names : List (Str × NameKind)) (acc : List (Str × Addr)), (∀ y ∈ names, y.2 = .free -> ∃ c, env.cells.lookup y.1 = some c) -> (∀ x c, acc.lookup x = some c -> env.cells.lookup x = some c) ->
    ∃cl,(forIn names acc λ(x:Str×NameKind) (r:List (Str×Addr))=>(match x with | (name,kind)=>if (kind==NameKind.free)=true then do let a <- cellOf env name;pure (ForInStep.yield ((name,a)::r)) else pure (ForInStep.yield r):Sem (ForInStep (List (Str×Addr)))))=pure cl /\
      (∀x c,cl.lookup x=some c->env.cells.lookup x=some c)/\(∀x,(acc.lookup x).isSome=true->(cl.lookup x).isSome=true)/\∀y∈names,y.2=.free->(cl.lookup y.1).isSome=true
  | [],acc,_,h=>⟨acc,rfl,h,λ_ q=>q,λy hy=>by cases hy⟩
  | (n,k)::r,acc,hn,h=>by
    by_cases hk:k=.free
    · subst hk;obtain⟨c,hc⟩:=hn (n,.free) dH rfl
      have h2:∀x c',((n,c)::acc).lookup x=some c'->env.cells.lookup x=some c':=λx c' e=>by
        rw[iH]at e;by_cases hx:x=n
        · subst hx;simp at e;rw[<- e];exact hc
        · have:(x==n)=false:=lP.mpr hx;rw[this]at e;exact h x c' e
      obtain⟨cl,e1,e2,e3,e4⟩:=kc r ((n,c)::acc) (λy hy=>hn y (da _ hy)) h2;refine⟨cl,?_,e2,λx q=>e3 x ?_,λy hy hf=>?_⟩
      · rw[BP];have:cellOf env n=pure c:=by unfold cellOf;rw[hc]
        simp only[sF,e_,this];exact e1
      · rw[iH];by_cases hx:(x==n)=true
        · simp[hx]
        · simp only[hx];exact q
      · rcases bT.mp hy with z | z
        · subst z;exact e3 _ (by simp[iH])
        · exact e4 y z hf
    · obtain⟨cl,e1,e2,e3,e4⟩:=kc r acc (λy hy=>hn y (da _ hy)) h;refine⟨cl,?_,e2,e3,λy hy hf=>?_⟩
      · rw[BP];have:(k==NameKind.free)=false:=by simpa using hk
        simp only[this,x9,jU];exact e1
      · rcases bT.mp hy with z | z
        · subst z;exact absurd hf hk
        · exact e4 y z hf
theorem AE(h:∀y∈sc.names,y.2=.free->∃c,X.env.cells.lookup y.1=some c):∃cl,NZ X sc cl:=by
 obtain⟨cl,e1,e2,e3,e4⟩:=kc sc.names [] h (λx c e=>by cases e);refine⟨cl,?_,e2,λx hx=>sv.mp (e4 (x,.free) (oH hx) rfl)⟩;unfold closureFor;exact lW (λm=>m >>= λcs=>pure cs) e1
section
variable {kk:Nat} {X:Cx} {cc:CC} {G:dQ}
theorem n_(h:wK cc sc=true):sc.kind=.function/\(∀y∈sc.names,y.2=.cell->sc.names.lookup y.1=some .cell)/\(∀y∈sc.names,y.2=.local->sc.names.lookup y.1=some .local)/\(fS sc).Nodup/\∀y∈sc.names,y.2=.free->sc.names.lookup y.1=some .free/\(cc.names.lookup y.1=some .cell\/cc.names.lookup y.1=some .free):=by
 unfold wK at h;simp only[aW,kC,DO,bne_iff_ne,ne_eq,oJ,BQ]at h;obtain⟨⟨⟨⟨h1,h2⟩,h3⟩,h4⟩,h5⟩:=h;refine⟨h1,λy hy hk=>?_,λy hy hk=>?_,h4,λy hy hk=>?_⟩
 ·rcases h2 y hy with z | z
  ·exact absurd hk z
  ·exact z
 ·rcases h3 y hy with z | z
  ·exact absurd hk z
  ·exact z
 ·rcases h5 y hy with z | z
  ·exact absurd hk z
  ·exact z
theorem Good.block(g:Good kk X cc G)(h:wK cc sc=true){cl:List (Str×Addr)}(C:Addr)(s:Shared)(H:Hp)(fp:List Addr):Good kk (X.block sc cl C (fS sc) s H fp []) (tW cc sc) G:=by
 obtain⟨h1,h2,h3,h4,h5⟩:=n_ h;refine⟨g.calm,g.room,rfl,h4,λx k e=>?_,λx e=>?_,g.blt,g.gls,g.fns⟩
 ·have e:sc.names.lookup x=some k:=e;have r:=eD (env:=X.env) e;have kd:(X.block sc cl C (fS sc) s H fp []).env.kindOf x=some (if (k==NameKind.free&&X.env.scope.kind == .function&&X.env.kindOf x==some .cell) then .cell else k):=r
  cases k with
  | «local»=>exact kd
  | cell=>exact kd
  | free =>
   show _\/_;rw[kd];split
   ·exact .inl rfl
   ·exact .inr rfl
  | globalExplicit=>exact True.intro
  | globalImplicit=>exact kd
 ·have e:sc.names.lookup x=some .cell:=e;show(sc.names.lookup x==some .cell)=true;rw[e];rfl
theorem FX(g:Good kk X cc G)(h:wK cc sc=true):EK X sc (fS sc) (pN cc sc):=by
 obtain⟨h1,h2,h3,h4,h5⟩:=n_ h;refine⟨by simp[pN],λi j x e1 e2=>?_⟩;unfold pN at e1;rw[bc,e2]at e1;simp only[DT,ya]at e1;split at e1
 ·rename_i hf
  have hf:sc.names.lookup x=some .free:=by simpa using hf
  obtain⟨_,ho⟩:=h5 (x,.free) (oH hf) rfl;refine⟨?_,hf,?_⟩
  ·rw[g.N];obtain⟨hj,hx,_⟩:=RP.mp e1;rw[br hj];have:cc.N[j]=x:=by simpa using hx
   rw[this]
  ·rcases ho with ho | ho
   ·exact .inl (g.kinds x _ ho)
   ·exact g.kinds x _ ho
 ·cases e1
theorem FY{K:Frag}{ads:List Addr}{M:aj}{ρ:En}{σ:L2.St}{H:Hp}(s:SR K ads M ρ σ H)(dE:List (Option Nat)):SR K ads M (fw dE ρ) (kM dE σ) H:=by
 refine⟨s.mem,λi d e=>?_,by simp[fw,kM]⟩;unfold fw at e;unfold kM;rw[bc]at e⊢
 cases q:dE[i]? with
 | none=>rw[q]at e;cases e
 | some o =>
  rw[q]at e
  cases o with
  | none=>cases e
  | some j =>
   have e:(ρ[j]?).join=some d:=bS e
   have e2:ρ[j]?=some (some d):=by
    cases r:ρ[j]? with
    | none=>rw[r]at e;cases e
    | some z=>rw[r]at e;cases z with
     | none=>cases e
     | some y=>cases e;rfl
   obtain⟨v,ev,rv⟩:=s.en j d e2;exact⟨v,by simp[ev],rv⟩
theorem aI.AF{ads aE:List Addr}{H H':Hp}{D:Addr}{o:HO}(g:aI ads aE H H')(h:H D=none):aI ads aE H (upd H' D o) :=
 ⟨g.pre,g.new,λb x n e=>by rw[az (λz=>by subst z;rw[h]at e;cases e)];exact g.kept b x n e,λb x e=>by rw[az (λz=>by subst z;rw[h]at e;cases e)];exact g.hZ b x e,
  λb x u e=>by rw[az (λz=>by subst z;rw[h]at e;cases e)];exact g.dP b x u e⟩
theorem wX{K:Frag}{G:dQ}{it:Ev.It}{J:L2.It}{tg:List Nat}{cond:Option fX}{elt:C}{dE:List (Option Nat)}{ads:List Addr}{M:aj}{ρ:En}{σ:L2.St}{H:Hp}{Q:VK}{f:Nat}(s:SR K ads M ρ σ H)(hJ:HE K ads H it J)(q:df K ads H Q (bu (λτ M=>bV G cond τ M) (λτ M=>(ev G elt τ M).bind own) it tg f 0 (fw dE ρ) M [])):yz dE (tG K tg) (cond.map λt=>qz K (eJ G t)) (tE K (ev G elt)) σ J H Q:=by
  intro D hD;have hDn:=s.mem.fresh hD
  refine⟨λi m τ H' ys=>∃aE M' pT acc,SR K aE M' pT τ H'/\aI ads aE H H'/\D∉aE/\H' D=some (.lst ys)/\aS K aE H' acc ys/\df K ads H Q (bu (λτ M=>bV G cond τ M) (λτ M=>(ev G elt τ M).bind own) it tg m i pT M' acc),
    ⟨f,ads,M,fw dE ρ,[],?_,(aI.refl _ _).AF hD,hDn,a_,(by unfold aS;rfl),q⟩,?_⟩
  · have g0:aI ads ads H (upd H D (.lst [])):=aI.fR s.mem hD;exact(FY s dE).grow g0 (s.mem.fR hD)
  rintro i m τ H' ys ⟨aE,M',pT,acc,s',g',dn,hl,ra,q'⟩;refine⟨hl,?_⟩;obtain⟨r1,r2⟩:=hJ i aE H' M' g' s'.mem
  have stop:itemAt M' i it=some none->df K ads H Q (.ok (.lv acc) M')->(J.stop i H'/\Q (.ref D) H'):=λhi q' =>
    ⟨r1 hi,q' (.ref D) H' aE g' s'.mem ⟨D,ys,rfl,hD,hl,dn,ra⟩⟩
  cases m with
  | zero =>
    unfold bu at q';split at q'
    · rename_i hi
      exact .inl (stop hi q')
    · exact q'.elim
  | succ m =>
    unfold bu at q';split at q'
    · rename_i hi
      exact .inl (stop hi q')
    · rename_i d hi
      obtain⟨go,yl⟩:=r2 d hi
      cases hb:cb tg d pT with
      | none=>rw[hb]at q';exact q'.elim
      | some xW =>
        rw[hb]at q';dsimp only at q';split at q'
        · rename_i hz
          refine .inr ⟨go,by rw[<- ra.len];exact hz,λx H2 y=>?_⟩;obtain⟨g2,m2,rd⟩:=yl x H2 y;have Dr:H2 D=some (.lst ys):=g2.kept D _ dn hl;refine⟨aE,M',pT,d,s'.grow g2 m2,rd,xW,hb,λHA s2=>?_⟩
          have eB : ∀ b M3 H3 eF, aI aE eF H2 H3 -> aX K eF H3 M3 -> df K ads H Q (if b = true then ((ev G elt xW M3).bind own).bind fun x M => bu (fun τ M => bV G cond τ M) (fun τ M => (ev G elt τ M).bind own) it tg m (i + 1) xW M (acc ++ [x]) else bu (fun τ M => bV G cond τ M) (fun τ M => (ev G elt τ M).bind own) it tg m (i + 1) xW M3 acc) ->
              (if b=true then tE K (ev G elt) HA H3 λv H4=>H4 D=some (.lst ys)/\∃m',m'<m+1/\∃aE M' pT acc,SR K aE M' pT HA (upd H4 D (.lst (ys++[v])))/\aI ads aE H (upd H4 D (.lst (ys++[v])))/\D∉aE/\(upd H4 D (.lst (ys++[v]))) D=some (.lst (ys++[v]))/\aS K aE (upd H4 D (.lst (ys++[v]))) acc (ys++[v])/\df K ads H Q (bu (λτ M=>bV G cond τ M) (λτ M=>(ev G elt τ M).bind own) it tg m' (i+1) pT M' acc)
               else ∃m',m'<m+1/\∃aE M' pT acc,SR K aE M' pT HA H3/\aI ads aE H H3/\D∉aE/\H3 D=some (.lst ys)/\aS K aE H3 acc ys/\df K ads H Q (bu (λτ M=>bV G cond τ M) (λτ M=>(ev G elt τ M).bind own) it tg m' (i+1) pT M' acc)):=by
            intro b M3 H3 eF g3 m3 q3;have Y_:D∉eF:=g3.gk dn Dr;have Za:H3 D=some (.lst ys):=g3.kept D _ dn Dr;have s3:=s2.grow g3 m3;have gg:=(g'.trans g2).trans g3;have ra3:=(g2.trans g3).pz _ _ ra
            cases b with
            | false =>
              rw[aq (by simp)]at q3⊢;exact⟨m,iI _,eF,M3,xW,acc,s3,gg,Y_,Za,ra3,q3⟩
            | true =>
              rw[ar rfl]at q3⊢;refine⟨eF,M3,xW,s3,?_⟩
              cases he:ev G elt xW M3 with
              | ok w M4 =>
                rw[he]at q3;intro v H4 CY g4 m4 r4;have q3:df K ads H Q ((own w M4).bind λx M=>bu (λτ M=>bV G cond τ M) (λτ M=>(ev G elt τ M).bind own) it tg m (i+1) xW M (acc++[x])):=q3;have ua:H4 D=some (.lst ys):=g4.kept D _ Y_ Za;refine⟨ua,m,iI _,?_⟩
                cases ho:own w M4 with
                | ok dd M5 =>
                  rw[ho]at q3;obtain⟨J_,g5,m5,rd5⟩:=tY s3.mem g4 m4 r4 ho;have dn5:D∉J_:=g5.gk Y_ Za;have tk:TF H4 (upd H4 D (.lst (ys++[v]))):=⟨λb xs e=>by rw[az (λz=>by subst z;rw[ua]at e;cases e)];exact e,λb o u e=>by rw[az (λz=>by subst z;rw[ua]at e;cases e)];exact e⟩;have m6:aX K J_ (upd H4 D (.lst (ys++[v]))) M5:=m5.keep tk λa ha=>az (λz=>by subst z;exact dn5 ha)
                  have en6:Tj K J_ (upd H4 D (.lst (ys++[v]))) xW HA:=λj d e=>by
                    obtain⟨u,e1,r⟩:=g5.ren s3.en j d e;exact⟨u,e1,RD.keep tk _ _ r⟩
                  exact⟨J_,M5,xW,acc++[dd],⟨m6,en6,s3.ln⟩,(gg.trans g5).AF hD,dn5,a_,aS.keep tk _ _ ((g5.pz _ _ ra3).app (.one rd5)),q3⟩
                | err _ _=>cases w<;>cases ho
                | ae=>cases w<;>cases ho
              | err _ _=>rw[he]at q3;exact q3
              | ae=>rw[he]at q3;exact q3
          cases cond with
          | none =>
            exact eB true M' H2 aE (aI.refl _ _) m2 q'
          | some t =>
            show qz K (eJ G t) HA H2 _;refine⟨aE,M',xW,s2,?_⟩;have q':df K ads H Q ((eJ G t xW M').bind λb M=>if b=true then ((ev G elt xW M).bind own).bind λx M=>bu (λτ M=>bV G (some t) τ M) (λτ M=>(ev G elt τ M).bind own) it tg m (i+1) xW M (acc++[x]) else bu (λτ M=>bV G (some t) τ M) (λτ M=>(ev G elt τ M).bind own) it tg m (i+1) xW M acc):=q'
            cases ht:eJ G t xW M' with
            | ok b M3 =>
              rw[ht]at q';intro H3 eF g3 m3;exact eB b M3 H3 eF g3 m3 q'
            | err _ _=>rw[ht]at q';exact q'
            | ae=>rw[ht]at q';exact q'
        · exact q'.elim
    · exact q'.elim
end
section
variable {kk:Nat} {G:dQ}
theorem ub(h:dm e=true)(env:Env):∀x,foldedSetIterable e env x=pure x:=by
 intro x;cases e<;>first | rfl | exact absurd (show false=true from h) aQ
theorem O0{d8:List C}{tg:List Nat}{cond:Option fX}{ifs:List Expr}(g:Good kk X cc G)(FZ:wK cc sc=true)(EG:dE=pN cc sc)(mh:dm aJ=true)(F0:PI X t aJ (tI X.K (cF G k d8)))(Zb:jR (tW cc sc) tg t=true)(k8:J0 (tW cc sc) cond ifs=true)(Wj:∀t,cond=some t->∀X':Cx,X'.K=X.K->Good kk X' (tW cc sc) G->∀e,mH (tW cc sc) t e=true->PT X' e (qz X'.K (eJ G t)))(ihe:∀X':Cx,X'.K=X.K->Good kk X' (tW cc sc) G->PE X' el (tE X'.K (ev G elt))):∃(wi:TI) (cl:(X:Cx)->Prop),True/\PE X (.ListComp el [⟨t,aJ,ifs,0⟩] sc pos) (tE X.K (ev G (.comp k d8 tg cond elt dE))):=by
 refine⟨λ_ _ _=>True,λ_=>True,True.intro,?_⟩;intro aa s σ H Q I q;obtain⟨h1,h2,h3,h4,h5⟩:=n_ FZ
 obtain⟨cl,Wm⟩:=AE (X:=X) (sc:=sc) λy hy hf=>by
  obtain⟨_,ho⟩:=h5 y hy hf;refine I.ok.has y.1 ?_;rcases ho with ho | ho
  ·exact .inl (g.kinds _ _ ho)
  ·exact g.kinds _ _ ho
 have ck:mi X sc (fS sc) dE cl t el ifs (tG X.K tg) (cond.map λt=>qz X.K (eJ G t)) (tE X.K (ev G elt)):=by
  refine⟨h1,h2,h3,Wm,EG▸FX g FZ,λC s H fp=>k0 (g.block FZ C s H fp) Zb,?_,λC s H fp=>ihe _ rfl (g.block FZ C s H fp)⟩
  cases cond with
  | none =>
   cases ifs with
   | nil=>rfl
   | cons _ _=>cases k8
  | some tt =>
   cases ifs with
   | nil=>cases k8
   | cons e es =>
    cases es with
    | cons _ _=>cases k8
    | nil=>exact⟨e,rfl,λC s H fp=>Wj tt rfl (X.block sc cl C (fS sc) s H fp []) rfl (g.block FZ C s H fp) e k8⟩
 refine Jj g.calm F0 ck (ub mh X.env) aa s σ H Q I ?_;obtain⟨ads,M,ρ,sr,q⟩:=q;refine⟨ads,M,ρ,sr,?_⟩
 have q:df X.K ads H Q ((cF G k d8 ρ M).bind λit M=>bu (λτ M=>bV G cond τ M) (λτ M=>(ev G elt τ M).bind own) it tg (dw M it) 0 (fw dE ρ) M []):=by
  simp only[tP]at q;unfold cF
  cases hw:du G d8 ρ M with
  | ok ws M1=>rw[hw]at q;exact q
  | err _ _=>rw[hw]at q;exact q
  | ae=>rw[hw]at q;exact q
 cases hs:cF G k d8 ρ M with
 | ok it M1 =>
  rw[hs]at q;intro J H1 ak g1 m1 rj;exact wX (sr.grow g1 m1) rj (df.shift (o:=bu (λτ M=>bV G cond τ M) (λτ M=>(ev G elt τ M).bind own) it tg (dw M1 it) 0 (fw dE ρ) M1 []) q g1 sr.mem m1)
 | err _ _=>rw[hs]at q;exact q
 | ae=>rw[hs]at q;exact q
end
theorem f_(h:(jo e&&cg cc c e)=true)(k:cg cc c e=true->PE X e (tE X.K (ev G c))):PT X e (qz X.K (eJ G (.val c))):=J5 ((aW _ _).mp h).1 (k ((aW _ _).mp h).2)
mutual
theorem bg:∀(c:C)(cc:CC)(X:Cx)(e:Expr),Good kk X cc G->cg cc c e=true->PE X e (tE X.K (ev G c))
 | .eX i,cc,X,e,g,h=>TC g h
 | .bw d,cc,X,e,g,h=>TH h
 | .bin op a b,cc,X,e,g,h=>TJ (λe h=>bg a cc X e g h) (λe h=>bg b cc X e g h) h
 | .cmp op a b,cc,X,e,g,h=>(LX g (λe h=>bg a cc X e g h) (λe h=>bg b cc X e g h) h).1
 | .chain o1 o2 a b c,cc,X,e,g,h=>(Ax g (λe h=>bg a cc X e g h) (λe h=>bg b cc X e g h) (λe h=>bg c cc X e g h) h).1
 | .dv cs,cc,X,e,g,h=>by
  refine gu (P:=λe=>PE X e _) h λop es pos h=>?_;simp only[aW,kz,DE]at h
  cases op with
  | Or=>exact absurd h.1.1 aQ
  | And=>exact fT (LY (op:=.And) cs es pos (uc cs cc X g) h.1.2 h.2) λσ H Q q=>q
 | .fZ cs,cc,X,e,g,h=>by
  refine gu (P:=λe=>PE X e _) h λop es pos h=>?_;simp only[aW,kz,DE]at h
  cases op with
  | And=>exact absurd h.1.1.symm aQ
  | Or=>exact fT (TR cs es pos (uc cs cc X g) h.1.2 h.2) λσ H Q q=>q
 | .neg a,cc,X,e,g,h=>TL (λe h=>bg a cc X e g h) h
 | .ite t a b,cc,X,e,g,h=>yP (P:=λe=>PE X e _) h λc x y pos h=>by
  simp only[aW]at h;exact TX (C0 t cc X c g h.1.1) (bg a cc X x g h.1.2) (bg b cc X y g h.2)
 | .tup cs,cc,X,e,g,h=>TM (λes h=>wY cs cc X es g h) h
 | .lst cs,cc,X,e,g,h=>TN (λes h=>wY cs cc X es g h) h
 | .sub a b,cc,X,e,g,h=>cL (P:=λe=>PE X e _) h λe i pos h=>by
  simp only[aW]at h;exact TY g h.1.1 (bg a cc X e g h.1.2) (bg b cc X i g h.2)
 | .xV a lo hi,cc,X,e,g,h=>cL (P:=λe=>PE X e _) h λe i pos h=>pM (P:=λi=>PE X (.Subscript e i pos) _) h λl u st p h=>by
  simp only[aW]at h
  cases st with
  | some _=>exact absurd h.1.1.1 aQ
  | none=>exact TZ (bg a cc X e g h.1.1.2) (T9 lo cc X l g h.1.2) (T9 hi cc X u g h.2)
 | .Du a k,cc,X,e,g,h=>cL (P:=λe=>PE X e _) h λe i pos h=>pM (P:=λi=>PE X (.Subscript e i pos) _) h λl u st p h=>by
  rcases l with _|_<;>first | exact absurd h aQ | skip
  rcases u with _|_<;>first | exact absurd h aQ | skip
  rcases st with _ | ke<;>first | exact absurd h aQ | skip
  replace h:=(aW _ _).mp h
  refine T5 ?_ (bg a cc X e g h.2);rcases(BQ _ _).mp h.1 with h | h
  ·refine cE (P:=λke=>PE X ke _) h λc j p2 h=>?_;cases c<;>first | exact absurd h aQ | skip
   obtain rfl:=eq_of_beq h;exact sP
  ·refine fF (P:=λke=>PE X ke _) h λop x p2 h=>?_
   replace h:=(aW _ _).mp h
   cases op<;>first | exact absurd h.1 aQ | skip
   refine cE (P:=λx=>PE X (.UnaryOp .USub x p2) _) h.2 λc j p3 h=>?_;cases c<;>first | exact absurd h aQ | skip
   rename_i jj
   obtain rfl:k=-jj:=by have:=eq_of_beq h;omega
   exact fT (LC Eh sP) λσ H Q q=>⟨jj,rfl,q⟩
 | .call f cs,cc,X,e,g,h=>dh (P:=λe=>PE X e _) h λfe args fH pos h=>bR (P:=λfe=>PE X (.Call fe args fH pos) _) h λx p h=>by
  rcases args with _|⟨e,es⟩<;>first | exact absurd h aQ | skip
  sleep 32
  simp only[aW,kC]at h;exact OR g h.1.1.1 h.1.1.2 h.1.2 h.2 (wY cs cc X (e::es) g h.2)
 | .bi b cs,cc,X,e,g,h=>dh (P:=λe=>PE X e _) h λfe args fH pos h0=>bR (P:=λfe=>PE X (.Call fe args fH pos) _) h0 λx p h=>by
  clear h0
  replace h:=(aW _ _).mp h
  have h1:=h.1
  replace h:=h.2
  simp only[aW,DP]at h1;obtain⟨⟨rfl,hx⟩,hg⟩:=h1
  cases hb:FI b with
  | none =>
   rw[hb]at h;rcases args with _|⟨e,es⟩<;>first | exact absurd h aQ | skip
   replace h:=(aW _ _).mp h
   have fB:aN e=true/\cY cc cs.tail es=true:=by
    cases cs with
    | nil=>exact absurd h.2 aQ
    | cons c cs =>
     have h':(aN e&&cg cc c e&&cY cc cs es)=true:=h.2;simp only[aW]at h';exact⟨h'.1.1,h'.2⟩
   exact Y3 g h.1 (eq_of_beq hx) hg fB.1 fB.2 (L5 cs cc X (e::es) g h.2)
  | some t =>
   rw[hb]at h;obtain rfl:=yU hb;rcases args with _|⟨e,_|⟨f,_|⟨f2,fs⟩⟩⟩<;>first | exact absurd h aQ | skip
   replace h:=(aW _ _).mp h
   refine bR (P:=λf=>PE X (.Call (.Name x p) [e,f] [] pos) _) h.1 λy py hy=>?_;simp only[aW,oJ]at hy;rcases cs with _|⟨c,_|⟨c2,cs⟩⟩
   ·exact absurd h.2 aQ
   ·have h7:(aN e&&cg cc c e&&true)=true:=h.2;simp only[aW]at h7;exact T4 g (eq_of_beq hx) hg (eq_of_beq hy.1.1) hy.1.2 hy.2 h7.1.1 (bg c cc X e g h7.1.2)
   ·have h7:(aN e&&cg cc c e&&cY cc (c2::cs) [])=true:=h.2;simp only[aW]at h7;exact absurd h7.2 aQ
 | .me m o cs,cc,X,e,g,h=>dh (P:=λe=>PE X e _) h λfe args fH pos h=>ja (P:=λfe=>PE X (.Call fe args fH pos) _) h λe n ap h=>by
  simp only[aW,DP]at h;obtain⟨⟨⟨⟨⟨⟨⟨rfl,h1⟩,h2⟩,h3⟩,h4⟩,h5⟩,h6⟩,h7⟩:=h;exact Y7 (eq_of_beq h1) h2 h3 h4 h6 (DM h7) (bg o cc X e g h5) (wY cs cc X args g h6)
 | .v8 ks cs,cc,X,e,g,h=>rS (P:=λe=>PE X e _) h λkeys vs pos h=>by
  simp only[BQ,aW,kz,DE,oJ,DP]at h;rcases h with⟨⟨⟨⟨⟨h1,h2⟩,h3⟩,h4⟩,h5⟩,h6⟩|⟨⟨⟨rfl,rfl⟩,rfl⟩,rfl⟩
  ·exact T8 h1 h2 h3 h4 h5 h6 (uc cs cc X g)
  ·exact OY
 | .lX tp cs,_,_,_,_,h=>absurd (show false=true from h) aQ
 | .JC x v,cc,X,e,g,h=>bR (P:=λe=>PE X e _) h λy pos h=>by
  simp only[aW,kC]at h;obtain⟨⟨⟨rfl,h1⟩,h2⟩,h3⟩:=h;exact T6 g h1 h2 h3
 | .pA,cc,X,e,g,h=>rS (P:=λe=>PE X e _) h λkeys vs pos h=>by
  simp only[aW,DP]at h;obtain⟨rfl,rfl⟩:=h;exact OZ
 | .kQ a b,cc,X,e,g,h=>cL (P:=λe=>PE X e _) h λe i pos h=>by
  simp only[aW]at h;exact OV g h.1.1 (bg a cc X e g h.1.2) (bg b cc X i g h.2)
 | .ie ng a,cc,X,e,g,h=>(FL (λe h=>bg a cc X e g h) h).1
 | .sset a,cc,X,e,g,h=>dh (P:=λe=>PE X e _) h λfe args fH pos h=>bR (P:=λfe=>PE X (.Call fe args fH pos) _) h λx p h=>by
  rcases args with _|⟨i,_|⟨a2,as⟩⟩<;>first | exact absurd h aQ | skip
  sleep 32
  refine dh (P:=λi=>PE X (.Call (.Name x p) [i] [] pos) _) h λf2 Av JZ OX h=>bR (P:=λf2=>PE X (.Call (.Name x p) [.Call f2 Av JZ OX] [] pos) _) h λy p2 h=>?_;rcases Av with _|⟨b,_|⟨a2,as⟩⟩<;>first | exact absurd h aQ | skip
  cases JZ<;>first | exact absurd h aQ | skip
  simp only[aW]at h;obtain⟨⟨⟨⟨⟨h1,h2⟩,h3⟩,h4⟩,h5⟩,h6⟩:=h;exact OW g (eq_of_beq h1) h3 (eq_of_beq h2) h4 h5 (bg a cc X b g h6)
 | .comp k d8 tg cond elt dE,cc,X,e,g,h=>jQ (P:=λe=>PE X e _) h λel gens sc pos h=>by
  rcases gens with _|⟨⟨t,aJ,ifs,as⟩,_|⟨_,_⟩⟩<;>first | exact absurd h aQ | skip
  simp only[aW,kC,oJ]at h;obtain⟨⟨⟨⟨⟨⟨rfl,h1⟩,h2⟩,h3⟩,h4⟩,h5⟩,h6⟩:=h;obtain⟨F0,mh⟩:=yY d8 k cc X t aJ g h3;obtain⟨_,_,_,r⟩:=O0 (pos:=pos) g h1 h2 mh F0 h4 h5 (λt ht X' _ g' e he=>Ka cond (tW cc sc) X' g' t ht e he) (λX' _ g'=>bg elt (tW cc sc) X' el g' h6);exact r
theorem C0:∀(t:fX)(cc:CC)(X:Cx)(e:Expr),Good kk X cc G->mH cc t e=true->PT X e (qz X.K (eJ G t))
 | .val (.cmp op a b),cc,X,e,g,h=>yW OO (LX g (λe h=>bg a cc X e g h) (λe h=>bg b cc X e g h) h).2
 | .val (.chain o1 o2 a b c),cc,X,e,g,h=>yW FN (Ax g (λe h=>bg a cc X e g h) (λe h=>bg b cc X e g h) (λe h=>bg c cc X e g h) h).2
 | .val (.eX i),cc,X,e,g,h=>f_ h (bg (.eX i) cc X e g)
 | .val (.bw d),cc,X,e,g,h=>f_ h (bg (.bw d) cc X e g)
 | .val (.bin op a b),cc,X,e,g,h=>f_ h (bg (.bin op a b) cc X e g)
 | .val (.dv cs),cc,X,e,g,h=>f_ h (bg (.dv cs) cc X e g)
 | .val (.fZ cs),cc,X,e,g,h=>f_ h (bg (.fZ cs) cc X e g)
 | .val (.neg a),cc,X,e,g,h=>f_ h (bg (.neg a) cc X e g)
 | .val (.ite t a b),cc,X,e,g,h=>f_ h (bg (.ite t a b) cc X e g)
 | .val (.tup cs),cc,X,e,g,h=>f_ h (bg (.tup cs) cc X e g)
 | .val (.lst cs),cc,X,e,g,h=>f_ h (bg (.lst cs) cc X e g)
 | .val (.sub a b),cc,X,e,g,h=>f_ h (bg (.sub a b) cc X e g)
 | .val (.xV a lo hi),cc,X,e,g,h=>f_ h (bg (.xV a lo hi) cc X e g)
 | .val (.Du a k),cc,X,e,g,h=>f_ h (bg (.Du a k) cc X e g)
 | .val (.call f cs),cc,X,e,g,h=>f_ h (bg (.call f cs) cc X e g)
 | .val (.bi b cs),cc,X,e,g,h=>f_ h (bg (.bi b cs) cc X e g)
 | .val (.me m o cs),cc,X,e,g,h=>f_ h (bg (.me m o cs) cc X e g)
 | .val (.v8 ks cs),cc,X,e,g,h=>f_ h (bg (.v8 ks cs) cc X e g)
 | .val (.lX tp cs),cc,X,e,g,h=>f_ h (bg (.lX tp cs) cc X e g)
 | .val (.ie ng a),cc,X,e,g,h=>yW J3 (FL (λe h=>bg a cc X e g h) h).2
 | .val (.pA),cc,X,e,g,h=>f_ h (bg (.pA) cc X e g)
 | .val (.kQ a b),cc,X,e,g,h=>f_ h (bg (.kQ a b) cc X e g)
 | .val (.JC x v),cc,X,e,g,h=>f_ h (bg (.JC x v) cc X e g)
 | .val (.sset a),cc,X,e,g,h=>f_ h (bg (.sset a) cc X e g)
 | .val (.comp k d8 tg cond elt dE),cc,X,e,g,h=>f_ h (bg (.comp k d8 tg cond elt dE) cc X e g)
 | .dv ts,cc,X,e,g,h=>by
  refine gu (P:=λe=>PT X e _) h λop es pos h=>?_;simp only[aW,kz,DE]at h
  cases op with
  | Or=>exact absurd h.1.1 aQ
  | And=>exact J2 (LZ ts es pos (F1 ts cc X g) h.1.2 h.2).pt λσ H Q q=>q
 | .fZ ts,cc,X,e,g,h=>by
  refine gu (P:=λe=>PT X e _) h λop es pos h=>?_;simp only[aW,kz,DE]at h
  cases op with
  | And=>exact absurd h.1.1.symm aQ
  | Or=>exact J2 (L1 ts es pos (F1 ts cc X g) h.1.2 h.2).pt λσ H Q q=>q
 | .neg t,cc,X,e,g,h=>by
  refine fF (P:=λe=>PT X e _) h λop x pos h=>?_
  replace h:=(aW _ _).mp h
  cases op<;>first | exact absurd h.1 aQ | skip
  exact TV (C0 t cc X x g h.2)
theorem wY:∀(cs:List C)(cc:CC)(X:Cx)(es:List Expr),Good kk X cc G->cY cc cs es=true->PA X es (JK X.K (bX G cs))
 | [],cc,X,[],g,h=>TQ
 | [],cc,X,_::_,g,h=>by cases h
 | _::_,cc,X,[],g,h=>by cases h
 | c::cs,cc,X,e::es,g,h=>by
  sleep 16;exact ON h'.1.1 (bg c cc X e g h'.1.2) (wY cs cc X es g h'.2)
theorem L5:∀(cs:List C)(cc:CC)(X:Cx)(es:List Expr),Good kk X cc G->cY cc cs es=true->PA X es (Rk X.K (du G cs))
 | [],cc,X,[],g,h=>T3
 | [],cc,X,_::_,g,h=>by cases h
 | _::_,cc,X,[],g,h=>by cases h
 | c::cs,cc,X,e::es,g,h=>by
  sleep 16;exact OS h'.1.1 (bg c cc X e g h'.1.2) (L5 cs cc X es g h'.2)
theorem uc:∀(cs:List C)(cc:CC)(X:Cx),Good kk X cc G->∀c∈cs,∀e,cg cc c e=true->PE X e (tE X.K (ev G c))
 | [],cc,X,g,c,hc,e,h=>by cases hc
 | c::cs,cc,X,g,c',hc,e,h=>by
  rcases bT.mp hc with z | z
  ·rw[z]at h⊢;exact bg c cc X e g h
  ·exact uc cs cc X g c' z e h
theorem F1:∀(ts:List fX)(cc:CC)(X:Cx),Good kk X cc G->∀t∈ts,∀e,mH cc t e=true->PT X e (qz X.K (eJ G t))
 | [],cc,X,g,c,hc,e,h=>by cases hc
 | c::cs,cc,X,g,c',hc,e,h=>by
  rcases bT.mp hc with z | z
  ·rw[z]at h⊢;exact C0 c cc X e g h
  ·exact F1 cs cc X g c' z e h
theorem T9:∀(o:Option C)(cc:CC)(X:Cx)(e:Option Expr),Good kk X cc G->OK cc o e=true->PO X e (tO X.K (uY G o))
 | none,cc,X,none,g,h=>OP
 | none,cc,X,some _,g,h=>by cases h
 | some _,cc,X,none,g,h=>by cases h
 | some c,cc,X,some e,g,h=>OQ (bg c cc X e g h)
theorem Ka:∀(o:Option fX)(cc:CC)(X:Cx),Good kk X cc G->∀t,o=some t->∀e,mH cc t e=true->PT X e (qz X.K (eJ G t))
 | none,cc,X,g,t,ht,e,h=>by cases ht
 | some c,cc,X,g,t,ht,e,h=>by cases ht;exact C0 c cc X e g h
theorem yY:∀(d8:List C)(k:SK)(cc:CC)(X:Cx)(t aJ:Expr),Good kk X cc G->tX cc k d8 t aJ=true->PI X t aJ (tI X.K (cF G k d8))/\dm aJ=true
 | [],k,cc,X,t,aJ,g,h=>by cases k<;>cases h
 | [c],.seq,cc,X,t,aJ,g,h=>by
  have h':(dm aJ&&cg cc c aJ)=true:=h;simp only[aW]at h';exact⟨J7 (bg c cc X aJ g h'.2),h'.1⟩
 | [c],.vals,cc,X,t,aJ,g,h=>dh (P:=λaJ=>PI X t aJ _/\dm aJ=true) h λfe args fH pos h=>ja (P:=λfe=>PI X t (.Call fe args fH pos) _/\dm (.Call fe args fH pos)=true) h λe n ap h=>by
  rcases args with _|⟨e2,es⟩<;>first | exact absurd h aQ | skip
  sleep 32
  simp only[aW]at h;obtain⟨⟨⟨h1,h2⟩,h3⟩,h4⟩:=h;obtain rfl:=eq_of_beq h1;exact⟨FV (bg c cc X e g h4) h3 h2,rfl⟩
 | [c],.keys,cc,X,t,aJ,g,h=>by
  have h':(dm aJ&&cg cc c aJ)=true:=h;simp only[aW]at h';exact⟨FU (bg c cc X aJ g h'.2),h'.1⟩
 | [c],.eR,cc,X,t,aJ,g,h=>by
  sleep 8;rcases args with _|⟨a,_|⟨a2,as⟩⟩<;>first | exact absurd h aQ | skip
  sleep 32
  simp only[aW]at h;exact⟨FR g (eq_of_beq h.1.1.1) h.1.1.2 h.1.2 (bg c cc X a g h.2),rfl⟩
 | [c],.enum,cc,X,t,aJ,g,h=>by
  sleep 8;rcases args with _|⟨a,_|⟨a2,as⟩⟩<;>first | exact absurd h aQ | skip
  sleep 32
  simp only[aW]at h;exact⟨FW g (eq_of_beq h.1.1.1.1) h.1.1.1.2 h.1.1.2 h.1.2 (bg c cc X a g h.2),rfl⟩
 | [c],.qP,cc,X,t,aJ,g,h=>by cases h
 | [c],.zip,cc,X,t,aJ,g,h=>by cases h
 | [c],.JB,cc,X,t,aJ,g,h=>by cases h
 | [c,d],.qP,cc,X,t,aJ,g,h=>by
  sleep 8;rcases args with _|⟨a,_|⟨b,_|⟨a2,as⟩⟩⟩<;>first | exact absurd h aQ | skip
  sleep 32
  simp only[aW]at h;exact⟨FT g (eq_of_beq h.1.1.1.1.1) h.1.1.1.1.2 h.1.1.1.2 h.1.1.2 (bg c cc X a g h.1.2) (bg d cc X b g h.2),rfl⟩
 | [c,d],.seq,cc,X,t,aJ,g,h=>by cases h
 | [c,d],.JB,cc,X,t,aJ,g,h=>by cases h
 | [c,d],.keys,cc,X,t,aJ,g,h=>by cases h
 | [c,d],.vals,cc,X,t,aJ,g,h=>by cases h
 | [c,d],.eR,cc,X,t,aJ,g,h=>by cases h
 | [c,d],.enum,cc,X,t,aJ,g,h=>by cases h
 | [c,d],.zip,cc,X,t,aJ,g,h=>by
  sleep 8;rcases args with _|⟨a,_|⟨b,_|⟨a2,as⟩⟩⟩<;>first | exact absurd h aQ | skip
  sleep 32
  simp only[aW]at h;exact⟨J9 g (eq_of_beq h.1.1.1.1.1) h.1.1.1.1.2 h.1.1.1.2 h.1.1.2 (bg c cc X a g h.1.2) (bg d cc X b g h.2),rfl⟩
 | [c,d,m],.JB,cc,X,t,aJ,g,h=>by cases h
 | [c,d,m],.seq,cc,X,t,aJ,g,h=>by cases h
 | [c,d,m],.keys,cc,X,t,aJ,g,h=>by cases h
 | [c,d,m],.vals,cc,X,t,aJ,g,h=>by cases h
 | [c,d,m],.eR,cc,X,t,aJ,g,h=>by cases h
 | [c,d,m],.qP,cc,X,t,aJ,g,h=>by cases h
 | [c,d,m],.enum,cc,X,t,aJ,g,h=>by cases h
 | [c,d,m],.zip,cc,X,t,aJ,g,h=>by cases h
 | _::_::_::_::_,k,cc,X,t,aJ,g,h=>by cases k<;>cases h
end
inductive S where
 | asg (tg:List Nat) (c:C)
 | fg (i:Nat) (c:C)
 | put (o i v:C)
 | dput (o i v:C)
 | par (i j:Nat) (a b:C)
 | expr (c:C)
 | ret (c:C)
 | F2
 | iff (t:fX) (a b:List S)
 | bD (tg:List Nat) (k:SK) (d8:List C) (b:List S)
 | O1 (n:Nat) (t:fX) (b:List S)
 | never | pass | brk | cont
inductive bx where
 | nx (ρ:En) (M:aj) | rt (w:W) (M:aj) | bk (ρ:En) (M:aj) | ct (ρ:En) (M:aj) | ae
noncomputable def bx.g_{α:Type}(o:cP α)(f:α->aj->bx):bx:=match o with
 | .ok a M=>f a M
 | _=>.ae
noncomputable def bx.seq(o:bx)(f:En->aj->bx):bx:=match o with
 | .nx ρ M=>f ρ M
 | o=>o
def ee(body:En->aj->bx)(it:Ev.It)(tg:List Nat):Nat->Nat->En->aj->bx
 | 0,i,ρ,M=>match itemAt M i it with
  | some none=>.nx ρ M
  | _=>.ae
 | f+1,i,ρ,M=>match itemAt M i it with
  | some none=>.nx ρ M
  | some (some d)=>match cb tg d ρ with
   | none=>.ae
   | some ρ=>match body ρ M with
    | .nx ρ M=>ee body it tg f (i+1) ρ M
    | .ct ρ M=>ee body it tg f (i+1) ρ M
    | .bk ρ M=>.nx ρ M
    | .rt w M=>.rt w M
    | .ae=>.ae
  | none=>.ae
noncomputable def C1(O2:En->aj->cP Bool)(body:En->aj->bx):Nat->En->aj->bx
  | 0,_,_=>.ae
  | f+1,ρ,M=>match O2 ρ M with
    | .ok r M => if r then (match body ρ M with
        | .nx ρ M=>C1 O2 body f ρ M
        | .ct ρ M=>C1 O2 body f ρ M
        | .bk ρ M=>.nx ρ M
        | .rt w M=>.rt w M
        | .ae=>.ae) else .nx ρ M
    | _=>.ae
mutual
noncomputable def km(G:dQ):S->En->aj->bx
 | .asg tg c,ρ,M=>bx.g_ ((ev G c ρ M).bind own) λd M=>match cb tg d ρ with
  | some ρ=>.nx ρ M
  | none=>.ae
 | .fg i c,ρ,M=>bx.g_ ((ev G c ρ M).bind own) λd M=>.nx (ρ.set i (some d)) M
 | .put o i v,ρ,M=>bx.g_ ((ev G v ρ M).bind own) λd M=>bx.g_ (ev G o ρ M) λx M=>bx.g_ (ev G i ρ M) λy M=>bx.g_ (ig x y d M) λ_ M=>.nx ρ M
 | .dput o i v,ρ,M=>bx.g_ ((ev G v ρ M).bind own) λd M=>bx.g_ (ev G o ρ M) λx M=>bx.g_ (ev G i ρ M) λy M=>bx.g_ (iE x y d M) λ_ M=>.nx ρ M
 | .par i j a b,ρ,M=>bx.g_ (bX G [a,b] ρ M) λds M=>match ds with
  | [x,y]=>.nx ((ρ.set i (some x)).set j (some y)) M
  | _=>.ae
 | .expr c,ρ,M=>bx.g_ (ev G c ρ M) λ_ M=>.nx ρ M
 | .ret c,ρ,M=>bx.g_ (ev G c ρ M) λw M=>.rt w M
 | .F2,_,M=>.rt (.d .aP) M
 | .iff t a b,ρ,M=>bx.g_ (eJ G t ρ M) λr M=>if r then dg G a ρ M else dg G b ρ M
 | .bD tg k d8 b,ρ,M=>bx.g_ (cF G k d8 ρ M) λit M=>ee (λρ M=>dg G b ρ M) it tg (dw M it) 0 ρ M
 | .O1 n t b,ρ,M=>C1 (λρ M=>eJ G t ρ M) (λρ M=>dg G b ρ M) n ρ M
 | .never,_,_=>.ae
 | .pass,ρ,M=>.nx ρ M
 | .brk,ρ,M=>.bk ρ M
 | .cont,ρ,M=>.ct ρ M
noncomputable def dg(G:dQ):List S->En->aj->bx
 | [],ρ,M=>.nx ρ M
 | s::ss,ρ,M=>(km G s ρ M).seq λρ M=>dg G ss ρ M
end
section
variable {G:dQ} {lo hi:Option C} {cond:Option fX}
theorem AG : km G (.asg tg c) ρ M = (bx.g_ ((ev G c ρ M).bind own) fun d M => match cb tg d ρ with
    | some ρ=>.nx ρ M
    | none=>.ae):=rfl
theorem wZ:km G (.fg i c) ρ M=bx.g_ ((ev G c ρ M).bind own) λd M=>.nx (ρ.set i (some d)) M:=rfl
theorem AH:km G (.put o i v) ρ M=bx.g_ ((ev G v ρ M).bind own) λd M=>bx.g_ (ev G o ρ M) λx M=>bx.g_ (ev G i ρ M) λy M=>bx.g_ (ig x y d M) λ_ M=>.nx ρ M:=rfl
theorem w4:km G (.dput o i v) ρ M=bx.g_ ((ev G v ρ M).bind own) λd M=>bx.g_ (ev G o ρ M) λx M=>bx.g_ (ev G i ρ M) λy M=>bx.g_ (iE x y d M) λ_ M=>.nx ρ M:=rfl
theorem Kb : km G (.par i j a b) ρ M = (bx.g_ (bX G [a, b] ρ M) fun ds M => match ds with
    | [x,y]=>.nx ((ρ.set i (some x)).set j (some y)) M
    | _=>.ae):=rfl
theorem w6:km G (.expr c) ρ M=bx.g_ (ev G c ρ M) λ_ M=>.nx ρ M:=rfl
theorem AI:km G (.ret c) ρ M=bx.g_ (ev G c ρ M) λw M=>.rt w M:=rfl
theorem AJ:km G (.iff t a b) ρ M=bx.g_ (eJ G t ρ M) λr M=>if r then dg G a ρ M else dg G b ρ M:=rfl
theorem w8:km G (.bD tg k d8 b) ρ M=bx.g_ (cF G k d8 ρ M) λit M=>ee (λρ M=>dg G b ρ M) it tg (dw M it) 0 ρ M:=rfl
theorem Kc:km G (.O1 n t b) ρ M=C1 (λρ M=>eJ G t ρ M) (λρ M=>dg G b ρ M) n ρ M:=rfl
theorem w_:dg G [] ρ M=.nx ρ M:=rfl
theorem rT:dg G (s::ss) ρ M=(km G s ρ M).seq λρ M=>dg G ss ρ M:=rfl
end
noncomputable def fU(e:Expr):Bool:=Nat.beq e.ctorIdx 8||(Nat.beq e.ctorIdx 9||Nat.beq e.ctorIdx 10)
def L6(cc:CC)(t v:Expr):Bool:=(!fU v && !(jq t&&jq v))||dR t λx _=>cc.names.lookup x==some .cell
mutual
noncomputable def O3(cc:CC):S->Stmt->Bool
 | .asg tg c,s=>gX s λts v _=>match ts with
  | [t]=>jR cc tg t&&L6 cc t v&&(!fU v||Nat.beq v.ctorIdx 8)&&cg cc c v
  | _=>false
 | .fg i c,s=>gX s λts v _=>match ts with
  | [t]=>dR t λx p=>ik v λel gens sc q=>cc.N[i]? == some x&&cc.names.lookup x==some .local&&p.line==q.line && !(sc.names.any λ(n,k)=>n==x&&(k == .local||k == .cell))&&cg cc c (.ListComp el gens sc q)
  | _=>false
 | .put o i v,s=>gX s λts w _=>match ts with
  | [t]=>cS t λe f _=>fG f&&cg cc o e&&cg cc i f&&cg cc v w
  | _=>false
 | .dput o i v,s=>gX s λts w _=>match ts with
  | [t]=>cS t λe f _=>fG f&&cg cc o e&&cg cc i f&&cg cc v w
  | _=>false
 | .par i j a b,s=>false
 | .expr c,s=>yR s λe _=>!fU e&&cg cc c e
 | .ret c,s=>kT s λo _=>match o with
  | some e=>cg cc c e
  | none=>false
 | .F2,s=>kT s λo _=>o.isNone
 | .iff t a b,s=>OH s λc x y _=>mH cc t c&&k_ cc a x&&k_ cc b y
 | .bD tg k d8 b,s=>FC s λt aJ body els _=>els.isEmpty&&tX cc k d8 t aJ&&jR cc tg t&&k_ cc b body
 | .O1 _ t b,s=>false
 | .never,_=>true
 | .pass,s=>yS s λ_=>true
 | .brk,s=>tU s λ_=>true
 | .cont,s=>j_ s λ_=>true
noncomputable def k_(cc:CC):List S->List Stmt->Bool
 | [],[]=>true
 | s::ss,t::ts=>O3 cc s t&&k_ cc ss ts
 | _,_=>false
end
def qA(K:Frag)(ads:List Addr)(H:Hp)(D:Ends):bx->Prop
 | .nx ρ M=>∀dD H' aE,aI ads aE H H'->SR K aE M ρ dD H'->D.nx dD H'
 | .bk ρ M=>∀dD H' aE,aI ads aE H H'->SR K aE M ρ dD H'->D.bk dD H'
 | .ct ρ M=>∀dD H' aE,aI ads aE H H'->SR K aE M ρ dD H'->D.ct dD H'
 | .rt w M=>m_ K ads H w M D.rt
 | .ae=>False
def uZ(K:Frag)(o:En->aj->bx):TS:=λD σ H=>∃ads M ρ,SR K ads M ρ σ H/\qA K ads H D (o ρ M)
theorem qA.shift{K:Frag}{ads aE:List Addr}{H H':Hp}{M M2:aj}{D:Ends}{o:bx}(p:qA K ads H D o)(g:aI ads aE H H')(m:aX K ads H M)(m':aX K aE H' M2):qA K aE H' D o:=by
 cases o with
 | nx ρ M=>exact λσ H1 ak g1 s1=>p σ H1 ak (g.trans g1) s1
 | bk ρ M=>exact λσ H1 ak g1 s1=>p σ H1 ak (g.trans g1) s1
 | ct ρ M=>exact λσ H1 ak g1 s1=>p σ H1 ak (g.trans g1) s1
 | rt w M=>exact m_.shift p g m m'
 | ae=>exact p
theorem C2{X:Cx}{st:Stmt}{t u:TS}(h:PS X st t)(f:∀D σ H,u D σ H->t D σ H):PS X st u:=λaa s σ H D I q=>h aa s σ H D I (f D σ H q)
theorem T_{st:List Stmt}(h:vD X st t)(f:∀D σ H,u D σ H->t D σ H):vD X st u:=λaa s σ H D I q=>h aa s σ H D I (f D σ H q)
section
variable {kk:Nat} {X:Cx} {cc:CC} {G:dQ}
theorem ud(h:fU e=false)(t:Option Expr)(l:Nat)(env:Env):swapsWith e t l env=pure false:=by
 cases e<;>first | rfl | exact absurd (show true=false from h).symm aQ
theorem Ua{K:Frag}{o:En->aj->bx}{k:En->aj->bx}{σ:L2.St}{H:Hp}{D:Ends}(h:uZ K (λρ M=>(o ρ M).seq k) D σ H):Sa (uZ K o) (uZ K k) D σ H:=by
 obtain⟨ads,M,ρ,s,q⟩:=h;have q:qA K ads H D ((o ρ M).seq k):=q;refine⟨ads,M,ρ,s,?_⟩
 cases hq:o ρ M with
 | nx Rp M1 =>
  rw[hq]at q;intro σ1 H1 ak g1 s1;exact⟨ak,M1,Rp,s1,qA.shift (o:=k Rp M1) q g1 s.mem s1.mem⟩
 | bk ρ M=>rw[hq]at q;exact q
 | ct ρ M=>rw[hq]at q;exact q
 | rt w M=>rw[hq]at q;exact q
 | ae=>rw[hq]at q;exact q
theorem Kd {K : Frag} {body : En -> aj -> bx} {it : Ev.It} {J : L2.It} {tg : List Nat} {tb : TS} (hb : ∀ D σ H, uZ K body D σ H -> tb D σ H) {ads : List Addr} {M : aj} {ρ : En} {σ : L2.St} {H : Hp} {D : Ends} {f : Nat}
    (s:SR K ads M ρ σ H) (hJ:HE K ads H it J) (q:qA K ads H D (ee body it tg f 0 ρ M)) :
    ∃W:Nat->Nat->L2.St->Hp->Prop,(∃m,W 0 m σ H)/\∀i m σ H,W i m σ H ->
      (J.stop i H/\D.nx σ H)\/(J.go i H/\∃N:L2.St->Hp->Prop,(∀dD H',N dD H'->∃m',m'<m/\W (i+1) m' dD H')/\∀x H',J.Q5 i H x H'->tG K tg x σ H' λNt H2=>tb {D with nx:=N,ct:=N,bk:=D.nx} Nt H2):=by
  refine⟨λi m dD H'=>∃aE M' ff,SR K aE M' ff dD H'/\aI ads aE H H'/\qA K ads H D (ee body it tg m i ff M'),⟨f,ads,M,ρ,s,aI.refl _ _,q⟩,?_⟩;rintro i m dD H' ⟨aE,M',ff,s',g',q'⟩;obtain⟨r1,r2⟩:=hJ i aE H' M' g' s'.mem
  cases m with
  | zero =>
    unfold ee at q';split at q'
    · rename_i hi
      exact .inl ⟨r1 hi,q' dD H' aE g' s'⟩
    · exact q'.elim
  | succ m =>
    unfold ee at q';split at q'
    · rename_i hi
      exact .inl ⟨r1 hi,q' dD H' aE g' s'⟩
    · rename_i d hi
      obtain⟨go,yl⟩:=r2 d hi
      cases ml:cb tg d ff with
      | none=>rw[ml]at q';exact q'.elim
      | some Rp =>
        rw[ml]at q';dsimp only at q';refine .inr ⟨go,λNt H2=>∃bp M2 O4,SR K bp M2 O4 Nt H2/\aI ads bp H H2/\qA K ads H D (ee body it tg m (i+1) O4 M2),λNt H2 h=>⟨m,iI _,h⟩,λx H2 y=>?_⟩;obtain⟨g2,m2,rd⟩:=yl x H2 y;refine⟨aE,M',ff,d,s'.grow g2 m2,rd,Rp,ml,λNt s2=>hb _ _ _ ⟨aE,M',Rp,s2,?_⟩⟩;have gg:=g'.trans g2
        cases hq:body Rp M' with
        | nx Wn M3=>rw[hq]at q';exact λIB H3 eF g3 s3=>⟨eF,M3,Wn,s3,gg.trans g3,q'⟩
        | ct Wn M3=>rw[hq]at q';exact λIB H3 eF g3 s3=>⟨eF,M3,Wn,s3,gg.trans g3,q'⟩
        | bk Wn M3=>rw[hq]at q';exact λIB H3 eF g3 s3=>q' IB H3 eF (gg.trans g3) s3
        | rt w M3=>rw[hq]at q';exact m_.shift (M:=M) (M2:=M') q' gg s.mem s2.mem
        | ae=>rw[hq]at q';exact q'.elim
    · exact q'.elim
theorem Zc{K:Frag}{ads:List Addr}{M:aj}{ρ:En}{σ:L2.St}{H:Hp}{D:Ends}{o:En->aj->cP W}{k:W->aj->bx}{R:V->Hp->Prop}(s:SR K ads M ρ σ H)(q:qA K ads H D (bx.g_ (o ρ M) k))(hk:∀w M1 v H1 ak,SR K ak M1 ρ σ H1->RW K ak H1 w v->qA K ak H1 D (k w M1)->R v H1):tE K o σ H R:=by
 refine⟨ads,M,ρ,s,?_⟩
 cases hq:o ρ M with
 | ok w M1 =>
  sleep 39;exact hk w M1 v H1 ak (s.grow g1 m1) r1.rw (qA.shift (o:=k w M1) q g1 s.mem m1)
 | err _ _=>rw[hq]at q;exact q
 | ae=>rw[hq]at q;exact q
theorem Ke{K:Frag}{ads:List Addr}{M:aj}{ρ:En}{σ:L2.St}{H:Hp}{D:Ends}{c:C}{k:Ev.D->aj->bx}{R:V->Hp->Prop}(s:SR K ads M ρ σ H)(q:qA K ads H D (bx.g_ ((ev G c ρ M).bind own) k))(hk:∀(d:Ev.D) M1 v H1 ak,SR K ak M1 ρ σ H1->RD K ak H1 d v->qA K ak H1 D (k d M1)->R v H1):tE K (ev G c) σ H R:=by
 refine⟨ads,M,ρ,s,?_⟩
 cases hq:ev G c ρ M with
 | ok w M1 =>
  sleep 39;have q:qA K ads H D (bx.g_ (own w M1) k):=q
  cases ho:own w M1 with
  | ok d M2 =>
   rw[ho]at q;obtain⟨bp,g2,m2,rd⟩:=tY s.mem g1 m1 r1 ho;exact hk d M2 v H1 bp (s.grow g2 m2) rd (qA.shift (o:=k d M2) q g2 s.mem m2)
  | err _ _=>cases w<;>cases ho
  | ae=>cases w<;>cases ho
 | err _ _=>rw[hq]at q;exact q
 | ae=>rw[hq]at q;exact q
theorem Kg(h:jR cc tg t=true):(∃x p,t=.Name x p)\/∃es k p,t=.Tuple es k p:=by
 rcases tg with _|⟨i,_|⟨j,r⟩⟩
 ·exact absurd h aQ
 ·exact .inl (bR (P:=λt=>∃x p,t=.Name x p) ((aW _ _).mp h).1 λx p _=>⟨x,p,rfl⟩)
 ·exact .inr (j9 (P:=λt=>∃es k p,t=.Tuple es k p) h λes k p _=>⟨es,k,p,rfl⟩)
theorem rV{x:Str}  : swapsWith (.ListComp el gens sc q) (some (.Name x p)) l env=pure (env.blockKind == .function&&env.kindOf x==some .local&&p.line==q.line && !(sc.names.any λ(n,k)=>n==x&&(k == .local||k == .cell))):=rfl
theorem Ub(g:Good kk X cc G)(ht:jR cc tg t=true)(hv:L6 cc t v=true)(hlc:fU v=true->∃el gens sc q,v=.ListComp el gens sc q)(he:PE X v (tE X.K (ev G c))):PS X (.Assign [t] v pos) (uZ X.K (km G (.asg tg c))):=by
 have hg:=k0 g ht
 have key:∀D σ H,uZ X.K (km G (.asg tg c)) D σ H->Si (tE X.K (ev G c)) (tG X.K tg) D σ H:=by
  intro D σ H q;obtain⟨ads,M,ρ,s,q⟩:=q;refine Ke s (by simp only[AG]at q;exact q) λd M1 v H1 ak s1 rd q1=>?_
  cases hb:cb tg d ρ with
  | none=>simp only[hb]at q1;exact q1.elim
  | some ff =>
   simp only[hb]at q1;exact⟨ak,M1,ρ,d,s1,rd,ff,hb,λdD s'=>q1 dD H1 ak (aI.refl _ _) s'⟩
 rcases Kg ht with⟨x,p,rfl⟩|⟨es,k,p,rfl⟩
 ·refine C2 (sR he hg ?_ (by unfold swappedStores;cases v<;>rfl) rfl) key;show swapsWith v (some (.Name x p)) pos.line X.env=pure false
  cases hc:fU v with
  | false=>exact ud hc _ _ _
  | true =>
   have hv:((!fU v && !(false&&jq v))||(cc.names.lookup x==some .cell))=true:=hv;rw[hc]at hv;have hk:X.env.kindOf x=some .cell:=g.kinds x .cell (by simpa using hv);obtain⟨el,gens,sc,q,rfl⟩:=hlc hc;rw[rV,hk,show((some NameKind.cell:Option NameKind)==some NameKind.local)=false from rfl];simp
 ·have Sy:((!fU v && !(true&&jq v))||false)=true:=hv;simp only[Bool.or_false,vk,aW,kz]at Sy;refine C2 (sR he hg (show swapsWithSole [.Tuple es k p] v pos.line X.env=pure false from ud Sy.1 (some (.Tuple es k p)) pos.line X.env) ?_ rfl) key;unfold swappedStores;cases v<;>first | rfl | exact absurd (show true=false from Sy.2).symm aQ
theorem O5{i:Nat}{c:C}{x:Str}{p q pos:Pos}{el t aJ:Expr}{ifs:List Expr}{sc:Scope}{N':List Str}{dE:List (Option Nat)}{wi:TI}{gt:TG}{tc:Option TT}{te:TE}(g:Good kk X cc G)(hk:X.env.blockKind=.function)(hx:cc.N[i]?=some x)(hl:cc.names.lookup x=some .local)(hp:p.line=q.line)(hn:(sc.names.any λ(n,k)=>n==x&&(k == .local||k == .cell))=false)(hw:∀(aa:List (Addr×Obj))(s:Shared)(σ:L2.St)(H:Hp),Inv X aa σ H s->∃cl,PI X t aJ wi/\mi X sc N' dE cl t el ifs gt tc te)(Zd:∀x,foldedSetIterable aJ X.env x=pure x)(key:∀σ H Q,tE X.K (ev G c) σ H Q->zZ dE wi gt tc te σ H Q):PS X (.Assign [.Name x p] (.ListComp el [⟨t,aJ,ifs,0⟩] sc q) pos) (uZ X.K (km G (.fg i c))):=by
 intro aa s σ H D I h;obtain⟨cl,hi,ck⟩:=hw aa s σ H I;refine Jk (i:=i) g.calm (by rw[g.N];exact g.nd) (by rw[g.N];exact hx) (g.kinds x _ hl) ?_ hi ck Zd aa s σ H D I ?_
 ·rw[rV,hk,show X.env.kindOf x=some .local from g.kinds x _ hl,hn,hp];simp
 ·obtain⟨ads,M,ρ,sr,h⟩:=h;refine key σ H _ (Ke sr (by simp only[wZ]at h;exact h) λd M1 v H1 ak s1 rd q1=>?_);exact q1 _ H1 ak (aI.refl _ _) (s1.set i rd)
theorem Uc(g:Good kk X cc G)(hf:fG f=true)(ho:PE X e (tE X.K (ev G o)))(hi:PE X f (tE X.K (ev G i)))(hv:PE X w (tE X.K (ev G v))):PS X (.Assign [.Subscript e f sp] w pos) (uZ X.K (km G (.put o i v))):=by
 have TK:=g.room.un;refine C2 (sR hv (Ee ho hi (OG ∅) (by intro _;cases f<;>first | rfl | exact absurd (show false=true from hf) aQ)) (show swapsWithSole [.Subscript e f sp] w pos.line X.env=pure false from (by cases w<;>rfl)) (by unfold swappedStores;cases w<;>rfl) rfl) λD σ H q=>?_;obtain⟨ads,M,ρ,s,q⟩:=q;refine Ke s (by simp only[AH]at q;exact q) λd M1 v H1 ak s1 rd q1=>?_;refine⟨ak,M1,ρ,s1,?_⟩
 cases h2:ev G o ρ M1 with
 | ok wo M2 =>
  rw[h2]at q1;intro vo H2 bp g2 m2 ro;have s2:=s1.grow g2 m2;refine⟨bp,M2,ρ,s2,?_⟩;have q2:qA X.K ak H1 D (bx.g_ (ev G i ρ M2) λy M=>bx.g_ (ig wo y d M) λ_ M=>.nx ρ M):=q1
  cases h3:ev G i ρ M2 with
  | ok wi M3 =>
   rw[h3]at q2;intro vi H3 eF g3 m3 ri;have s3:=s2.grow g3 m3;have q3:qA X.K ak H1 D (bx.g_ (ig wo wi d M3) λ_ M=>.nx ρ M):=q2;refine⟨eF,M3,wo,wi,d,m3,g3.rw ro.rw,ri.rw,(g2.trans g3).rd _ _ rd,?_⟩
   cases h4:ig wo wi d M3 with
   | ok u M4 =>
    rw[h4]at q3;intro H4 CY g4 m4;exact q3 σ H4 CY ((g2.trans g3).trans g4) (s3.grow g4 m4)
   | err _ _=>rw[h4]at q3;exact q3
   | ae=>rw[h4]at q3;exact q3
  | err _ _=>rw[h3]at q2;exact q2
  | ae=>rw[h3]at q2;exact q2
 | err _ _=>rw[h2]at q1;exact q1
 | ae=>rw[h2]at q1;exact q1
theorem O6(g:Good kk X cc G)(hf:fG f=true)(ho:PE X e (tE X.K (ev G o)))(hi:PE X f (tE X.K (ev G i)))(hv:PE X w (tE X.K (ev G v))):PS X (.Assign [.Subscript e f sp] w pos) (uZ X.K (km G (.dput o i v))):=by
 have TK:=g.room.un;refine C2 (sR hv (Ee ho hi (JV ∅) (by intro _;cases f<;>first | rfl | exact absurd (show false=true from hf) aQ)) (show swapsWithSole [.Subscript e f sp] w pos.line X.env=pure false from (by cases w<;>rfl)) (by unfold swappedStores;cases w<;>rfl) rfl) λD σ H q=>?_;obtain⟨ads,M,ρ,s,q⟩:=q;refine Ke s (by simp only[w4]at q;exact q) λd M1 v H1 ak s1 rd q1=>?_;refine⟨ak,M1,ρ,s1,?_⟩
 cases h2:ev G o ρ M1 with
 | ok wo M2 =>
  rw[h2]at q1;intro vo H2 bp g2 m2 ro;have s2:=s1.grow g2 m2;refine⟨bp,M2,ρ,s2,?_⟩;have q2:qA X.K ak H1 D (bx.g_ (ev G i ρ M2) λy M=>bx.g_ (iE wo y d M) λ_ M=>.nx ρ M):=q1
  cases h3:ev G i ρ M2 with
  | ok wi M3 =>
   rw[h3]at q2;intro vi H3 eF g3 m3 ri;have s3:=s2.grow g3 m3;have q3:qA X.K ak H1 D (bx.g_ (iE wo wi d M3) λ_ M=>.nx ρ M):=q2;refine⟨eF,M3,wo,wi,d,m3,g3.rw ro.rw,ri.rw,(g2.trans g3).rd _ _ rd,?_⟩
   cases h4:iE wo wi d M3 with
   | ok u M4 =>
    rw[h4]at q3;intro H4 CY g4 m4;exact q3 σ H4 CY ((g2.trans g3).trans g4) (s3.grow g4 m4)
   | err _ _=>rw[h4]at q3;exact q3
   | ae=>rw[h4]at q3;exact q3
  | err _ _=>rw[h3]at q2;exact q2
  | ae=>rw[h3]at q2;exact q2
 | err _ _=>rw[h2]at q1;exact q1
 | ae=>rw[h2]at q1;exact q1
theorem O7(hc:fU e=false)(he:PE X e (tE X.K (ev G c))):PS X (.Expr e pos) (uZ X.K (km G (.expr c))):=by
 refine C2 (Iw he (ud hc _ _ _)) λD σ H q=>?_;obtain⟨ads,M,ρ,s,q⟩:=q;exact Zc (k:=λ_ M=>.nx ρ M) s (by simp only[w6]at q;exact q) λw M1 v H1 ak s1 r1 q1=>q1 σ H1 ak (aI.refl _ _) s1
theorem Ud(he:PE X e (tE X.K (ev G c))):PS X (.Return (some e) pos) (uZ X.K (km G (.ret c))):=by
 refine C2 (Nm he) λD σ H q=>?_;sleep 1;simp only[AI]at q
 cases hq:ev G c ρ M with
 | ok w M1=>rw[hq]at q;exact q
 | err _ _=>rw[hq]at q;exact q
 | ae=>rw[hq]at q;exact q
theorem Ze(ht:PT X c (qz X.K (eJ G t)))(ha:vD X x (uZ X.K (dg G a)))(hb:vD X y (uZ X.K (dg G b))):PS X (.If c x y pos) (uZ X.K (km G (.iff t a b))):=by
 refine C2 (Sg ht ha hb) λD σ H q=>?_;sleep 1;simp only[AJ]at q
 cases hq:eJ G t ρ M with
 | ok r M1 =>
  rw[hq]at q;intro H1 ak g1 m1;have q:qA X.K ads H D (if r then dg G a ρ M1 else dg G b ρ M1):=q;have q:=q.shift g1 s.mem m1
  cases r with
  | true=>rw[ar rfl]at q⊢;exact⟨ak,M1,ρ,s.grow g1 m1,q⟩
  | false=>rw[aq (by simp)]at q⊢;exact⟨ak,M1,ρ,s.grow g1 m1,q⟩
 | err _ _=>rw[hq]at q;exact q
 | ae=>rw[hq]at q;exact q
theorem Ue(g:Good kk X cc G)(hx:X.xe=λ_ _=>False)(hs:PI X t aJ (tI X.K (cF G k d8)))(hn:dm aJ=true)(ht:jR cc tg t=true)(hb:vD X body (uZ X.K (dg G b))):PS X (.For t aJ body [] pos) (uZ X.K (km G (.bD tg k d8 b))):=by
 refine C2 (Nu (by rw[hx];exact PassesOwn.never) g.calm hs (k0 g ht) hb (ub hn X.env)) λD σ H q=>?_;sleep 1;simp only[w8]at q
 cases hq:cF G k d8 ρ M with
 | ok it M1 =>
  rw[hq]at q;intro J H1 ak g1 m1 rj;exact Kd (λD σ H h=>h) (s.grow g1 m1) rj (qA.shift (o:=ee (λρ M=>dg G b ρ M) it tg (dw M1 it) 0 ρ M1) q g1 s.mem m1)
 | err _ _=>rw[hq]at q;exact q
 | ae=>rw[hq]at q;exact q
end
section
variable {kk:Nat} {G:dQ} {X:Cx} {cc:CC}
theorem Kh{tg:List Nat}{cond:Option fX}{ifs:List Expr}(g:Good kk X cc G)(FZ:wK cc sc=true)(EG:dE=pN cc sc)(Zb:jR (tW cc sc) tg t=true)(k8:J0 (tW cc sc) cond ifs=true)(Zf:cg (tW cc sc) elt el=true)(aa:List (Addr×Obj))(s:Shared)(σ:L2.St)(H:Hp)(I:Inv X aa σ H s):∃cl,mi X sc (fS sc) dE cl t el ifs (tG X.K tg) (cond.map λt=>qz X.K (eJ G t)) (tE X.K (ev G elt)):=by
 obtain⟨h1,h2,h3,h4,h5⟩:=n_ FZ
 obtain⟨cl,Wm⟩:=AE (X:=X) (sc:=sc) λy hy hf=>by
  obtain⟨_,ho⟩:=h5 y hy hf;refine I.ok.has y.1 ?_;rcases ho with ho | ho
  ·exact .inl (g.kinds _ _ ho)
  ·exact g.kinds _ _ ho
 refine⟨cl,h1,h2,h3,Wm,EG▸FX g FZ,λC s H fp=>k0 (g.block FZ C s H fp) Zb,?_,λC s H fp=>bg elt (tW cc sc) _ el (g.block FZ C s H fp) Zf⟩
 cases cond with
 | none =>
  cases ifs with
  | nil=>rfl
  | cons _ _=>cases k8
 | some tt =>
  cases ifs with
  | nil=>cases k8
  | cons e es =>
   cases es with
   | cons _ _=>cases k8
   | nil=>exact⟨e,rfl,λC s H fp=>C0 tt (tW cc sc) (X.block sc cl C (fS sc) s H fp []) e (g.block FZ C s H fp) k8⟩
theorem Ki{d8:List C}{tg:List Nat}{cond:Option fX}(σ:L2.St)(H:Hp)(Q:VK)(q:tE X.K (ev G (.comp k d8 tg cond elt dE)) σ H Q):zZ dE (tI X.K (cF G k d8)) (tG X.K tg) (cond.map λt=>qz X.K (eJ G t)) (tE X.K (ev G elt)) σ H Q:=by
 obtain⟨ads,M,ρ,sr,q⟩:=q;refine⟨ads,M,ρ,sr,?_⟩
 have q:df X.K ads H Q ((cF G k d8 ρ M).bind λit M=>bu (λτ M=>bV G cond τ M) (λτ M=>(ev G elt τ M).bind own) it tg (dw M it) 0 (fw dE ρ) M []):=by
  simp only[tP]at q;unfold cF
  cases hw:du G d8 ρ M with
  | ok ws M1=>rw[hw]at q;exact q
  | err _ _=>rw[hw]at q;exact q
  | ae=>rw[hw]at q;exact q
 cases hs:cF G k d8 ρ M with
 | ok it M1 =>
  rw[hs]at q;intro J H1 ak g1 m1 rj;exact wX (sr.grow g1 m1) rj (df.shift (o:=bu (λτ M=>bV G cond τ M) (λτ M=>(ev G elt τ M).bind own) it tg (dw M1 it) 0 (fw dE ρ) M1 []) q g1 sr.mem m1)
 | err _ _=>rw[hs]at q;exact q
 | ae=>rw[hs]at q;exact q
structure F3 (kk:Nat) (X:Cx) (cc:CC) (G:dQ):Prop where
 g:Good kk X cc G
 bk:X.env.blockKind=.function
 nx:X.xe=λ_ _=>False
theorem C3(h:(!fU v||Nat.beq v.ctorIdx 8)=true)(hc:fU v=true):∃el gens sc q,v=.ListComp el gens sc q:=by
 rw[hc]at h;exact Expr.ListComp.elim (motive_1:=λv=>∃el gens sc q,v=.ListComp el gens sc q) v (Nat.eq_of_beq_eq_true h) λel gens sc q=>⟨el,gens,sc,q,rfl⟩
theorem O8(h:cg cc c (.ListComp el gens sc q)=true):∃k d8 tg cond elt dE,c=.comp k d8 tg cond elt dE:=by
 cases c<;>first | exact absurd (show false=true from h) aQ | exact⟨_,_,_,_,_,_,rfl⟩
end
mutual
theorem Zg:∀(s:S)(cc:CC)(X:Cx)(st:Stmt),F3 kk X cc G->O3 cc s st=true->PS X st (uZ X.K (km G s))
 | .asg tg c,cc,X,st,g,h=>gA (P:=λst=>PS X st _) h λts v pos h=>by
  rcases ts with _|⟨t,_|⟨_,_⟩⟩<;>first | exact absurd h aQ | skip
  simp only[aW]at h;exact Ub g.g h.1.1.1 h.1.1.2 (C3 h.1.2) (bg c cc X v g.g h.2)
 | .fg i c,cc,X,st,g,h=>gA (P:=λst=>PS X st _) h λts v pos h=>by
  rcases ts with _|⟨t,_|⟨_,_⟩⟩<;>first | exact absurd h aQ | skip
  refine bR (P:=λt=>PS X (.Assign [t] v pos) _) h λx p h=>jQ (P:=λv=>PS X (.Assign [.Name x p] v pos) _) h λel gens sc q h=>?_;simp only[aW,kz]at h;obtain⟨⟨⟨⟨h1,h2⟩,h3⟩,h4⟩,h5⟩:=h;obtain⟨k,d8,tg,cond,elt,dE,rfl⟩:=O8 h5;rcases gens with _|⟨⟨t,aJ,ifs,as⟩,_|⟨_,_⟩⟩<;>first | exact absurd (show false=true from h5) aQ | skip
  have h6:(as==0&&wK cc sc&&decide (dE=pN cc sc)&&tX cc k d8 t aJ&&jR (tW cc sc) tg t&&J0 (tW cc sc) cond ifs&&cg (tW cc sc) elt el)=true:=h5;simp only[aW,kC,oJ]at h6;obtain⟨⟨⟨⟨⟨⟨rfl,k1⟩,k2⟩,k3⟩,k4⟩,k5⟩,k6⟩:=h6;obtain⟨F0,mh⟩:=yY d8 k cc X t aJ g.g k3
  exact O5 g.g g.bk (eq_of_beq h1) (eq_of_beq h2) (eq_of_beq h3) h4 (λaa s σ H I=>by
   obtain⟨cl,ck⟩:=Kh g.g k1 k2 k4 k5 k6 aa s σ H I;exact⟨cl,F0,ck⟩) (ub mh X.env) Ki
 | .par i j a b,_,_,_,_,h=>absurd (show false=true from h) aQ
 | .put o i v,cc,X,st,g,h=>gA (P:=λst=>PS X st _) h λts w pos h=>by
  rcases ts with _|⟨t,_|⟨_,_⟩⟩<;>first | exact absurd h aQ | skip
  refine cL (P:=λt=>PS X (.Assign [t] w pos) _) h λe f sp h=>?_;simp only[aW]at h;obtain⟨⟨⟨h1,h3⟩,h4⟩,h5⟩:=h;exact Uc g.g h1 (bg o cc X e g.g h3) (bg i cc X f g.g h4) (bg v cc X w g.g h5)
 | .dput o i v,cc,X,st,g,h=>gA (P:=λst=>PS X st _) h λts w pos h=>by
  rcases ts with _|⟨t,_|⟨_,_⟩⟩<;>first | exact absurd h aQ | skip
  refine cL (P:=λt=>PS X (.Assign [t] w pos) _) h λe f sp h=>?_;simp only[aW]at h;obtain⟨⟨⟨h1,h3⟩,h4⟩,h5⟩:=h;exact O6 g.g h1 (bg o cc X e g.g h3) (bg i cc X f g.g h4) (bg v cc X w g.g h5)
 | .expr c,cc,X,st,g,h=>CV (P:=λst=>PS X st _) h λe pos h=>by
  simp only[aW,kz]at h;exact O7 h.1 (bg c cc X e g.g h.2)
 | .ret c,cc,X,st,g,h=>ni (P:=λst=>PS X st _) h λv pos h=>by
  cases v with
  | none=>exact absurd h aQ
  | some e=>exact Ud (bg c cc X e g.g h)
 | .F2,cc,X,st,g,h=>ni (P:=λst=>PS X st _) h λv pos h=>by
  cases v with
  | some e=>exact absurd h aQ
  | none =>
   refine C2 Iy λD σ H q=>?_;obtain⟨ads,M,ρ,s,q⟩:=q;exact q .aP H ads (aI.refl _ _) s.mem (show RD X.K ads H .aP .aP from i_)
 | .iff t a b,cc,X,st,g,h=>JW (P:=λst=>PS X st _) h λc x y pos h=>by
  simp only[aW]at h;exact Ze (C0 t cc X c g.g h.1.1) (xa a cc X x g h.1.2) (xa b cc X y g h.2)
 | .bD tg k d8 b,cc,X,st,g,h=>FD (P:=λst=>PS X st _) h λt aJ body els pos h=>by
  simp only[aW,DP]at h;obtain⟨⟨⟨rfl,h1⟩,h2⟩,h3⟩:=h;obtain⟨hs,hn⟩:=yY d8 k cc X t aJ g.g h1;exact Ue g.g g.nx hs hn h2 (xa b cc X body g h3)
 | .O1 n t b,_,_,_,_,h=>absurd (show false=true from h) aQ
 | .never,cc,X,st,g,h=>C2 Ec λD σ H q=>by
  obtain⟨ads,M,ρ,s,q⟩:=q;exact q
 | .pass,cc,X,st,g,h=>CW (P:=λst=>PS X st _) h λpos h=>C2 Iv λD σ H q=>by
  obtain⟨ads,M,ρ,s,q⟩:=q;exact q σ H ads (aI.refl _ _) s
 | .brk,cc,X,st,g,h=>yT (P:=λst=>PS X st _) h λpos h=>C2 Eb λD σ H q=>by
  obtain⟨ads,M,ρ,s,q⟩:=q;exact q σ H ads (aI.refl _ _) s
 | .cont,cc,X,st,g,h=>qT (P:=λst=>PS X st _) h λpos h=>C2 vE λD σ H q=>by
  obtain⟨ads,M,ρ,s,q⟩:=q;exact q σ H ads (aI.refl _ _) s
theorem xa:∀(ss:List S)(cc:CC)(X:Cx)(st:List Stmt),F3 kk X cc G->k_ cc ss st=true->vD X st (uZ X.K (dg G ss))
 | [],cc,X,[],g,h=>T_ Iu λD σ H q=>by
  obtain⟨ads,M,ρ,s,q⟩:=q;exact q σ H ads (aI.refl _ _) s
 | [],cc,X,_::_,g,h=>by cases h
 | _::_,cc,X,[],g,h=>by cases h
 | s::ss,cc,X,t::ts,g,h=>by
  have h':(O3 cc s t&&k_ cc ss ts)=true:=h;simp only[aW]at h';exact T_ (Ea (Zg s cc X t g h'.1) (xa ss cc X ts g h'.2)) λD σ H q=>Ua q
end
noncomputable def iq(n:Nat)(ds:List D):En:=ds.map some++List.replicate (n-ds.length) none
def ao(G:dQ)(n:Nat)(body:List S)(ds:List D)(M:aj):cP W:=match dg G body (iq n ds) M with
 | .rt w M=>.ok w M
 | .nx _ M=>.ok (.d .aP) M
 | _=>.ae
theorem F4{K:Frag}{ads:List Addr}{H:Hp}:∀{ds:List D}{vs:List V}(r:aS K ads H ds vs)(k:Nat),Tj K ads H (ds.map some++List.replicate k none) (vs.map some++List.replicate k none)
 | ds,vs,r,k=>by
  intro i d e;by_cases hi:i<ds.length
  ·rw[kr (by simpa using hi),bc]at e
   cases q:ds[i]? with
   | none=>rw[q]at e;cases e
   | some d' =>
    rw[q]at e;cases e;obtain⟨v,ev,rv⟩:=r.get q;exact⟨v,by rw[kr (by rw[ay,<- r.len];exact hi),bc,ev];rfl,rv⟩
  ·rw[qD (by simpa using hi),List.getElem?_replicate]at e;split at e<;>cases e
theorem O9{P:Program}{w:World}{K:Frag}{mg:Str->Option Value}{base:Heap}{x qual:Str}{st:Stmt}{f:Addr}{fd:FuncData}{N ps:List Str}{k:Nat}{G:dQ}{fs:List (Str×Nat)}{gs:List (Str×Int)}{body:List S}{n:Nat}(F:V0 K x qual st f fd)(Sc:kG N ps (bP st))(hn:ps.length=n)(hb:k_ ⟨N,(bP st).names,fs,gs⟩ body (fD st)=true)(Zh:∀b∈cC,mg b=none)(hgs:∀(x:Str)(v:Int),gs.lookup x=some v->∃t,mg x=some (.int v t))(Zd:∀(i:Nat)(x:Str)(n:Nat),fs[i]?=some (x,n)->∃f fd ps,iW P w K mg base Cf k f fd ps (J1 K n (G i))/\mg x=some (.ref f)/\PySem.W.keepIn K (.ref f)=true/\Binds K fd ps []):iW P w K mg base Cf (k+1) f fd ps (J1 K n (ao G N.length body)):=by
 have sY:ps.length<=N.length:=by have:=lW List.length Sc.pre;rw[hG]at this;omega
 refine F.ok Sc (λvs H Q E h=>?_) λqu A outer s H vs Q E hr Hz=>?_
 ·obtain⟨ads,M,ds,m,r,hl,_⟩:=h;rw[<- r.len,hl,hn]
 ·have gs:F3 k (yn Cf P w K mg base N qual (bP st) f qu A outer s H E).R_ ⟨N,(bP st).names,fs,gs⟩ G:=by
   refine⟨⟨rfl,hr,rfl,Sc.nd,λx k e=>?_,λ_ _=>rfl,Zh,hgs,Zd⟩,?_,rfl⟩
   ·have e:(bP st).names.lookup x=some k:=e
    cases k with
    | «local»=>exact e
    | cell=>exact e
    | free=>exact absurd rfl (Sc.Eo _ (oH e))
    | globalExplicit=>exact True.intro
    | globalImplicit=>exact e
   ·show(if (bP st).kind.isAnnotationScope then ScopeKind.function else (bP st).kind)=_;rw[Sc.kind];rfl
  refine⟨_,xa body _ _ (fD st) gs hb,?_⟩;obtain⟨ads,M,ds,m,r,hl,q⟩:=Hz
  have aZ:(iq N.length ds).length=N.length:=by
   unfold iq;rw[cI,ay,MH];omega
  refine⟨ads,M,iq N.length ds,⟨m,?_,?_⟩,?_⟩
  ·unfold iq L2.start;rw[<- r.len];exact F4 r _
  ·rw[aZ];unfold L2.start;rw[cI,ay,MH,<- r.len];omega
  ·unfold ao at q
   cases hq:dg G body (iq N.length ds) M with
   | nx ρ M1=>rw[hq]at q;exact λdD H' aE g s'=>q .aP H' aE g s'.mem (show RD K aE H' .aP .aP from i_)
   | rt w M1=>rw[hq]at q;exact q
   | bk _ _=>rw[hq]at q;exact q.elim
   | ct _ _=>rw[hq]at q;exact q.elim
   | ae=>rw[hq]at q;exact q.elim
noncomputable def cM(l:List (List D->aj->cP W)):dQ:=λi ds M=>match l[i]? with
 | some f=>f ds M
 | none=>.ae
abbrev fq(x:Str)(s:Stmt)(m c:Value):FuncData:=PySem.W.fnOf x x (nR s) (fD s) (bP s) .none .none .none m none c .none
noncomputable def fo(f:FuncData):Obj:=⟨.type "function",none,.func f,#[]⟩
theorem O_{K:Frag}{h:Heap}{mg:Str->Option Value}{gs:List (Str×Int)}(X:K.In h)(G:h.Ns mainGlobals mg)(z:gs.all (λp=>match PySem.W.nsIn K mainGlobals p.1 with | some (some (.int v _))=>v==p.2 | _=>false)=true):∀(x:Str)(v:Int),gs.lookup x=some v->∃t,mg x=some (.int v t):=by
 intro x v e;have q:=DO.mp z (x,v) (oH e);dsimp only at q;split at q
 ·rename_i w t e2
  obtain rfl:=eq_of_beq q;exact⟨t,PySem.W.mg_of X G e2⟩
 ·exact absurd q aQ
section
variable {P:Program} {w:World} {K:Frag} {mg:Str->Option Value} {base h:Heap} {k k2:Nat} {x:Str} {n:Nat} {fs:List (Str×Nat)} {Fs:List (List D->aj->cP W)} {F:List D->aj->cP W} {gs:List (Str×Int)}
structure Is (P:Program) (w:World) (K:Frag) (mg:Str->Option Value) (base:Heap) (k:Nat) (x:Str) (n:Nat) (F:List D->aj->cP W):Prop where
 is:∃f fd ps,iW P w K mg base Cf k f fd ps (J1 K n F)/\mg x=some (.ref f)/\PySem.W.keepIn K (.ref f)=true/\Binds K fd ps []
theorem Is.mono(h:Is P w K mg base k x n F)(hk:k<=k2):Is P w K mg base k2 x n F:=by
 obtain⟨f,fd,ps,a,b⟩:=h.is;exact⟨f,fd,ps,a.mono hk,b⟩
noncomputable def All(P:Program)(w:World)(K:Frag)(mg:Str->Option Value)(base:Heap)(k:Nat)(fs:List (Str×Nat))(Fs:List (List D->aj->cP W)):Prop:=fs.length=Fs.length/\∀(i:Nat)(x:Str)(n:Nat),fs[i]?=some (x,n)->∃F,Fs[i]?=some F/\Is P w K mg base k x n F
theorem All.nil:All P w K mg base k [] []:=⟨rfl,λi x n e=>by simp at e⟩
theorem All.snoc(h:All P w K mg base k fs Fs)(g:Is P w K mg base (k+1) x n F):All P w K mg base (k+1) (fs++[(x,n)]) (Fs++[F]):=by
 obtain⟨hl,h⟩:=h;refine⟨by rw[cI,cI,hl];rfl,λi y m e=>?_⟩;by_cases hi:i<fs.length
 ·rw[kr hi]at e;obtain⟨F,a,b⟩:=h i y m e;exact⟨F,by rw[kr ∅];exact a,b.mono (BW _)⟩
 ·have:i=fs.length:=by
   have:=(bz.mp e).1;simp at this;omega
  subst this;simp at e;obtain⟨rfl,rfl⟩:=e;exact⟨F,by rw[hl];simp,g⟩
theorem All.fns(h:All P w K mg base k fs Fs):∀(i:Nat)(x:Str)(n:Nat),fs[i]?=some (x,n)->∃f fd ps,iW P w K mg base Cf k f fd ps (J1 K n (cM Fs i))/\mg x=some (.ref f)/\PySem.W.keepIn K (.ref f)=true/\Binds K fd ps []:=λi y m e=>by
 obtain⟨F,a,b⟩:=h.2 i y m e;have:cM Fs i=F:=by funext ds M;unfold cM;rw[a]
 rw[this];exact b.is
noncomputable def Wo(N ps:List Str)(sc:Scope):Bool:=(match sc.kind with | .function=>true | _=>false) && !sc.isCoroutine && !sc.isGenerator&&decide N.Nodup&&decide (N.take ps.length=ps)&&ps.all (λx=>match sc.names.lookup x with | some .local=>true | some .cell=>true | _=>false)&&sc.names.all λy=>match y.2 with | .free=>false | _=>true
theorem Pa{N ps:List Str}(h:Wo N ps sc=true):kG N ps sc:=by
 unfold Wo at h;simp only[aW,DO,oJ,kz]at h;obtain⟨⟨⟨⟨⟨⟨h1,h2⟩,h3⟩,h4⟩,h5⟩,h6⟩,h7⟩:=h;refine⟨?_,h2,h3,h4,h5,λx hx=>?_,λy hy e=>?_⟩
 ·split at h1
  ·assumption
  ·cases h1
 ·have:=h6 x hx;split at this
  ·exact .inl (by assumption)
  ·exact .inr (by assumption)
  ·cases this
 ·have:=h7 y hy;rw[e]at this;cases this
noncomputable def Zi:Nat->(List Value->Prop)->Prop
 | 0,P=>P []
 | k+1,P=>∀a,Zi k λus=>P (a::us)
theorem Ug:∀{k:Nat}{P:List Value->Prop},Zi k P->∀us,us.length=k->P us:=by
 intro k
 induction k with
 | zero=>intro P h us e;rw[MB.mp e];exact h
 | succ k ih =>
  intro P h us e
  cases us with
  | nil=>cases e
  | cons a us=>exact ih (P:=λus=>P (a::us)) (h a) us (Nat.succ.inj e)
structure Cw (K:Frag) (h:Heap) (mg:Str->Option Value) (gs:List (Str×Int)):Prop where
 X:K.In h
 G:h.Ns mainGlobals mg
 b:∀b∈cC,mg b=none
 g:∀(x:Str)(v:Int),gs.lookup x=some v->∃t,mg x=some (.int v t)
theorem F5(x:Str)(a:Addr)(st:Stmt)(N ps:List Str)(b:List S)(m c:Value)(W:Cw K h mg gs)(A:All P w K mg base k fs Fs)(lk:K.lookup a=some (fo (fq x st m c)))(hc:PySem.W.codeIn K c x=true)(hk:PySem.W.keepIn K (.ref a)=true)(hb:(Wo N ps (bP st)&&k_ ⟨N,(bP st).names,fs,gs⟩ b (fD st))=true):iW P w K mg base Cf (k+1) a (fq x st m c) ps (J1 K ps.length (ao (cM Fs) N.length b)) :=
 O9 (NY lk hc hk) (Pa ((aW _ _).mp hb).1) rfl ((aW _ _).mp hb).2 W.b W.g A.fns
theorem nx(x:Str)(a:Addr)(st:Stmt)(N ps:List Str)(b:List S)(m c:Value)(W:Cw K h mg gs)(A:All P w K mg base k fs Fs)(ha:PySem.W.nsIn K mainGlobals x=some (some (.ref a)):=by (kernel_rfl))(lk:K.lookup a=some (fo (fq x st m c)):=by (kernel_rfl))(hc:PySem.W.codeIn K c x=true:=by (kernel_rfl))(hk:PySem.W.keepIn K (.ref a)=true:=by (kernel_rfl))(hb:(Wo N ps (bP st)&&k_ ⟨N,(bP st).names,fs,gs⟩ b (fD st))=true:=by (decide +kernel))(bd:Zi ps.length λus=>bindArgs (fq x st m c) ⟨us,[]⟩=pure (ps.zip us):=by (repeat intro _);rfl):All P w K mg base (k+1) (fs++[(x,ps.length)]) (Fs++[ao (cM Fs) N.length b]) :=
 A.snoc ⟨a,_,ps,F5 x a st N ps b m c W A lk hc hk hb,PySem.W.mg_of W.X W.G ha,hk,.all (Ug bd)⟩
end
@[irreducible] noncomputable def aV{α:Type}(o:cP α)(P:α->aj->Prop):Prop:=match o with
 | .ok a M=>P a M
 | _=>False
theorem bf{α:Type}{a:α}{M:aj}{P:α->aj->Prop}:aV (.ok a M) P=P a M:=by unfold aV;exact propext vn
theorem aL{α:Type}{P:α->aj->Prop}:aV .ae P=False:=by unfold aV;exact propext vn
theorem jt{α:Type}{P:α->aj->Prop}{x:Exn}{M:aj}:aV (.err x M) P=False:=by unfold aV;exact propext vn
theorem aG{α β:Type}{o:cP α}{f:α->aj->cP β}{P:β->aj->Prop}:aV (o.bind f) P=aV o λa M=>aV (f a M) P:=by
 cases o with
 | ok a M=>rw[bf];rfl
 | err _ _=>rw[jt];exact jt
 | ae=>rw[aL];exact aL
theorem aV.imp{α:Type}{o:cP α}{P Q:α->aj->Prop}(h:aV o P)(k:∀a M,P a M->Q a M):aV o Q:=by
 cases o with
 | ok a M=>rw[bf]at h⊢;exact k a M h
 | err _ _=>rw[jt]at h;exact h.elim
 | ae=>rw[aL]at h;exact h.elim
theorem ju{α:Type}{c:Prop}[Decidable c]{o:cP α}{P:α->aj->Prop}:aV (if c then o else .ae) P=(c/\aV o P):=by
 by_cases h:c
 ·rw[ar h];exact propext ⟨λq=>⟨h,q⟩,λq=>q.2⟩
 ·rw[aq h,aL];exact propext ⟨λq=>q.elim,λq=>absurd q.1 h⟩
theorem Pb{α:Type}{o:cP α}{P:α->aj->Prop}(h:aV o P):∃a M,o=.ok a M/\P a M:=by
 cases o with
 | ok a M=>rw[bf]at h;exact⟨a,M,rfl,h⟩
 | err _ _=>rw[jt]at h;exact h.elim
 | ae=>rw[aL]at h;exact h.elim
@[irreducible] noncomputable def gK(o:bx)(nx:En->aj->Prop)(rt:W->aj->Prop)(bk ct:En->aj->Prop):Prop:=match o with
 | .nx ρ M=>nx ρ M
 | .rt w M=>rt w M
 | .bk ρ M=>bk ρ M
 | .ct ρ M=>ct ρ M
 | .ae=>False
section
variable {nx:En->aj->Prop} {rt:W->aj->Prop} {bk ct:En->aj->Prop}
theorem eV:gK (.nx ρ M) nx rt bk ct=nx ρ M:=by unfold gK;exact propext vn
theorem kg:gK (.rt w M) nx rt bk ct=rt w M:=by unfold gK;exact propext vn
theorem pU:gK (.bk ρ M) nx rt bk ct=bk ρ M:=by unfold gK;exact propext vn
theorem pV:gK (.ct ρ M) nx rt bk ct=ct ρ M:=by unfold gK;exact propext vn
theorem ef:gK .ae nx rt bk ct=False:=by unfold gK;exact propext vn
theorem fI{α:Type}{o:cP α}{f:α->aj->bx}:gK (bx.g_ o f) nx rt bk ct=aV o λa M=>gK (f a M) nx rt bk ct:=by
 cases o with
 | ok a M=>rw[bf];rfl
 | err _ _=>rw[jt];exact ef
 | ae=>rw[aL];exact ef
theorem Kj:gK (o.seq f) nx rt bk ct=gK o (λρ M=>gK (f ρ M) nx rt bk ct) rt bk ct:=by
 cases o with
 | nx ρ M=>rw[eV];rfl
 | rt ρ M=>rw[kg];exact kg
 | bk ρ M=>rw[pU];exact pU
 | ct ρ M=>rw[pV];exact pV
 | ae=>rw[ef];exact ef
end
theorem Kk:aV (ao G n b ds M) P=gK (dg G b (iq n ds) M) (λ_ M=>P (.d .aP) M) P (λ_ _=>False) (λ_ _=>False):=by
 unfold ao
 cases dg G b (iq n ds) M with
 | nx ρ M=>rw[eV];exact bf
 | rt ρ M=>rw[kg];exact bf
 | bk ρ M=>rw[pU];exact aL
 | ct ρ M=>rw[pV];exact aL
 | ae=>rw[ef];exact aL
section
variable {G:dQ} {ρ:En} {M:aj} {P:W->aj->Prop}
theorem Uh:aV (ev G (.bw d) ρ M) P=P (.d d) M:=by simp only[Oc,bf]
theorem Ui:aV (ev G (.bin op a b) ρ M) P=aV (ev G a ρ M) λx M=>aV (ev G b ρ M) λy M=>aV (qQ op x y M) P:=by simp only[Od,aG]
theorem Uj:aV (ev G (.cmp op a b) ρ M) P=aV (ev G a ρ M) λx M=>aV (ev G b ρ M) λy M=>aV (bh op x y M) λr M=>P (.d (.bl r)) M:=by simp only[Ff,aG,bf]
theorem Uk:aV (ev G (.ite c a b) ρ M) P=aV (eJ G c ρ M) λr M=>if r then aV (ev G a ρ M) P else aV (ev G b ρ M) P:=by
 simp only[Fg,aG]
 congr 1;funext r M
 cases r<;>rfl
theorem Ul:aV (ev G (.tup cs) ρ M) P=aV (bX G cs ρ M) λds M=>ds.length<=sizeLine/\P (.d (.tup ds)) M:=by
 simp only[Fh,aG,ju,bf]
theorem Um:aV (ev G (.lst cs) ρ M) P=aV (bX G cs ρ M) λds M=>ds.length<=sizeLine/\P (.lv ds) M:=by
 simp only[Fi,aG,ju,bf]
theorem k_sub:aV (ev G (.sub a b) ρ M) P=aV (ev G a ρ M) λx M=>aV (ev G b ρ M) λy M=>aV (de x y M) P:=by simp only[Of,aG]
theorem Uo{lo hi:Option C}:aV (ev G (.xV a lo hi) ρ M) P=aV (ev G a ρ M) λx M=>aV (uY G lo ρ M) λl M=>aV (uY G hi ρ M) λh M=>aV (pB x l h M) P:=by simp only[Og,aG]
theorem Up:aV (ev G (.Du a k) ρ M) P=aV (ev G a ρ M) λx M=>aV (mw x k M) P:=by simp only[Oh,aG]
theorem Zj{P:Option Int->aj->Prop}:aV (uY G none ρ M) P=P none M:=by simp only[pI,pJ,bf]
theorem Pc:aV (ev G (.call f cs) ρ M) P=aV (bX G cs ρ M) λds M=>aV (G f ds M) P:=by simp only[Al,aG]
theorem Zk:aV (ev G (.bi b cs) ρ M) P=aV (du G cs ρ M) λws M=>aV (mZ b ws M) P:=by simp only[Fj,aG]
theorem Zl:aV (ev G (.me m o cs) ρ M) P=aV (ev G o ρ M) λx M=>(fE M x).isSome=true/\aV (bX G cs ρ M) λds M=>aV (tN m x ds M) P:=by
 simp only[Fl,aG,ju]
theorem Uq{ks:List Str}  : aV (ev G (.v8 ks cs) ρ M) P=aV (bX G cs ρ M) λds M=>ks.length=ds.length/\P (.d (.ai M.length)) (M++[.dK ((ks.map Sum.inr).zip ds)]):=by
 simp only[yL,aG,ju,bf]
theorem Pd{d8:List C}{tg:List Nat}{cond:Option fX}  : aV (ev G (.comp k d8 tg cond elt dE) ρ M) P=aV (du G d8 ρ M) λws M=>aV (fc k ws M) λit M=>aV (bu (λτ M=>bV G cond τ M) (λτ M=>(ev G elt τ M).bind own) it tg (dw M it) 0 (fw dE ρ) M []) P:=by simp only[tP,aG]
theorem Zm{P:List D->aj->Prop}:aV (bX G [] ρ M) P=P [] M:=by simp only[gU,fK,bf]
theorem Zn{c:C}{cs:List C}{P:List D->aj->Prop}:aV (bX G (c::cs) ρ M) P=aV (ev G c ρ M) λw M=>aV (own w M) λd M=>aV (bX G cs ρ M) λds M=>P (d::ds) M:=by simp only[gU,fK,aG,bf]
theorem Zo{P:List W->aj->Prop}:aV (du G [] ρ M) P=P [] M:=by simp only[kR,jm,bf]
theorem Zq{c:C}{cs:List C}{P:List W->aj->Prop}:aV (du G (c::cs) ρ M) P=aV (ev G c ρ M) λw M=>aV (du G cs ρ M) λds M=>P (w::ds) M:=by simp only[kR,jm,aG,bf]
theorem Ur{c:C}{P:Bool->aj->Prop}:aV (eJ G (.val c) ρ M) P=aV (ev G c ρ M) λw M=>∃r,qR M w=some r/\P r M:=by
 simp only[tQ,aG]
 congr 1;funext w M
 cases h:qR M w with
 | none=>simp only[reduceCtorEq,false_and,exists_false,aL]
 | some r=>simp only[ya,exists_eq_left',bf]
theorem Us{a:fX}{P:Bool->aj->Prop}:aV (eJ G (.neg a) ρ M) P=aV (eJ G a ρ M) λr M=>P (!r) M:=by simp only[JJ,aG,bf]
theorem Pe{a:fX}{P:Bool->aj->Prop}:aV (gn G [a] ρ M) P=aV (eJ G a ρ M) P:=by simp only[mD,j6,aG,bf]
theorem Pf{a:fX}{P:Bool->aj->Prop}:aV (gp G [a] ρ M) P=aV (eJ G a ρ M) P:=by simp only[mE,j7,aG,bf]
theorem Pg{a b:fX}{cs:List fX}{P:Bool->aj->Prop}:aV (gn G (a::b::cs) ρ M) P=aV (eJ G a ρ M) λr M=>if r then aV (gn G (b::cs) ρ M) P else P false M:=by
 rw[j6];simp only[aG]
 congr 1;funext r M
 cases r with
 | true=>rfl
 | false=>exact bf
theorem Ph{a b:fX}{cs:List fX}{P:Bool->aj->Prop}:aV (gp G (a::b::cs) ρ M) P=aV (eJ G a ρ M) λr M=>if r then P true M else aV (gp G (b::cs) ρ M) P:=by
 rw[j7];simp only[aG]
 congr 1;funext r M
 cases r with
 | true=>exact bf
 | false=>rfl
theorem Pj{ts:List fX}{P:Bool->aj->Prop}:aV (eJ G (.dv ts) ρ M) P=aV (gn G ts ρ M) P:=by simp only[Fo]
theorem Pl{ts:List fX}{P:Bool->aj->Prop}:aV (eJ G (.fZ ts) ρ M) P=aV (gp G ts ρ M) P:=by simp only[Fp]
end
section
variable {G:dQ} {ρ:En} {M:aj} {nx:En->aj->Prop} {rt:W->aj->Prop} {bk ct:En->aj->Prop}
theorem Pm:gK (km G (.fg i c) ρ M) nx rt bk ct=aV (ev G c ρ M) λw M=>aV (own w M) λd M=>nx (ρ.set i (some d)) M:=by simp only[wZ,fI,aG,eV]
theorem Ut:gK (km G (.put o i v) ρ M) nx rt bk ct=aV (ev G v ρ M) λw M=>aV (own w M) λd M=>aV (ev G o ρ M) λx M=>aV (ev G i ρ M) λy M=>aV (ig x y d M) λ_ M=>nx ρ M:=by simp only[AH,fI,aG,eV]
theorem Pn:gK (km G (.expr c) ρ M) nx rt bk ct=aV (ev G c ρ M) λ_ M=>nx ρ M:=by simp only[w6,fI,eV]
theorem Uu:gK (km G (.ret c) ρ M) nx rt bk ct=aV (ev G c ρ M) rt:=by simp only[AI,fI,kg]
theorem Zr:gK (km G (.iff t a b) ρ M) nx rt bk ct=aV (eJ G t ρ M) λr M=>if r then gK (dg G a ρ M) nx rt bk ct else gK (dg G b ρ M) nx rt bk ct:=by
 simp only[AJ,fI]
 congr 1;funext r M
 cases r<;>rfl
theorem Uv:gK (km G (.bD tg k d8 b) ρ M) nx rt bk ct=aV (du G d8 ρ M) λws M=>aV (fc k ws M) λit M=>gK (ee (λρ M=>dg G b ρ M) it tg (dw M it) 0 ρ M) nx rt bk ct:=by
 simp only[w8,fI,cF,aG]
theorem Uw:gK (dg G [] ρ M) nx rt bk ct=nx ρ M:=by simp only[w_,rT,eV]
theorem Po:gK (dg G (s::ss) ρ M) nx rt bk ct=gK (km G s ρ M) (λρ M=>gK (dg G ss ρ M) nx rt bk ct) rt bk ct:=by simp only[w_,rT,Kj]
end
theorem mK{body:En->aj->bx}{it:It}{tg:List Nat}{ds:List D}{nx:En->aj->Prop}{rt:W->aj->Prop}{bk ct:En->aj->Prop}(I:Nat->En->aj->Prop)(hd:∀i ρ M,I i ρ M->i<=ds.length->itemAt M i it=some ds[i]?)(hs:∀i ρ M d,I i ρ M->ds[i]?=some d->∃ff,cb tg d ρ=some ff/\gK (body ff M) (I (i+1)) rt nx (I (i+1)))(he:∀ρ M,I ds.length ρ M->nx ρ M):∀(f i:Nat)(ρ:En)(M:aj),I i ρ M->i+f=ds.length->gK (ee body it tg f i ρ M) nx rt bk ct
 | 0,i,ρ,M,h,e=>by
  unfold ee;have:i=ds.length:=∅;subst this;rw[hd _ _ _ h (aH _),gM (aH _)];dsimp only;rw[eV];exact he _ _ h
 | f+1,i,ρ,M,h,e=>by
  unfold ee;have hi:i<ds.length:=∅;rw[hd _ _ _ h (qK hi),br hi];obtain⟨ff,e1,e2⟩:=hs i ρ M ds[i] h (br hi);dsimp only;rw[e1];dsimp only
  cases q:body ff M with
  | nx O4 M2=>rw[q,eV]at e2;exact mK I hd hs he f (i+1) O4 M2 e2 ∅
  | ct O4 M2=>rw[q,pV]at e2;exact mK I hd hs he f (i+1) O4 M2 e2 ∅
  | bk O4 M2=>rw[q,pU]at e2;dsimp only;rw[eV];exact e2
  | rt w M2=>rw[q,kg]at e2;dsimp only;rw[kg];exact e2
  | ae=>rw[q,ef]at e2;exact e2.elim
theorem ue{cond:En->aj->cP Bool}{elt:En->aj->cP D}{it:It}{tg:List Nat}{ds:List D}{P:W->aj->Prop}(I:Nat->En->aj->List D->Prop)(hd:∀i ρ M acc,I i ρ M acc->i<=ds.length->itemAt M i it=some ds[i]?)(hs:∀i ρ M acc d,I i ρ M acc->ds[i]?=some d->acc.length<sizeLine/\∃ff,cb tg d ρ=some ff/\aV (cond ff M) λb M=>if b then aV (elt ff M) λx M=>I (i+1) ff M (acc++[x]) else I (i+1) ff M acc)(he:∀ρ M acc,I ds.length ρ M acc->P (.lv acc) M):∀(f i:Nat)(ρ:En)(M:aj)(acc:List D),I i ρ M acc->i+f=ds.length->aV (bu cond elt it tg f i ρ M acc) P
 | 0,i,ρ,M,acc,h,e=>by
  unfold bu;have:i=ds.length:=∅;subst this;rw[hd _ _ _ _ h (aH _),gM (aH _)];dsimp only;rw[bf];exact he _ _ _ h
 | f+1,i,ρ,M,acc,h,e=>by
  unfold bu;have hi:i<ds.length:=∅;rw[hd _ _ _ _ h (qK hi),br hi];obtain⟨hl,ff,e1,e2⟩:=hs i ρ M acc ds[i] h (br hi);dsimp only;rw[e1];dsimp only;rw[ar hl,aG];refine e2.imp λb M2 q=>?_
  cases b with
  | true =>
   rw[ar rfl]at q⊢;rw[aG];exact q.imp λx M3 q=>ue I hd hs he f (i+1) ff M3 _ q ∅
  | false =>
   rw[aq (by simp)]at q⊢;exact ue I hd hs he f (i+1) ff M2 _ q ∅
noncomputable def eA{α:Type}(o:cP α)(P:α->aj->Prop):Prop:=match o with
 | .ok a M=>P a M
 | _=>False
theorem bU{α:Type}{o:cP α}{P:α->aj->Prop}:aV o P=eA o P:=by
 cases o with
 | ok a M=>rw[bf];rfl
 | err _ _=>rw[jt];rfl
 | ae=>rw[aL];rfl
noncomputable def C4(x:W)(A B:Prop):Prop:=match x with
 | .d (.bl true)=>A
 | .d (.bl false)=>B
 | _=>False
noncomputable def bK(b:Bool)(A B:Prop):Prop:=match b with
 | true=>A
 | false=>B
theorem AK:bK b A B=if b=true then A else B:=by cases b<;>simp[bK]
noncomputable def Kl(o:Option Bool)(P:Bool->Prop):Prop:=match o with
 | some r=>P r
 | none=>False
noncomputable def Km(o:Option (Option D))(P:D->Prop):Prop:=match o with
 | some (some d)=>P d
 | _=>False
noncomputable def HF(o:Option En)(P:En->Prop):Prop:=match o with
 | some ρ=>P ρ
 | none=>False
noncomputable def Ux(w:W)(P:Int->Prop):Prop:=match w with
 | .d (.int i)=>P i
 | _=>False
def F6:D->Bool
 | .aP=>true
 | _=>false
theorem jc:SeqAt.shaped (.int i)=true:=by unfold SeqAt.shaped;rw[vc,vg];rfl
theorem Uy:bh .eq (.d (.int i)) (.d (.int j)) M=.ok (i==j) M:=by
 unfold bh;have h1:∀i,jD M (.d (.int i))=some (.int i):=λi=>by show eK M 30 (.int i)=_;unfold eK;rfl
 simp only[h1,jc,kE,e_,DU]
theorem Uz:bh .ne (.d (.int i)) (.d (.int j)) M=.ok (!(i==j)) M:=by
 unfold bh;have h1:∀i,jD M (.d (.int i))=some (.int i):=λi=>by show eK M 30 (.int i)=_;unfold eK;rfl
 simp only[h1,jc,kE,e_,DU]
def Pp(op:N_)(x y:W)(M:aj)(P:W->aj->Prop):Prop:=match op,x,y with
 | .add,.d (.int i),.d (.int j)=>P (.d (.int (i+j))) M
 | .sub,.d (.int i),.d (.int j)=>P (.d (.int (i-j))) M
 | .mul,.d (.int i),.d (.int j)=>((-(2 ^ 64)<i/\i<2 ^ 64)\/(-(2 ^ 64)<j/\j<2 ^ 64))/\P (.d (.int (i*j))) M
 | .fdiv,.d (.int i),.d (.int j)=>(0<j/\j<1073741824)/\P (.d (.int (i / j))) M
 | .mod,.d (.int i),.d (.int j)=>0<j/\P (.d (.int (i % j))) M
 | .add,.d (.tup xs),.d (.tup ys)=>xs.length+ys.length<=sizeLine/\P (.d (.tup (xs++ys))) M
 | .add,.lv xs,.lv ys=>xs.length+ys.length<=sizeLine/\P (.lv (xs++ys)) M
 | op,x,y=>eA (qQ op x y M) P
theorem pW{α:Type}{c:Prop}[Decidable c]{a:α}{M:aj}{P:α->aj->Prop}:eA (if c then .ok a M else .ae) P=(c/\P a M):=by
 by_cases h:c
 ·rw[ar h];exact propext ⟨λq=>⟨h,q⟩,λq=>q.2⟩
 ·rw[aq h];exact propext ⟨λq=>q.elim,λq=>absurd q.1 h⟩
theorem Ko:eA (qQ op x y M) P=Pp op x y M P:=by
 rcases x with⟨_|_ | i | _ | xs | _|_⟩ | xs
 all_goals (first | (cases op<;>rfl) | skip)
 ·rcases y with⟨_|_ | j | _|_|_|_⟩|_<;>cases op<;>first | rfl | exact pW
 ·rcases y with⟨_|_|_|_ | ys | _|_⟩|_<;>cases op<;>first | rfl | exact pW
 ·rcases y with⟨_|_|_|_|_|_|_⟩ | ys<;>cases op<;>first | rfl | exact pW
def yZ(op:Oa)(x y:W)(M:aj)(P:Bool->aj->Prop):Prop:=match op,x,y with
 | .eq,.d (.int i),.d (.int j)=>P (i==j) M
 | .ne,.d (.int i),.d (.int j)=>P (!(i==j)) M
 | .tM,.d d,_=>P (F6 d) M
 | .eL,.d d,_=>P (!F6 d) M
 | op,x,y=>eA (bh op x y M) P
theorem uf:eA (bh op x y M) P=yZ op x y M P:=by
 cases op
 case eq=>rcases x with⟨_|_ | i | _|_|_|_⟩|_<;>first | rfl | (rcases y with⟨_|_ | j | _|_|_|_⟩|_<;>first | (rw[Uy];rfl) | rfl)
 case ne=>rcases x with⟨_|_ | i | _|_|_|_⟩|_<;>first | rfl | (rcases y with⟨_|_ | j | _|_|_|_⟩|_<;>first | (rw[Uz];rfl) | rfl)
 case tM=>rcases x with⟨_|_|_|_|_|_|_⟩|_<;>rfl
 case eL=>rcases x with⟨_|_|_|_|_|_|_⟩|_<;>rfl
 all_goals (first | rfl | (rcases x with⟨_|_|_|_|_|_|_⟩|_<;>rfl))
def C5(k:SK)(ws:List W)(M:aj)(P:It->aj->Prop):Prop:=match k,ws with
 | .eR,[.d (.int j)]=>(-(2 ^ 62)<=j/\j<2 ^ 62)/\P (.lX 0 j.toNat) M
 | .qP,[.d (.int i),.d (.int j)]=>(-(2 ^ 62)<=i/\i<2 ^ 62/\-(2 ^ 62)<=j/\j<2 ^ 62)/\P (.lX i (j-i).toNat) M
 | k,ws=>eA (fc k ws M) P
theorem AM:eA (fc k ws M) P=C5 k ws M P:=by
 unfold C5;split<;>first | rfl | exact pW
def Kp(tp:Bool)(ws:List W)(M:aj)(P:W->aj->Prop):Prop:=match yK ws with
 | some (i,j)=>((-(2 ^ 62)<=i/\i<2 ^ 62/\-(2 ^ 62)<=j/\j<2 ^ 62)/\(j-i).toNat<=2 ^ 24)/\P (Fc tp (To i (j-i).toNat)) M
 | none=>False
theorem Kq:eA (JD tp ws M) P=Kp tp ws M P:=by
 unfold JD Kp
 cases yK ws with
 | none=>rfl
 | some ij=>exact pW
mutual
noncomputable def wE(G:dQ):C->En->aj->(W->aj->Prop)->Prop
  | .eX i,ρ,M,P=>Km ρ[i]? λd=>P (.d d) M
  | .bw d,_,M,P=>P (.d d) M
  | .bin op a b,ρ,M,P=>wE G a ρ M λx M=>wE G b ρ M λy M=>Pp op x y M P
  | .cmp op a b,ρ,M,P=>wE G a ρ M λx M=>wE G b ρ M λy M=>yZ op x y M λr M=>P (.d (.bl r)) M
  | .chain o1 o2 a b c, ρ, M, P => wE G a ρ M fun x M => wE G b ρ M fun y M => yZ o1 x y M fun r M =>
      bK r (wE G c ρ M λz M=>yZ o2 y z M λr M=>P (.d (.bl r)) M) (P (.d (.bl false)) M)
  | .dv cs,ρ,M,P=>C6 G cs ρ M P
  | .fZ cs,ρ,M,P=>Rq G cs ρ M P
  | .neg a,ρ,M,P=>wE G a ρ M λx M=>C4 x (P (.d (.bl false)) M) (P (.d (.bl true)) M)
  | .ite c a b,ρ,M,P=>wT G c ρ M λr M=>bK r (wE G a ρ M P) (wE G b ρ M P)
  | .tup cs,ρ,M,P=>F7 G cs ρ M λds M=>ds.length<=sizeLine/\P (.d (.tup ds)) M
  | .lst cs,ρ,M,P=>F7 G cs ρ M λds M=>ds.length<=sizeLine/\P (.lv ds) M
  | .sub a b,ρ,M,P=>wE G a ρ M λx M=>wE G b ρ M λy M=>eA (de x y M) P
  | .xV a lo hi,ρ,M,P=>wE G a ρ M λx M=>wO G lo ρ M λl M=>wO G hi ρ M λh M=>eA (pB x l h M) P
  | .Du a k,ρ,M,P=>wE G a ρ M λx M=>eA (mw x k M) P
  | .call f cs,ρ,M,P=>F7 G cs ρ M λds M=>aV (G f ds M) P
  | .bi b cs,ρ,M,P=>C7 G cs ρ M λws M=>eA (mZ b ws M) P
  | .me m o cs,ρ,M,P=>wE G o ρ M λx M=>(fE M x).isSome=true/\F7 G cs ρ M λds M=>eA (tN m x ds M) P
  | .v8 ks cs,ρ,M,P=>F7 G cs ρ M λds M=>ks.length=ds.length/\P (.d (.ai M.length)) (M++[.dK ((ks.map Sum.inr).zip ds)])
  | .lX tp cs,ρ,M,P=>C7 G cs ρ M λws M=>Kp tp ws M P
  | .JC _ v,_,M,P=>P (.d (.int v)) M
  | .pA,_,M,P=>P (.d (.ai M.length)) (M++[.dT []])
  | .kQ a b,ρ,M,P=>wE G a ρ M λx M=>wE G b ρ M λy M=>eA (m8 x y M) P
  | .ie ng a,ρ,M,P=>wE G a ρ M λx M=>eA (Ak ng x M) P
  | .sset a,ρ,M,P=>wE G a ρ M λx M=>eA (pG x M) P
  | .comp k d8 tg cond elt dE,ρ,M,P=>C7 G d8 ρ M λws M=>C5 k ws M λit M=>aV (bu (λτ M=>bV G cond τ M) (λτ M=>(ev G elt τ M).bind own) it tg (dw M it) 0 (fw dE ρ) M []) P
noncomputable def wT(G:dQ):fX->En->aj->(Bool->aj->Prop)->Prop
 | .dv ts,ρ,M,P=>Pq G ts ρ M P
 | .fZ ts,ρ,M,P=>Pr G ts ρ M P
 | .neg a,ρ,M,P=>wT G a ρ M λr M=>P (!r) M
 | .val c,ρ,M,P=>wE G c ρ M λw M=>Kl (qR M w) λr=>P r M
noncomputable def C6(G:dQ):List C->En->aj->(W->aj->Prop)->Prop
 | [],_,_,_=>False
 | c::cs,ρ,M,P=>match cs with
  | []=>wE G c ρ M P
  | _::_=>wE G c ρ M λx M=>C4 x (C6 G cs ρ M P) (P (.d (.bl false)) M)
noncomputable def Rq(G:dQ):List C->En->aj->(W->aj->Prop)->Prop
 | [],_,_,_=>False
 | c::cs,ρ,M,P=>match cs with
  | []=>wE G c ρ M P
  | _::_=>wE G c ρ M λx M=>C4 x (P (.d (.bl true)) M) (Rq G cs ρ M P)
noncomputable def Pq(G:dQ):List fX->En->aj->(Bool->aj->Prop)->Prop
 | [],_,_,_=>False
 | c::cs,ρ,M,P=>match cs with
  | []=>wT G c ρ M P
  | _::_=>wT G c ρ M λr M=>bK r (Pq G cs ρ M P) (P false M)
noncomputable def Pr(G:dQ):List fX->En->aj->(Bool->aj->Prop)->Prop
 | [],_,_,_=>False
 | c::cs,ρ,M,P=>match cs with
  | []=>wT G c ρ M P
  | _::_=>wT G c ρ M λr M=>bK r (P true M) (Pr G cs ρ M P)
noncomputable def F7(G:dQ):List C->En->aj->(List D->aj->Prop)->Prop
 | [],_,M,P=>P [] M
 | c::cs,ρ,M,P=>wE G c ρ M λw M=>eA (own w M) λd M=>F7 G cs ρ M λds M=>P (d::ds) M
noncomputable def C7(G:dQ):List C->En->aj->(List W->aj->Prop)->Prop
 | [],_,M,P=>P [] M
 | c::cs,ρ,M,P=>wE G c ρ M λw M=>C7 G cs ρ M λws M=>P (w::ws) M
noncomputable def wO(G:dQ):Option C->En->aj->(Option Int->aj->Prop)->Prop
 | none,_,M,P=>P none M
 | some c,ρ,M,P=>wE G c ρ M λw M=>Ux w λi=>P (some i) M
end
section
variable {G:dQ} {lo hi:Option C} {cond:Option fX}
theorem Pt:wE G (.eX i) ρ M P=Km ρ[i]? λd=>P (.d d) M:=rfl
theorem Pu:wE G (.bin op a b) ρ M P=wE G a ρ M λx M=>wE G b ρ M λy M=>Pp op x y M P:=rfl
theorem Pw:wE G (.cmp op a b) ρ M P=wE G a ρ M λx M=>wE G b ρ M λy M=>yZ op x y M λr M=>P (.d (.bl r)) M:=rfl
theorem F8 : wE G (.chain o1 o2 a b c) ρ M P = (wE G a ρ M fun x M => wE G b ρ M fun y M => yZ o1 x y M fun r M =>
      bK r (wE G c ρ M λz M=>yZ o2 y z M λr M=>P (.d (.bl r)) M) (P (.d (.bl false)) M)):=rfl
theorem Px:wE G (.neg a) ρ M P=wE G a ρ M λx M=>C4 x (P (.d (.bl false)) M) (P (.d (.bl true)) M):=rfl
theorem Py:wE G (.ite c a b) ρ M P=wT G c ρ M λr M=>bK r (wE G a ρ M P) (wE G b ρ M P):=rfl
theorem Pz:wE G (.sub a b) ρ M P=wE G a ρ M λx M=>wE G b ρ M λy M=>eA (de x y M) P:=rfl
theorem PB:wE G (.xV a lo hi) ρ M P=wE G a ρ M λx M=>wO G lo ρ M λl M=>wO G hi ρ M λh M=>eA (pB x l h M) P:=rfl
theorem PC:wE G (.Du a k) ρ M P=wE G a ρ M λx M=>eA (mw x k M) P:=rfl
theorem UA:wE G (.bi b cs) ρ M P=C7 G cs ρ M λws M=>eA (mZ b ws M) P:=rfl
theorem UB:wE G (.me m o cs) ρ M P=wE G o ρ M λx M=>(fE M x).isSome=true/\F7 G cs ρ M λds M=>eA (tN m x ds M) P:=rfl
theorem PD:wE G (.lX tp cs) ρ M P=C7 G cs ρ M λws M=>Kp tp ws M P:=rfl
theorem Kr:wE G (.kQ a b) ρ M P=wE G a ρ M λx M=>wE G b ρ M λy M=>eA (m8 x y M) P:=rfl
theorem Ks:wE G (.ie ng a) ρ M P=wE G a ρ M λx M=>eA (Ak ng x M) P:=rfl
theorem Kt:wE G (.sset a) ρ M P=wE G a ρ M λx M=>eA (pG x M) P:=rfl
theorem Ku:wE G (.comp k d8 tg cond elt dE) ρ M P=C7 G d8 ρ M λws M=>C5 k ws M λit M=>aV (bu (λτ M=>bV G cond τ M) (λτ M=>(ev G elt τ M).bind own) it tg (dw M it) 0 (fw dE ρ) M []) P:=rfl
theorem PF:wT G (.val c) ρ M P=wE G c ρ M λw M=>Kl (qR M w) λr=>P r M:=rfl
theorem F9:C6 G [] u0 u1 u2=False:=rfl
theorem rW : C6 G (c :: cs) ρ M P = (match cs with
    | []=>wE G c ρ M P
    | _::_=>wE G c ρ M λx M=>C4 x (C6 G cs ρ M P) (P (.d (.bl false)) M)):=rfl
theorem Kw:Rq G [] u0 u1 u2=False:=rfl
theorem xb : Rq G (c :: cs) ρ M P = (match cs with
    | []=>wE G c ρ M P
    | _::_=>wE G c ρ M λx M=>C4 x (P (.d (.bl true)) M) (Rq G cs ρ M P)):=rfl
theorem Kx:F7 G [] u0 M P=P [] M:=rfl
theorem F_:F7 G (c::cs) ρ M P=wE G c ρ M λw M=>eA (own w M) λd M=>F7 G cs ρ M λds M=>P (d::ds) M:=rfl
theorem Ky:C7 G [] u0 M P=P [] M:=rfl
theorem Ga:C7 G (c::cs) ρ M P=wE G c ρ M λw M=>C7 G cs ρ M λws M=>P (w::ws) M:=rfl
theorem Kz:wO G none u0 M P=P none M:=rfl
theorem KA:wO G (some c) ρ M P=wE G c ρ M λw M=>Ux w λi=>P (some i) M:=rfl
end
def la(G:dQ)(o:Option fX)(ρ:En)(M:aj)(P:Bool->aj->Prop):Prop:=match o with
 | none=>P true M
 | some t=>wT G t ρ M P
mutual
theorem iM:∀(c:C)(ρ:En)(M:aj)(P:W->aj->Prop),aV (ev G c ρ M) P=wE G c ρ M P
 | .eX i,ρ,M,P=>by
  simp only[Fe,Pt];rcases ρ[i]? with _|_ | d
  ·exact aL
  ·exact aL
  ·exact bf
 | .bw d,ρ,M,P=>by rw[Uh];rfl
 | .bin op a b,ρ,M,P=>by rw[Ui,iM a];simp only[iM b,bU,Pu,Ko]
 | .cmp op a b,ρ,M,P=>by rw[Uj,iM a];simp only[iM b,bU,Pw,uf]
 | .chain o1 o2 a b c,ρ,M,P=>by
  simp only[wF,aG,F8];rw[iM a]
  congr 1;funext x M
  rw[iM b]
  congr 1;funext y M
  rw[bU,uf]
  congr 1;funext r M
  cases r with
  | true=>simp only[aG,bf,e_,iM c];simp only[bU,uf];rfl
  | false=>simp[bf,bK]
 | .dv cs,ρ,M,P=>by rw[JE,w_and cs];rfl
 | .fZ cs,ρ,M,P=>by rw[JF,w_or cs];rfl
 | .neg a,ρ,M,P=>by
  simp only[Oe,aG,Px];rw[iM a]
  congr 1;funext x M
  rcases x with⟨_ | b | _|_|_|_|_⟩|_
  ·exact aL
  ·cases b<;>exact bf
  all_goals exact aL
 | .ite c a b,ρ,M,P=>by rw[Uk,L7 c];simp only[iM a,iM b,Py,AK]
 | .tup cs,ρ,M,P=>by rw[Ul,y3 cs];rfl
 | .lst cs,ρ,M,P=>by rw[Um,y3 cs];rfl
 | .sub a b,ρ,M,P=>by rw[k_sub,iM a];simp only[iM b,bU,Pz]
 | .xV a lo hi,ρ,M,P=>by rw[Uo,iM a];simp only[w_o lo,w_o hi,bU,PB]
 | .Du a k,ρ,M,P=>by rw[Up,iM a];simp only[bU,PC]
 | .call f cs,ρ,M,P=>by rw[Pc,y3 cs];rfl
 | .bi b cs,ρ,M,P=>by rw[Zk,Gb cs];simp only[bU,UA]
 | .me m o cs,ρ,M,P=>by rw[Zl,iM o];simp only[y3 cs,bU,UB]
 | .v8 ks cs,ρ,M,P=>by rw[Uq,y3 cs];rfl
 | .lX tp cs,ρ,M,P=>by simp only[Oi,aG,PD];rw[Gb cs];simp only[bU,Kq]
 | .JC x v,ρ,M,P=>by rw[Oj];exact bf
 | .pA,ρ,M,P=>by rw[JG];exact bf
 | .kQ a b,ρ,M,P=>by simp only[JH,aG,Kr];rw[iM a];simp only[iM b,bU]
 | .ie ng a,ρ,M,P=>by simp only[Am,aG,Ks];rw[iM a];simp only[bU]
 | .sset a,ρ,M,P=>by simp only[JI,aG,Kt];rw[iM a];simp only[bU]
 | .comp k d8 tg cond elt dE,ρ,M,P=>by rw[Pd,Gb d8];simp only[bU,Ku,AM]
theorem L7:∀(c:fX)(ρ:En)(M:aj)(P:Bool->aj->Prop),aV (eJ G c ρ M) P=wT G c ρ M P
 | .dv cs,ρ,M,P=>by rw[Pj,w_all cs];rfl
 | .fZ cs,ρ,M,P=>by rw[Pl,w_any cs];rfl
 | .neg a,ρ,M,P=>by rw[Us,L7 a];rfl
 | .val c,ρ,M,P=>by
  rw[Ur,iM c];simp only[PF]
  congr 1;funext w M
  cases qR M w with
  | none=>simp[Kl]
  | some r=>simp[Kl]
theorem w_and:∀(cs:List C)(ρ:En)(M:aj)(P:W->aj->Prop),aV (jO G cs ρ M) P=C6 G cs ρ M P
 | [],ρ,M,P=>by rw[mz];exact aL
 | [c],ρ,M,P=>by simp only[mz,j5,F9,rW,aG,bf,iM c]
 | c::b::cs,ρ,M,P=>by
  rw[j5,rW,aG,iM c]
  congr 1;funext x M
  rw[<- w_and (b::cs)];rcases x with⟨_ | b | _|_|_|_|_⟩|_
  ·exact aL
  ·cases b with
   | true=>rfl
   | false=>exact bf
  all_goals exact aL
theorem w_or:∀(cs:List C)(ρ:En)(M:aj)(P:W->aj->Prop),aV (qS G cs ρ M) P=Rq G cs ρ M P
 | [],ρ,M,P=>by rw[pH];exact aL
 | [c],ρ,M,P=>by simp only[pH,mC,Kw,xb,aG,bf,iM c]
 | c::b::cs,ρ,M,P=>by
  rw[mC,xb,aG,iM c]
  congr 1;funext x M
  rw[<- w_or (b::cs)];rcases x with⟨_ | b | _|_|_|_|_⟩|_
  ·exact aL
  ·cases b with
   | true=>exact bf
   | false=>rfl
  all_goals exact aL
theorem w_all:∀(cs:List fX)(ρ:En)(M:aj)(P:Bool->aj->Prop),aV (gn G cs ρ M) P=Pq G cs ρ M P
 | [],ρ,M,P=>by rw[mD];exact aL
 | [c],ρ,M,P=>by rw[Pe,L7 c];rfl
 | c::b::cs,ρ,M,P=>by rw[Pg,L7 c];simp only[w_all (b::cs),<- AK];rfl
theorem w_any:∀(cs:List fX)(ρ:En)(M:aj)(P:Bool->aj->Prop),aV (gp G cs ρ M) P=Pr G cs ρ M P
 | [],ρ,M,P=>by rw[mE];exact aL
 | [c],ρ,M,P=>by rw[Pf,L7 c];rfl
 | c::b::cs,ρ,M,P=>by rw[Ph,L7 c];simp only[w_any (b::cs),<- AK];rfl
theorem y3:∀(cs:List C)(ρ:En)(M:aj)(P:List D->aj->Prop),aV (bX G cs ρ M) P=F7 G cs ρ M P
 | [],ρ,M,P=>by rw[Zm];rfl
 | c::cs,ρ,M,P=>by rw[Zn,iM c];simp only[y3 cs,bU,Kx,F_]
theorem Gb:∀(cs:List C)(ρ:En)(M:aj)(P:List W->aj->Prop),aV (du G cs ρ M) P=C7 G cs ρ M P
 | [],ρ,M,P=>by rw[Zo];rfl
 | c::cs,ρ,M,P=>by rw[Zq,iM c];simp only[Gb cs,bU,Ky,Ga]
theorem w_o:∀(o:Option C)(ρ:En)(M:aj)(P:Option Int->aj->Prop),aV (uY G o ρ M) P=wO G o ρ M P
 | none,ρ,M,P=>by rw[Zj];rfl
 | some c,ρ,M,P=>by
  simp only[pI,pJ,aG,Kz,KA];rw[iM c]
  congr 1;funext x M
  rcases x with⟨_|_ | z | _|_|_|_⟩|_
  ·exact aL
  ·exact aL
  ·exact bf
  all_goals exact aL
end
theorem w_cond:aV (bV G o ρ M) P=la G o ρ M P:=by
 cases o with
 | none=>exact bf
 | some t=>exact L7 t ρ M P
theorem xf:aV ((ev G c ρ M).bind own) P=wE G c ρ M λw M=>eA (own w M) P:=by
 rw[aG,iM];simp only[bU]
mutual
noncomputable def wS(G:dQ):S->En->aj->(En->aj->Prop)->(W->aj->Prop)->(En->aj->Prop)->(En->aj->Prop)->Prop
 | .asg tg c,ρ,M,nx,_,_,_=>wE G c ρ M λw M=>eA (own w M) λd M=>HF (cb tg d ρ) λρ=>nx ρ M
 | .fg i c,ρ,M,nx,_,_,_=>wE G c ρ M λw M=>eA (own w M) λd M=>nx (ρ.set i (some d)) M
 | .put o i v,ρ,M,nx,_,_,_=>wE G v ρ M λw M=>eA (own w M) λd M=>wE G o ρ M λx M=>wE G i ρ M λy M=>eA (ig x y d M) λ_ M=>nx ρ M
 | .dput o i v,ρ,M,nx,_,_,_=>wE G v ρ M λw M=>eA (own w M) λd M=>wE G o ρ M λx M=>wE G i ρ M λy M=>eA (iE x y d M) λ_ M=>nx ρ M
 | .par i j a b,ρ,M,nx,_,_,_=>wE G a ρ M λw M=>eA (own w M) λx M=>wE G b ρ M λw M=>eA (own w M) λy M=>nx ((ρ.set i (some x)).set j (some y)) M
 | .expr c,ρ,M,nx,_,_,_=>wE G c ρ M λ_ M=>nx ρ M
 | .ret c,ρ,M,_,rt,_,_=>wE G c ρ M rt
 | .F2,_,M,_,rt,_,_=>rt (.d .aP) M
 | .iff t a b,ρ,M,nx,rt,bk,ct=>wT G t ρ M λr M=>bK r (eh G a ρ M nx rt bk ct) (eh G b ρ M nx rt bk ct)
 | .bD tg k d8 b,ρ,M,nx,rt,bk,ct=>C7 G d8 ρ M λws M=>C5 k ws M λit M=>gK (ee (λρ M=>dg G b ρ M) it tg (dw M it) 0 ρ M) nx rt bk ct
 | .O1 n t b,ρ,M,nx,rt,bk,ct=>gK (C1 (λρ M=>eJ G t ρ M) (λρ M=>dg G b ρ M) n ρ M) nx rt bk ct
 | .never,_,_,_,_,_,_=>False
 | .pass,ρ,M,nx,_,_,_=>nx ρ M
 | .brk,ρ,M,_,_,bk,_=>bk ρ M
 | .cont,ρ,M,_,_,_,ct=>ct ρ M
noncomputable def eh(G:dQ):List S->En->aj->(En->aj->Prop)->(W->aj->Prop)->(En->aj->Prop)->(En->aj->Prop)->Prop
 | [],ρ,M,nx,_,_,_=>nx ρ M
 | s::ss,ρ,M,nx,rt,bk,ct=>wS G s ρ M (λρ M=>eh G ss ρ M nx rt bk ct) rt bk ct
end
section
variable {G:dQ} {lo hi:Option C} {cond:Option fX} {nx bk ct:En->aj->Prop} {rt:W->aj->Prop}
theorem PH:wS G (.asg tg c) ρ M nx u0 u1 u2=wE G c ρ M λw M=>eA (own w M) λd M=>HF (cb tg d ρ) λρ=>nx ρ M:=rfl
theorem KC:wS G (.fg i c) ρ M nx u0 u1 u2=wE G c ρ M λw M=>eA (own w M) λd M=>nx (ρ.set i (some d)) M:=rfl
theorem PJ:wS G (.put o i v) ρ M nx u0 u1 u2=wE G v ρ M λw M=>eA (own w M) λd M=>wE G o ρ M λx M=>wE G i ρ M λy M=>eA (ig x y d M) λ_ M=>nx ρ M:=rfl
theorem KD:wS G (.dput o i v) ρ M nx u0 u1 u2=wE G v ρ M λw M=>eA (own w M) λd M=>wE G o ρ M λx M=>wE G i ρ M λy M=>eA (iE x y d M) λ_ M=>nx ρ M:=rfl
theorem PK:wS G (.par i j a b) ρ M nx u0 u1 u2=wE G a ρ M λw M=>eA (own w M) λx M=>wE G b ρ M λw M=>eA (own w M) λy M=>nx ((ρ.set i (some x)).set j (some y)) M:=rfl
theorem PL:wS G (.iff t a b) ρ M nx rt bk ct=wT G t ρ M λr M=>bK r (eh G a ρ M nx rt bk ct) (eh G b ρ M nx rt bk ct):=rfl
theorem KG:wS G (.bD tg k d8 b) ρ M nx rt bk ct=C7 G d8 ρ M λws M=>C5 k ws M λit M=>gK (ee (λρ M=>dg G b ρ M) it tg (dw M it) 0 ρ M) nx rt bk ct:=rfl
theorem PM:wS G (.O1 n t b) ρ M nx rt bk ct=gK (C1 (λρ M=>eJ G t ρ M) (λρ M=>dg G b ρ M) n ρ M) nx rt bk ct:=rfl
end
mutual
theorem w_s:∀(s:S)(ρ:En)(M:aj)(nx:En->aj->Prop)(rt:W->aj->Prop)(bk ct:En->aj->Prop),gK (km G s ρ M) nx rt bk ct=wS G s ρ M nx rt bk ct
 | .asg tg c,ρ,M,nx,rt,bk,ct=>by
  simp only[AG,fI,PH];rw[xf]
  congr 1;funext w M
  congr 1;funext d M
  cases cb tg d ρ with
  | none=>exact ef
  | some ρ=>exact eV
 | .fg i c,ρ,M,nx,rt,bk,ct=>by rw[Pm,iM c];simp only[bU,KC]
 | .put o i v,ρ,M,nx,rt,bk,ct=>by rw[Ut,iM v];simp only[iM o,iM i,bU,PJ]
 | .dput o i v,ρ,M,nx,rt,bk,ct=>by
  simp only[w4,fI,KD];rw[xf];simp only[iM o,iM i,bU,eV]
 | .par i j a b,ρ,M,nx,rt,bk,ct=>by
  simp only[Kb,fI];rw[y3];show wE G a ρ M (λw M=>eA (own w M) λx M=>wE G b ρ M λw M=>eA (own w M) λy M=>gK (.nx ((ρ.set i (some x)).set j (some y)) M) nx rt bk ct)=_;simp only[eV,PK]
 | .expr c,ρ,M,nx,rt,bk,ct=>by rw[Pn,iM c];rfl
 | .ret c,ρ,M,nx,rt,bk,ct=>by rw[Uu,iM c];rfl
 | .F2,ρ,M,nx,rt,bk,ct=>kg
 | .iff t a b,ρ,M,nx,rt,bk,ct=>by rw[Zr,L7 t];simp only[xg a,xg b,PL,AK]
 | .bD tg k d8 b,ρ,M,nx,rt,bk,ct=>by rw[Uv,Gb d8];simp only[bU,KG,AM]
 | .O1 n t b,ρ,M,nx,rt,bk,ct=>by simp only[Kc,PM]
 | .never,ρ,M,nx,rt,bk,ct=>ef
 | .pass,ρ,M,nx,rt,bk,ct=>eV
 | .brk,ρ,M,nx,rt,bk,ct=>pU
 | .cont,ρ,M,nx,rt,bk,ct=>pV
theorem xg:∀(ss:List S)(ρ:En)(M:aj)(nx:En->aj->Prop)(rt:W->aj->Prop)(bk ct:En->aj->Prop),gK (dg G ss ρ M) nx rt bk ct=eh G ss ρ M nx rt bk ct
 | [],ρ,M,nx,rt,bk,ct=>Uw
 | s::ss,ρ,M,nx,rt,bk,ct=>by rw[Po,w_s s];simp only[xg ss];rfl
end
theorem bJ:aV (ao G n b ds M) P=eh G b (iq n ds) M (λ_ M=>P (.d .aP) M) P (λ_ _=>False) (λ_ _=>False):=by
 rw[Kk,xg]
abbrev Fn:=List D->aj->cP W
noncomputable def Fr(w:Nat)(M M':aj):Prop:=M.length<=M'.length/\∀n,n<M.length->n≠w->M'[n]?=M[n]?
abbrev Ex(M M':aj):Prop:=Fr M.length M M'
theorem aB{M:aj}{n:Nat}{o:MO}(h:M[n]?=some o):n<M.length:=(bz.mp h).1
theorem aF{M X:aj}{n:Nat}{o:MO}(h:M[n]?=some o):(M++X)[n]?=some o:=by rw[kr (aB h)];exact h
theorem aw:(M++[o])[M.length]?=some o:=by simp
theorem aD{M:aj}{n m:Nat}{o u:MO}(h:M[n]?=some o)(hn:n≠m):(M.set m u)[n]?=some o:=by rw[qF (cW hn)];exact h
theorem aK{M:aj}{n:Nat}{o u:MO}(h:M[n]?=some o):(M.set n u)[n]?=some u:=qE (aB h)
theorem Fr.refl(w:Nat)(M:aj):Fr w M M:=⟨aH _,λ_ _ _=>rfl⟩
theorem Fr.trans{w:Nat}{M M1 M2:aj}(a:Fr w M M1)(b:Fr w M1 M2):Fr w M M2:=⟨dW a.1 b.1,λn h k=>(b.2 n (gO h a.1) k).trans (a.2 n h k)⟩
theorem Fr.app{w:Nat}{M M1 X:aj}(a:Fr w M M1):Fr w M (M1++X):=⟨by have:=a.1;simp only[cI];omega,λn h k=>by rw[kr (gO h a.1)];exact a.2 n h k⟩
theorem Fr.set{w n:Nat}{M M1:aj}{o:MO}(a:Fr w M M1)(h:M.length<=n):Fr w M (M1.set n o):=⟨by rw[kB];exact a.1,λm hm k=>by rw[qF ∅];exact a.2 m hm k⟩
theorem Fr.PN{w:Nat}{M M1:aj}{o:MO}(a:Fr w M M1):Fr w M (M1.set w o):=⟨by rw[kB];exact a.1,λm hm k=>by rw[qF (cW k)];exact a.2 m hm k⟩
theorem Fr.get{w n:Nat}{M M1:aj}{o:MO}(a:Fr w M M1)(h:M[n]?=some o)(k:n≠w):M1[n]?=some o:=(a.2 n (aB h) k).trans h
theorem Fr.back{w v:Nat}{M M1 M2:aj}(a:Fr w M M1)(b:Fr v M1 M2)(h:M.length<=v\/v=w):Fr w M M2:=⟨dW a.1 b.1,λn hn k=>(b.2 n (gO hn a.1) ∅).trans (a.2 n hn k)⟩
theorem Ex.refl(M:aj):Ex M M:=Fr.refl _ M
theorem Ex.get{n:Nat}{M M1:aj}{o:MO}(a:Ex M M1)(h:M[n]?=some o):M1[n]?=some o:=Fr.get a h (b_ (aB h))
theorem Ex.trans{M M1 M2:aj}(a:Ex M M1)(b:Ex M1 M2):Ex M M2:=Fr.back a b (.inl a.1)
section
variable {M:aj} {n:Nat} {ds:List D} {i:Int} {x:D}
theorem AN(hi:0<=i)(h:ds[i.toNat]?=some x):We ds i=some x:=by
 have hl:=(bz.mp h).1;unfold We zW EC;rw[ar hi,ar ∅];exact h
theorem bY(hM:M[n]?=some (.lst ds))(hi:0<=i)(h:ds[i.toNat]?=some x):de (.d (.ai n)) (.d (.int i)) M=.ok (.d x) M:=by
 unfold de bQ;simp only[hM,AN hi h]
theorem ug(hi:0<=i)(h:ds[i.toNat]?=some x):de (.lv ds) (.d (.int i)) M=.ok (.d x) M:=by
 unfold de bQ;simp only[AN hi h]
theorem og(hi:0<=i)(h:ds[i.toNat]?=some x):de (.d (.tup ds)) (.d (.int i)) M=.ok (.d x) M:=by
 unfold de bQ;simp only[AN hi h]
theorem jd{m:Nat}(h:ds[m]?=some x):de (.d (.tup ds)) (.d (.int m)) M=.ok (.d x) M:=og (Int.natCast_nonneg m) (by rw[gP];exact h)
theorem bo{m:Nat}(hM:M[n]?=some (.lst ds))(h:ds[m]?=some x):de (.d (.ai n)) (.d (.int m)) M=.ok (.d x) M:=bY hM (Int.natCast_nonneg m) (by rw[gP];exact h)
theorem PQ(hi:0<=i)(h:ds[i.toNat]?=some x):de (.d (.ls ds)) (.d (.int i)) M=.ok (.d x) M:=by
 unfold de bQ;simp only[AN hi h]
theorem cf(hM:M[n]?=some (.lst ds))(hl:ds.length<sizeLine):tN .append (.d (.ai n)) [x] M=.ok (.d .aP) (M.set n (.lst (ds++[x]))):=by
 unfold tN;simp only[hM,ar hl]
theorem xh(hM:M[n]?=some (.lst ds))(hl:ds.length<sizeLine)(h0:0<=i)(h1:i<=ds.length):tN .insert (.d (.ai n)) [.int i,x] M=.ok (.d .aP) (M.set n (.lst (ds.take i.toNat++x::ds.drop i.toNat))):=by
 unfold tN;simp only[hM];rw[ar ⟨hl,h0,h1⟩]
theorem bL(hM:M[n]?=some (.lst ds)):(fE M (.d (.ai n))).isSome=true:=by unfold fE;simp only[hM];rfl
theorem dq(hM:M[n]?=some (.lst ds)):mZ .len [.d (.ai n)] M=.ok (.d (.int ds.length)) M:=by unfold mZ bQ;simp only[hM]
theorem bZ(hM:M[n]?=some (.lst ds)):mZ .tuple1 [.d (.ai n)] M=.ok (.d (.tup ds)) M:=by unfold mZ bQ;simp only[hM]
theorem xi(hM:M[n]?=some (.lst ds)):mZ .list1 [.d (.ai n)] M=.ok (.lv ds) M:=by unfold mZ bQ;simp only[hM]
theorem dy(hM:M[n]?=some (.lst ds)):fc .seq [.d (.ai n)] M=.ok (.at n) M:=by
 unfold fc bQ;simp only[hM];rfl
theorem qU(hM:M[n]?=some (.lst ds)):dw M (.at n)=ds.length:=by unfold dw;simp only[hM]
theorem jv(hM:M[n]?=some (.lst ds))(hm:m<ds.length):ig (.d (.ai n)) (.d (.int m)) x M=.ok () (M.set n (.lst (ds.set m x))):=by
 unfold ig;simp only[hM]
 have:EC ds.length (m:Int)=some m:=by
  unfold EC;rw[ar ∅,ar ∅];simp
 simp only[this]
theorem pX(hM:M[n]?=some (.lst ds))(hi:0<=i)(hm:i.toNat<ds.length):ig (.d (.ai n)) (.d (.int i)) x M=.ok () (M.set n (.lst (ds.set i.toNat x))):=by
 have:=jv (x:=x) hM hm;rw[show((i.toNat:Nat):Int)=i by omega]at this;exact this
end
theorem dz(h:n<=1000):n<=sizeLine:=dW h (by decide)
theorem aT(h:n<=1000):n<sizeLine:=MS h (by decide)
theorem bq{α:Type}{l:List α}{k:Nat}{x:α}(h:l[k]?=some x):l.take (k+1)=l.take k++[x]:=by
 rw[MU,h];rfl
theorem uh{x:Str}(h:PyData.strOk x=true):SeqAt.shaped (.str x)=true:=by
 unfold SeqAt.shaped;rw[BD,h,BL];rfl
theorem AO{x y:Str}:PyData.eqv (.str x) (.str y)=(x==y):=PyData.eqv.eq_6 x y
theorem Gd{x:Str}:jD M (.d (.str x))=some (.str x):=by show eK M 30 (.str x)=_;unfold eK;rfl
theorem bW{x y:Str}(hx:PyData.strOk x=true)(hy:PyData.strOk y=true):bh .eq (.d (.str x)) (.d (.str y)) M=.ok (x==y) M:=by
 unfold bh;simp only[Gd,uh hx,uh hy,kE,e_,AO]
theorem Ge{x y:Str}(hx:PyData.strOk x=true)(hy:PyData.strOk y=true):bh .ne (.d (.str x)) (.d (.str y)) M=.ok (!(x==y)) M:=by
 unfold bh;simp only[Gd,uh hx,uh hy,kE,e_,AO]
section
variable {G:dQ} {b:List S} {tg:List Nat} {ρ:En} {M:aj} {nx:En->aj->Prop} {rt:W->aj->Prop} {bk ct:En->aj->Prop}
theorem gB{lo:Int}{n:Nat}(I:Nat->En->aj->Prop)(h0:I 0 ρ M)(hs:∀i ρ M,i<n->I i ρ M->HF (cb tg (.int (lo+i)) ρ) λρ=>eh G b ρ M (I (i+1)) rt nx (I (i+1)))(he:∀ρ M,I n ρ M->nx ρ M):gK (ee (λρ M=>dg G b ρ M) (.lX lo n) tg n 0 ρ M) nx rt bk ct:=by
 have aZ:((List.range n).map λi=>D.int (lo+(i:Nat))).length=n:=by simp
 refine mK (ds:=(List.range n).map λi=>D.int (lo+(i:Nat))) I (λi ρ M _ hi=>?_) (λi ρ M d h e=>?_) (λρ M h=>he ρ M (by rw[aZ]at h;exact h)) n 0 ρ M h0 (by rw[aZ];omega)
 ·rw[aZ]at hi;show some (if i<n then some (D.int (lo+i)) else none)=_;by_cases q:i<n
  ·rw[ar q];simp[q]
  ·rw[aq q,gM (by rw[aZ];omega)]
 ·have hi:i<n:=by have:=(bz.mp e).1;rw[aZ]at this;exact this
  have:d=.int (lo+i):=by rw[bc,jT hi]at e;exact(bS e).symm
  subst this;have q:=hs i ρ M hi h
  cases e2:cb tg (.int (lo+i)) ρ with
  | none=>rw[e2]at q;exact q.elim
  | some ff=>rw[e2]at q;exact⟨ff,rfl,by rw[xg];exact q⟩
theorem gC(I:Nat->En->aj->Prop)(h0:I 0 ρ M)(hs:∀i ρ M d,ds[i]?=some d->I i ρ M->HF (cb tg d ρ) λρ=>eh G b ρ M (I (i+1)) rt nx (I (i+1)))(he:∀ρ M,I ds.length ρ M->nx ρ M):gK (ee (λρ M=>dg G b ρ M) (.items ds) tg ds.length 0 ρ M) nx rt bk ct :=
 mK (ds:=ds) I (λi ρ M _ _=>rfl) (λi ρ M d h e=>by
  have q:=hs i ρ M d e h
  cases e2:cb tg d ρ with
  | none=>rw[e2]at q;exact q.elim
  | some ff=>rw[e2]at q;exact⟨ff,rfl,by rw[xg];exact q⟩) he ds.length 0 ρ M h0 ∅
theorem xj(I:Nat->En->aj->Prop)(hM:∀i ρ M,I i ρ M->M[n]?=some (.lst ds))(h0:I 0 ρ M)(hs:∀i ρ M d,ds[i]?=some d->I i ρ M->HF (cb tg d ρ) λρ=>eh G b ρ M (I (i+1)) rt nx (I (i+1)))(he:∀ρ M,I ds.length ρ M->nx ρ M):gK (ee (λρ M=>dg G b ρ M) (.at n) tg (dw M (.at n)) 0 ρ M) nx rt bk ct:=by
 rw[qU (hM 0 ρ M h0)]
 exact mK (ds:=ds) I (λi ρ M h _=>by unfold itemAt;simp only[hM i ρ M h]) (λi ρ M d h e=>by
  have q:=hs i ρ M d e h
  cases e2:cb tg d ρ with
  | none=>rw[e2]at q;exact q.elim
  | some ff=>rw[e2]at q;exact⟨ff,rfl,by rw[xg];exact q⟩) he ds.length 0 ρ M h0 ∅
end
theorem pY:∀(tg:List Nat)(ds:List D)(ρ:En)(i:Nat)(o:Option D),i∉tg->eE tg ds (ρ.set i o)=(eE tg ds ρ).map (·.set i o)
 | [],[],_,_,_,_=>rfl
 | [],_::_,_,_,_,_=>rfl
 | _::_,[],_,_,_,_=>rfl
 | j::tg,d::ds,ρ,i,o,h=>by
  have h1:i≠j:=λz=>h (by rw[z];exact dH);show eE tg ds ((ρ.set i o).set j (some d))=_;rw[List.set_comm _ _ h1,pY tg ds _ i o λz=>h (da _ z)];rfl
theorem ir:∀(tg:List Nat)(ds es:List D)(ρ ff:En),tg.Nodup->eE tg ds ρ=some ff->eE tg es ff=eE tg es ρ
 | [],[],[],_,_,_,e=>by cases e;rfl
 | [],[],_::_,_,_,_,e=>by cases e;rfl
 | [],_::_,_,_,_,_,e=>by cases e
 | _::_,[],_,_,_,_,e=>by cases e
 | j::tg,d::ds,[],ρ,ff,n,e=>rfl
 | j::tg,d::ds,f::es,ρ,ff,n,e=>by
  have n1:=sG.mp n;have e:eE tg ds (ρ.set j (some d))=some ff:=e;show eE tg es (ff.set j (some f))=eE tg es (ρ.set j (some f));have e2:=pY tg ds (ρ.set j (some d)) j (some f) n1.1;rw[e,List.set_set]at e2;exact ir tg ds es _ _ n1.2 e2
theorem xk(n:tg.Nodup)(h:cb tg d ρ=some ff):cb tg e ff=cb tg e ρ:=by
 match tg,n,h with
 | [i],_,h =>
  have h:some (ρ.set i (some d))=some ff:=h;cases h;show some ((ρ.set i (some d)).set i (some e))=some (ρ.set i (some e));rw[List.set_set]
 | [],_,h =>
  cases d<;>first | cases h | skip
  cases e<;>first | rfl | skip
  exact ir [] _ _ _ _ DV h
 | i::j::tg,n,h =>
  cases d<;>first | cases h | skip
  cases e<;>first | rfl | skip
  exact ir (i::j::tg) _ _ _ _ n h
section
variable {G:dQ} {cond:Option fX} {elt:C} {tg:List Nat} {ρ:En} {M:aj} {P:W->aj->Prop}
theorem je{ds:List D}(I:Nat->aj->List D->Prop)(n:tg.Nodup)(hit:∀i M acc,I i M acc->i<=ds.length->itemAt M i it=some ds[i]?)(h0:I 0 M [])(hs:∀i M acc d,ds[i]?=some d->I i M acc->acc.length<sizeLine/\HF (cb tg d ρ) λτ=>la G cond τ M λr M=>if r=true then wE G elt τ M λw M=>eA (own w M) λx M=>I (i+1) M (acc++[x]) else I (i+1) M acc)(he:∀M acc,I ds.length M acc->P (.lv acc) M){k:Nat}(hk:k=ds.length):aV (bu (λτ M=>bV G cond τ M) (λτ M=>(ev G elt τ M).bind own) it tg k 0 ρ M []) P:=by
 subst hk;refine ue (ds:=ds) (λi τ M acc=>I i M acc/\(τ=ρ\/∃d,cb tg d ρ=some τ)) (λi τ M acc h hi=>hit i M acc h.1 hi) (λi τ M acc d h e=>?_) (λτ M acc h=>he M acc h.1) ds.length 0 ρ M [] ⟨h0,.inl rfl⟩ ∅;obtain⟨q1,q2⟩:=hs i M acc d e h.1
 have hb:cb tg d τ=cb tg d ρ:=by
  rcases h.2 with z | ⟨d',z⟩
  ·rw[z]
  ·exact xk n z
 refine⟨q1,?_⟩
 cases e2:cb tg d ρ with
 | none=>rw[e2]at q2;exact q2.elim
 | some L8 =>
  rw[e2]at q2;refine⟨L8,by rw[hb,e2],?_⟩;have q2:la G cond L8 M (λr M=>if r=true then wE G elt L8 M λw M=>eA (own w M) λx M=>I (i+1) M (acc++[x]) else I (i+1) M acc):=q2;rw[<- w_cond]at q2;refine q2.imp λr M1 q3=>?_
  cases r with
  | true =>
   rw[ar rfl]at q3⊢;rw[xf];rw[<- xf]at q3⊢;exact q3.imp λx M2 q4=>⟨q4,.inr ⟨d,e2⟩⟩
  | false =>
   rw[aq (by simp)]at q3⊢;exact⟨q3,.inr ⟨d,e2⟩⟩
theorem lg{it:It}{ds:List D}(f:D->Option D)(n:tg.Nodup)(hit:∀M',Ex M M'->∀i,i<=ds.length->itemAt M' i it=some ds[i]?)(hl:ds.length<=sizeLine)(hs:∀(i:Nat) M' d,ds[i]?=some d->Ex M M'->HF (cb tg d ρ) λτ=>la G cond τ M' λr M1=>if r=true then wE G elt τ M1 λw M1=>eA (own w M1) λx M1=>f d=some x/\Ex M M1 else f d=none/\Ex M M1)(he:∀M',Ex M M'->P (.lv (ds.filterMap f)) M'){k:Nat}(hk:k=ds.length):aV (bu (λτ M=>bV G cond τ M) (λτ M=>(ev G elt τ M).bind own) it tg k 0 ρ M []) P:=by
 refine je (ds:=ds) (λi M' acc=>Ex M M'/\acc=(ds.take i).filterMap f) n (λi M' acc h hi=>hit M' h.1 i hi) ⟨Ex.refl M,rfl⟩ ?_ (λM' acc h=>?_) hk
 ·rintro i M' acc d hd ⟨h1,rfl⟩;have hi:=(bz.mp hd).1;refine⟨?_,?_⟩
  ·have:=List.length_filterMap_le f (ds.take i);rw[hG]at this;omega
  ·have q:=hs i M' d hd h1
   have e:∀o,f d=o->(ds.take (i+1)).filterMap f=(ds.take i).filterMap f++o.toList:=λo ho=>by
    rw[bq hd,ML];cases o<;>simp[lQ,ho]
   cases e2:cb tg d ρ with
   | none=>rw[e2]at q;exact q.elim
   | some L8 =>
    rw[e2]at q;have q:la G cond L8 M' (λr M1=>if r=true then wE G elt L8 M1 λw M1=>eA (own w M1) λx M1=>f d=some x/\Ex M M1 else f d=none/\Ex M M1):=q;show la G cond L8 M' (λr M1=>if r=true then wE G elt L8 M1 λw M1=>eA (own w M1) λx M1=>Ex M M1/\(ds.take i).filterMap f++[x]=(ds.take (i+1)).filterMap f else Ex M M1/\(ds.take i).filterMap f=(ds.take (i+1)).filterMap f);rw[<- w_cond]at q⊢;refine q.imp λr M1 q3=>?_
    cases r with
    | true =>
     rw[ar rfl]at q3⊢;rw[<- xf]at q3⊢;exact q3.imp λx M2 q4=>⟨q4.2,by rw[e _ q4.1];rfl⟩
    | false =>
     rw[aq (by simp)]at q3⊢;exact⟨q3.2,by rw[e _ q3.1];simp⟩
 ·obtain⟨h1,rfl⟩:=h;rw[gD];exact he M' h1
theorem lh:∀M',Ex M M'->∀i,i<=ds.length->itemAt M' i (.items ds)=some ds[i]?:=λ_ _ _ _=>rfl
theorem pZ{M:aj}{n:Nat}{ds:List D}(h:M[n]?=some (.lst ds)):∀M',Ex M M'->∀i,i<=ds.length->itemAt M' i (.at n)=some ds[i]?:=λM' e i _=>by unfold itemAt;simp only[Ex.get e h]
theorem PR{lo:Int}{n:Nat}:∀M',Ex M M'->∀i,i<=((List.range n).map λi=>D.int (lo+(i:Nat))).length->itemAt M' i (.lX lo n)=some ((List.range n).map λi=>D.int (lo+(i:Nat)))[i]?:=λM' e i hi=>by
 have aZ:((List.range n).map λi=>D.int (lo+(i:Nat))).length=n:=by simp
 rw[aZ]at hi;show some (if i<n then some (D.int (lo+i)) else none)=_;by_cases q:i<n
 ·rw[ar q];simp[q]
 ·rw[aq q,gM (by rw[aZ];omega)]
theorem UC{lo:Int}{n:Nat}(I:Nat->aj->List D->Prop)(nd:tg.Nodup)(h0:I 0 M [])(hs:∀i M acc,i<n->I i M acc->acc.length<sizeLine/\HF (cb tg (.int (lo+i)) ρ) λτ=>la G cond τ M λr M=>if r=true then wE G elt τ M λw M=>eA (own w M) λx M=>I (i+1) M (acc++[x]) else I (i+1) M acc)(he:∀M acc,I n M acc->P (.lv acc) M):aV (bu (λτ M=>bV G cond τ M) (λτ M=>(ev G elt τ M).bind own) (.lX lo n) tg (dw M (.lX lo n)) 0 ρ M []) P:=by
 have aZ:((List.range n).map λi=>D.int (lo+(i:Nat))).length=n:=by simp
 refine je (ds:=(List.range n).map λi=>D.int (lo+(i:Nat))) I nd (λi M' acc _ hi=>PR M' (Ex.refl M') i hi) h0 (λi M' acc d e h=>?_) (λM' acc h=>he M' acc (by rw[aZ]at h;exact h)) (by rw[aZ];rfl);have hi:i<n:=by have:=(bz.mp e).1;rw[aZ]at this;exact this
 have:d=.int (lo+i):=by rw[bc,jT hi]at e;exact(bS e).symm
 subst this;exact hs i M' acc hi h
end
end Ev
end
local macro_rules
  | `(tactic| nofun) => `(tactic| conv => whnf)
section
namespace Ev
open L2
open PySem PySem.Spec PyProof.Rows
def ui:List S:=[.bD [4] .seq [(.sub (.sub (.ks 0 0) 1) (.kn 1))] [.iff (.dv [(.val (.cmp .eq (.ks 4 0) 2)),(.val (.cmp .eq (.ks 4 1) 3))]) [.ret (.tup [(.ks 4 2),(.ks 4 3),(.ks 4 4)])] []],.iff (.val (.cmp .eq 3 (.bw (.str "own")))) [.ret (.bw .aP)] [],.ret (.tup [2,(.tup []),(.bw .aP)])]
noncomputable def Gf:List S:=[.asg [2] (.bin .mul (.kn 31) 1),.iff (.val (.cmp .gt (.bi .len [0]) (.kn 0))) [.asg [2] (.bin .add (.sub 0 (.bin .mod 1 (.bi .len [0]))) (.bin .mul (.kn 7919) (.bin .fdiv 1 (.bi .len [0]))))] [],.ret (.v8 ["cell","left","turn"] [2,(.bin .mul (.bi .max2 [(.kn 0),2]) (.bi .wB [(.cmp .ge 2 (.bin .pow (.kn 10) (.kn 18)))])),(.kn 0)])]
noncomputable def AQ:List S:=[.asg [2] (.sub 0 (.bw (.str "turn"))),.put 0 (.bw (.str "turn")) (.bin .add 2 (.kn 1)),.asg [3] (.sub 0 (.bw (.str "left"))),.iff (.val (.cmp .gt 3 (.kn 0))) [.put 0 (.bw (.str "left")) (.bin .fdiv 3 1),.ret (.bin .mod 3 1)] [],.asg [4] (.bin .add (.bin .add (.bin .mod (.sub 0 (.bw (.str "cell"))) (.kn 2147483647)) (.bin .mul (.bin .mul (.kn 31) 2) 2)) (.kn 1)),.asg [5] (.bin .mod (.bin .mul 4 (.bin .add (.kn 48271) (.bin .mul (.kn 40) 2))) (.kn 2147483629)),.ret (.bin .mod (.bin .fdiv (.bin .mod (.bin .add (.bin .mul (.bin .fdiv 5 (.kn 11)) (.kn 69621)) 2) (.kn 998244353)) (.kn 7)) 1)]
noncomputable def y4(aC:Nat):List S:=[.asg [2] (.lst []),.iff (.val (.cmp .gt 1 (.kn 1))) [.asg [3] (.lst [(.call aC [0,(.kn 4)]),(.bin .add (.kn 1) (.call aC [0,(.kn 5)])),(.kn 8)]),.bD [4] .eR [(.sub 3 (.bin .fdiv (.call aC [0,(.kn 9)]) (.kn 4)))] [.asg [5] (.call aC [0,1]),.asg [6] (.bin .mod (.bin .add (.bin .add 5 (.kn 1)) (.call aC [0,(.bin .sub 1 (.kn 1))])) 1),.expr (.me .append 2 [(.tup [5,6,(.sub (.lst [(.bw (.str "row")),(.bw (.str "heap"))]) (.call aC [0,(.kn 2)]))])])]] [],.ret (.bi .tuple1 [2])]
noncomputable def uj(aC:Nat):List S:=[.asg [1] (.lst [(.call aC [0,(.kn 100)])]),.asg [2] (.lst [(.call aC [0,(.kn 3)]),(.kn 6)]),.bD [3] .eR [(.sub 2 (.bin .fdiv (.call aC [0,(.kn 16)]) (.kn 15)))] [.asg [4] (.sub (.lst [(.call aC [0,(.kn 100)]),3]) (.call aC [0,(.kn 2)])),.iff (.val (.cmp .gk 4 1)) [.expr (.me .append 1 [4])] []],.ret 1]
noncomputable def y6(aC:Nat):List S:=[.asg [2] (.lst []),.bD [3] .eR [(.bin .mul (.sub (.lst [(.kn 0),(.kn 0),(.kn 1),(.kn 1),(.kn 1),(.kn 2),(.kn 3)]) (.call aC [0,(.kn 7)])) (.bi .wB [(.cmp .gt (.bi .len [1]) (.kn 0))]))] [.asg [4] (.sub 1 (.call aC [0,(.bi .len [1])])),.expr (.me .append 2 [(.tup [4,(.sub (.bw (.str "abcz")) (.call aC [0,(.kn 4)]))])])],.ret (.bi .tuple1 [2])]
def y8(aC:Nat)(um:Nat):List S:=[.asg [3] (.lst [(.bw .aP),(.bw .aP),(.bw .aP),(.bw (.str "x")),(.bw (.str "yes")),(.bw (.str "abcdefgh")),(.bw (.str "own")),(.bw (.str "a"))]),.asg [4] (.lst []),.bD [5] .seq [1] [.bD [6] .seq [(.tup [(.bw (.str "own")),(.bw (.str "a")),(.bw (.str "b")),(.bw (.str "z"))])] [.iff (.val (.cmp .gt (.call aC [0,(.kn 4)]) (.kn 0))) [.asg [7] (.sub 1 (.call aC [0,(.bi .len [1])])),.asg [8] (.call um [0,2]),.asg [9] (.sub 3 (.call aC [0,(.kn 8)])),.asg [10] (.call aC [0,(.bin .add (.bi .len [4]) (.kn 1))]),.expr (.me .insert 4 [10,(.tup [5,6,7,8,9])])] []]],.ret (.bi .tuple1 [4])]
noncomputable def AR(cT:Nat)(aC:Nat)(kh:Nat)(d6:Nat)(fm:Nat):List S:=[.asg [1] (.call cT [0,(.kn 0)]),.asg [2] (.sub (.lst [(.kn 2),(.kn 1),(.kn 3),(.kn 2),(.kn 4),(.kn 3)]) (.call aC [1,(.kn 6)])),.asg [3] (.call kh [1,2]),.asg [4] (.lst []),.bD [5] .eR [2] [.asg [1] (.call cT [0,(.bin .add (.kn 1) 5)]),.asg [6] (.call d6 [1]),.fg 7 (.comp .eR [(.bi .len [3])] [1] (some (.val (.cmp .eq (.sub (.sub 3 1) (.kn 0)) 2))) 1 [none,none,some 5,some 3]),.asg [8] (.sub 6 (.call aC [1,(.bi .len [6])])),.expr (.me .append 4 [(.tup [8,(.call fm [1,6,7])])])],.ret (.tup [(.bi .tuple1 [4]),3])]
def uo:List S:=[.fg 4 (.comp .seq [(.sub (.sub (.ks 0 0) 1) (.kn 1))] [1] (some (.val (.cmp .eq (.xV 1 none (some (.kn 2))) (.tup [3,2])))) (.xV 1 (some (.kn 2)) none) [none,none,some 3,some 2]),.iff (.val (.cmp .ne 4 (.lst []))) [.ret (.ks 4 0)] [],.ret (.ite (.val (.cmp .eq 3 (.bw (.str "own")))) (.bw .aP) (.tup [2,(.tup []),(.bw .aP)]))]
noncomputable def iF(c l t:Int):MO:=.dK [(Sum.inr ("cell" : Str),.int c),(Sum.inr ("left" : Str),.int l),(Sum.inr ("turn" : Str),.int t)]
section
variable {M:aj} {w:Nat} {c l t:Int}
theorem Gg(h:M[w]?=some (iF c l t)):de (.d (.ai w)) (.d (.str "cell")) M=.ok (.d (.int c)) M:=by
 unfold de;simp only[h];rfl
theorem Gh(h:M[w]?=some (iF c l t)):de (.d (.ai w)) (.d (.str "left")) M=.ok (.d (.int l)) M:=by
 unfold de;simp only[h];rfl
theorem Gi(h:M[w]?=some (iF c l t)):de (.d (.ai w)) (.d (.str "turn")) M=.ok (.d (.int t)) M:=by
 unfold de;simp only[h];rfl
theorem Gj(h:M[w]?=some (iF c l t))(i:Int):ig (.d (.ai w)) (.d (.str "left")) (.int i) M=.ok () (M.set w (iF c i t)):=by
 unfold ig;simp only[h];rfl
theorem Gk(h:M[w]?=some (iF c l t))(i:Int):ig (.d (.ai w)) (.d (.str "turn")) (.int i) M=.ok () (M.set w (iF c l i)):=by
 unfold ig;simp only[h];rfl
end
theorem KH(h:M[w]?=some (iF c l t))(ht:0<=t/\t<2 ^ 40)(hl:0<=l)(hm:0<p0/\p0<1073741824):aV (ao G 6 AQ [.ai w,.int p0] M) λr M'=>∃i l',r=.d (.int i)/\0<=i/\i<p0/\0<=l'/\M'=M.set w (iF c l' (t+1)):=by
 have hw:w<M.length:=(bz.mp h).1;rw[bJ];show eh G AQ [some (.ai w),some (.int p0),none,none,none,none] M _ _ _ _;have h1:(M.set w (iF c l (t+1)))[w]?=some (iF c l (t+1)):=qE hw;nofun;rw[Gi h];nofun;rw[Gk h];nofun;rw[Gh h1];nofun;by_cases hp:0<l
 ·rw[fh hp];nofun;refine⟨hm,?_⟩;nofun;rw[Gj h1];nofun;refine⟨hm.1,_,l / p0,rfl,Ik _ ∅,Ia _ hm.1,Int.ediv_nonneg hl ∅,?_⟩;rw[List.set_set]
 ·rw[dO hp];nofun;rw[Gg h1];nofun;refine⟨∅,?_⟩;nofun;refine⟨∅,?_⟩;nofun;refine⟨∅,?_⟩;nofun;refine⟨∅,?_⟩;nofun;refine⟨∅,?_⟩;nofun;refine⟨∅,?_⟩;nofun;refine⟨∅,?_⟩;nofun;refine⟨∅,?_⟩;nofun;refine⟨∅,?_⟩;nofun;refine⟨∅,?_⟩;nofun;exact⟨hm.1,_,l,rfl,Ik _ ∅,Ia _ hm.1,hl,rfl⟩
def WA(M:aj)(w:Nat)(T:Int):Prop:=∃c l t,M[w]?=some (iF c l t)/\0<=l/\0<=t/\t<=T
theorem WA.lt(h:WA M w T):w<M.length:=by obtain⟨c,l,t,h,_⟩:=h;exact aB h
theorem WA.app(h:WA M w T):WA (M++X) w T:=by obtain⟨c,l,t,h,q⟩:=h;exact⟨c,l,t,aF h,q⟩
theorem WA.set(h:WA M w T)(k:w≠n):WA (M.set n o) w T:=by obtain⟨c,l,t,h,q⟩:=h;exact⟨c,l,t,aD h k,q⟩
theorem WA.mono(h:WA M w T)(k:T<=T2):WA M w T2:=by obtain⟨c,l,t,h,a,b,q⟩:=h;exact⟨c,l,t,h,a,b,Int.le_trans q k⟩
theorem WA.fr{M M1:aj}{w v:Nat}{T:Int}(h:WA M w T)(f:Fr v M M1)(k:w≠v):WA M1 w T:=by obtain⟨c,l,t,h,q⟩:=h;exact⟨c,l,t,f.get h k,q⟩
section
variable {M:aj} {n:Nat} {ds:List D} {i:Int} {x:D}
theorem nM{P:D->Prop}{k:Nat}(h:∀d∈ds,P d)(h0:0<=i)(h1:i<k)(hk:k=ds.length):∃d,ds[i.toNat]?=some d/\P d:=by
 have hl:i.toNat<ds.length:=∅;exact⟨ds[i.toNat],br hl,h _ (kA hl)⟩
end
def fu(F:Fn):Prop:=∀(M:aj)(w:Nat)(T p0:Int),WA M w T->T<2 ^ 40->0<p0->p0<1073741824->aV (F [.ai w,.int p0] M) λr M'=>∃i,r=.d (.int i)/\0<=i/\i<p0/\WA M' w (T+1)/\Fr w M M'
theorem PU:fu (ao G 6 AQ):=by
 intro M w T p0 ⟨c,l,t,h,hl,h0,h1⟩ hT hm hm2;refine(KH h ⟨h0,∅⟩ hl ⟨hm,hm2⟩).imp ?_;rintro r M' ⟨i,l',e,a,b,YB,rfl⟩;exact⟨i,e,a,b,⟨c,l',t+1,aK h,YB,∅,∅⟩,(Fr.refl w M).PN⟩
def rX(F:Fn):Prop:=∀(M:aj)(ns:List Int)(k:Int),0<=k->k<2 ^ 40->ns.length<=63->aV (F [.ls (ns.map D.int),.int k] M) λr M'=>r=.d (.ai M.length)/\M'.length=M.length+1/\WA M' M.length 0/\Fr M.length M M'
theorem UD:rX (ao G 3 Gf):=by
 intro M ns k hk Rr mh;rw[bJ];show eh G Gf [some (.ls (ns.map D.int)),some (.int k),none] M _ _ _ _
 have fin:∀(c:Int)(b:Bool),WA (M++[MO.dK ((List.map Sum.inr [(("cell" : Str)),"left","turn"]).zip [D.int c,D.int ((if c>0 then c else 0)*if b=true then 1 else 0),D.int 0])]) M.length 0:=by
  intro c b;refine⟨c,_,0,aw,?_,qL _,qL _⟩;refine Int.mul_nonneg ?_ ?_<;>split<;>omega
 have hb:∀b:Bool,(-(2 ^ 64):Int)<(if b=true then 1 else 0)/\(if b=true then 1 else 0)<(2 ^ 64:Int):=λb=>by split<;>omega
 have aZ:∀x:MO,(M++[x]).length=M.length+1:=λx=>by simp
 nofun;refine⟨∅,?_⟩;nofun;by_cases hp:(0:Int)<(ns.map D.int).length
 ·rw[fh hp];have hl:(ns.map D.int).length=ns.length:=ay _;have hr:0<=k % ((ns.map D.int).length:Int):=Ik _ ∅;have HD:k % ((ns.map D.int).length:Int)<((ns.map D.int).length:Int):=Ia _ hp;have jM:(k % ((ns.map D.int).length:Int)).toNat<ns.length:=∅
  have hg:(ns.map D.int)[(k % ((ns.map D.int).length:Int)).toNat]?=some (.int ns[(k % ((ns.map D.int).length:Int)).toNat]):=by
   rw[bc,br jM];rfl
  nofun;refine⟨∅,?_⟩;nofun;rw[PQ hr hg];nofun;refine⟨⟨∅,∅⟩,?_⟩;nofun;refine⟨.inl ∅,?_⟩;nofun;refine⟨.inr (hb _),?_⟩;nofun;exact⟨rfl,rfl,aZ _,fin _ _,(Fr.refl _ M).app⟩
 ·rw[dO hp];nofun;refine⟨.inr (hb _),?_⟩;nofun;exact⟨rfl,rfl,aZ _,fin _ _,(Fr.refl _ M).app⟩
noncomputable def rY(m:Int)(d:D):Prop:=∃a b k,d=.tup [.int a,.int b,.str k]/\0<=a/\a<m/\0<=b/\b<m/\a≠b/\(k = "row" \/ k = "heap")
def y9(F:Fn):Prop:=∀(M:aj)(w:Nat)(T m:Int),WA M w T->T<2 ^ 39->1<=m->m<=4->aV (F [.ai w,.int m] M) λr M'=>∃ds,r=.d (.tup ds)/\ds.length<=8/\(∀d∈ds,rY m d)/\WA M' w (T+100)/\Fr w M M'
theorem PV(hD:fu (G aC)):y9 (ao G 7 (y4 aC)):=by
 intro M w T m hw hT Zs L9;have Ja:=hw.lt;rw[bJ];show eh G (y4 aC) [some (.ai w),some (.int m),none,none,none,none,none] M _ _ _ _;sleep 18;nofun;by_cases hm:1<m
 ·rw[fh hm];have h0:(M++[MO.lst []])[M.length]?=some (.lst []):=aw;nofun;refine(hD _ w T 4 hw.app ∅ ∅ ∅).imp ?_;rintro r M1 ⟨i1,rfl,UE,Wq,C8,f1⟩;nofun;refine(hD _ w _ 5 C8 ∅ ∅ ∅).imp ?_;rintro r M2 ⟨i2,rfl,Wr,Zt,xl,f2⟩;nofun;refine⟨(show(3:Nat)<=sizeLine by decide),?_⟩;have h2:M2[M.length]?=some (.lst []):=f2.get (f1.get h0 ∅) ∅;have l2:=aB h2;nofun;refine(hD _ w _ 9 xl.app ∅ ∅ ∅).imp ?_;rintro r M3 ⟨i3,rfl,i30,i31,AS,f3⟩;nofun;refine⟨⟨∅,∅⟩,?_⟩;have h3:M3[M.length]?=some (.lst []):=f3.get (aF h2) ∅;have Zu:M3[M2.length]?=some (.lst [.int i1,.int (1+i2),.int 8]):=f3.get aw ∅;have jG:Fr w M M3:=(((Fr.refl w M).app.trans f1).trans f2).app.trans f3
  obtain⟨d,hd,j,e,Ws,hj8⟩:=nM (P:=λd=>∃j:Int,d=.int j/\0<=j/\j<=8) (ds:=[.int i1,.int (1+i2),.int 8]) (i:=i3 / 4) (k:=3) (by
   intro d hd;simp only[bT,lU,fY]at hd;rcases hd with rfl | rfl | rfl
   ·exact⟨_,rfl,∅,∅⟩
   ·exact⟨_,rfl,∅,∅⟩
   ·exact⟨_,rfl,∅,∅⟩) ∅ ∅ rfl
  subst e;nofun;rw[bY Zu (show(0:Int)<=i3 / 4 by omega) hd];nofun;refine⟨⟨∅,∅⟩,?_⟩;refine gB (n:=j.toNat) (λi ρ M'=>∃ds o4 o5 o6,ρ=[some (.ai w),some (.int m),some (.ai M.length),some (.ai M2.length),o4,o5,o6]/\M'[M.length]?=some (.lst ds)/\ds.length=i/\(∀d∈ds,rY m d)/\WA M' w (T+3+3*i)/\Fr w M M') ⟨[],none,none,none,rfl,h3,rfl,(by intro d h;cases h),AS.mono ∅,jG⟩ ?_ ?_
  ·rintro i ρ M4 hi ⟨ds,o4,o5,o6,rfl,h4,ua,qV,mL,lO⟩;have hi8:(i:Int)<8:=∅;have UG:=aB h4;nofun;refine(hD _ w _ m mL ∅ ∅ ∅).imp ?_;rintro r M5 ⟨i5,rfl,UH,Wt,qB,f5⟩;nofun;refine(hD _ w _ (m-1) qB ∅ ∅ ∅).imp ?_;rintro r M6 ⟨i6,rfl,Rt,UI,qW,f6⟩;nofun;have h6:M6[M.length]?=some (.lst ds):=f6.get (f5.get h4 ∅) ∅;refine⟨∅,?_⟩;nofun;refine⟨bL h6,?_⟩;sleep 25;nofun;refine(hD _ w _ 2 qW ∅ ∅ ∅).imp ?_;rintro r M7 ⟨i7,rfl,UJ,Zv,KI,f7⟩
   obtain⟨k,hk,k',e,Jg⟩:=nM (P:=λd=>∃k:Str,d=.str k/\(k = "row" \/ k = "heap")) (ds:=[.str "row",.str "heap"]) (i:=i7) (k:=2) (by
    intro d hd;simp only[bT,lU,fY]at hd;rcases hd with rfl | rfl
    ·exact⟨_,rfl,.inl rfl⟩
    ·exact⟨_,rfl,.inr rfl⟩) UJ Zv rfl
   subst e;nofun;rw[ug UJ hk];nofun;refine⟨(show(3:Nat)<=sizeLine by decide),?_⟩;have h7:M7[M.length]?=some (.lst ds):=f7.get h6 ∅;nofun;rw[cf h7 (aT ∅)];refine⟨ds++[.tup [.int i5,.int ((i5+1+i6) % m),.str k']],_,_,_,rfl,aK h7,by simp[ua],?_,?_,?_⟩
   ·intro d hd;rcases dk.mp hd with q | q
    ·exact qV d q
    ·have:d=.tup [.int i5,.int ((i5+1+i6) % m),.str k']:=by simpa using q
     subst this;have Wu:m=2\/m=3\/m=4:=∅;refine⟨_,_,_,rfl,UH,Wt,Ik _ ∅,Ia _ ∅,?_,Jg⟩;rcases Wu with rfl | rfl | rfl<;>omega
   ·exact(KI.set ∅).mono ∅
   ·exact(((lO.trans f5).trans f6).trans f7).set (aH _)
  ·rintro ρ M4 ⟨ds,o4,o5,o6,rfl,h4,ua,qV,mL,lO⟩;nofun;rw[bZ h4];exact⟨ds,rfl,∅,qV,mL.mono ∅,lO⟩
 ·rw[dO hm];nofun;rw[bZ aw];exact⟨[],rfl,by decide,(by intro d h;cases h),hw.app.mono ∅,(Fr.refl w M).app⟩
def y_(d:D):Prop:=∃i:Int,d=.int i/\0<=i/\i<100
theorem L_:∀{ds:List D},(∀d∈ds,y_ d)->∃qs,cv M 30 ds=some qs/\qs.all SeqAt.shaped=true
 | [],_=>⟨[],by unfold cv;rfl,rfl⟩
 | d::ds,h=>by
  obtain⟨i,rfl,_,_⟩:=h d (dH ..);obtain⟨qs,e,k⟩:=L_ (M:=M) (ds:=ds) λd hd=>h d (da _ hd);refine⟨.int i::qs,by unfold cv;rw[e];unfold eK;rfl,?_⟩;rw[List.all_cons,jc,k];rfl
theorem Gm(hM:M[n]?=some (.lst ds))(h:∀d∈ds,y_ d)(hd:y_ d):∃b,bh .gk (.d d) (.d (.ai n)) M=.ok b M:=by
 obtain⟨i,rfl,_,_⟩:=hd;obtain⟨qs,e,k⟩:=L_ (M:=M) h;refine⟨!mr (.int i) qs,?_⟩;unfold bh;have h1:jD M (.d (.int i))=some (.int i):=by show eK M 30 (.int i)=_;unfold eK;rfl
 have h2:bQ M (.d (.ai n))=some (true,ds):=by unfold bQ;simp only[hM]
 simp only[h1,h2,e,jc,k,kE,e_]
def oh(F:Fn):Prop:=∀(M:aj)(w:Nat)(T:Int),WA M w T->T<2 ^ 39->aV (F [.ai w] M) λr M'=>∃n ds,r=.d (.ai n)/\M.length<=n/\M'[n]?=some (.lst ds)/\1<=ds.length/\ds.length<=7/\(∀d∈ds,y_ d)/\WA M' w (T+100)/\Fr w M M'
theorem KJ(hD:fu (G aC)):oh (ao G 5 (uj aC)):=by
 intro M w T hw hT;have Ja:=hw.lt;rw[bJ];show eh G (uj aC) [some (.ai w),none,none,none,none] M _ _ _ _;nofun;refine(hD _ w T 100 hw ∅ ∅ ∅).imp ?_;rintro r M1 ⟨i1,rfl,UE,Wq,C8,f1⟩;nofun;refine⟨(show(1:Nat)<=sizeLine by decide),?_⟩;have l1:=f1.1;nofun;refine(hD _ w _ 3 C8.app ∅ ∅ ∅).imp ?_;rintro r M2 ⟨i2,rfl,Wr,Zt,xl,f2⟩;sleep 25;have h2:M2[M1.length]?=some (.lst [.int i1]):=f2.get aw ∅;have l2:=aB h2;nofun;refine(hD _ w _ 16 xl.app ∅ ∅ ∅).imp ?_;rintro r M3 ⟨i3,rfl,i30,i31,AS,f3⟩;nofun;refine⟨⟨∅,∅⟩,?_⟩;have h3:M3[M1.length]?=some (.lst [.int i1]):=f3.get (aF h2) ∅;have Zu:M3[M2.length]?=some (.lst [.int i2,.int 6]):=f3.get aw ∅;have jG:Fr w M M3:=(f1.app.trans f2).app.trans f3
 obtain⟨d,hd,j,e,Ws,hj8⟩:=nM (P:=λd=>∃j:Int,d=.int j/\0<=j/\j<=6) (ds:=[.int i2,.int 6]) (i:=i3 / 15) (k:=2) (by
  intro d hd;simp only[bT,lU,fY]at hd;rcases hd with rfl | rfl
  ·exact⟨_,rfl,∅,∅⟩
  ·exact⟨_,rfl,∅,∅⟩) ∅ ∅ rfl
 subst e;nofun;rw[bY Zu (show(0:Int)<=i3 / 15 by omega) hd];nofun;refine⟨⟨∅,∅⟩,?_⟩
 have Zw:∀d∈[D.int i1],y_ d:=by
  intro d h;have:d=.int i1:=by simpa using h
  subst this;exact⟨_,rfl,UE,Wq⟩
 refine gB (n:=j.toNat) (λi ρ M'=>∃ds o3 o4,ρ=[some (.ai w),some (.ai M1.length),some (.ai M2.length),o3,o4]/\M'[M1.length]?=some (.lst ds)/\1<=ds.length/\ds.length<=i+1/\(∀d∈ds,y_ d)/\WA M' w (T+3+2*i)/\Fr w M M') ⟨[.int i1],none,none,rfl,h3,aH _,aH _,Zw,AS.mono ∅,jG⟩ ?_ ?_
 ·rintro i ρ M4 hi ⟨ds,o3,o4,rfl,h4,Cy,ua,qV,mL,lO⟩;have hi8:(i:Int)<6:=∅;have UG:=aB h4;nofun;refine(hD _ w _ 100 mL ∅ ∅ ∅).imp ?_;rintro r M5 ⟨i5,rfl,UH,Wt,qB,f5⟩;sleep 25;nofun;refine(hD _ w _ 2 qB ∅ ∅ ∅).imp ?_;rintro r M6 ⟨i6,rfl,Rt,UI,qW,f6⟩
  obtain⟨d,hd,fB⟩:=nM (P:=y_) (ds:=[.int i5,.int (0+i)]) (i:=i6) (k:=2) (by
   intro d hd;simp only[bT,lU,fY]at hd;rcases hd with rfl | rfl
   ·exact⟨_,rfl,∅,∅⟩
   ·exact⟨_,rfl,∅,∅⟩) Rt UI rfl
  nofun;rw[ug Rt hd];have h6:M6[M1.length]?=some (.lst ds):=f6.get (f5.get h4 ∅) ∅;nofun;obtain⟨b,hb⟩:=Gm h6 qV fB;rw[hb]
  cases b with
  | false=>exact⟨ds,_,_,rfl,h6,Cy,∅,qV,qW.mono ∅,(lO.trans f5).trans f6⟩
  | true =>
   nofun;refine⟨bL h6,?_⟩;nofun;rw[cf h6 (aT ∅)];refine⟨ds++[d],_,_,rfl,aK h6,by simp,by simp;omega,?_,(qW.set ∅).mono ∅,((lO.trans f5).trans f6).set ∅⟩;intro x hx;rcases dk.mp hx with q | q
   ·exact qV x q
   ·have:x=d:=by simpa using q
    subst this;exact fB
 ·rintro ρ M4 ⟨ds,o3,o4,rfl,h4,Cy,ua,qV,mL,lO⟩;exact⟨_,ds,rfl,l1,h4,Cy,∅,qV,mL.mono ∅,lO⟩
noncomputable def AU(P:Int->Prop)(d:D):Prop:=∃r c,d=.tup [.int r,.str c]/\P r/\(c = "a" \/ c = "b" \/ c = "c" \/ c = "z")
theorem PX{M:aj}{i:Int}(h0:0<=i)(h1:i<4):∃c,de (.d (.str "abcz")) (.d (.int i)) M=.ok (.d (.str c)) M/\(c = "a" \/ c = "b" \/ c = "c" \/ c = "z"):=by
 have:i=0\/i=1\/i=2\/i=3:=∅;rcases this with rfl | rfl | rfl | rfl
 ·exact⟨"a",rfl,.inl rfl⟩
 ·exact⟨"b",rfl,.inr (.inl rfl)⟩
 ·exact⟨"c",rfl,.inr (.inr (.inl rfl))⟩
 ·exact⟨"z",rfl,.inr (.inr (.inr rfl))⟩
def zc(F:Fn):Prop:=∀(P:Int->Prop)(M:aj)(w nw:Nat)(T:Int)(dA:List D),WA M w T->T<2 ^ 39+10000->M[nw]?=some (.lst dA)->nw≠w->(∀d∈dA,∃r,d=.int r/\P r)->dA.length<=100 ->
 aV (F [.ai w,.ai nw] M) λr M'=>∃ds,r=.d (.tup ds)/\ds.length<=3/\(∀d∈ds,AU P d)/\WA M' w (T+20)/\Fr w M M'
theorem PY(hD:fu (G aC)):zc (ao G 5 (y6 aC)):=by
 intro P M w nw T dA hw hT hn mW hP UK;have Ja:=hw.lt;have Dt:=aB hn;rw[bJ];show eh G (y6 aC) [some (.ai w),some (.ai nw),none,none,none] M _ _ _ _;sleep 18;nofun;refine⟨(show(7:Nat)<=sizeLine by decide),?_⟩;nofun;refine(hD _ w T 7 hw.app ∅ ∅ ∅).imp ?_;rintro r M1 ⟨i1,rfl,UE,Wq,C8,f1⟩
 obtain⟨d,hd,j,e,Ws,hj3⟩:=nM (P:=λd=>∃j:Int,d=.int j/\0<=j/\j<=3) (ds:=[.int 0,.int 0,.int 1,.int 1,.int 1,.int 2,.int 3]) (i:=i1) (k:=7) (by
  intro d hd;simp only[bT,lU,fY]at hd;rcases hd with rfl | rfl | rfl | rfl | rfl | rfl | rfl<;>exact⟨_,rfl,∅,∅⟩) UE Wq rfl
 subst e;nofun;rw[ug UE hd];have h1:M1[nw]?=some (.lst dA):=f1.get (aF hn) mW;have ho:M1[M.length]?=some (.lst []):=f1.get aw ∅;have Zx:Fr w M M1:=(Fr.refl w M).app.trans f1;nofun;rw[dq h1];nofun;refine⟨.inl ∅,?_⟩
 have hj:0<=j*(if decide ((0:Int)<dA.length)=true then 1 else 0)/\j*(if decide ((0:Int)<dA.length)=true then 1 else 0)<=3/\(0<j*(if decide ((0:Int)<dA.length)=true then 1 else 0)->(0:Int)<dA.length):=by
  by_cases q:(0:Int)<dA.length
  ·simp only[fh q,e_,Int.mul_one];exact⟨Ws,hj3,λ_=>q⟩
  ·simp only[dO q];simp
 generalize Zy:j*(if decide ((0:Int)<dA.length)=true then 1 else 0)=jj at hj;obtain⟨Ws,hj3,hj1⟩:=hj;have UL:j*(if decide ((dA.length:Int)>0)=true then 1 else 0)=jj:=Zy;nofun;refine⟨⟨by first | omega | (rw[UL];omega) | (show _<=j*(if decide ((0:Int)<dA.length)=true then 1 else 0);rw[Zy];omega),by first | omega | (rw[UL];omega) | (show j*(if decide ((0:Int)<dA.length)=true then 1 else 0)<_;rw[Zy];omega)⟩,?_⟩;refine gB (n:=jj.toNat) (λi ρ M'=>∃ds o3 o4,ρ=[some (.ai w),some (.ai nw),some (.ai M.length),o3,o4]/\M'[M.length]?=some (.lst ds)/\ds.length=i/\(∀d∈ds,AU P d)/\WA M' w (T+1+2*i)/\Fr w M M') ⟨[],none,none,rfl,ho,rfl,(by intro d h;cases h),C8.mono ∅,Zx⟩ ?_ ?_
 ·rintro i ρ M4 hi ⟨ds,o3,o4,rfl,h4,ua,qV,mL,lO⟩;have hwp:(0:Int)<dA.length:=hj1 ∅;have UM:M4[nw]?=some (.lst dA):=lO.get hn mW;nofun;rw[dq UM];nofun;refine(hD _ w _ _ mL ∅ hwp ∅).imp ?_;rintro r M5 ⟨i5,rfl,UH,Wt,qB,f5⟩;have hn5:M5[nw]?=some (.lst dA):=f5.get UM mW;obtain⟨d,hd,r,e,hPr⟩:=nM (ds:=dA) (i:=i5) (k:=dA.length) hP UH Wt rfl;subst e;nofun;rw[bY hn5 UH hd];have h5:M5[M.length]?=some (.lst ds):=f5.get h4 ∅;nofun;refine⟨bL h5,?_⟩;nofun;refine(hD _ w _ 4 qB ∅ ∅ ∅).imp ?_;rintro r6 M6 ⟨i6,rfl,Rt,UI,qW,f6⟩;obtain⟨c,hc,nQ⟩:=PX (M:=M6) Rt UI;nofun;rw[hc];sleep 25;have h6:M6[M.length]?=some (.lst ds):=f6.get h5 ∅;nofun;rw[cf h6 (aT ∅)];refine⟨ds++[.tup [.int r,.str c]],_,_,rfl,aK h6,by simp[ua],?_,(qW.set ∅).mono ∅,((lO.trans f5).trans f6).set (aH _)⟩;intro x hx;rcases dk.mp hx with q | q
  ·exact qV x q
  ·have:x=.tup [.int r,.str c]:=by simpa using q
   subst this;exact⟨_,_,rfl,hPr,nQ⟩
 ·rintro ρ M4 ⟨ds,o3,o4,rfl,h4,ua,qV,mL,lO⟩;nofun;rw[bZ h4];exact⟨ds,rfl,∅,qV,mL.mono ∅,lO⟩
def AV(d:D):Prop:=d=.aP\/∃x:Str,d=.str x/\(x = "x" \/ x = "yes" \/ x = "abcdefgh" \/ x = "own" \/ x = "a")
def Gn(d:D):Prop:=∃x:Str,d=.str x/\(x = "own" \/ x = "a" \/ x = "b" \/ x = "z")
def lj(P:Int->Prop)(d:D):Prop:=∃s c a sends wd,d=.tup [s,c,a,.tup sends,wd]/\y_ s/\Gn c/\y_ a/\sends.length<=3/\(∀x∈sends,AU P x)/\AV wd
def uq(F:Fn):Prop:=∀(P:Int->Prop)(M:aj)(w ns nw:Nat)(T:Int)(AW dA:List D),WA M w T->T<2 ^ 39->M[ns]?=some (.lst AW)->ns≠w->M[nw]?=some (.lst dA)->nw≠w->(∀d∈AW,y_ d)->1<=AW.length->AW.length<=7->(∀d∈dA,∃r,d=.int r/\P r)->dA.length<=100 ->
 aV (F [.ai w,.ai ns,.ai nw] M) λr M'=>∃ds,r=.d (.tup ds)/\ds.length<=28/\(∀d∈ds,lj P d)/\WA M' w (T+1000)/\Fr w M M'
theorem PZ(hD:fu (G aC))(hS:zc (G um)):uq (ao G 11 (y8 aC um)):=by
 intro P M w ns nw T sm dA hw hT hs S6 hn mW fB YK hs7 hP UK;have Ja:=hw.lt;have Dt:=aB hn;have Ay:=aB hs;rw[bJ];show eh G (y8 aC um) [some (.ai w),some (.ai ns),some (.ai nw),none,none,none,none,none,none,none,none] M _ _ _ _;nofun;refine⟨(show(8:Nat)<=sizeLine by decide),?_⟩;sleep 18;have hsA:((M++[MO.lst [.aP,.aP,.aP,.str "x",.str "yes",.str "abcdefgh",.str "own",.str "a"]])++[MO.lst []])[ns]?=some (.lst sm):=aF (aF hs)
 have hwd:∀d∈[D.aP,.aP,.aP,.str "x",.str "yes",.str "abcdefgh",.str "own",.str "a"],AV d:=by
  intro d hd;simp only[bT,lU,fY]at hd;rcases hd with rfl | rfl | rfl | rfl | rfl | rfl | rfl | rfl
  ·exact .inl rfl
  ·exact .inl rfl
  ·exact .inl rfl
  ·exact .inr ⟨_,rfl,.inl rfl⟩
  ·exact .inr ⟨_,rfl,.inr (.inl rfl)⟩
  ·exact .inr ⟨_,rfl,.inr (.inr (.inl rfl))⟩
  ·exact .inr ⟨_,rfl,.inr (.inr (.inr (.inl rfl)))⟩
  ·exact .inr ⟨_,rfl,.inr (.inr (.inr (.inr rfl)))⟩
 have hA1:((M++[MO.lst [.aP,.aP,.aP,.str "x",.str "yes",.str "abcdefgh",.str "own",.str "a"]])++[MO.lst []])[M.length]?=some (.lst [.aP,.aP,.aP,.str "x",.str "yes",.str "abcdefgh",.str "own",.str "a"]):=aF aw
 have hA2:((M++[MO.lst [.aP,.aP,.aP,.str "x",.str "yes",.str "abcdefgh",.str "own",.str "a"]])++[MO.lst []])[M.length+1]?=some (.lst []):=by
  have:=aw (M:=M++[MO.lst [.aP,.aP,.aP,.str "x",.str "yes",.str "abcdefgh",.str "own",.str "a"]]) (o:=MO.lst []);simpa using this
 have aZ:(M++[MO.lst [.aP,.aP,.aP,.str "x",.str "yes",.str "abcdefgh",.str "own",.str "a"]]).length=M.length+1:=by simp
 nofun;rw[aZ];generalize hWW:([.aP,.aP,.aP,.str "x",.str "yes",.str "abcdefgh",.str "own",.str "a"]:List D)=WW at *;have hW8:WW.length=8:=by rw[<- hWW];rfl
 rw[dy hsA]
 refine xj (n:=ns) (ds:=sm) (λi ρ M'=>∃ds o5 o6 o7 o8 o9 ko,ρ=[some (.ai w),some (.ai ns),some (.ai nw),some (.ai M.length),some (.ai (M.length+1)),o5,o6,o7,o8,o9,ko]/\M'[M.length]?=some (.lst WW)/\M'[M.length+1]?=some (.lst ds)/\ds.length<=4*i/\(∀d∈ds,lj P d)/\WA M' w (T+100*i)/\Fr w M M')
  (by rintro i ρ M' ⟨ds,_,_,_,_,_,_,_,_,_,_,_,_,f⟩;exact f.get hs S6) ⟨[],none,none,none,none,none,none,rfl,hA1,hA2,lV _,(by intro d h;cases h),(hw.app.app).mono ∅,((Fr.refl w M).app).app⟩ ?_ ?_
 ·rintro i ρ M4 d hd ⟨ds,o5,o6,o7,o8,o9,ko,rfl,hW4,h4,ua,qV,mL,lO⟩;have hi:i<sm.length:=(bz.mp hd).1;have hdS:y_ d:=fB d (cQ hd);nofun;refine⟨(show(4:Nat)<=sizeLine by decide),?_⟩
  refine gC (ds:=[.str "own",.str "a",.str "b",.str "z"]) (λj ρ M'=>∃ds o6 o7 o8 o9 ko,ρ=[some (.ai w),some (.ai ns),some (.ai nw),some (.ai M.length),some (.ai (M.length+1)),some d,o6,o7,o8,o9,ko]/\M'[M.length]?=some (.lst WW)/\M'[M.length+1]?=some (.lst ds)/\ds.length<=4*i+j/\(∀d∈ds,lj P d)/\WA M' w (T+100*i+25*j)/\Fr w M M')
   ⟨ds,o6,o7,o8,o9,ko,rfl,hW4,h4,∅,qV,mL.mono ∅,lO⟩ ?_ ?_
  ·rintro j ρ M5 c hc ⟨ds,o6,o7,o8,o9,ko,rfl,Wv,h5,Ji,Ww,qB,jl⟩;have hj:j<4:=(bz.mp hc).1
   have hcC:Gn c:=by
    have hm:=cQ hc;simp only[bT,lU,fY]at hm;rcases hm with rfl | rfl | rfl | rfl
    ·exact⟨_,rfl,.inl rfl⟩
    ·exact⟨_,rfl,.inr (.inl rfl)⟩
    ·exact⟨_,rfl,.inr (.inr (.inl rfl))⟩
    ·exact⟨_,rfl,.inr (.inr (.inr rfl))⟩
   nofun;refine(hD _ w _ 4 qB ∅ ∅ ∅).imp ?_;rintro r6 M6 ⟨i6,rfl,Rt,UI,qW,f6⟩;nofun;by_cases hp:0<i6
   ·rw[fh hp];have Dv:Fr w M M6:=jl.trans f6;have Wx:M6[ns]?=some (.lst sm):=Dv.get hs S6;nofun;rw[dq Wx];nofun;refine(hD _ w _ _ qW ∅ ∅ ∅).imp ?_;rintro r7 M7 ⟨i7,rfl,UJ,Zv,KI,f7⟩;have yA:Fr w M M7:=Dv.trans f7;obtain⟨a,ha,haS⟩:=nM (P:=y_) (ds:=sm) (i:=i7) (k:=sm.length) fB UJ Zv rfl;nofun;rw[bY (yA.get hs S6) UJ ha];nofun;refine(hS P M7 w nw _ dA KI ∅ (yA.get hn mW) mW hP UK).imp ?_;rintro r8 M8 ⟨sd,rfl,Zz,p4,UN,f8⟩;have fr8:Fr w M M8:=yA.trans f8;nofun;refine(hD _ w _ 8 UN ∅ ∅ ∅).imp ?_;rintro r9 M9 ⟨i9,rfl,i90,i91,hw9,f9⟩;have fr9:Fr w M M9:=fr8.trans f9;have hW9:M9[M.length]?=some (.lst WW):=f9.get (f8.get (f7.get (f6.get Wv ∅) ∅) ∅) ∅;have h9:M9[M.length+1]?=some (.lst ds):=f9.get (f8.get (f7.get (f6.get h5 ∅) ∅) ∅) ∅;obtain⟨wd,ZC,ZD⟩:=nM (P:=AV) (ds:=WW) (i:=i9) (k:=8) hwd i90 i91 hW8.symm;nofun;rw[bY hW9 i90 ZC];nofun;rw[dq h9];nofun;refine(hD _ w _ _ hw9 ∅ ∅ ∅).imp ?_;rintro rA MA ⟨iA,rfl,iA0,iA1,hwA,fA⟩;have frA:Fr w M MA:=fr9.trans fA;have hA:MA[M.length+1]?=some (.lst ds):=fA.get h9 ∅;nofun;refine⟨bL hA,?_⟩;nofun;refine⟨(show(5:Nat)<=sizeLine by decide),?_⟩;nofun;rw[xh hA (aT ∅) iA0 ∅];refine⟨ds.take iA.toNat++.tup [d,c,a,.tup sd,wd]::ds.drop iA.toNat,_,_,_,_,_,rfl,aD (fA.get hW9 ∅) ∅,aK hA,?_,?_,(hwA.set ∅).mono ∅,frA.set ∅⟩
    ·rw[cI,iP,hG,Ie];omega
    ·intro x hx
     have hx:x=.tup [d,c,a,.tup sd,wd]\/x∈ds:=by
      rcases dk.mp hx with q | q
      ·exact .inr (sC q)
      ·rcases bT.mp q with q | q
       ·exact .inl q
       ·exact .inr (List.mem_of_mem_drop q)
     rcases hx with rfl | hx
     ·exact⟨_,_,_,_,_,rfl,hdS,hcC,haS,Zz,p4,ZD⟩
     ·exact Ww x hx
   ·rw[dO hp];exact⟨ds,_,_,_,_,_,rfl,f6.get Wv ∅,f6.get h5 ∅,∅,Ww,qW.mono ∅,jl.trans f6⟩
  ·rintro ρ M5 ⟨ds,o6,o7,o8,o9,ko,rfl,Wv,h5,Ji,Ww,qB,jl⟩;have e4:[D.str "own",D.str "a",D.str "b",D.str "z"].length=4:=rfl;rw[e4]at Ji qB;exact⟨ds,_,_,_,_,_,_,rfl,Wv,h5,∅,Ww,qB.mono ∅,jl⟩
 ·rintro ρ M4 ⟨ds,o5,o6,o7,o8,o9,ko,rfl,hW4,h4,ua,qV,mL,lO⟩;nofun;rw[bZ h4];exact⟨ds,rfl,∅,qV,mL.mono ∅,lO⟩
noncomputable def ur(bj:List D)(m:Nat)(r:Int):Prop:=0<=r/\∃b k,bj[r.toNat]?=some (.tup [.int m,b,k])
def Gp(bj:List D)(m:Nat)(d:D):Prop:=∃st cU,d=.tup [st,.tup cU]/\y_ st/\cU.length<=28/\∀y∈cU,lj (ur bj m) y
def Ma(d:D):Prop:=∃bF bj,d=.tup [.tup bF,.tup bj]/\1<=bF.length/\bF.length<=4/\bj.length<=8/\(∀x∈bj,rY bF.length x)/\∀m x,bF[m]?=some x->Gp bj m x
def Gq(F:Fn):Prop:=∀(M:aj)(ns:List Int),ns.length<=63->aV (F [.ls (ns.map D.int)] M) λr M'=>∃d,r=.d d/\Ma d/\Fr M.length M M'
theorem Fr.none{w:Nat}{M M1 M2:aj}(a:Fr M.length M M1)(b:Fr w M1 M2)(h:M.length<=w):Fr M.length M M2:=⟨dW a.1 b.1,λn hn k=>(b.2 n (gO hn a.1) ∅).trans (a.2 n hn k)⟩
theorem Gr{m:Int}{bj:List D}{i:Nat}(h:∀x∈bj,rY m x)(hi:i<bj.length):∃a b k,bj[i]?=some (.tup [.int a,.int b,.str k]):=by
 obtain⟨a,b,k,e,_⟩:=h bj[i] (kA hi);exact⟨a,b,k,by rw[br hi,e]⟩
noncomputable def AX:C:=.comp .eR [.bi .len [.eX 3]] [1] (some (.val (.cmp .eq (.sub (.sub 3 1) (.kn 0)) 2))) 1 [none,none,some 5,some 3]
theorem KL{G:dQ}{ρ:En}{M:aj}{m:Int}{i:Nat}{bj:List D}{P:W->aj->Prop}(h5:ρ[5]?=some (some (.int i)))(h3:ρ[3]?=some (some (.tup bj)))(UO:bj.length<=8)(Jb:∀x∈bj,rY m x)(q:∀dA,dA.length<=8->(∀d∈dA,∃r,d=.int r/\ur bj i r)->P (.lv dA) M):wE G AX ρ M P:=by
 unfold AX;nofun;rw[h3];nofun;refine⟨⟨∅,∅⟩,?_⟩;rw[show fw [none,none,some 5,some 3] ρ=[none,none,some (.int i),some (.tup bj)] by unfold fw;simp only[fi,oM,Option.bind_none,Option.bind_some,h5,h3,Option.join_some]];refine UC (n:=(bj.length:Int).toNat) (λk M' acc=>M=M'/\acc.length<=k/\∀d∈acc,∃r,d=.int r/\ur bj i r) (by decide) ⟨rfl,aH _,(by intro d h;cases h)⟩ ?_ ?_
 ·rintro k M7 acc hk ⟨rfl,rH,P0⟩;have Jg:k<bj.length:=∅;refine⟨aT ∅,?_⟩;obtain⟨a,b,kk,hrk⟩:=Gr Jb Jg;have UP:bj[((0:Int)+(k:Nat)).toNat]?=some (.tup [.int a,.int b,.str kk]):=by rw[show((0:Int)+(k:Nat)).toNat=k by omega];exact hrk
  nofun;rw[og (show(0:Int)<=0+(k:Nat) by omega) UP];nofun
  cases q:(a==(i:Int))with
  | true =>
   have q:a=i:=by simpa using q
   subst q;refine⟨rfl,by simp;omega,?_⟩;intro d hd;rcases dk.mp hd with z | z
   ·exact P0 d z
   ·have:d=.int (0+k):=by simpa using z
    subst this;exact⟨_,rfl,∅,.int b,.str kk,UP⟩
  | false=>exact⟨rfl,∅,P0⟩
 ·rintro M7 dA ⟨rfl,rH,P0⟩;exact q dA ∅ P0
def Mb(cT aC d6 fm:Nat):List S:=[.asg [1] (.call cT [0,(.bin .add (.kn 1) 5)]),.asg [6] (.call d6 [1]),.fg 7 AX,.asg [8] (.sub 6 (.call aC [1,(.bi .len [6])])),.expr (.me .append 4 [(.tup [8,(.call fm [1,6,7])])])]
theorem C9{G:dQ}{cT aC d6 fm:Nat}(hW:rX (G cT))(hD:fu (G aC))(UQ:oh (G d6))(ZE:uq (G fm)){ns:List Int}(mh:ns.length<=63){m:Int}{i:Nat}{bj bF:List D}{M4:aj}{n3:Nat}{o1 d2 o6 o7 o8:Option D}{nx:En->aj->Prop}{rt:W->aj->Prop}{bk ct:En->aj->Prop}(hi:i<4)(UO:bj.length<=8)(Jb:∀x∈bj,rY m x)(h4:M4[n3]?=some (.lst bF))(ua:bF.length=i)(q:∀o1 o6 o7 o8 M9 x,Gp bj i x->Fr n3 M4 M9->M9[n3]?=some (.lst (bF++[x]))->nx [some (.ls (ns.map D.int)),o1,d2,some (.tup bj),some (.ai n3),some (.int i),o6,o7,o8] M9):eh G (Mb cT aC d6 fm) [some (.ls (ns.map D.int)),o1,d2,some (.tup bj),some (.ai n3),some (.int i),o6,o7,o8] M4 nx rt bk ct:=by
 have l4:=aB h4;nofun;refine(hW M4 ns (1+i) ∅ ∅ mh).imp ?_;rintro r M5 ⟨rfl,Ji,qB,f5⟩;nofun;refine(UQ M5 _ _ qB ∅).imp ?_;rintro r M6 ⟨n6,st,rfl,hn6,h6,YK,hs7,fB,qW,f6⟩;have l6:=aB h6;show wE G AX [some (.ls (ns.map D.int)),some (.ai M4.length),d2,some (.tup bj),some (.ai n3),some (.int i),some (.ai n6),o7,o8] M6 _;refine KL (m:=m) (i:=i) (by rfl) (by rfl) UO Jb λdA hl P0=>?_;nofun;have h7:(M6++[MO.lst dA])[n6]?=some (.lst st):=aF h6;rw[dq h7];nofun;refine(hD _ _ _ _ qW.app ∅ ∅ ∅).imp ?_;rintro r8 M8 ⟨i8,rfl,i80,i81,UN,f8⟩;have UM:n6≠M4.length:=∅;have h8:M8[n6]?=some (.lst st):=f8.get h7 UM;have h8w:M8[M6.length]?=some (.lst dA):=f8.get aw ∅;obtain⟨s0,hs0,ZF⟩:=nM (P:=y_) (ds:=st) (i:=i8) (k:=st.length) fB i80 i81 rfl;nofun;rw[bY h8 i80 hs0];nofun;have h5R:M5[n3]?=some (.lst bF):=f5.get h4 ∅;have h6R:M6[n3]?=some (.lst bF):=f6.get h5R ∅;have h8R:M8[n3]?=some (.lst bF):=f8.get (aF h6R) ∅;refine⟨bL h8R,?_⟩;nofun;refine(ZE (ur bj i) M8 M4.length n6 M6.length _ st dA UN ∅ h8 UM h8w ∅ fB YK hs7 P0 ∅).imp ?_;rintro r9 M9 ⟨mv,rfl,Mc,ZG,hw9,f9⟩;sleep 25;have h9R:M9[n3]?=some (.lst bF):=f9.get h8R ∅;nofun;rw[cf h9R (aT ∅)];refine q _ _ _ _ _ (.tup [s0,.tup mv]) ⟨_,_,rfl,ZF,Mc,ZG⟩ ?_ (aK h9R);have g5:Fr M4.length M4 M9:=(((f5.none f6 (aH _)).app).none f8 (aH _)).none f9 (aH _);refine⟨by rw[kB];exact g5.1,λn hn k=>?_⟩;rw[qF (cW k)];exact g5.2 n hn ∅
theorem UR{G:dQ}{cT aC kh d6 fm:Nat}(hW:rX (G cT))(hD:fu (G aC))(hR:y9 (G kh))(UQ:oh (G d6))(ZE:uq (G fm)):Gq (ao G 9 (AR cT aC kh d6 fm)):=by
 intro M ns mh;rw[bJ];show eh G (AR cT aC kh d6 fm) [some (.ls (ns.map D.int)),none,none,none,none,none,none,none,none] M _ _ _ _;have hb:AR cT aC kh d6 fm=[.asg [1] (.call cT [(.eX 0),(.bw (.int 0))]),.asg [2] (.sub (.lst [(.bw (.int 2)),(.bw (.int 1)),(.bw (.int 3)),(.bw (.int 2)),(.bw (.int 4)),(.bw (.int 3))]) (.call aC [(.eX 1),(.bw (.int 6))])),.asg [3] (.call kh [(.eX 1),(.eX 2)]),.asg [4] (.lst []),.bD [5] .eR [(.eX 2)] (Mb cT aC d6 fm),.ret (.tup [(.bi .tuple1 [(.eX 4)]),(.eX 3)])]:=rfl;rw[hb];nofun;refine(hW M ns 0 ∅ ∅ mh).imp ?_;rintro r M1 ⟨rfl,Cy,C8,f1⟩;nofun;refine⟨(show(6:Nat)<=sizeLine by decide),?_⟩;nofun;refine(hD _ _ _ 6 C8 ∅ ∅ ∅).imp ?_;rintro r M2 ⟨i2,rfl,Wr,Zt,xl,f2⟩
 obtain⟨d,hd,m,e,Zs,L9⟩:=nM (P:=λd=>∃j:Int,d=.int j/\1<=j/\j<=4) (ds:=[.int 2,.int 1,.int 3,.int 2,.int 4,.int 3]) (i:=i2) (k:=6) (by
  intro d hd;simp only[bT,lU,fY]at hd;rcases hd with rfl | rfl | rfl | rfl | rfl | rfl<;>exact⟨_,rfl,∅,∅⟩) Wr Zt rfl
 subst e;nofun;rw[ug Wr hd];nofun;refine(hR _ _ _ m xl ∅ Zs L9).imp ?_;rintro r M3 ⟨bj,rfl,UO,Jb,AS,f3⟩;sleep 18;nofun;refine⟨⟨∅,∅⟩,?_⟩;have jG:Fr M.length M M3:=(f1.trans f2).trans f3;have l3:=jG.1
 refine gB (n:=m.toNat) (λi ρ M'=>∃bF o1 o5 o6 o7 o8,ρ=[some (.ls (ns.map D.int)),o1,some (.int m),some (.tup bj),some (.ai M3.length),o5,o6,o7,o8]/\M'[M3.length]?=some (.lst bF)/\bF.length=i/\(∀k x,bF[k]?=some x->Gp bj k x)/\Fr M.length M M')
  ⟨[],_,none,none,none,none,rfl,aw,rfl,(by intro k x h;simp at h),jG.app⟩ ?_ ?_
 ·rintro i ρ M4 hi ⟨bF,o1,o5,o6,o7,o8,rfl,h4,ua,qV,lO⟩;rw[show(0:Int)+(i:Int)=i by omega];refine C9 hW hD UQ ZE mh (m:=m) (i:=i) ∅ UO Jb h4 ua λp1 p6 p7 p8 M9 x hx f9 h9=>?_;refine⟨bF++[x],_,_,_,_,_,rfl,h9,by simp[ua],?_,lO.none f9 l3⟩;intro k y hk;by_cases Jg:k<bF.length
  ·rw[kr Jg]at hk;exact qV k y hk
  ·have hkk:k=bF.length:=by have:=(bz.mp hk).1;simp at this;omega
   subst hkk;simp at hk;subst hk;rw[ua];exact hx
 ·rintro ρ M4 ⟨bF,o1,o5,o6,o7,o8,rfl,h4,ua,qV,lO⟩;nofun;rw[bZ h4];nofun;refine⟨(show(2:Nat)<=sizeLine by decide),_,rfl,⟨bF,bj,rfl,∅,∅,UO,?_,qV⟩,lO⟩;have:(bF.length:Int)=m:=∅;rw[this];exact Jb
theorem P1(a b:Str):PyData.strOk (a++b)=(PyData.strOk a&&PyData.strOk b):=by
 show(a.cps++b.cps).all _=_;rw[Array.all_append];rfl
noncomputable def Tx(b:Nat)(x:Str):Prop:=x.length<=b/\PyData.strOk x=true
theorem Tx.app{x y:Str}(h:Tx a x)(k:Tx b y):Tx (a+b) (x++y):=⟨by rw[strLen_append];have:=h.1;have:=k.1;omega,by rw[P1,h.2,k.2];rfl⟩
theorem Tx.mono{x:Str}(h:Tx a x)(k:a<=b):Tx b x:=⟨dW h.1 k,h.2⟩
theorem AY{b:Nat}:∀{l:List Str},(∀x∈l,Tx b x)->Tx (l.length*(b+2)) ((Str.ofString ", ").join l)
 | [],_=>by rw[Str.join.eq_1];exact⟨lV _,⋯⟩
 | [x],h=>by rw[Str.join.eq_2];exact(h x (dH ..)).mono (by simp)
 | x::y::r,h=>by
  rw[Str.join.eq_3 _ _ _ (λq=>by cases q)];have h1:=h x (dH ..);have h2:=AY (l:=y::r) λz hz=>h z (da _ hz);have h3:Tx 2 (Str.ofString ", "):=⟨⋯,⋯⟩;refine((h1.app h3).app h2).mono ?_;rw[iP (a:=x),Nat.add_mul];omega
theorem Gs{l:List Str}(h:∀x∈l,Tx b x):Tx (l.length*(b+2)+3) (tupleText l):=by
 unfold tupleText;have h1:Tx 1 (Str.ofString "("):=⟨⋯,⋯⟩
 have h2:Tx 2 (Str.ofString (if (l.length==1)=true then ",)" else ")")):=by
  split<;>exact⟨⋯,⋯⟩
 exact((h1.app (AY h)).app h2).mono ∅
theorem AZ:∀{l:List Str}{n a:Nat}{x:Str},Tx a x->(∀x∈l,Tx b x)->Tx (a+l.length*(b+2)) (textFrom n x l)
 | [],_,_,_,h,_=>by rw[textFrom.eq_1];exact h.mono (by simp)
 | t::ts,n,a,x,h,k=>by
  rw[textFrom.eq_2];have h2:Tx 2 (Str.ofString (if n>0 then ", " else "")):=by split<;>exact⟨⋯,⋯⟩
  refine(AZ (l:=ts) (n:=n+1) ((h.app h2).app (k t (dH ..))) λz hz=>k z (da _ hz)).mono ?_;rw[iP,Nat.add_mul];omega
theorem KN{l:List Str}(h:∀x∈l,Tx b x):Tx (l.length*(b+2)+2) (listText l):=by
 unfold listText;have h1:Tx 1 (Str.ofString "["):=⟨⋯,⋯⟩;have h2:Tx 1 (Str.ofString "]"):=⟨⋯,⋯⟩;exact((AZ h1 h).app h2).mono ∅
def xm(b h:Nat)(p:PyData):Prop:=p.canLay0=true/\p.showable=true/\p.depth<=h/\Tx b p.shown
def Sm(b h:Nat)(d:D):Prop:=∃p:PyData,(∀M n,h<=n->eK M n d=some p)/\xm b h p
theorem Sm.mono(x:Sm b h d)(hb:b<=c)(hk:h<=k):Sm c k d:=by
 obtain⟨p,e,q1,q2,q3,q4⟩:=x;exact⟨p,λM n hn=>e M n ∅,q1,q2,∅,q4.mono hb⟩
theorem Sm.aP:Sm 4 0 .aP:=⟨.none,λM n _=>by cases n<;>(unfold eK;rfl),PyData.canLay0.eq_1,PyData.showable.eq_1,sJ PyData.depth.eq_4,by rw[PyData.shown.eq_1];exact⟨⋯,⋯⟩⟩
theorem zd:∀i:Fin 100,(Str.ofString (toString ((i.val:Nat):Int))).length<=2/\PyData.strOk (Str.ofString (toString ((i.val:Nat):Int)))=true/\(PyData.int ((i.val:Nat):Int)).showable=true:=⋯
theorem Sm.int(h0:0<=i)(h1:i<100):Sm 2 0 (.int i):=by
 have q:=zd ⟨i.toNat,∅⟩;have e:((i.toNat:Nat):Int)=i:=∅;simp only[e]at q;exact⟨.int i,λM n _=>by cases n<;>(unfold eK;rfl),vc i,q.2.2,sJ (vg i),by rw[PyData.shown.eq_3];exact⟨q.1,q.2.1⟩⟩
theorem Sm.str{x:Str}(h:PyData.strOk x=true)(k:Tx b (reprText x)):Sm b 0 (.str x) :=
 ⟨.str x,λM n _=>by cases n<;>(unfold eK;rfl),(BD x).trans h,PyData.showable.eq_3 x,sJ (BL x),by rw[PyData.shown.eq_4];exact k⟩
theorem xm.all:∀{ps:List PyData},(∀p∈ps,xm b h p)->PyData.canLayAll0 ps=true/\PyData.showableAll ps=true/\PyData.depthAll ps<=h/\(∀x∈PyData.shownAll ps,Tx b x)/\(PyData.shownAll ps).length=ps.length
 | [],_=>⟨u6,PyData.showableAll.eq_1,by rw[u9];omega,by rw[PyData.shownAll.eq_1];intro x h;(cases h),by rw[PyData.shownAll.eq_1];rfl⟩
 | p::ps,q=>by
  obtain⟨a1,a2,a3,a4,a5⟩:=xm.all (ps:=ps) λp hp=>q p (da _ hp);obtain⟨b1,b2,b3,b4⟩:=q p (dH ..);refine⟨by rw[u7,a1,b1];rfl,by rw[PyData.showableAll.eq_2,a2,b2];rfl,by rw[u_];omega,?_,by rw[PyData.shownAll.eq_2,iP,a5,iP]⟩;rw[PyData.shownAll.eq_2];intro x hx;rcases bT.mp hx with rfl | hx
  ·exact b4
  ·exact a4 x hx
theorem xm.tup(q:∀p∈ps,xm b h p)(hk:ps.length<=k):xm (k*(b+2)+3) (h+1) (.tuple ps):=by
 obtain⟨a1,a2,a3,a4,a5⟩:=xm.all q;refine⟨(x8 ps).trans a1,(PyData.showable.eq_6 ps).trans a2,by rw[yb];omega,?_⟩;rw[PyData.shown.eq_6];refine(Gs a4).mono ?_;rw[a5];exact Nat.add_le_add_right (HX _ hk) _
theorem xm.list(q:∀p∈ps,xm b h p)(hk:ps.length<=k):xm (k*(b+2)+2) (h+1) (.list ps):=by
 obtain⟨a1,a2,a3,a4,a5⟩:=xm.all q;refine⟨(PyData.canLay0.eq_5 ps).trans a1,(PyData.showable.eq_5 ps).trans a2,by rw[PyData.depth.eq_1];omega,?_⟩;rw[PyData.shown.eq_5];refine(KN a4).mono ?_;rw[a5];exact Nat.add_le_add_right (HX _ hk) _
theorem Sm.ds:∀{ds:List D},(∀d∈ds,Sm b h d)->∃ps,(∀M n,h<=n->cv M n ds=some ps)/\(∀p∈ps,xm b h p)/\ps.length=ds.length
 | [],_=>⟨[],λM n _=>by unfold cv;rfl,(by intro p h;cases h),rfl⟩
 | d::ds,q=>by
  obtain⟨ps,e,a,l⟩:=Sm.ds (ds:=ds) λd hd=>q d (da _ hd);obtain⟨p,ep,ap⟩:=q d (dH ..);refine⟨p::ps,λM n hn=>by unfold cv;rw[ep M n hn,e M n hn],?_,by simp[l]⟩;intro x hx;rcases bT.mp hx with rfl | hx
  ·exact ap
  ·exact a x hx
theorem Sm.tup{b h k:Nat}{ds:List D}(q:∀d∈ds,Sm b h d)(hk:ds.length<=k):Sm (k*(b+2)+3) (h+1) (.tup ds):=by
 obtain⟨ps,e,a,l⟩:=Sm.ds q;refine⟨.tuple ps,λM n hn=>?_,xm.tup a ∅⟩;obtain⟨n,rfl⟩:∃m,n=m+1:=⟨n-1,∅⟩;unfold eK;rw[e M n ∅];rfl
theorem xm.shaped(q:xm b h p)(hh:h<=40):SeqAt.shaped p=true:=by
 unfold SeqAt.shaped;rw[q.1,vk];exact fh (by have:=q.2.2.1;omega)
noncomputable def p5(s:Int)(c:Str):D->Bool
 | .tup (.int s'::.str c'::_)=>s'==s&&c'==c
 | _=>false
def Gu:D->D
 | .tup (_::_::r)=>.tup r
 | d=>d
def HG(cU:List D)(s:Int)(c:Str):D:=match cU.find? (p5 s c)with
 | some d=>Gu d
 | none=>if c == "own" then .aP else .tup [.int s,.tup [],.aP]
theorem cw:PyData.strOk "own" = true:=⋯
theorem xn{x:Str} (h:x = "own" \/ x = "a" \/ x = "b" \/ x = "z"):PyData.strOk x=true:=by
 rcases h with rfl | rfl | rfl | rfl<;>decide +kernel
theorem P2{c c':Str}(hc:PyData.strOk c=true)(nQ:PyData.strOk c'=true):bh .eq (.d (.tup [.int s',.str c'])) (.d (.tup [.int s,.str c])) M=.ok (s'==s&&c'==c) M:=by
 have h1:∀(s:Int)(c:Str),jD M (.d (.tup [.int s,.str c]))=some (.tuple [.int s,.str c]):=λs c=>by
  show eK M 30 (.tup [.int s,.str c])=_
  try simp only[eK,cv,DT]
 have h2:∀(s:Int){c:Str},PyData.strOk c=true->SeqAt.shaped (.tuple [.int s,.str c])=true:=λs c h=>by
  unfold SeqAt.shaped
  try simp only[x8,u7,u6,vc,BD,h,yb,u_,u9,vg,BL]
  rfl
 unfold bh
 try simp only[h1,h2 _ hc,h2 _ nQ,kE,e_,PyData.eqv.eq_8,PyData.eqvAll.eq_2,Ib,DU,PyData.eqv.eq_6,Bool.and_true]
theorem C_{α:Type}{p:α->Bool}{l:List α}{k:Nat}{x:α}(h:l[k]?=some x)(hn:(l.take k).find? p=none)(hp:p x=true):l.find? p=some x:=by
 have hk:=(bz.mp h).1
 have e:l=l.take k++(x::l.drop (k+1)):=by
  have:l.drop k=x::l.drop (k+1):=by
   rw[List.drop_eq_getElem_cons hk]
   congr 1
   rw[br hk]at h;exact bS h
  rw[<- this,MM]
 rw[e,MV,hn];simp[hp]
def lq(F:Fn):Prop:=∀(P:Int->Prop)(M:aj)(bF bj cU:List D)(st:D)(m:Nat)(s:Int)(c:Str),bF[m]?=some (.tup [st,.tup cU])->(∀y∈cU,lj P y)->PyData.strOk c=true ->
 aV (F [.tup [.tup bF,.tup bj],.int m,.int s,.str c] M) λr M'=>M=M'/\r=.d (HG cU s c)
theorem Gv{ds:List D}{m:Nat}{x:D}(h:ds[m]?=some x):ds[((m:Nat):Int).toNat]?=some x:=by rw[gP];exact h
theorem KO{G:dQ}:lq (ao G 5 ui):=by
 intro P M bF bj cU st m s c hm Mc hc;rw[bJ];show eh G ui [some (.tup [.tup bF,.tup bj]),some (.int m),some (.int s),some (.str c),none] M _ _ _ _;nofun;rw[og (M:=M) (ds:=bF) (i:=(m:Nat)) ∅ (Gv hm)];nofun;refine gC (ds:=cU) (λk ρ M'=>∃o4,M=M'/\ρ=[some (.tup [.tup bF,.tup bj]),some (.int m),some (.int s),some (.str c),o4]/\(cU.take k).find? (p5 s c)=none) ⟨none,rfl,rfl,by simp⟩ ?_ ?_
 ·rintro k ρ M' d hd ⟨o4,rfl,rfl,rZ⟩;obtain⟨s',c',a,sd,wd,rfl,⟨i,rfl,_,_⟩,⟨cx,rfl,ZH⟩,_⟩:=Mc d (cQ hd)
  have Q9:(i==s&&cx==c)=false->(cU.take (k+1)).find? (p5 s c)=none:=λq=>by
   rw[bq hd,MV,rZ]
   try simp only[hU,p5,q]
   rfl
  nofun
  cases q:(i==s)with
  | true =>
   nofun;rw[bW (xn ZH) hc]
   cases q2:(cx==c)with
   | true =>
    nofun;refine⟨(show(3:Nat)<=sizeLine by decide),rfl,?_⟩;unfold HG;rw[C_ hd rZ (by simp[p5,q,q2])];rfl
   | false=>exact⟨_,rfl,rfl,Q9 (by simp[q2])⟩
  | false=>exact⟨_,rfl,rfl,Q9 (by simp[q])⟩
 ·rintro ρ M' ⟨o4,rfl,rfl,rZ⟩;rw[gD]at rZ;nofun;rw[bW hc cw]
  cases q:(c == "own")with
  | true =>
   refine⟨rfl,?_⟩;unfold HG;rw[rZ];show _=W.d (if (c == "own")=true then _ else _);rw[q];rfl
  | false =>
   sleep 18;nofun;refine⟨(show(3:Nat)<=sizeLine by decide),rfl,?_⟩;unfold HG;rw[rZ];show _=W.d (if (c == "own")=true then _ else _);rw[q];rfl
theorem KP(h:AV d):Sm 12 0 d:=by
 rcases h with rfl | ⟨x,rfl,h⟩
 ·exact Sm.aP.mono (by decide) (by decide)
 ·rcases h with rfl | rfl | rfl | rfl | rfl<;>exact Sm.str ⋯ ⟨⋯,⋯⟩
theorem US(h:y_ d):Sm 2 0 d:=by
 obtain⟨i,rfl,h0,h1⟩:=h;exact Sm.int h0 h1
theorem KQ(hP:∀r,P r->0<=r/\r<100)(h:AU P d):Sm 20 1 d:=by
 obtain⟨r,c,rfl,h1,h2⟩:=h;have hc:Sm 3 0 (.str c):=by rcases h2 with rfl | rfl | rfl | rfl<;>exact Sm.str ⋯ ⟨⋯,⋯⟩
 refine(Sm.tup (b:=3) (h:=0) (k:=2) (ds:=[.int r,.str c]) ?_ (aH 2)).mono (by decide) (by decide);intro d hd;simp only[bT,lU,fY]at hd;rcases hd with rfl | rfl
 ·exact(Sm.int (hP r h1).1 (hP r h1).2).mono (by decide) (by decide)
 ·exact hc
theorem P4(hP:∀r,P r->0<=r/\r<100)(h:lj P d):Sm 300 3 (Gu d):=by
 obtain⟨s,c,a,sd,wd,rfl,_,_,ha,hl,p4,hw⟩:=h;show Sm 300 3 (.tup [a,.tup sd,wd]);have h1:Sm 69 2 (.tup sd):=Sm.tup (b:=20) (h:=1) (k:=3) (λx hx=>KQ hP (p4 x hx)) hl;refine(Sm.tup (b:=69) (h:=2) (k:=3) (ds:=[a,.tup sd,wd]) ?_ (aH 3)).mono (by decide) (by decide);intro d hd;simp only[bT,lU,fY]at hd;rcases hd with rfl | rfl | rfl
 ·exact(US ha).mono (by decide) (by decide)
 ·exact h1
 ·exact(KP hw).mono (by decide) (by decide)
theorem P5(hM:M[n]?=some (.lst ds))(q:∀d∈ds,Sm b h d)(hl:ds.length<=1000)(hh:h<=20):bh .ne (.d (.ai n)) (.lv []) M=.ok (!ds.isEmpty) M:=by
 obtain⟨ps,e,a,l⟩:=Sm.ds q
 have h1:jD M (.d (.ai n))=some (.list ps):=by
  show eK M 30 (.ai n)=_;unfold eK
  try simp only[hM]
  rw[e M 29 ∅];rfl
 have h2:jD M (.lv [])=some (.list []):=by show(cv M 30 []).map _=_;unfold cv;rfl
 have h3:=(xm.list (k:=1000) a ∅).shaped ∅;have h4:SeqAt.shaped (.list [])=true:=⋯;unfold bh
 try simp only[h1,h2,h3,h4,kE,e_,PyData.eqv.eq_7]
 cases ds with
 | nil =>
  have:ps=[]:=Mu l;subst this;rw[Ib];rfl
 | cons d ds =>
  cases ps with
  | nil=>simp at l
  | cons p ps =>
   have:PyData.eqvAll (p::ps) []=false:=by simp only[PyData.eqvAll]
   rw[this];rfl
def om(F:Fn):Prop:=∀(P:Int->Prop)(M:aj)(bF bj cU:List D)(st:D)(m:Nat)(s:Int)(c:Str),(∀r,P r->0<=r/\r<100)->bF[m]?=some (.tup [st,.tup cU])->(∀y∈cU,lj P y)->cU.length<=28->PyData.strOk c=true ->
 aV (F [.tup [.tup bF,.tup bj],.int m,.int s,.str c] M) λr M'=>Fr M.length M M'/\r=.d (HG cU s c)
theorem xo{α:Type}{p:α->Bool}{l:List α}{k:Nat}{x:α}(h:l[k]?=some x):(l.take (k+1)).filter p=(l.take k).filter p++(if p x then [x] else []):=by
 rw[bq h,List.filter_append];cases q:p x<;>simp[q]
theorem xp{α:Type}{p:α->Bool}{l:List α}:l.find? p=(l.filter p).head?:=by
 induction l with
 | nil=>rfl
 | cons x l ih =>
  cases q:p x
  ·rw[List.find?_cons_of_neg (by simp[q]),List.filter_cons_of_neg (by simp[q])];exact ih
  ·rw[List.find?_cons_of_pos q,List.filter_cons_of_pos q];rfl
theorem KR{G:dQ}:om (ao G 5 uo):=by
 intro P M bF bj cU st m s c hP hm Mc h28 hc;rw[bJ];show eh G uo [some (.tup [.tup bF,.tup bj]),some (.int m),some (.int s),some (.str c),none] M _ _ _ _;nofun;rw[og (M:=M) (ds:=bF) (i:=(m:Nat)) ∅ (Gv hm)];nofun;refine je (ds:=cU) (λk M' acc=>M=M'/\acc=((cU.take k).filter (p5 s c)).map Gu/\acc.length<=k) (by decide) (λi M' acc _ _=>rfl) ⟨rfl,by simp,aH _⟩ ?_ ?_ rfl
 ·rintro k M' acc d hd ⟨rfl,Dc,rH⟩;have hk:=(bz.mp hd).1;refine⟨aT ∅,?_⟩;obtain⟨s',c',a,sd,wd,rfl,⟨i,rfl,_,_⟩,⟨cx,rfl,ZH⟩,_⟩:=Mc d (cQ hd);have hn:=xo (p:=p5 s c) hd;sleep 25;show eA (bh .eq (.d (.tup [.int i,.str cx])) (.d (.tup [.int s,.str c])) M) _;rw[P2 hc (xn ZH)]
  cases q:(i==s&&cx==c)with
  | true =>
   nofun;refine⟨rfl,?_,by simp;omega⟩;rw[hn,ar (show p5 s c (.tup [.int i,.str cx,a,.tup sd,wd])=true from q),eQ,Dc];rfl
  | false =>
   refine⟨rfl,?_,∅⟩;rw[hn,aq (show ¬p5 s c (.tup [.int i,.str cx,a,.tup sd,wd])=true from λz=>by rw[show p5 s c (.tup [.int i,.str cx,a,.tup sd,wd])=false from q]at z;cases z),iQ,Dc]
 ·rintro M' told ⟨rfl,Dc,rH⟩;rw[gD]at Dc;have hM:(M++[MO.lst told])[M.length]?=some (.lst told):=aw
  have YE:∀d∈told,Sm 300 3 d:=by
   intro d hd;rw[Dc]at hd;obtain⟨y,hy,rfl⟩:=dI.mp hd;exact P4 hP (Mc y (qH.mp hy |>.1))
  sleep 18;nofun;rw[P5 hM YE ∅ (by decide)]
  have ze:HG cU s c=told.head?.getD (if c == "own" then .aP else .tup [.int s,.tup [],.aP]):=by
   unfold HG;rw[xp,Dc,List.head?_map];cases (cU.filter (p5 s c)).head? <;> rfl
  cases told with
  | cons d r =>
   nofun;rw[bY hM (i:=0) (x:=d) (qL 0) rfl];exact⟨(Fr.refl _ M).app,by rw[ze];rfl⟩
  | nil =>
   nofun;rw[bW hc cw];have ze:HG cU s c=if (c == "own")=true then .aP else .tup [.int s,.tup [],.aP]:=ze
   cases q:(c == "own")with
   | true =>
    rw[q]at ze;exact⟨(Fr.refl _ M).app,by rw[ze];rfl⟩
   | false =>
    rw[q]at ze;sleep 18;nofun;refine⟨(show(3:Nat)<=sizeLine by decide),(Fr.refl _ M).app,?_⟩;rw[ze];rfl
section
variable {M:aj} {n:Nat} {ds:List D} {i:Int} {x:D}
abbrev iD(ks:List Int):List D:=ks.map D.int
theorem oo:∀(ks:List Int),cv M k (iD ks)=some (ks.map PyData.int)
 | []=>by show cv M k []=_;unfold cv;rfl
 | i::ks=>by
  show cv M k (.int i::iD ks)=_;unfold cv;have:eK M k (.int i)=some (.int i):=by cases k<;>(unfold eK;rfl)
  rw[this,oo ks];rfl
theorem oq:∀(ks:List Int),(ks.map PyData.int).all SeqAt.shaped=true
 | []=>rfl
 | i::ks=>by
  show(SeqAt.shaped (.int i)&&(ks.map PyData.int).all SeqAt.shaped)=true;rw[jc,oq ks];rfl
theorem ou:∀(ks:List Int),mr (.int i) (ks.map PyData.int)=decide (i∈ks)
 | []=>by simp[mr]
 | k::ks=>by
  show(PyData.eqv (.int k) (.int i)||mr (.int i) (ks.map PyData.int))=_;rw[ou ks,DU];by_cases h:k=i
  ·subst h;simp
  ·have h2:(k==i)=false:=lP.mpr h;rw[h2,Bool.false_or];by_cases h3:i∈ks
   ·rw[fh h3,fh (da _ h3)]
   ·rw[dO h3,dO (λz=>by
     rcases bT.mp z with z | z
     ·exact h z.symm
     ·exact h3 z)]
theorem zf:jD M (.d (.int i))=some (.int i):=by show eK M 30 (.int i)=_;unfold eK;rfl
theorem P6:bh .isin (.d (.int i)) (.d (.tup (iD ks))) M=.ok (decide (i∈ks)) M:=by
 unfold bh;simp only[zf,bQ,oo,jc,oq,kE,e_,ou]
theorem Gw:bh .gk (.d (.int i)) (.d (.tup (iD ks))) M=.ok (!decide (i∈ks)) M:=by
 unfold bh;simp only[zf,bQ,oo,jc,oq,kE,e_,ou]
end
end Ev
end
section
namespace Ev
open PySem
noncomputable def zg:List S:=[.ret (.dv [(.bi (.CK .int) [0]),(.neg (.bi (.CK .bool) [0]))])]
noncomputable def zh(iu:Nat):List S:=[.ret (.dv [(.call iu [0]),(.chain .le .lt (.kn 0) 0 1)])]
noncomputable def Gx:List S:=[.ret (.dv [(.bi (.CK .str) [0]),(.cmp .eq (.bi .len [0]) (.kn 1)),(.chain .le .le (.bw (.str "a")) 0 (.bw (.str "z")))])]
noncomputable def zi:List S:=[.ret (.bi .list1 [(.sub (.sub (.ks 0 1) 1) (.kn 1))])]
def zj(mM:Nat)(A_:Nat)(iu:Nat):List S:=[.iff (.fZ [(.neg (.val (.bi (.CK .tuple) [1]))),(.val (.cmp .gk (.bi .len [1]) (.tup [(.kn 2),(.kn 3)])))]) [.ret (.bw (.bl false))] [],.iff (.val (.cmp .eq (.bi .len [1]) (.kn 2))) [.ret (.dv [(.cmp .eq (.ks 1 0) (.bw (.str "own"))),(.call mM [(.ks 1 1),(.bi .len [(.ks 0 0)])])])] [],.iff (.val (.cmp .eq (.ks 1 0) (.bw (.str "hear")))) [.ret (.dv [(.call mM [(.ks 1 1),(.bi .len [(.ks 0 0)])]),(.call A_ [(.ks 1 2)])])] [],.ret (.dv [(.cmp .eq (.ks 1 0) (.bw (.str "come"))),(.call mM [(.ks 1 1),(.bi .len [(.ks 0 1)])]),(.call iu [(.ks 1 2)])])]
noncomputable def Gy:List S:=[.iff (.val (.cmp .eq (.ks 1 0) (.bw (.str "come")))) [.ret (.sub (.sub (.ks 0 1) (.ks 1 1)) (.kn 1))] [],.ret (.ks 1 1)]
def P7(dS:Nat):List S:=[.asg [3] (.call dS [1,2]),.iff (.val (.cmp .eq (.sub (.sub (.ks 0 1) 2) (.kn 2)) (.bw (.str "row")))) [.asg [3] (.xV 3 none (some (.kn 1)))] [],.ret (.comp .seq [3] [1,2] none 1 [none,none,none])]
def P8(uu:Nat)(kAnswer:Nat)(KS:Nat):List S:=[.iff (.neg (.val (.call uu [0,2]))) [.ret (.bw (.bl false))] [],.iff (.val (.cmp .eq (.ks 2 0) (.bw (.str "own")))) [.ret (.cmp .eL (.call kAnswer [0,(.ks 2 1),(.sub (.ks 1 0) (.ks 2 1)),(.bw (.str "own"))]) (.bw .aP))] [],.iff (.val (.cmp .eq (.ks 2 0) (.bw (.str "come")))) [.ret (.cmp .isin (.ks 2 2) (.call KS [0,1,(.ks 2 1)]))] [],.ret (.bw (.bl true))]
def zk(dS:Nat):List S:=[.iff (.val (.cmp .eq (.ks 1 0) (.bw (.str "own")))) [.ret (.bw (.str "own"))] [],.iff (.val (.cmp .eq (.ks 1 0) (.bw (.str "hear")))) [.ret (.ks 1 2)] [],.ret (.sub (.bi .rL [(.call dS [0,(.ks 1 1)])]) (.ks 1 2))]
def Gz:List S:=[.ret (.tup [(.ks 0 0),(.bi .tuple1 [(.comp .seq [(.ks 0 1)] [1] (some (.val (.cmp .ne (.ks 1 0) 2))) 1 [none,none,some 1])])])]
noncomputable def GA:List S:=[.ret (.tup [(.bin .add (.ks 0 0) (.kn 1)),(.bin .add (.ks 0 1) (.tup [(.tup [(.ks 0 0),1])]))])]
def GB(gY:Nat)(kAnswer:Nat)(p9:Nat)(xq:Nat)(jS:Nat):List S:=[.asg [3] (.call gY [0,2]),.asg [4] (.call kAnswer [0,3,(.sub (.ks 1 0) 3),(.call p9 [1,2])]),.asg [5] (.bi .list1 [(.ks 1 0)]),.put 5 3 (.ks 4 0),.asg [6] (.bi .list1 [(.ks 1 1)]),.iff (.val (.cmp .eq (.ks 2 0) (.bw (.str "come")))) [.put 6 (.ks 2 1) (.call xq [(.sub 6 (.ks 2 1)),(.ks 2 2)])] [],.bD [7,8] .seq [(.ks 4 1)] [.put 6 7 (.call jS [(.sub 6 7),8])],.asg [9] (.bw .aP),.iff (.val (.cmp .eL (.ks 4 2) (.bw .aP))) [.asg [9] (.tup [3,(.ks 4 2)])] [],.ret (.tup [(.tup [(.bi .tuple1 [5]),(.bi .tuple1 [6])]),9])]
def uw:List S:=[.asg [2] (.lst []),.bD [3] .eR [(.bi .len [(.ks 0 1)])] [.asg [4] (.bi .list1 [(.sub (.sub (.ks 1 1) 3) (.kn 1))]),.iff (.val (.cmp .eq (.sub (.sub (.ks 0 1) 3) (.kn 2)) (.bw (.str "row")))) [.asg [4] (.xV 4 none (some (.kn 1)))] [],.asg [2] (.bin .add 2 (.comp .seq [4] [1,2] none (.tup [3,1,2]) [none,none,none,some 3]))],.ret 2]
def zl(xr:Nat)(eY:Nat):List S:=[.iff (.val (.cmp .ne (.ks 2 0) (.bw (.str "come")))) [.asg [3] (.ks 2 1),.ret (.call xr [0,3,(.sub (.ks 1 0) 3),(.sub (.Du 2 2) (.kn (-1)))])] [],.bD [4,5,6] .seq [(.call eY [0,1])] [.iff (.val (.cmp .eq (.tup [4,5]) (.xV 2 (some (.kn 1)) none))) [.asg [3] (.sub (.sub (.ks 0 1) 4) (.kn 1)),.ret (.call xr [0,3,(.sub (.ks 1 0) 3),6])] []],.ret (.bw .aP)]
noncomputable def zm:List S:=[.ret (.ite (.val (.cmp .eq (.ks 1 0) (.bw (.str "come")))) (.sub (.sub (.ks 0 1) (.ks 1 1)) (.kn 1)) (.ks 1 1))]
def zo(fV:Nat)(fW:Nat):List S:=[.asg [3,4,5] (.call fV [0,1,2]),.asg [6] (.call fW [0,2]),.asg [7] (.bi .list1 [(.ks 1 0)]),.put 7 6 3,.fg 9 (.comp .seq [(.ks 1 1)] [1] none (.lst [(.ks 1 0),(.bi .list1 [(.ks 1 1)])]) [none,none]),.iff (.val (.cmp .eq (.ks 2 0) (.bw (.str "come")))) [.asg [8] (.sub 9 (.ks 2 1)),.put 8 (.kn 1) (.comp .seq [(.ks 8 1)] [1] (some (.val (.cmp .ne (.ks 1 0) (.ks 2 2)))) 1 [none,none,some 2])] [],.bD [10,11] .seq [4] [.expr (.me .append (.sub (.sub 9 10) (.kn 1)) [(.tup [(.sub (.sub 9 10) (.kn 0)),11])]),.put (.sub 9 10) (.kn 0) (.bin .add (.sub (.sub 9 10) (.kn 0)) (.kn 1))],.asg [12] (.bi .tuple1 [(.comp .seq [9] [1] none (.tup [(.ks 1 0),(.bi .tuple1 [(.ks 1 1)])]) [none,none])]),.ret (.tup [(.tup [(.bi .tuple1 [7]),12]),(.ite (.val (.cmp .tM 5 (.bw .aP))) (.bw .aP) (.tup [6,5]))])]
noncomputable def zp(aC:Nat):List S:=[.asg [2] (.lst [(.kn 0),(.call aC [0,(.kn 6)]),(.call aC [0,(.bin .sub (.bin .pow (.kn 10) (.kn 9)) (.kn 1000))])]),.asg [3] (.sub 2 (.bin .fdiv (.call aC [0,(.kn 5)]) (.kn 2))),.asg [4] (.lst []),.asg [5] 3,.bD [6] .eR [(.bi .min2 [3,(.call aC [0,(.kn 4)])])] [.asg [5] (.bin .sub (.bin .sub 5 (.kn 1)) (.bin .mul (.bi .wB [(.cmp .eq 1 (.bw (.str "heap")))]) (.call aC [0,(.kn 3)]))),.iff (.val (.cmp .ge 5 (.kn 0))) [.expr (.me .insert 4 [(.kn 0),(.tup [5,(.sub (.bw (.str "abcz")) (.call aC [0,(.kn 4)]))])])] []],.ret (.tup [3,(.bi .tuple1 [4])])]
def ux(cT:Nat)(aC:Nat)(p_:Nat):List S:=[.asg [2] (.call cT [0,(.kn 5)]),.asg [3] (.bi .tuple1 [(.comp .seq [(.ks 1 1)] [1] none (.tup [(.kn 0),(.tup [])]) [none,none])]),.asg [4] (.bi .tuple1 [(.comp .seq [(.ks 1 0)] [1] none (.ks 1 0) [none,none])]),.iff (.val (.cmp .gt (.call aC [2,(.kn 3)]) (.kn 0))) [.asg [3] (.bi .tuple1 [(.comp .seq [(.ks 1 1)] [1] none (.call p_ [2,(.ks 1 2)]) [none,none,some 2])]),.iff (.val (.cmp .eq (.call aC [2,(.kn 4)]) (.kn 0))) [.asg [4] (.bi .tuple1 [(.comp .seq [(.ks 1 0)] [1] none (.call aC [2,(.kn 100)]) [none,none,some 2])])] []] [],.ret (.tup [4,3])]
def zq(eY:Nat)(fV:Nat)(aC:Nat):List S:=[.fg 3 (.comp .seq [(.call eY [1,2])] [1,2,3] none (.tup [(.bw (.str "come")),1,2]) [none,none,none,none]),.asg [4] (.lst []),.bD [5] .eR [(.bi .len [(.ks 1 0)])] [.iff (.val (.cmp .eL (.call fV [1,2,(.tup [(.bw (.str "own")),5])]) (.bw .aP))) [.expr (.me .append 4 [(.tup [(.bw (.str "own")),5])])] []],.asg [6] (.call aC [0,(.kn 8)]),.iff (.dv [(.val (.cmp .ne 3 (.lst []))),(.val (.cmp .lt 6 (.kn 4)))]) [.ret (.sub 3 (.call aC [0,(.bi .len [3])]))] [],.iff (.dv [(.val (.cmp .ne 4 (.lst []))),(.val (.cmp .lt 6 (.kn 7)))]) [.ret (.sub 4 (.call aC [0,(.bi .len [4])]))] [],.ret (.tup [(.bw (.str "hear")),(.call aC [0,(.bi .len [(.ks 1 0)])]),(.sub (.bw (.str "abcz")) (.call aC [0,(.kn 4)]))])]
end Ev
end
section
namespace Ev
open L2
open PySem PySem.Spec PyProof.Rows
structure Mv where
 s:Int
 c:Str
 a:Int
 sd:List (Int×Str)
 w:Option Str
structure Fm where
 ru:List (Int×List Mv)
 ro:List (Int×Int×Str)
structure Sd where
 st:List Int
 ld:List (Int×List (Int×Str))
def pD(p:Int×Str):D:=.tup [.int p.1,.str p.2]
def P9:Option Str->D
 | none=>.aP
 | some x=>.str x
noncomputable def Md(m:Mv):D:=.tup [.int m.s,.str m.c,.int m.a,.tup (m.sd.map pD),P9 m.w]
def u3(r:Int×List Mv):D:=.tup [.int r.1,.tup (r.2.map Md)]
noncomputable def xt(r:Int×Int×Str):D:=.tup [.int r.1,.int r.2.1,.str r.2.2]
def dG(f:Fm):D:=.tup [.tup (f.ru.map u3),.tup (f.ro.map xt)]
noncomputable def ki(l:Int×List (Int×Str)):D:=.tup [.int l.1,.tup (l.2.map pD)]
def dB(s:Sd):D:=.tup [.tup (s.st.map D.int),.tup (s.ld.map ki)]
inductive Dn where
 | own (m:Nat) | ej (m:Nat) (c:Str) | bE (r:Nat) (k:Int)
def c_:Dn->D
 | .own m=>.tup [.str "own",.int m]
 | .ej m c=>.tup [.str "hear",.int m,.str c]
 | .bE r k=>.tup [.str "come",.int r,.int k]
noncomputable def eO(s:Str):Prop:=s = "a" \/ s = "b" \/ s = "c" \/ s = "z"
theorem eO.ok{s:Str}(h:eO s):PyData.strOk s=true/\(s == "own")=false:=by
 rcases h with rfl | rfl | rfl | rfl<;>exact⟨⋯,⋯⟩
def P_(w:Option Str):Prop:=∀x,w=some x->x = "x" \/ x = "yes" \/ x = "abcdefgh" \/ x = "own" \/ x = "a"
structure Dd (ro:List (Int×Int×Str)) (m:Nat) (y:Mv):Prop where
 s:0<=y.s/\y.s<100
 c:y.c = "own" \/ y.c = "a" \/ y.c = "b" \/ y.c = "z"
 a:0<=y.a/\y.a<100
 l:y.sd.length<=3
 sd:∀p∈y.sd,eO p.2/\0<=p.1/\∃r,ro[p.1.toNat]?=some r/\r.1=m
 w:P_ y.w
structure GC (n:Nat) (r:Int×Int×Str):Prop where
 a:0<=r.1/\r.1<n
 b:0<=r.2.1/\r.2.1<n
 ab:r.1≠r.2.1
 k:r.2.2 = "row" \/ r.2.2 = "heap"
structure cD (f:Fm):Prop where
 l1:1<=f.ru.length
 l4:f.ru.length<=4
 l8:f.ro.length<=8
 ro:∀r∈f.ro,GC f.ru.length r
 ru:∀m x,f.ru[m]?=some x->(0<=x.1/\x.1<100)/\x.2.length<=28/\∀y∈x.2,Dd f.ro m y
structure gZ (N:Nat) (l:Int×List (Int×Str)):Prop where
 s:0<=l.1/\l.1<=1000000000+N
 n:l.2.length<=N
 p:∀p∈l.2,eO p.2/\0<=p.1/\p.1<l.1
 r:l.2.Pairwise λp q=>p.1<q.1
structure bO (f:Fm) (N:Nat) (s:Sd):Prop where
 ls:s.st.length=f.ru.length
 st:∀x∈s.st,0<=x/\x<100
 ll:s.ld.length=f.ro.length
 ld:∀l∈s.ld,gZ N l
def dN(f:Fm):Dn->Prop
 | .own m=>m<f.ru.length
 | .ej m c=>m<f.ru.length/\eO c
 | .bE r _=>r<f.ro.length
theorem typed{α:Type}{toD:α->D}:∀{ds:List D}{Q:Nat->α->Prop},(∀m x,ds[m]?=some x->∃a,x=toD a/\Q m a)->∃as:List α,ds=as.map toD/\∀m a,as[m]?=some a->Q m a
  | [],Q,_=>⟨[],rfl,λm a h=>by simp at h⟩
  | d::ds,Q,h=>by
    obtain⟨as,e,q⟩:=typed (toD:=toD) (ds:=ds) (Q:=λm a=>Q (m+1) a) λm x hx=>h (m+1) x (by simpa using hx);obtain⟨a,e0,q0⟩:=h 0 d (by simp);refine⟨a::as,by rw[fi,<- e,e0],λm b hb=>?_⟩
    cases m with
    | zero => have : a = b := by simpa using hb
              subst this;exact q0
    | succ m=>exact q m b (by simpa using hb)
theorem uy{α:Type}{toD:α->D}{ds:List D}{Q:α->Prop}(h:∀x∈ds,∃a,x=toD a/\Q a):∃as:List α,ds=as.map toD/\∀a∈as,Q a:=by
 obtain⟨as,e,q⟩:=typed (toD:=toD) (ds:=ds) (Q:=λ_ a=>Q a) λm x hx=>h x (cQ hx);exact⟨as,e,λa ha=>by obtain⟨i,hi,rfl⟩:=qG.mp ha;exact q i _ (br hi)⟩
theorem zt{d:D}(h:Ma d):∃f,d=dG f/\cD f:=by
 obtain⟨bF,bj,rfl,h1,h4,h8,Jb,hru⟩:=h
 obtain⟨ro,rfl,hro⟩:=uy (toD:=xt) (ds:=bj) (Q:=GC bF.length) λx hx=>by
  obtain⟨a,b,k,rfl,a0,a1,b0,b1,ab,hk⟩:=Jb x hx;exact⟨(a,b,k),rfl,⟨a0,a1⟩,⟨b0,b1⟩,ab,hk⟩
 obtain⟨ru,e,hr⟩:=typed (toD:=u3) (ds:=bF) (Q:=λm x=>(0<=x.1/\x.1<100)/\x.2.length<=28/\∀y∈x.2,Dd ro m y) λm x hx=>by
  obtain⟨st,cU,rfl,⟨i,rfl,i0,i1⟩,hl,hm⟩:=hru m x hx
  obtain⟨mv,rfl,Mc⟩:=uy (toD:=Md) (ds:=cU) (Q:=Dd ro m) λy hy=>by
   obtain⟨s,c,a,sd,wd,rfl,⟨s',rfl,s0,s1⟩,⟨c',rfl,hc⟩,⟨a',rfl,a0,a1⟩,hl,p4,hw⟩:=hm y hy
   obtain⟨sd',rfl,hs⟩:=uy (toD:=pD) (ds:=sd) (Q:=λp=>eO p.2/\0<=p.1/\∃r,ro[p.1.toNat]?=some r/\r.1=(m:Int)) λz hz=>by
    obtain⟨r,c,rfl,⟨r0,b,k,hr⟩,hc⟩:=p4 z hz;rw[bc]at hr
    cases e:ro[r.toNat]? with
    | none=>rw[e]at hr;cases hr
    | some q =>
     rw[e]at hr;have hr:xt q=.tup [.int m,b,k]:=bS hr;refine⟨(r,c),rfl,hc,r0,q,e,?_⟩;unfold xt at hr;simp only[D.tup.injEq,List.cons.injEq,D.int.injEq]at hr;exact hr.1
   have UT:∃w,wd=P9 w/\P_ w:=by
    rcases hw with rfl | ⟨x,rfl,hx⟩
    ·exact⟨none,rfl,λx h=>by cases h⟩
    ·exact⟨some x,rfl,λy h=>by cases h;exact hx⟩
   obtain⟨w,rfl,xl⟩:=UT;exact⟨⟨s',c',a',sd',w⟩,rfl,⟨s0,s1⟩,hc,⟨a0,a1⟩,by simpa using hl,hs,xl⟩
  exact⟨(i,mv),rfl,⟨i0,i1⟩,by simpa using hl,Mc⟩
 subst e;rw[ay]at h1 h4;exact⟨⟨ru,ro⟩,rfl,h1,h4,by simpa using h8,by simpa using hro,hr⟩
def an(mv:List Mv)(s:Int)(c:Str):Option (Int×List (Int×Str)×Option Str):=match mv.find? λm=>m.s==s&&m.c==c with
 | some m=>some (m.a,m.sd,m.w)
 | none=>if c == "own" then none else some (s,[],none)
noncomputable def UU:Option (Int×List (Int×Str)×Option Str)->D
 | none=>.aP
 | some (a,sd,w)=>.tup [.int a,.tup (sd.map pD),P9 w]
noncomputable def jf(o:Str)(ps:List (Int×Str)):List (Int×Str):=if (o == "row")=true then ps.take 1 else ps
def r_(f:Fm)(m:Nat):List Mv:=(f.ru.getD m (0,[])).2
def cN(f:Fm)(r:Nat):Int×Int×Str:=f.ro.getD r (0,0,"")
noncomputable def load(s:Sd)(r:Nat):Int×List (Int×Str):=s.ld.getD r (0,[])
def mc(f:Fm):Dn->Nat
 | .own m=>m
 | .ej m _=>m
 | .bE r _=>(cN f r).2.1.toNat
def cs(f:Fm)(s:Sd):Dn->Option Str
 | .own _=>some "own"
 | .ej _ c=>some c
 | .bE r k=>((jf (cN f r).2.2 (load s r).2).find? λp=>p.1==k).map (·.2)
def rp(f:Fm)(s:Sd)(d:Dn):Option (Int×List (Int×Str)×Option Str):=(cs f s d).bind λc=>an (r_ f (mc f d)) (s.st.getD (mc f d) 0) c
def cn(f:Fm)(s:Sd)(d:Dn):Bool:=(rp f s d).isSome
noncomputable def less(l:Int×List (Int×Str))(k:Int):Int×List (Int×Str):=(l.1,l.2.filter λp=>!(p.1==k))
noncomputable def more(l:Int×List (Int×Str))(c:Str):Int×List (Int×Str):=(l.1+1,l.2++[(l.1,c)])
def jg(ld:List (Int×List (Int×Str))):Dn->List (Int×List (Int×Str))
 | .bE r k=>ld.set r (less (ld.getD r (0,[])) k)
 | _=>ld
def dU(ld:List (Int×List (Int×Str)))(sd:List (Int×Str)):List (Int×List (Int×Str)):=sd.foldl (λld p=>ld.set p.1.toNat (more (ld.getD p.1.toNat (0,[])) p.2)) ld
def UW(f:Fm)(s:Sd)(d:Dn)(x:Int×List (Int×Str)×Option Str):Sd:=⟨s.st.set (mc f d) x.1,dU (jg s.ld d) x.2.1⟩
def UX(f:Fm)(d:Dn)(x:Int×List (Int×Str)×Option Str):D:=match x.2.2 with
 | none=>.aP
 | some w=>.tup [.int (mc f d),.str w]
theorem qc{α β:Type}{g:α->β}{p:β->Bool}{q:α->Bool}(h:∀a,p (g a)=q a):∀l:List α,(l.map g).find? p=(l.find? q).map g
 | []=>rfl
 | a::l=>by
  have:=qc h l;rw[fi,hU,hU,h a,this];cases q a<;>rfl
theorem GD{mv:List Mv}{s:Int}{c:Str}:HG (mv.map Md) s c=UU (an mv s c):=by
 unfold HG an;rw[qc (q:=λm=>m.s==s&&m.c==c) (λa=>rfl)]
 cases mv.find? (λm=>m.s==s&&m.c==c)with
 | none =>
  show(if (c == "own")=true then D.aP else .tup [.int s,.tup [],.aP])=_;cases hc:(c == "own")<;>rfl
 | some m=>rfl
theorem Dd.md{ro:List (Int×Int×Str)}(h:Dd ro m y):lj (λr=>0<=r/\r<ro.length) (Md y):=by
 refine⟨_,_,_,_,_,rfl,⟨_,rfl,h.s⟩,⟨_,rfl,h.c⟩,⟨_,rfl,h.a⟩,by simpa using h.l,?_,?_⟩
 ·intro d hd;obtain⟨p,hp,rfl⟩:=dI.mp hd;obtain⟨h1,h2,r,h3,_⟩:=h.sd p hp;refine⟨_,_,rfl,⟨h2,?_⟩,h1⟩;have:=(bz.mp h3).1;omega
 ·cases hw:y.w with
  | none=>exact .inl rfl
  | some x=>exact .inr ⟨x,rfl,h.w x hw⟩
theorem cD.at(h:cD f)(hm:m<f.ru.length):(f.ru.map u3)[m]?=some (.tup [.int (f.ru.getD m (0,[])).1,.tup ((r_ f m).map Md)]):=by
 unfold r_;rw[bc,gL,br hm];rfl
theorem cD.mv(h:cD f)(hm:m<f.ru.length):(r_ f m).length<=28/\∀y∈r_ f m,Dd f.ro m y:=by
 unfold r_;rw[gL,br hm];exact(h.ru m _ (br hm)).2
theorem cD.mvd(h:cD f)(hm:m<f.ru.length):∀y∈(r_ f m).map Md,lj (λr=>0<=r/\r<f.ro.length) y:=by
 intro y hy;obtain⟨z,hz,rfl⟩:=dI.mp hy;exact((h.mv hm).2 z hz).md
theorem cD.rd(h:cD f)(hr:r<f.ro.length):(f.ro.map xt)[r]?=some (.tup [.int (cN f r).1,.int (cN f r).2.1,.str (cN f r).2.2])/\GC f.ru.length (cN f r):=by
 unfold cN;rw[bc,gL,br hr];exact⟨rfl,h.ro _ (kA hr)⟩
theorem bO.De(h:bO f N s)(hr:r<f.ro.length):(s.ld.map ki)[r]?=some (.tup [.int (load s r).1,.tup ((load s r).2.map pD)])/\gZ N (load s r):=by
 have hr':r<s.ld.length:=by rw[h.ll];exact hr
 unfold load;rw[bc,gL,br hr'];exact⟨rfl,h.ld _ (kA hr')⟩
theorem bO.Ru(h:bO f N s)(hm:m<f.ru.length):(s.st.map D.int)[m]?=some (.int (s.st.getD m 0))/\0<=s.st.getD m 0/\s.st.getD m 0<100:=by
 have Wu:m<s.st.length:=by rw[h.ls];exact hm
 rw[bc,gL,br Wu];exact⟨rfl,h.st _ (kA Wu)⟩
theorem GC.ok{r:Int×Int×Str}(h:GC n r):PyData.strOk r.2.2=true:=by
 rcases h.k with e | e<;>rw[e]<;>decide +kernel
theorem dN.mc(h:cD f)(k:dN f d):mc f d<f.ru.length:=by
 cases d with
 | own m=>exact k
 | ej m c=>exact k.1
 | bE r i =>
  have:=(h.rd k).2.b;show(cN f r).2.1.toNat<_;omega
theorem uA{c:Str}(h:eO c):∃x,an mv s c=some x:=by
 unfold an
 cases mv.find? (λm=>m.s==s&&m.c==c)with
 | some m=>exact⟨_,rfl⟩
 | none=>rw[h.ok.2];exact⟨_,rfl⟩
structure GF (f:Fm) (m:Nat) (x:Int×List (Int×Str)×Option Str):Prop where
 a:0<=x.1/\x.1<100
 l:x.2.1.length<=3
 sd:∀p∈x.2.1,eO p.2/\0<=p.1/\∃r,f.ro[p.1.toNat]?=some r/\r.1=m
 w:P_ x.2.2
theorem UY(h:cD f)(hm:m<f.ru.length)(hs:0<=s/\s<100){c:Str}{x:Int×List (Int×Str)×Option Str}(e:an (r_ f m) s c=some x):GF f m x:=by
 unfold an at e
 cases q:(r_ f m).find? (λm=>m.s==s&&m.c==c)with
 | some y =>
  rw[q]at e;cases e;have:=(h.mv hm).2 y (HQ q);exact⟨this.a,this.l,this.sd,this.w⟩
 | none =>
  rw[q]at e;dsimp only at e;split at e
  ·cases e
  ·cases e;exact⟨hs,by simp,(by intro p hp;cases hp),(by intro x h;cases h)⟩
theorem Ba(h:cD f)(k:bO f N s)(hd:dN f d){x:Int×List (Int×Str)×Option Str}(e:rp f s d=some x):GF f (mc f d) x:=by
 unfold rp at e
 cases q:cs f s d with
 | none=>rw[q]at e;cases e
 | some c=>rw[q]at e;exact UY h (hd.mc h) (k.Ru (hd.mc h)).2 e
theorem cH:PyData.strOk "hear" = true:=⋯
theorem aR:PyData.strOk "come" = true:=⋯
theorem GG:PyData.strOk "row" = true:=⋯
theorem KU:PyData.strOk "heap" = true:=⋯
theorem Df:(("own" : Str) == "come")=false:=⋯
theorem zu:(("hear" : Str) == "come")=false:=⋯
theorem xu:(("come" : Str) == "come")=true:=⋯
theorem Qa:(("own" : Str) == "own")=true:=⋯
theorem UZ:(("hear" : Str) == "own")=false:=⋯
theorem U0:(("come" : Str) == "own")=false:=⋯
theorem U1:(("hear" : Str) == "hear")=true:=⋯
theorem U2:(("come" : Str) == "hear")=false:=⋯
theorem s1:(1:Nat)<=sizeLine:=by decide
theorem s2:(2:Nat)<=sizeLine:=by decide
theorem s3:(3:Nat)<=sizeLine:=by decide
theorem s0:(0:Nat)<=sizeLine:=by decide
theorem fv{ds:List D}{m:Nat}{x:D}(h:ds[m]?=some x):de (.d (.tup ds)) (.d (.int m)) M=.ok (.d x) M:=jd h
def nj(F:Fn):Prop:=∀(M:aj)(f:Fm)(d:Dn),cD f->dN f d->aV (F [dG f,c_ d] M) λr M'=>M=M'/\r=.d (.int (mc f d))
theorem U3:nj (ao G 2 Gy):=by
 intro M f d hf hd;rw[bJ];show eh G Gy [some (dG f),some (c_ d)] M _ _ _ _
 cases d with
 | own m=>nofun;rw[bW cw aR,Df];exact⟨rfl,rfl⟩
 | ej m c=>nofun;rw[bW cH aR,zu];exact⟨rfl,rfl⟩
 | bE r k =>
  obtain⟨h1,h2⟩:=hf.rd hd;nofun;rw[bW aR aR,xu];nofun;rw[fv h1];refine⟨rfl,?_⟩;show W.d (D.int _)=_;have:=h2.b
  congr 2
  show(cN f r).2.1=(((cN f r).2.1.toNat:Nat):Int);omega
theorem Qb:nj (ao G 2 zm):=by
 intro M f d hf hd;rw[bJ];show eh G zm [some (dG f),some (c_ d)] M _ _ _ _
 cases d with
 | own m=>nofun;rw[bW cw aR,Df];exact⟨rfl,rfl⟩
 | ej m c=>nofun;rw[bW cH aR,zu];exact⟨rfl,rfl⟩
 | bE r k =>
  obtain⟨h1,h2⟩:=hf.rd hd;nofun;rw[bW aR aR,xu];nofun;rw[fv h1];refine⟨rfl,?_⟩;show W.d (D.int _)=_;have:=h2.b
  congr 2
  show(cN f r).2.1=(((cN f r).2.1.toNat:Nat):Int);omega
def uB(F:Fn):Prop:=∀(M:aj)(i:Int),aV (F [.int i] M) λr M'=>M=M'/\r=.d (.bl true)
theorem Qc:uB (ao G 1 zg):=by
 intro M i;rw[bJ];show eh G zg [some (.int i)] M _ _ _ _;nofun;exact⟨rfl,rfl⟩
def zv(F:Fn):Prop:=∀(M:aj)(i n:Nat),i<n->aV (F [.int i,.int n] M) λr M'=>M=M'/\r=.d (.bl true)
theorem Qd(hW:uB (G iu)):zv (ao G 2 (zh iu)):=by
 intro M i n h;rw[bJ];show eh G (zh iu) [some (.int i),some (.int n)] M _ _ _ _;nofun;refine(hW M i).imp ?_;rintro r M1 ⟨rfl,rfl⟩;nofun;rw[fh (show(i:Int)<n by omega)];exact⟨rfl,rfl⟩
def GH(F:Fn):Prop:=∀(M:aj)(c:Str),eO c->aV (F [.str c] M) λr M'=>M=M'/\r=.d (.bl true)
theorem U4:GH (ao G 1 Gx):=by
 intro M c h;rw[bJ];show eh G Gx [some (.str c)] M _ _ _ _;rcases h with rfl | rfl | rfl | rfl<;>(nofun;exact⟨rfl,rfl⟩)
theorem ni2:bh .gk (.d (.int 2)) (.d (.tup [.int 2,.int 3])) M=.ok false M:=Gw (ks:=[2,3])
theorem ni3:bh .gk (.d (.int 3)) (.d (.tup [.int 2,.int 3])) M=.ok false M:=Gw (ks:=[2,3])
def zw(F:Fn):Prop:=∀(M:aj)(f:Fm)(d:Dn),cD f->dN f d->aV (F [dG f,c_ d] M) λr M'=>M=M'/\r=.d (.bl true)
theorem Qe(hB:zv (G mM))(hS:GH (G A_))(hW:uB (G iu)):zw (ao G 2 (zj mM A_ iu)):=by
 intro M f d hf hd;rw[bJ];show eh G (zj mM A_ iu) [some (dG f),some (c_ d)] M _ _ _ _
 cases d with
 | own m =>
  nofun;refine⟨s2,?_⟩;nofun;rw[show(([D.str "own",D.int m].length:Nat):Int)=2 from rfl,ni2];nofun;rw[bW cw cw,Qa];nofun;exact hB M m _ (by rw[ay];exact hd)
 | ej m c =>
  nofun;refine⟨s2,?_⟩;nofun;rw[show(([D.str "hear",D.int m,D.str c].length:Nat):Int)=3 from rfl,ni3];nofun;rw[bW cH cH,U1];nofun;refine(hB M m _ (by rw[ay];exact hd.1)).imp ?_;rintro r M1 ⟨rfl,rfl⟩;nofun;exact hS M c hd.2
 | bE r k =>
  nofun;refine⟨s2,?_⟩;nofun;rw[show(([D.str "come",D.int r,D.int k].length:Nat):Int)=3 from rfl,ni3];nofun;rw[bW aR cH,U2];nofun;rw[bW aR aR,xu];nofun;refine(hB M r _ (by rw[ay];exact hd)).imp ?_;rintro r M1 ⟨rfl,rfl⟩;nofun;exact hW M k
theorem U5(hA:lq F)(hf:cD f)(hm:m<f.ru.length){c:Str}(hc:PyData.strOk c=true):aV (F [dG f,.int m,.int s,.str c] M) λr M'=>M=M'/\r=.d (UU (an (r_ f m) s c)):=by
 refine(hA _ M (f.ru.map u3) (f.ro.map xt) ((r_ f m).map Md) _ m s c (hf.at hm) (hf.mvd hm) hc).imp λr M' ⟨e1,e2⟩=>⟨e1,?_⟩;rw[e2,GD]
theorem GI(hA:om F)(hf:cD f)(hm:m<f.ru.length){c:Str}(hc:PyData.strOk c=true):aV (F [dG f,.int m,.int s,.str c] M) λr M'=>Ex M M'/\r=.d (UU (an (r_ f m) s c)):=by
 refine(hA _ M (f.ru.map u3) (f.ro.map xt) ((r_ f m).map Md) _ m s c ?_ (hf.at hm) (hf.mvd hm) (by rw[ay];exact(hf.mv hm).1) hc).imp λr M' ⟨e1,e2⟩=>⟨e1,?_⟩
 ·intro r h;have:=hf.l8;exact⟨h.1,∅⟩
 ·rw[e2,GD]
def qe(F:Fn):Prop:=∀(M:aj)(f:Fm)(N:Nat)(s:Sd)(r:Nat),bO f N s->r<f.ro.length->aV (F [dB s,.int r] M) λo M'=>M=M'/\o=.lv ((load s r).2.map pD)
theorem Qf:qe (ao G 2 zi):=by
 intro M f N s r hs hr;rw[bJ];show eh G zi [some (dB s),some (.int r)] M _ _ _ _;nofun;rw[fv (hs.De hr).1];exact⟨rfl,rfl⟩
theorem ZI:cutD ds none (some 1)=ds.take 1:=by
 unfold cutD;have e1:HT.eI ds.length 0 none=0:=rfl
 have e2:HT.eI ds.length ds.length (some 1)=min 1 ds.length:=by
  show(if (1:Int)<0 then ((1:Int)+(ds.length:Int)).toNat else min (1:Int).toNat ds.length)=min 1 ds.length;rw[aq (by decide)];rfl
 rw[e1,e2];cases ds<;>simp
theorem U6(h:M[n]?=some (.lst ds)):pB (.d (.ai n)) none (some 1) M=.ok (.lv (ds.take 1)) M:=by
 unfold pB;simp only[bQ,h,ZI]
theorem KW{o:Str}{ps:List (Int×Str)}(h:ps.length<=N):(jf o ps).length<=N:=by
 unfold jf;split
 ·rw[hG];omega
 ·exact h
theorem Bb{o:Str}{ps:List (Int×Str)}{p:Int×Str}(h:p∈jf o ps):p∈ps:=by
 unfold jf at h;split at h
 ·exact sC h
 ·exact h
noncomputable def U7:D->Option D
 | .tup [.int i,_]=>some (.int i)
 | _=>none
theorem Bc:∀qs:List (Int×Str),(qs.map pD).filterMap U7=(qs.map (·.1)).map D.int
 | []=>rfl
 | q::qs=>by
  have:=Bc qs;rw[fi,lQ,this];rfl
def Qg(F:Fn):Prop:=∀(M:aj)(f:Fm)(N:Nat)(s:Sd)(r:Nat),cD f->bO f N s->N<=900->r<f.ro.length->aV (F [dG f,dB s,.int r] M) λo M'=>o=.lv (((jf (cN f r).2.2 (load s r).2).map (·.1)).map D.int)/\Ex M M'
theorem xv{G:dQ}{M M0:aj}{n:Nat}{ρ:En}{qs:List (Int×Str)}(hM:M[n]?=some (.lst (qs.map pD)))(hl:qs.length<=900){P:W->aj->Prop}(q:∀M',Ex M M'->P (.lv ((qs.map (·.1)).map D.int)) M')(ZJ:ρ.length=3){k:Nat}(hk:k=(qs.map pD).length):aV (bu (λτ M=>bV G none τ M) (λτ M=>(ev G (.eX 1) τ M).bind own) (.at n) [1,2] k 0 ρ M []) P:=by
 refine lg (ds:=qs.map pD) U7 (by decide) (pZ hM) (by rw[ay];exact dz ∅) ?_ ?_ hk
 ·intro i M' d hd f;rw[bc]at hd
  cases e:qs[i]? with
  | none=>rw[e]at hd;cases hd
  | some p =>
   rw[e]at hd;cases hd;rcases ρ with _|⟨a,_|⟨b,_|⟨c,_|_⟩⟩⟩<;>simp at ZJ;show _/\_;exact⟨rfl,f⟩
 ·intro M' f;rw[Bc];exact q M' f
theorem ZK{G:dQ}{dS:Nat}(hW:qe (G dS)):Qg (ao G 4 (P7 dS)):=by
 intro M f N s r hf hs hN hr;obtain⟨h1,h2⟩:=hf.rd hr;obtain⟨h3,h4⟩:=hs.De hr;have h5:=h4.n;rw[bJ];show eh G (P7 dS) [some (dG f),some (dB s),some (.int r),none] M _ _ _ _;nofun;refine(hW M f N s r hs hr).imp ?_;rintro o M2 ⟨rfl,rfl⟩;nofun;have hM:(M++[MO.lst ((load s r).2.map pD)])[M.length]?=some (.lst ((load s r).2.map pD)):=aw;rw[fv h1];nofun;rw[bW h2.ok GG]
 cases hq:((cN f r).2.2 == "row")with
 | true =>
  nofun;rw[U6 hM];nofun;have Qh:((M++[MO.lst ((load s r).2.map pD)])++[MO.lst (((load s r).2.map pD).take 1)])[(M++[MO.lst ((load s r).2.map pD)]).length]?=some (.lst (((load s r).2.take 1).map pD)):=by rw[List.map_take];exact aw
  rw[dy Qh];refine xv (M0:=M) Qh (by rw[hG];omega) (λM' fr=>?_) rfl (qU Qh);refine⟨?_,Ex.trans (Fr.app (Fr.app (Ex.refl M))) fr⟩;unfold jf;rw[hq,ar rfl]
 | false =>
  nofun;rw[dy hM];refine xv (M0:=M) hM ∅ (λM' fr=>?_) rfl (qU hM);refine⟨?_,Ex.trans (Fr.app (Ex.refl M)) fr⟩;unfold jf;rw[hq,aq (by simp)]
theorem gZ.mono{l:Int×List (Int×Str)}(h:gZ N l)(k:N<=N2):gZ N2 l:=⟨⟨h.s.1,by have:=h.s.2;omega⟩,by have:=h.n;omega,h.p,h.r⟩
theorem gZ.less{l:Int×List (Int×Str)}(h:gZ N l)(k:Int):gZ N (less l k) :=
 ⟨h.s,dW (List.length_filter_le _ _) h.n,λp hp=>h.p p (qH.mp hp).1,h.r.filter _⟩
theorem gZ.more{l:Int×List (Int×Str)}(h:gZ N l){c:Str}(hc:eO c):gZ (N+1) (more l c):=by
 refine⟨⟨by show 0<=l.1+1;have:=h.s;omega,by show l.1+1<=_;have:=h.s;omega⟩,by show(l.2++_).length<=_;rw[cI];have:=h.n;simp;omega,?_,?_⟩
 ·intro p hp;rcases dk.mp hp with q | q
  ·obtain⟨a,b,c⟩:=h.p p q;exact⟨a,b,by show p.1<l.1+1;omega⟩
  ·have:p=(l.1,c):=by simpa using q
   subst this;exact⟨hc,h.s.1,by show l.1<l.1+1;omega⟩
 ·show(l.2++[(l.1,c)]).Pairwise _;rw[List.pairwise_append];refine⟨h.r,List.pairwise_singleton _ _,λp hp q hq=>?_⟩;have:q=(l.1,c):=by simpa using hq
  subst this;exact(h.p p hp).2.2
theorem uC{α:Type}{P:α->Prop}{l:List α}{i:Nat}{x:α}(h:∀y∈l,P y)(hx:P x):∀y∈l.set i x,P y:=λy hy=>by
 rcases List.mem_or_eq_of_mem_set hy with z | z
 ·exact h y z
 ·rw[z];exact hx
theorem g8{α:Type}{P:α->Prop}{l:List α}{i:Nat}{d:α}(h:∀y∈l,P y)(hi:i<l.length):P (l.getD i d):=by
 rw[gL,br hi];exact h _ (kA hi)
theorem se{ld:List (Int×List (Int×Str))}{d:Dn}:(jg ld d).length=ld.length:=by
 cases d<;>simp[jg]
theorem qf{N:Nat}{ld:List (Int×List (Int×Str))}{d:Dn}(h:∀l∈ld,gZ N l)(hd:∀r k,d=.bE r k->r<ld.length):∀l∈jg ld d,gZ N l:=by
 cases d with
 | own m=>exact h
 | ej m c=>exact h
 | bE r k=>exact uC h ((g8 h (hd r k rfl)).less k)
theorem lr{sd:List (Int×Str)}:∀{ld:List (Int×List (Int×Str))},(dU ld sd).length=ld.length:=by
 induction sd with
 | nil=>intro ld;rfl
 | cons p sd ih =>
  intro ld;show(dU (ld.set p.1.toNat (more (ld.getD p.1.toNat (0,[])) p.2)) sd).length=_;rw[ih,kB]
theorem sf{ld:List (Int×List (Int×Str))}{sd:List (Int×Str)}{p:Int×Str}:dU ld (sd++[p])=(dU ld sd).set p.1.toNat (more ((dU ld sd).getD p.1.toNat (0,[])) p.2):=by
 unfold dU;rw[DL];rfl
theorem ox{N:Nat}{sd:List (Int×Str)}:∀{ld:List (Int×List (Int×Str))}{n:Nat},(∀l∈ld,gZ N l)->(∀p∈sd,eO p.2/\p.1.toNat<ld.length)->sd.length<=n->∀l∈dU ld sd,gZ (N+n) l:=by
 induction sd generalizing N with
 | nil=>intro ld n h _ _ l hl;exact(h l hl).mono ∅
 | cons p sd ih =>
  intro ld n h hp hn;obtain⟨n,rfl⟩:∃m,n=m+1:=⟨n-1,by simp at hn;omega⟩;have h0:=hp p dH;rw[show N+(n+1)=N+1+n by omega];refine ih (N:=N+1) (ld:=ld.set p.1.toNat (more (ld.getD p.1.toNat (0,[])) p.2)) (n:=n) (uC (λy hy=>(h y hy).mono ∅) ((g8 h h0.2).more h0.1)) (λq hq=>?_) (by simp at hn;omega);rw[kB];exact hp q (da _ hq)
theorem GF.in{x:Int×List (Int×Str)×Option Str}(h:GF f m x):∀p∈x.2.1,eO p.2/\p.1.toNat<f.ro.length:=λp hp=>by
 obtain⟨a,b,r,c,_⟩:=h.sd p hp;exact⟨a,(bz.mp c).1⟩
theorem bO.UW{f:Fm}{N:Nat}{s:Sd}{d:Dn}(h:bO f N s)(hd:dN f d){x:Int×List (Int×Str)×Option Str}(hx:GF f (mc f d) x):bO f (N+3) (UW f s d x):=by
 have hl:(jg s.ld d).length=f.ro.length:=by rw[se,h.ll]
 refine⟨by show(s.st.set _ _).length=_;rw[kB];exact h.ls,uC h.st hx.a,by show(dU _ _).length=_;rw[lr];exact hl,?_⟩;refine ox (qf h.ld λr k e=>?_) (λp hp=>by rw[hl];exact hx.in p hp) hx.l;subst e;rw[h.ll];exact hd
theorem U8{o:Option (Int×List (Int×Str)×Option Str)}:(!F6 (UU o))=o.isSome:=by
 cases o with
 | none=>rfl
 | some x=>obtain⟨a,b,c⟩:=x;rfl
theorem GJ{ps:List (Int×Str)}{k:Int}:(ps.find? λp=>p.1==k).isSome=decide (k∈ps.map (·.1)):=by
 rw[Bool.eq_iff_iff,List.find?_isSome,oJ,dI];constructor
 ·rintro⟨p,hp,e⟩;exact⟨p,hp,by simpa using e⟩
 ·rintro⟨p,hp,e⟩;exact⟨p,hp,by simpa using e⟩
theorem jw:cs f s (.bE r k)=((jf (cN f r).2.2 (load s r).2).find? λp=>p.1==k).map (·.2):=rfl
theorem GK(hs:bO f N s)(hr:r<f.ro.length){c:Str}(h:cs f s (.bE r k)=some c):eO c:=by
 rw[jw]at h
 cases q:(jf (cN f r).2.2 (load s r).2).find? (λp=>p.1==k)with
 | none=>rw[q]at h;cases h
 | some p =>
  rw[q]at h;cases h;exact((hs.De hr).2.p p (Bb (HQ q))).1
theorem Bd{N:Nat}(hs:bO f N s){r:Nat}(hr:r<f.ro.length){k:Int}:cn f s (.bE r k)=decide (k∈(jf (cN f r).2.2 (load s r).2).map (·.1)):=by
 rw[<- GJ];unfold cn rp
 cases q:cs f s (.bE r k)with
 | none =>
  rw[jw]at q
  cases z:(jf (cN f r).2.2 (load s r).2).find? (λp=>p.1==k)with
  | none=>rfl
  | some p=>rw[z]at q;cases q
 | some c =>
  obtain⟨x,hx⟩:=uA (mv:=r_ f (mc f (.bE r k))) (s:=s.st.getD (mc f (.bE r k)) 0) (GK hs hr q);rw[show((some c).bind λc=>an (r_ f (mc f (.bE r k))) (s.st.getD (mc f (.bE r k)) 0) c)=some x from hx];rw[jw]at q
  cases z:(jf (cN f r).2.2 (load s r).2).find? (λp=>p.1==k)with
  | none=>rw[z]at q;cases q
  | some p=>rfl
theorem Qi:bh .isin (.d (.int i)) (.lv (iD ks)) M=.ok (decide (i∈ks)) M:=by
 unfold bh;simp only[zf,bQ,oo,jc,oq,kE,e_,ou]
def Qj(F:Fn):Prop:=∀(M:aj)(f:Fm)(N:Nat)(s:Sd)(d:Dn),cD f->bO f N s->N<=900->dN f d->aV (F [dG f,dB s,c_ d] M) λr M'=>Ex M M'/\r=.d (.bl (cn f s d))
theorem ZL(hP:zw (G uu))(hA:lq (G kAnswer))(hM:Qg (G KS)):Qj (ao G 3 (P8 uu kAnswer KS)):=by
 intro M f N s d hf hs hN hd;rw[bJ];show eh G (P8 uu kAnswer KS) [some (dG f),some (dB s),some (c_ d)] M _ _ _ _;nofun;refine(hP M f d hf hd).imp ?_;rintro r M1 ⟨rfl,rfl⟩
 cases d with
 | own m =>
  nofun;rw[bW cw cw,Qa];nofun;rw[fv (hs.Ru hd).1];nofun;refine(U5 hA hf hd cw).imp ?_;rintro r M2 ⟨rfl,rfl⟩;nofun;refine⟨Ex.refl _,?_⟩;rw[U8];rfl
 | ej m c =>
  nofun;rw[bW cH cw,UZ];nofun;rw[bW cH aR,zu];nofun;refine⟨Ex.refl _,?_⟩;obtain⟨x,hx⟩:=uA (mv:=r_ f m) (s:=s.st.getD m 0) hd.2;show W.d (.bl true)=.d (.bl (an (r_ f m) (s.st.getD m 0) c).isSome);rw[hx];rfl
 | bE r k =>
  nofun;rw[bW aR cw,U0];nofun;rw[bW aR aR,xu];nofun;refine(hM M f N s r hf hs hN hd).imp ?_;rintro o M2 ⟨rfl,f2⟩;nofun;rw[show((jf (cN f r).2.2 (load s r).2).map (·.1)).map D.int=iD ((jf (cN f r).2.2 (load s r).2).map (·.1)) from rfl,Qi];exact⟨f2,by rw[Bd hs hd]⟩
def Wy(p:Int×Str):bN×D:=(Sum.inl p.1,.str p.2)
theorem KY{acc:List (bN×D)}{k:bN}{d:D}(h:∀a∈acc,a.1≠k):eM acc k d=acc++[(k,d)]:=by
 unfold eM;rw[aq];intro z;rw[Ig]at z;obtain⟨a,ha,e⟩:=z;exact h a ha (DM e)
theorem xx:∀{ps:List (Int×Str)}{acc:List (bN×D)},(∀p∈ps,∀a∈acc,a.1≠(Sum.inl p.1:bN))->(ps.Pairwise λp q=>p.1<q.1)->CN acc (ps.map pD)=some (acc++ps.map Wy)
 | [],acc,_,_=>by rw[oM,oM,iQ];rfl
 | p::ps,acc,h,hr=>by
  obtain⟨r1,r2⟩:=sD.mp hr;show CN (eM acc (Sum.inl p.1) (.str p.2)) (ps.map pD)=_;rw[KY (h p dH),xx (ps:=ps) ?_ r2,oI]
  ·rfl
  ·intro q hq a ha;rcases dk.mp ha with z | z
   ·exact h q (da _ hq) a z
   ·have:a=(Sum.inl p.1,.str p.2):=by simpa using z
    subst this;intro e;have e:=Sum.inl.inj e;have:=r1 q hq;omega
theorem Dg{M:aj}{ps:List (Int×Str)}(h:ps.Pairwise λp q=>p.1<q.1):mZ .rL [.lv (ps.map pD)] M=.ok (.d (.ai M.length)) (M++[.dK (ps.map Wy)]):=by
 unfold mZ;simp only[iL,bQ];rw[xx (acc:=[]) (λp _ a ha=>by cases ha) h];rfl
theorem Qk{M:aj}{n:Nat}{ps:List (Int×Str)}{k:Int}{p:Int×Str}(hM:M[n]?=some (.dK (ps.map Wy)))(h:(ps.find? λp=>p.1==k)=some p):de (.d (.ai n)) (.d (.int k)) M=.ok (.d (.str p.2)) M:=by
 have e:dJ (ps.map Wy) (Sum.inl k:bN)=some (.str p.2):=by
  unfold dJ;rw[qc (q:=λp=>p.1==k) (λa=>by show decide ((Sum.inl a.1:bN)=Sum.inl k)=_;rw[D1]),h];rfl
 unfold de;simp only[hM,bQ,e]
theorem GL{o:Str}{ps:List (Int×Str)}{p:Int×Str}(h:((jf o ps).find? λp=>p.1==k)=some p):(ps.find? λp=>p.1==k)=some p:=by
 unfold jf at h;split at h
 ·cases ps with
  | nil=>cases h
  | cons q ps =>
   rw[show(q::ps).take 1=[q] from rfl]at h;rw[hU]at h⊢
   cases z:(q.1==k)with
   | true=>rw[z]at h;exact h
   | false=>rw[z]at h;cases h
 ·exact h
def zx(F:Fn):Prop:=∀(M:aj)(f:Fm)(N:Nat)(s:Sd)(d:Dn)(c:Str),cD f->bO f N s->dN f d->cs f s d=some c->aV (F [dB s,c_ d] M) λr M'=>Ex M M'/\r=.d (.str c)
theorem Ql(hW:qe (G dS)):zx (ao G 2 (zk dS)):=by
 intro M f N s d c hf hs hd hc;rw[bJ];show eh G (zk dS) [some (dB s),some (c_ d)] M _ _ _ _
 cases d with
 | own m =>
  cases hc;nofun;rw[bW cw cw,Qa];exact⟨Ex.refl _,rfl⟩
 | ej m c' =>
  cases hc;nofun;rw[bW cH cw,UZ];nofun;rw[bW cH cH,U1];exact⟨Ex.refl _,rfl⟩
 | bE r k =>
  nofun;rw[bW aR cw,U0];nofun;rw[bW aR cH,U2];nofun;refine(hW M f N s r hs hd).imp ?_;rintro o M1 ⟨rfl,rfl⟩;nofun;rw[Dg (hs.De hd).2.r];nofun;rw[jw]at hc
  cases q:(jf (cN f r).2.2 (load s r).2).find? (λp=>p.1==k)with
  | none=>rw[q]at hc;cases hc
  | some p =>
   rw[q]at hc;cases hc;rw[Qk aw (GL q)];exact⟨(Ex.refl M).app,rfl⟩
noncomputable def Qm(k:Int):D->Option D
 | .tup [.int i,x]=>if (i==k)=true then none else some (.tup [.int i,x])
 | _=>none
theorem xy:∀ps:List (Int×Str),(ps.map pD).filterMap (Qm k)=(ps.filter λp=>!(p.1==k)).map pD
 | []=>rfl
 | p::ps=>by
  have:=xy (k:=k) ps;rw[fi,lQ,DQ,this];rw[show Qm k (pD p)=if (p.1==k)=true then none else some (pD p) from rfl];cases p.1==k<;>rfl
theorem xB{G:dQ}{M:aj}{it:It}{ρ:En}{ps:List (Int×Str)}{k:Int}{cond:fX}(hit:∀M',Ex M M'->∀i,i<=(ps.map pD).length->itemAt M' i it=some (ps.map pD)[i]?)(hl:ps.length<=1000){P:W->aj->Prop}(hc:∀(M':aj)(p:Int×Str)(Q:Bool->aj->Prop),p∈ps->Q (!(p.1==k)) M'->la G (some cond) (ρ.set 1 (some (pD p))) M' Q)(ZJ:1<ρ.length)(q:∀M',Ex M M'->P (.lv ((ps.filter λp=>!(p.1==k)).map pD)) M'){n:Nat}(hn:n=(ps.map pD).length):aV (bu (λτ M=>bV G (some cond) τ M) (λτ M=>(ev G (.eX 1) τ M).bind own) it [1] n 0 ρ M []) P:=by
 refine lg (ds:=ps.map pD) (Qm k) (by decide) hit (by rw[ay];exact dz hl) ?_ ?_ hn
 ·intro i M' d hd f;rw[bc]at hd
  cases e:ps[i]? with
  | none=>rw[e]at hd;cases hd
  | some p =>
   rw[e]at hd;cases hd;show la G (some cond) (ρ.set 1 (some (pD p))) M' _;refine hc M' p _ (cQ e) ?_
   have hv:∀Q:D->Prop,Q (pD p)->Km (ρ.set 1 (some (pD p)))[1]? Q:=λQ h=>by
    rw[qE ZJ];exact h
   cases z:(p.1==k)with
   | true =>
    show _/\_;refine⟨?_,f⟩;show(if (p.1==k)=true then none else _)=_;rw[z];rfl
   | false =>
    show Km (ρ.set 1 (some (pD p)))[1]? _;refine hv _ ?_;refine⟨?_,f⟩;show(if (p.1==k)=true then none else _)=_;rw[z];rfl
 ·intro M' f;rw[xy];exact q M' f
def GN(F:Fn):Prop:=∀(M:aj)(l:Int×List (Int×Str))(k:Int),l.2.length<=1000->aV (F [ki l,.int k] M) λr M'=>Ex M M'/\r=.d (ki (less l k))
theorem U9{G:dQ}:GN (ao G 2 Gz):=by
 intro M l k hl;rw[bJ];show eh G Gz [some (ki l),some (.int k)] M _ _ _ _;nofun;refine xB (ps:=l.2) (k:=k) (it:=.items (l.2.map pD)) lh hl ?_ ?_ (λM' f=>?_) rfl
 ·intro M' p Q _ h;exact h
 ·show 1<3;decide
 nofun;exact⟨s2,f,rfl⟩
def Be(F:Fn):Prop:=∀(M:aj)(l:Int×List (Int×Str))(c:Str),l.2.length<=1000->aV (F [ki l,.str c] M) λr M'=>M=M'/\r=.d (ki (more l c))
theorem U_:Be (ao G 2 GA):=by
 intro M l c hl;rw[bJ];show eh G GA [some (ki l),some (.str c)] M _ _ _ _;nofun;refine⟨s2,s1,?_⟩;nofun;refine⟨dW (show(l.2.map pD).length+1<=1001 by rw[ay];omega) (by decide),?_⟩;nofun;refine⟨s2,rfl,?_⟩;show W.d (.tup [.int (l.1+1),.tup (l.2.map pD++[pD (l.1,c)])])=_;unfold more ki;rw[eQ];rfl
theorem Va{ld:List (Int×List (Int×Str))}{r:Nat}(h:r<ld.length):(ld.map ki)[r]?=some (ki (ld.getD r (0,[]))):=by
 rw[bc,gL,br h];rfl
def sg(F:Fn):Prop:=∀(M:aj)(f:Fm)(N:Nat)(s:Sd)(d:Dn)(x:Int×List (Int×Str)×Option Str),cD f->bO f N s->N<=900->dN f d->rp f s d=some x->aV (F [dG f,dB s,c_ d] M) λr M'=>Ex M M'/\r=.d (.tup [dB (UW f s d x),UX f d x])
def Vb(jS:Nat):List S:=[.bD [7,8] .seq [(.ks 4 1)] [.put 6 7 (.call jS [(.sub 6 7),8])],.asg [9] (.bw .aP),.iff (.val (.cmp .eL (.ks 4 2) (.bw .aP))) [.asg [9] (.tup [3,(.ks 4 2)])] [],.ret (.tup [(.tup [(.bi .tuple1 [5]),(.bi .tuple1 [6])]),9])]
noncomputable def Qn(m:Nat):Option Str->D
 | none=>.aP
 | some w=>.tup [.int m,.str w]
theorem mN{G:dQ}{jS:Nat}(Vc:Be (G jS)){M0 M:aj}{n5 n6 m N:Nat}{o0 o1 o2 o7 o8 o9:Option D}{a:Int}{sd:List (Int×Str)}{w:Option Str}{st:List Int}{ld:List (Int×List (Int×Str))}{nx:En->aj->Prop}{rt:W->aj->Prop}{bk ct:En->aj->Prop}(h5:M[n5]?=some (.lst (st.map D.int)))(h6:M[n6]?=some (.lst (ld.map ki)))(mW:n5≠n6)(hl6:M0.length<=n6)(fr:Ex M0 M)(Rl:∀l∈ld,gZ N l)(hN:N<=900)(p4:∀p∈sd,eO p.2/\0<=p.1/\p.1.toNat<ld.length)(h3:sd.length<=3)(q:∀M',Ex M0 M'->rt (.d (.tup [.tup [.tup (st.map D.int),.tup ((dU ld sd).map ki)],Qn m w])) M'):eh G (Vb jS) [o0,o1,o2,some (.int m),some (.tup [.int a,.tup (sd.map pD),P9 w]),some (.ai n5),some (.ai n6),o7,o8,o9] M nx rt bk ct:=by
 nofun;refine gC (ds:=sd.map pD) (λi ρ M'=>∃o7 o8,ρ=[o0,o1,o2,some (.int m),some (.tup [.int a,.tup (sd.map pD),P9 w]),some (.ai n5),some (.ai n6),o7,o8,o9]/\M'[n5]?=some (.lst (st.map D.int))/\M'[n6]?=some (.lst ((dU ld (sd.take i)).map ki))/\Ex M0 M') ⟨_,_,rfl,h5,h6,fr⟩ ?_ ?_
 ·rintro i ρ M' dd bC ⟨o7,o8,rfl,g5,g6,KZ⟩;rw[bc]at bC
  cases e:sd[i]? with
  | none=>rw[e]at bC;cases bC
  | some p =>
   rw[e]at bC;cases bC;obtain⟨p1,p2,p3⟩:=p4 p (cQ e);have hi:=(bz.mp e).1;have Dw:p.1.toNat<(dU ld (sd.take i)).length:=by rw[lr];exact p3
   have bI:=ox (n:=i) Rl (λq hq=>⟨(p4 q (sC hq)).1,(p4 q (sC hq)).2.2⟩) (by rw[hG];omega:(sd.take i).length<=i);have Jc:=g8 (d:=((0:Int),([]:List (Int×Str)))) bI Dw;have Rv:=Jc.n;nofun;rw[bY g6 p2 (Va Dw)];nofun;refine(Vc M' _ p.2 ∅).imp ?_;rintro r M2 ⟨rfl,rfl⟩;nofun;rw[pX g6 p2 (by rw[ay];exact Dw)];refine⟨_,_,rfl,aD g5 mW,?_,KZ.set hl6⟩;rw[aK g6,bq e,sf,<- List.map_set]
 ·rintro ρ M' ⟨o7,o8,rfl,g5,g6,KZ⟩;rw[ay,gD]at g6
  cases w with
  | none =>
   nofun;rw[bZ g5];nofun;rw[bZ g6];nofun;exact⟨s2,s2,q M' KZ⟩
  | some x =>
   nofun;refine⟨s2,?_⟩;nofun;rw[bZ g5];nofun;rw[bZ g6];nofun;exact⟨s2,s2,q M' KZ⟩
theorem Vd{G:dQ}{gY kAnswer p9 xq jS:Nat}(Ve:nj (G gY))(hA:lq (G kAnswer))(hC:zx (G p9))(hL:GN (G xq))(Vc:Be (G jS)):sg (ao G 10 (GB gY kAnswer p9 xq jS)):=by
 intro M f N s d x hf hs hN hd hx;have hm:=hd.mc hf;have K0:=Ba hf hs hd hx
 obtain⟨c,hc,hax⟩:∃c,cs f s d=some c/\an (r_ f (mc f d)) (s.st.getD (mc f d) 0) c=some x:=by
  unfold rp at hx
  cases q:cs f s d with
  | none=>rw[q]at hx;cases hx
  | some c=>rw[q]at hx;exact⟨c,rfl,hx⟩
 have hco:PyData.strOk c=true:=by
  cases d with
  | own m=>cases hc;exact cw
  | ej m c'=>cases hc;exact hd.2.ok.1
  | bE r k=>exact(GK hs hd hc).ok.1
 obtain⟨a,sd,w⟩:=x;rw[bJ];show eh G (GB gY kAnswer p9 xq jS) [some (dG f),some (dB s),some (c_ d),none,none,none,none,none,none,none] M _ _ _ _;nofun;refine(Ve M f d hf hd).imp ?_;rintro r M1 ⟨rfl,rfl⟩;nofun;rw[fv (hs.Ru hm).1];nofun;refine(hC M f N s d c hf hs hd hc).imp ?_;rintro r M1 ⟨f1,rfl⟩;nofun;refine(U5 hA hf hm hco).imp ?_;rintro r M2 ⟨rfl,rfl⟩;rw[hax];nofun;have fB:mc f d<(s.st.map D.int).length:=by rw[ay,hs.ls];exact hm
 rw[jv aw fB];nofun;have g5:((M1++[MO.lst (s.st.map D.int)]).set M1.length (.lst ((s.st.map D.int).set (mc f d) (.int a))))[M1.length]?=some (.lst ((s.st.set (mc f d) a).map D.int)):=by rw[aK aw,List.map_set]
 have jl:Ex M ((M1++[MO.lst (s.st.map D.int)]).set M1.length (.lst ((s.st.map D.int).set (mc f d) (.int a)))):=Fr.set (Fr.app f1) f1.1;have Cy:=f1.1;generalize (M1++[MO.lst (s.st.map D.int)]).set M1.length (.lst ((s.st.map D.int).set (mc f d) (.int a)))=M5 at g5 jl⊢;have g6:(M5++[MO.lst (s.ld.map ki)])[M5.length]?=some (.lst (s.ld.map ki)):=aw;have ZM:(M5++[MO.lst (s.ld.map ki)])[M1.length]?=some (.lst ((s.st.set (mc f d) a).map D.int)):=aF g5;have jM:=aB g5;have Ji:=jl.1
 have p4:∀(ld:List (Int×List (Int×Str))),ld.length=f.ro.length->∀p∈sd,eO p.2/\0<=p.1/\p.1.toNat<ld.length:=λld hl p hp=>by
  obtain⟨a,b,r,c,_⟩:=K0.sd p hp;exact⟨a,b,by rw[hl];exact(bz.mp c).1⟩
 have Dx:UX f d (a,sd,w)=Qn (mc f d) w:=by cases w<;>rfl
 rw[Dx]
 cases d with
 | own m =>
  nofun;rw[bW cw aR,Df];refine mN Vc (M0:=M) (ld:=s.ld) (N:=N) ZM g6 ∅ Ji (Fr.app jl) hs.ld hN (p4 _ hs.ll) K0.l λM' fr=>⟨fr,rfl⟩
 | ej m c' =>
  nofun;rw[bW cH aR,zu];refine mN Vc (M0:=M) (ld:=s.ld) (N:=N) ZM g6 ∅ Ji (Fr.app jl) hs.ld hN (p4 _ hs.ll) K0.l λM' fr=>⟨fr,rfl⟩
 | bE r k =>
  have hr:r<s.ld.length:=by rw[hs.ll];exact hd
  have Jc:=g8 (d:=((0:Int),([]:List (Int×Str)))) hs.ld hr;have Rv:=Jc.n;nofun;rw[bW aR aR,xu];nofun;rw[bo g6 (Va hr)];nofun;refine(hL _ _ k ∅).imp ?_;rintro o M7 ⟨f7,rfl⟩;nofun;have g6':=Ex.get f7 g6;rw[jv g6' (by rw[ay];exact hr)];refine mN Vc (M0:=M) (ld:=jg s.ld (.bE r k)) (N:=N) (aD (Ex.get f7 ZM) ∅) ?_ ∅ Ji ?_ (qf hs.ld λr' k' e=>by cases e;exact hr) hN (p4 _ (by rw[se];exact hs.ll)) K0.l λM' fr=>⟨fr,rfl⟩
  ·rw[aK g6',<- List.map_set];rfl
  ·exact Fr.set (Ex.trans (Fr.app jl) f7) Ji
noncomputable def tD(x:Nat×Int×Str):D:=.tup [.int x.1,.int x.2.1,.str x.2.2]
def fl(f:Fm)(s:Sd):Nat->List (Nat×Int×Str)
 | 0=>[]
 | n+1=>fl f s n++(jf (cN f n).2.2 (load s n).2).map λp=>(n,p.1,p.2)
theorem uD{x:Nat×Int×Str}:∀n,x∈fl f s n↔x.1<n/\(x.2.1,x.2.2)∈jf (cN f x.1).2.2 (load s x.1).2
 | 0=>by simp[fl]
 | n+1=>by
  obtain⟨r,k,c⟩:=x;show(r,k,c)∈fl f s n++_↔_;rw[dk,uD n,dI];constructor
  ·rintro(⟨h1,h2⟩|⟨p,hp,e⟩)
   ·exact⟨by show r<n+1;have:r<n:=h1;omega,h2⟩
   ·cases e;exact⟨by show n<n+1;omega,hp⟩
  ·rintro⟨h1,h2⟩;by_cases q:r=n
   ·subst q;exact .inr ⟨(k,c),h2,rfl⟩
   ·exact .inl ⟨by show r<n;have:r<n+1:=h1;omega,h2⟩
theorem zy(hs:bO f N s):∀n,n<=f.ro.length->(fl f s n).length<=N*n
 | 0,_=>by simp[fl]
 | n+1,h=>by
  have h1:=zy hs n ∅;have h2:=KW (o:=(cN f n).2.2) (hs.De (r:=n) ∅).2.n;show(fl f s n++_).length<=_;rw[cI,ay,Nat.mul_succ];omega
theorem uE(h:M[n]?=some (.lst xs))(hl:xs.length+ys.length<=sizeLine):qQ .add (.d (.ai n)) (.lv ys) M=.ok (.lv (xs++ys)) M:=by
 unfold qQ;simp only[fE,h];rw[ar hl]
noncomputable def Vf(r:Nat):D->Option D
 | .tup [.int i,x]=>some (.tup [.int r,.int i,x])
 | _=>none
theorem Bf:∀qs:List (Int×Str),(qs.map pD).filterMap (Vf r)=(qs.map λp=>(r,p.1,p.2)).map tD
 | []=>rfl
 | q::qs=>by
  have:=Bf (r:=r) qs;rw[fi,lQ,this];rfl
theorem xC{G:dQ}{M:aj}{n r:Nat}{qs:List (Int×Str)}(hM:M[n]?=some (.lst (qs.map pD)))(hl:qs.length<=900){P:W->aj->Prop}(q:∀M',Ex M M'->P (.lv ((qs.map λp=>(r,p.1,p.2)).map tD)) M'){k:Nat}(hk:k=(qs.map pD).length):aV (bu (λτ M=>bV G none τ M) (λτ M=>(ev G (.tup [(.eX 3),(.eX 1),(.eX 2)]) τ M).bind own) (.at n) [1,2] k 0 [none,none,none,some (.int r)] M []) P:=by
 refine lg (ds:=qs.map pD) (Vf r) (by decide) (pZ hM) (by rw[ay];exact dz ∅) ?_ ?_ hk
 ·intro i M' d hd f;rw[bc]at hd
  cases e:qs[i]? with
  | none=>rw[e]at hd;cases hd
  | some p =>
   rw[e]at hd;cases hd;nofun;exact⟨s3,rfl,f⟩
 ·intro M' f;rw[Bf];exact q M' f
def oy(F:Fn):Prop:=∀(M:aj)(f:Fm)(N:Nat)(s:Sd),cD f->bO f N s->N<=900->aV (F [dG f,dB s] M) λr M'=>∃n,r=.d (.ai n)/\M.length<=n/\M'[n]?=some (.lst ((fl f s f.ro.length).map tD))/\Ex M M'
theorem K1:oy (ao G 5 uw):=by
 intro M f N s hf hs hN;have h8:=hf.l8;rw[bJ];show eh G uw [some (dG f),some (dB s),none,none,none] M _ _ _ _;nofun;refine⟨s0,?_⟩;nofun;refine⟨⟨by rw[ay];omega,by rw[ay];omega⟩,?_⟩;refine gB (n:=((f.ro.map xt).length:Int).toNat) (λi ρ M'=>∃o3 o4 n,ρ=[some (dG f),some (dB s),some (.ai n),o3,o4]/\M.length<=n/\M'[n]?=some (.lst ((fl f s i).map tD))/\Ex M M') ⟨_,_,M.length,rfl,aH _,aw,(Ex.refl M).app⟩ ?_ ?_
 ·rintro i ρ M1 hi ⟨o3,o4,n,rfl,Dt,hn,f1⟩;have hi:i<f.ro.length:=by rw[ay]at hi;omega
  obtain⟨h1,h2⟩:=hf.rd hi;obtain⟨h3,h4⟩:=hs.De hi;have h5:=h4.n;have Rw:=zy hs i ∅;sleep 27;rw[fv h3];nofun;have hM:(M1++[MO.lst ((load s i).2.map pD)])[M1.length]?=some (.lst ((load s i).2.map pD)):=aw;rw[fv h1];nofun;rw[bW h2.ok GG];have Vg:M.length<=M1.length:=f1.1;have hNi:N*i<=900*8:=BS hN ∅
  cases hq:((cN f i).2.2 == "row")with
  | true =>
   nofun;rw[U6 hM];nofun;have Qh:((M1++[MO.lst ((load s i).2.map pD)])++[MO.lst (((load s i).2.map pD).take 1)])[(M1++[MO.lst ((load s i).2.map pD)]).length]?=some (.lst (((load s i).2.take 1).map pD)):=by rw[List.map_take];exact aw
   have vW:((M1++[MO.lst ((load s i).2.map pD)])++[MO.lst (((load s i).2.map pD).take 1)])[n]?=some (.lst ((fl f s i).map tD)):=aF (aF hn);have f2:Ex M ((M1++[MO.lst ((load s i).2.map pD)])++[MO.lst (((load s i).2.map pD).take 1)]):=Fr.app (Fr.app f1);have ZN:jf (cN f i).2.2 (load s i).2=(load s i).2.take 1:=by unfold jf;rw[hq,ar rfl]
   rw[dy Qh];refine xC (r:=i) Qh (by rw[hG];omega) (λM' fr=>?_) (qU Qh);nofun;rw[uE (Ex.get fr vW) (dW (show _<=900*8+1000 by simp only[ay,hG];omega) (by decide))];have f3:=Ex.trans f2 fr;refine⟨_,_,M'.length,rfl,f3.1,?_,Fr.app f3⟩;rw[<- eQ,<- ZN];exact aw
  | false =>
   nofun;have vW:(M1++[MO.lst ((load s i).2.map pD)])[n]?=some (.lst ((fl f s i).map tD)):=aF hn;have ZN:jf (cN f i).2.2 (load s i).2=(load s i).2:=by unfold jf;rw[hq,aq (by simp)]
   rw[dy hM];refine xC (r:=i) hM ∅ (λM' fr=>?_) (qU hM);nofun;rw[uE (Ex.get fr vW) (dW (show _<=900*8+1000 by simp only[ay];omega) (by decide))];have f3:Ex M M':=Ex.trans (Fr.app f1) fr;refine⟨_,_,M'.length,rfl,f3.1,?_,Fr.app f3⟩;rw[<- eQ];show _=some (MO.lst ((fl f s i++(jf (cN f i).2.2 (load s i).2).map λp=>(i,p.1,p.2)).map tD));rw[ZN];exact aw
 ·rintro ρ M1 ⟨o3,o4,n,rfl,Dt,hn,f1⟩;nofun;rw[show((f.ro.map xt).length:Int).toNat=f.ro.length by rw[ay];omega]at hn;exact⟨n,rfl,Dt,hn,f1⟩
theorem K2:bh .eq (.d (.tup [.int a,.int b])) (.d (.tup [.int c,.int d])) M=.ok (a==c&&b==d) M:=by
 have h1:∀(s c:Int),jD M (.d (.tup [.int s,.int c]))=some (.tuple [.int s,.int c]):=λs c=>by
  show eK M 30 (.tup [.int s,.int c])=_
  try simp only[eK,cv,DT]
 have h2:∀(s c:Int),SeqAt.shaped (.tuple [.int s,.int c])=true:=λs c=>by
  unfold SeqAt.shaped
  try simp only[x8,u7,u6,vc,yb,u_,u9,vg]
  rfl
 unfold bh
 try simp only[h1,h2,kE,e_,PyData.eqv.eq_8,PyData.eqvAll.eq_2,Ib,DU,Bool.and_true]
theorem Vh:mw (.d (.tup [a,b])) 2 M=.ok (.d (.tup [a])) M:=by
 unfold mw;have e:d9 [a,b] 2=[a]:=by simp[d9,Builtin.Slice.sliceAdjust,Builtin.Slice.slicePlaces]
 try simp only[e]
 rw[ar ⟨.inl trivial,(show(1:Nat)<=sizeLine by decide)⟩]
theorem Vi:mw (.d (.tup [a,b,c])) 2 M=.ok (.d (.tup [a,c])) M:=by
 unfold mw;have e:d9 [a,b,c] 2=[a,c]:=by simp[d9,Builtin.Slice.sliceAdjust,Builtin.Slice.slicePlaces,yc]
 try simp only[e]
 rw[ar ⟨.inl trivial,(show(2:Nat)<=sizeLine by decide)⟩]
theorem sh{c:Str}:∀{ps:List (Int×Str)},(ps.Pairwise λp q=>p.1<q.1)->(k,c)∈ps->(ps.find? λp=>p.1==k)=some (k,c)
 | [],_,h=>by cases h
 | p::ps,hr,h=>by
  obtain⟨r1,r2⟩:=sD.mp hr;rw[hU];rcases bT.mp h with z | z
  ·rw[<- z];simp
  ·have:=r1 _ z
   have mW:(p.1==k)=false:=by
    have:p.1<k:=this;simp;omega
   rw[mW];exact sh r2 z
theorem GO{o:Str}{ps:List (Int×Str)}(h:ps.Pairwise λp q=>p.1<q.1):(jf o ps).Pairwise λp q=>p.1<q.1:=by
 unfold jf;split
 ·exact h.take
 ·exact h
theorem Vj(hs:bO f N s)(hr:r<f.ro.length){c:Str}(h:(k,c)∈jf (cN f r).2.2 (load s r).2):cs f s (.bE r k)=some c:=by
 rw[jw,sh (GO (hs.De hr).2.r) h];rfl
theorem Qo(h:∀c,(k,c)∉jf (cN f r).2.2 (load s r).2):cs f s (.bE r k)=none:=by
 rw[jw]
 cases q:(jf (cN f r).2.2 (load s r).2).find? (λp=>p.1==k)with
 | none=>rfl
 | some p =>
  have h1:=HQ q;have h2:p.1=k:=by simpa using List.find?_some q
  obtain⟨k',c⟩:=p;cases h2;exact absurd h1 (h c)
def uF(F:Fn):Prop:=∀(M:aj)(f:Fm)(N:Nat)(s:Sd)(d:Dn),cD f->bO f N s->N<=900->dN f d->aV (F [dG f,dB s,c_ d] M) λr M'=>Ex M M'/\r=.d (UU (rp f s d))
theorem Qp(hL:om (G xr))(hC:oy (G eY)):uF (ao G 7 (zl xr eY)):=by
 intro M f N s d hf hs hN hd;rw[bJ];show eh G (zl xr eY) [some (dG f),some (dB s),some (c_ d),none,none,none,none] M _ _ _ _
 cases d with
 | own m =>
  nofun;rw[Ge cw aR,Df];nofun;rw[fv (hs.Ru hd).1];nofun;rw[show mw (.d (c_ (.own m))) 2 M=.ok (.d (.tup [.str "own"])) M from Vh];nofun;exact GI hL hf hd cw
 | ej m c =>
  nofun;rw[Ge cH aR,zu];nofun;rw[fv (hs.Ru hd.1).1];nofun;rw[show mw (.d (c_ (.ej m c))) 2 M=.ok (.d (.tup [.str "hear",.str c])) M from Vi];nofun;exact GI hL hf hd.1 hd.2.ok.1
 | bE r k =>
  have hd:r<f.ro.length:=hd;nofun;rw[Ge aR aR,xu];nofun;refine(hC M f N s hf hs hN).imp ?_;rintro o M1 ⟨n,rfl,Dt,hn,f1⟩;nofun;rw[dy hn];refine xj (n:=n) (ds:=(fl f s f.ro.length).map tD) (λj ρ M'=>∃o3 o4 o5 o6,M1=M'/\ρ=[some (dG f),some (dB s),some (.tup [.str "come",.int r,.int k]),o3,o4,o5,o6]/\∀c,(r,k,c)∉(fl f s f.ro.length).take j) (by rintro j ρ M' ⟨_,_,_,_,e,_⟩;rw[<- e];exact hn) ⟨_,_,_,_,rfl,rfl,(by intro s h;cases h)⟩ ?_ ?_
  ·rintro j ρ M' dd bC ⟨o3,o4,o5,o6,rfl,rfl,K3⟩;rw[bc]at bC
   cases e:(fl f s f.ro.length)[j]? with
   | none=>rw[e]at bC;cases bC
   | some x =>
    rw[e]at bC;cases bC;obtain⟨r',k',c⟩:=x;obtain⟨g1,g2⟩:=(uD f.ro.length).mp (cQ e);have g1:r'<f.ro.length:=g1;have g2:(k',c)∈jf (cN f r').2.2 (load s r').2:=g2;nofun;refine⟨s2,?_⟩;show eA (bh .eq (.d (.tup [.int (r':Nat),.int k'])) (.d (.tup [.int (r:Nat),.int k])) M1) _;rw[K2]
    cases hq:(((r':Int)==(r:Int))&&(k'==k))with
    | true =>
     rw[aW,kC,kC]at hq;have er:r'=r:=∅;subst er;obtain⟨_,rfl⟩:=hq;obtain⟨h1,h2⟩:=hf.rd g1;have hb:=h2.b;have hm:=dN.mc hf (d:=.bE r' k') g1;have em:(cN f r').2.1=((mc f (.bE r' k'):Nat):Int):=by show _=(((cN f r').2.1.toNat:Nat):Int);omega
     nofun;rw[fv h1];nofun;rw[em,fv (hs.Ru hm).1];nofun;refine(GI hL hf hm ((hs.De g1).2.p _ (Bb g2)).1.ok.1).imp λo M2 ⟨f2,e2⟩=>⟨Ex.trans f1 f2,?_⟩;rw[e2];unfold rp;rw[Vj hs g1 g2];rfl
    | false =>
     refine⟨_,_,_,_,rfl,rfl,λc' nQ=>?_⟩;rw[bq e]at nQ;rcases dk.mp nQ with z | z
     ·exact K3 c' z
     ·have z:(r,k,c')=(r',k',c):=by simpa using z
      cases z;simp at hq
  ·rintro ρ M' ⟨o3,o4,o5,o6,rfl,rfl,K3⟩;rw[ay,gD]at K3;refine⟨f1,?_⟩;show W.d .aP=_;unfold rp;rw[Qo λc hc=>K3 c ((uD _).mpr ⟨hd,hc⟩)];rfl
noncomputable def gf(a b:Int):List Int:=(List.range (b-a).toNat).map λk=>a+((k:Nat):Int)
theorem lu(h:b<=a):gf a b=[]:=by
 unfold gf;rw[show(b-a).toNat=0 by omega];rfl
theorem jx(h:a<b):gf a b=a::gf (a+1) b:=by
 unfold gf;obtain⟨n,hn⟩:∃n,(b-a).toNat=n+1:=⟨(b-a).toNat-1,∅⟩;rw[hn,show(b-(a+1)).toNat=n by omega,List.range_succ_eq_map,fi,sL];refine congr (lW List.cons (by simp)) (List.map_congr_left λk _=>?_);show a+((k+1:Nat):Int)=a+1+(k:Int);omega
def cZ(l:Int×List (Int×Str)):List Int:=l.2.map (·.1)
def GP(l:Int×List (Int×Str)):Prop:=cZ l=gf (l.1-(l.2.length:Int)) l.1
def zA(F:Fn):Prop:=∀(M:aj)(w:Nat)(T:Int)(o:Str),WA M w T->T<10000->PyData.strOk o=true->aV (F [.ai w,.str o] M) λr M'=>∃l,r=.d (ki l)/\gZ 4 l/\((o == "heap")=false->GP l)/\WA M' w (T+20)/\Fr w M M'
theorem Qq(hD:fu (G aC)):zA (ao G 7 (zp aC)):=by
 intro M w T o hw hT ho;rw[bJ];show eh G (zp aC) [some (.ai w),some (.str o),none,none,none,none,none] M _ _ _ _;nofun;refine(hD M w T 6 hw ∅ ∅ ∅).imp ?_;rintro r M1 ⟨a,rfl,a0,a1,C8,f1⟩;nofun;refine(hD M1 w _ (10 ^ 9-1000) C8 ∅ ∅ ∅).imp ?_;rintro r M2 ⟨b,rfl,b0,b1,xl,f2⟩;nofun;refine⟨s3,?_⟩;nofun;have hA:(M2++[MO.lst [.int 0,.int a,.int b]])[M2.length]?=some (.lst [.int 0,.int a,.int b]):=aw;have AS:WA (M2++[MO.lst [.int 0,.int a,.int b]]) w (T+1+1):=xl.app;have f3:Fr w M (M2++[MO.lst [.int 0,.int a,.int b]]):=(f1.trans f2).app;have Vg:M.length<=M2.length:=(f1.trans f2).1;have Ja:=xl.lt;generalize M2++[MO.lst [.int 0,.int a,.int b]]=M3 at hA AS f3⊢;refine(hD M3 w _ 5 AS ∅ ∅ ∅).imp ?_;rintro r M4 ⟨c,rfl,c0,c1,mL,f4⟩;nofun;refine⟨⟨∅,∅⟩,?_⟩;have hA4:=f4.get hA ∅
 obtain⟨d,hd,s,rfl,s0',s1'⟩:∃d,[D.int 0,.int a,.int b][(c / 2).toNat]?=some d/\∃s:Int,d=.int s/\0<=s/\s<1000000000:=nM (ds:=[D.int 0,.int a,.int b]) (k:=3) (λd hd=>by
  simp only[bT,lU,fY]at hd;rcases hd with rfl | rfl | rfl
  ·exact⟨0,rfl,∅,∅⟩
  ·exact⟨a,rfl,∅,∅⟩
  ·exact⟨b,rfl,∅,∅⟩) ∅ ∅ rfl
 nofun;rw[bY hA4 (i:=c / 2) ∅ hd];nofun;refine⟨s0,?_⟩;nofun;have f5:=f3.trans f4;refine(hD (M4++[MO.lst []]) w _ 4 mL.app ∅ ∅ ∅).imp ?_;rintro r M5 ⟨g,rfl,g0,g1,qB,f6⟩;nofun;have hmn:0<=(if g<s then g else s)/\(if g<s then g else s)<=3/\(if g<s then g else s)<=s:=by split<;>omega
 generalize (if g<s then g else s)=mn at hmn;refine⟨⟨∅,∅⟩,?_⟩;have L9:M.length<=M4.length:=f5.1;have UG:=mL.lt;refine gB (n:=mn.toNat) (λi ρ M'=>∃o2 x6 ls,∃ps:List (Int×Str),ρ=[some (.ai w),some (.str o),o2,some (.int s),some (.ai M4.length),some (.int ls),x6]/\M'[M4.length]?=some (.lst (ps.map pD))/\ps.length<=i/\(∀p∈ps,eO p.2/\0<=p.1/\p.1<s/\ls<=p.1)/\(ps.Pairwise λp q=>p.1<q.1)/\ls<=s/\WA M' w (T+5+2*i)/\Fr w M M'/\((o == "heap")=false->ls=s-(i:Int)/\ps.length=i/\ps.map (·.1)=gf ls s)) ⟨_,_,_,[],rfl,f6.get aw ∅,aH _,(by intro p h;cases h),.nil,qL _,qB.mono ∅,f5.app.trans f6,λ_=>⟨∅,rfl,(lu (qL _)).symm⟩⟩ ?_ ?_
 ·rintro i ρ M6 hi ⟨o2,x6,ls,ps,rfl,hn,sY,Vk,Wz,hls,qW,f7,ht⟩;nofun;rw[bW ho KU];nofun;refine(hD M6 w _ 3 qW ∅ ∅ ∅).imp ?_;rintro r M7 ⟨h,rfl,h0,h1,KI,f8⟩;have K4:=f8.get hn ∅;nofun;have X7:0<=(if (o == "heap")=true then (1:Int) else 0)/\(if (o == "heap")=true then (1:Int) else 0)<=1:=by split<;>omega
  refine⟨.inr ⟨∅,∅⟩,?_⟩;have hmul:0<=(if (o == "heap")=true then (1:Int) else 0)*h:=Int.mul_nonneg X7.1 h0;have hz:(o == "heap")=false->(if (o == "heap")=true then (1:Int) else 0)*h=0:=λq=>by rw[q];simp
  generalize (if (o == "heap")=true then (1:Int) else 0)*h=mm at hmul hz;nofun;by_cases ZO:0<=ls-1-mm
  ·rw[fh ZO];nofun;refine⟨bL K4,?_⟩;nofun;refine(hD M7 w _ 4 KI ∅ ∅ ∅).imp ?_;rintro r M8 ⟨q,rfl,q0,q1,UN,f9⟩;have hn8:=f9.get K4 ∅;obtain⟨ch,Dm,K5⟩:=PX (M:=M8) q0 q1;nofun;rw[Dm];nofun;refine⟨s2,?_⟩;nofun;rw[xh (x:=.tup [.int (ls-1-mm),.str ch]) (i:=0) hn8 (aT (by rw[ay];omega)) ∅ ∅];refine⟨_,_,_,(ls-1-mm,ch)::ps,rfl,?_,by simp;omega,?_,?_,∅,(UN.set ∅).mono ∅,((f7.trans f8).trans f9).set ∅,λq=>?_⟩
   ·rw[aK hn8];simp[pD]
   ·intro p hp;rcases bT.mp hp with rfl | hp
    ·exact⟨K5,ZO,by show ls-1-mm<s;omega,qL _⟩
    ·obtain⟨a1,a2,a3,a4⟩:=Vk p hp;exact⟨a1,a2,a3,∅⟩
   ·refine sD.mpr ⟨λp hp=>?_,Wz⟩;obtain⟨a1,a2,a3,a4⟩:=Vk p hp;show ls-1-mm<p.1;omega
   ·have z:=hz q;obtain⟨t1,t2,t3⟩:=ht q;refine⟨∅,by simp[t2],?_⟩;show(ls-1-mm)::ps.map (·.1)=_;rw[t3,z,Int.sub_zero,jx (a:=ls-1) ∅,show ls-1+1=ls by omega]
  ·rw[dO ZO]
   refine⟨_,_,_,ps,rfl,K4,∅,λp hp=>?_,Wz,∅,KI.mono ∅,f7.trans f8,λq=>by
    have z:=hz q;obtain⟨t1,t2,t3⟩:=ht q;omega⟩
   obtain⟨a1,a2,a3,a4⟩:=Vk p hp;exact⟨a1,a2,a3,∅⟩
 ·rintro ρ M6 ⟨o2,x6,ls,ps,rfl,hn,sY,Vk,Wz,hls,qW,f7,ht⟩;nofun;rw[bZ hn];nofun;refine⟨s2,(s,ps),rfl,⟨⟨s0',by show s<=_;omega⟩,by show ps.length<=4;omega,λp hp=>?_,Wz⟩,λq=>?_,qW.mono ∅,f7⟩
  ·obtain⟨a1,a2,a3,a4⟩:=Vk p hp;exact⟨a1,a2,a3⟩
  ·obtain⟨t1,t2,t3⟩:=ht q;show ps.map (·.1)=gf (s-(ps.length:Int)) s;rw[t3,t2,<- t1]
theorem jh{α:Type}{P:α->Prop}{acc:List α}{x:α}(h:∀y∈acc,P y)(hx:P x):∀y∈acc++[x],P y:=by
 intro y hy;rcases dk.mp hy with z | z
 ·exact h y z
 ·have:y=x:=by simpa using z
  subst this;exact hx
theorem xD:itemAt M i (.items ds)=some ds[i]?:=rfl
def Tl(f:Fm)(s:Sd):Prop:=∀r,r<f.ro.length->((cN f r).2.2 == "heap")=false->GP (load s r)
def Qr(f:Fm)(ls:List (Int×List (Int×Str))):Prop:=∀(j:Nat) l,ls[j]?=some l->((cN f j).2.2 == "heap")=false->GP l
theorem Qr.snoc{f:Fm}{ls:List (Int×List (Int×Str))}{l:Int×List (Int×Str)}(h:Qr f ls) (k:((cN f ls.length).2.2 == "heap")=false->GP l):Qr f (ls++[l]):=λj x e q=>by
 rcases fj j ls.length with z | z
 ·rw[kr z]at e;exact h j x e q
 ·rw[qD z]at e
  have hj:j=ls.length:=by
   have:=(bz.mp e).1;simp only[iP,Ii]at this;omega
  subst hj;simp at e;subst e;exact k q
theorem Qr.tl{st:List Int}{ls:List (Int×List (Int×Str))}(h:Qr f ls)(hl:ls.length=f.ro.length):Tl f ⟨st,ls⟩:=λr hr q=>h r _ (by
 show ls[r]?=some (ls.getD r (0,[]));rw[gL,br ∅];rfl) q
theorem Vl:GP (0,[]):=rfl
def uG(F:Fn):Prop:=∀(M:aj)(ns:List Int)(f:Fm),ns.length<=63->cD f->aV (F [.ls (ns.map D.int),dG f] M) λr M'=>∃s,r=.d (dB s)/\bO f 4 s/\Tl f s/\Ex M M'
theorem K6{G:dQ}{cT aC p_:Nat}(hW:rX (G cT))(hD:fu (G aC))(hL:zA (G p_)):uG (ao G 5 (ux cT aC p_)):=by
 intro M ns f mh hf;have h8:=hf.l8;have h4:=hf.l4;rw[bJ];show eh G (ux cT aC p_) [some (.ls (ns.map D.int)),some (dG f),none,none,none] M _ _ _ _;nofun;refine(hW M ns 5 ∅ ∅ mh).imp ?_;rintro r M1 ⟨rfl,Cy,C8,f1⟩;nofun;refine je (ds:=f.ro.map xt) (λi M' acc=>M1=M'/\∃ls:List (Int×List (Int×Str)),acc=ls.map ki/\ls.length=i/\(∀l∈ls,gZ 4 l)/\Qr f ls) (by decide) (λi M' acc _ _=>xD) ⟨rfl,[],rfl,rfl,(by intro l h;cases h),(by intro j l h;simp at h)⟩ ?_ ?_ rfl
 ·rintro i M' acc d hd ⟨rfl,ls,rfl,u4,Mf,Dx⟩;have hi:=(bz.mp hd).1;rw[ay]at hi;refine⟨aT (by rw[ay];omega),?_⟩;nofun;refine⟨s0,s2,rfl,ls++[(0,[])],by simp[ki],by simp[u4],jh Mf ⟨⟨qL _,by show(0:Int)<=_;omega⟩,by simp,(by intro p h;cases h),.nil⟩,Dx.snoc λ_=>Vl⟩
 rintro M' acc ⟨rfl,ls,rfl,u4,Mf,Dx⟩;rw[ay]at u4;nofun;refine je (ds:=f.ru.map u3) (λi M' acc=>M1=M'/\∃st:List Int,acc=st.map D.int/\st.length=i/\∀l∈st,0<=l/\l<100) (by decide) (λi M' acc _ _=>xD) ⟨rfl,[],rfl,rfl,(by intro l h;cases h)⟩ ?_ ?_ rfl
 ·rintro i M' acc d hd ⟨rfl,st,rfl,Ay,Mg⟩;have hi:=(bz.mp hd).1;rw[ay]at hi;refine⟨aT (by rw[ay];omega),?_⟩;rw[bc,br hi]at hd;cases hd;have hr:=(hf.ru i _ (br hi)).1;nofun;refine⟨rfl,st++[f.ru[i].1],by simp,by simp[Ay],jh Mg hr⟩
 rintro M' acc ⟨rfl,st,rfl,Ay,Mg⟩;rw[ay]at Ay;nofun;refine(hD M1 M.length 0 3 C8 ∅ ∅ ∅).imp ?_;rintro r M2 ⟨a,rfl,a0,a1,xl,f2⟩;nofun;by_cases ha:0<a
 ·rw[fh ha];nofun;refine je (ds:=f.ro.map xt) (λi M' acc=>(WA M' M.length (1+20*i)/\Fr M.length M M')/\∃ls:List (Int×List (Int×Str)),acc=ls.map ki/\ls.length=i/\(∀l∈ls,gZ 4 l)/\Qr f ls) (by decide) (λi M' acc _ _=>xD) ⟨⟨xl.mono ∅,f1.trans f2⟩,[],rfl,rfl,(by intro l h;cases h),(by intro j l h;simp at h)⟩ ?_ ?_ rfl
  ·rintro i M' acc d hd ⟨⟨AS,f3⟩,ls,rfl,u4,Mf,Dx⟩;have hi:=(bz.mp hd).1;rw[ay]at hi;refine⟨aT (by rw[ay];omega),?_⟩;rw[(hf.rd hi).1]at hd;cases hd;nofun;refine(hL M' M.length _ _ AS ∅ (hf.rd hi).2.ok).imp ?_;rintro r M4 ⟨l,rfl,hl,ht,mL,f4⟩;nofun;refine⟨⟨mL.mono ∅,f3.trans f4⟩,ls++[l],by simp,by simp[u4],jh Mf hl,Dx.snoc (by rw[u4];exact ht)⟩
  rintro M3 acc ⟨⟨AS,f3⟩,ls,rfl,u4,Mf,Dx⟩;rw[ay]at u4 AS;nofun;refine(hD M3 M.length _ 4 AS ∅ ∅ ∅).imp ?_;rintro r M4 ⟨b,rfl,b0,b1,mL,f4⟩;nofun
  cases hb:(b==(0:Int))with
  | true =>
   nofun;refine je (ds:=f.ru.map u3) (λi M' acc=>(WA M' M.length (300+i)/\Fr M.length M M')/\∃st:List Int,acc=st.map D.int/\st.length=i/\∀l∈st,0<=l/\l<100) (by decide) (λi M' acc _ _=>xD) ⟨⟨mL.mono ∅,f3.trans f4⟩,[],rfl,rfl,(by intro l h;cases h)⟩ ?_ ?_ rfl
   ·rintro i M' acc d hd ⟨⟨qB,f5⟩,st,rfl,Ay,Mg⟩;have hi:=(bz.mp hd).1;rw[ay]at hi;refine⟨aT (by rw[ay];omega),?_⟩;nofun;refine(hD M' M.length _ 100 qB ∅ ∅ ∅).imp ?_;rintro r M6 ⟨c,rfl,c0,c1,qW,f6⟩;nofun;refine⟨⟨qW.mono ∅,f5.trans f6⟩,st++[c],by simp,by simp[Ay],jh Mg ⟨c0,c1⟩⟩
   rintro M5 acc ⟨⟨qB,f5⟩,st,rfl,Ay,Mg⟩;rw[ay]at Ay;nofun;exact⟨s2,⟨st,ls⟩,rfl,⟨Ay,Mg,u4,Mf⟩,Dx.tl u4,f5⟩
  | false =>
   nofun;exact⟨s2,⟨st,ls⟩,rfl,⟨Ay,Mg,u4,Mf⟩,Dx.tl u4,f3.trans f4⟩
 ·rw[dO ha];nofun;exact⟨s2,⟨st,ls⟩,rfl,⟨Ay,Mg,u4,Mf⟩,Dx.tl u4,f1.trans f2⟩
abbrev WB:=List (Int×List (Int×Str))
structure LA (M0 M:aj) (n7 n9:Nat) (as b:Nat->Nat) (st:List Int) (ld:WB):Prop where
 h7:M[n7]?=some (.lst (st.map D.int))
 h9:M[n9]?=some (.lst ((List.range ld.length).map λi=>D.ai (as i)))
 hl:∀i l,ld[i]?=some l->M[as i]?=some (.lst [.int l.1,.ai (b i)])/\M[b i]?=some (.lst (l.2.map pD))
 d1:∀i j,i<ld.length->j<ld.length->as i≠b j
 d2:∀i j,i<ld.length->j<ld.length->i≠j->as i≠as j/\b i≠b j
 d3:∀i,i<ld.length->as i≠n7/\b i≠n7/\as i≠n9/\b i≠n9
 ge:∀i,i<ld.length->M0.length<=as i/\M0.length<=b i
 fr:Ex M0 M
section
variable {M0 M:aj} {n7 n9:Nat} {as b:Nat->Nat} {st:List Int} {ld:WB}
theorem LA.at9(h:LA M0 M n7 n9 as b st ld)(hr:r<ld.length):de (.d (.ai n9)) (.d (.int r)) M=.ok (.d (.ai (as r))) M :=
 bo h.h9 (by rw[bc,jT hr];rfl)
theorem LA.Vm(h:LA M0 M n7 n9 as b st ld)(h0:0<=i)(hr:i.toNat<ld.length):de (.d (.ai n9)) (.d (.int i)) M=.ok (.d (.ai (as i.toNat))) M:=by
 have:=h.at9 hr;rw[Int.toNat_of_nonneg h0]at this;exact this
theorem LA.ex(h:LA M0 M n7 n9 as b st ld)(f:Ex M M'):LA M0 M' n7 n9 as b st ld :=
 ⟨Ex.get f h.h7,Ex.get f h.h9,λi l hi=>⟨Ex.get f (h.hl i l hi).1,Ex.get f (h.hl i l hi).2⟩,h.d1,h.d2,h.d3,h.ge,Ex.trans h.fr f⟩
theorem LA.app(h:LA M0 M n7 n9 as b st ld){l:Int×List (Int×Str)}(hr:ld[r]?=some l)(c:Str):LA M0 ((M.set (b r) (.lst (l.2.map pD++[pD (l.1,c)]))).set (as r) (.lst [.int (l.1+1),.ai (b r)])) n7 n9 as b st (ld.set r (more l c)):=by
 have jM:=(bz.mp hr).1;obtain⟨g1,g2⟩:=h.hl r l hr;obtain⟨a7,b7,a9,b9⟩:=h.d3 r jM;have Rm:=h.d1 r r jM jM;obtain⟨ga,gb⟩:=h.ge r jM;have aZ:(ld.set r (more l c)).length=ld.length:=kB;refine⟨aD (aD h.h7 (cW b7)) (cW a7),?_,λi l' hi=>?_,by rw[aZ];exact h.d1,by rw[aZ];exact h.d2,by rw[aZ];exact h.d3,by rw[aZ];exact h.ge,Fr.set (Fr.set h.fr gb) ga⟩
 ·rw[aZ];exact aD (aD h.h9 (cW b9)) (cW a9)
 ·have Rx:i<ld.length:=by rw[<- aZ];exact(bz.mp hi).1
  by_cases e:i=r
  ·subst e;rw[qE jM]at hi;cases hi;refine⟨aK (aD g1 Rm),?_⟩;refine aD (u:=.lst [.int (l.1+1),.ai (b i)]) (m:=as i) ?_ (cW Rm);rw[aK g2];unfold more;rw[eQ];rfl
  ·rw[qF (cW e)]at hi;obtain⟨k1,k2⟩:=h.hl i l' hi;obtain⟨x1,x2⟩:=h.d2 i r Rx jM e;exact⟨aD (aD k1 (h.d1 i r Rx jM)) x1,aD (aD k2 x2) (cW (h.d1 r i jM Rx))⟩
theorem LA.cut(h:LA M0 M n7 n9 as b st ld){l:Int×List (Int×Str)}(hr:ld[r]?=some l)(k:Int):LA M0 ((M++[MO.lst ((less l k).2.map pD)]).set (as r) (.lst [.int l.1,.ai M.length])) n7 n9 as (λi=>if i=r then M.length else b i) st (ld.set r (less l k)):=by
 have jM:=(bz.mp hr).1;obtain⟨g1,g2⟩:=h.hl r l hr;obtain⟨a7,b7,a9,b9⟩:=h.d3 r jM;obtain⟨ga,gb⟩:=h.ge r jM;have aZ:(ld.set r (less l k)).length=ld.length:=kB;have aM:∀i,i<ld.length->as i<M.length:=λi hi=>aB (h.hl i _ (br hi)).1;have bM:∀i,i<ld.length->b i<M.length:=λi hi=>aB (h.hl i _ (br hi)).2;have m7:=aB h.h7;have m9:=aB h.h9;have hmr:=aM r jM;refine⟨aD (aF h.h7) (cW a7),?_,λi l' hi=>?_,?_,?_,?_,?_,Fr.set (Fr.app h.fr) ga⟩
 ·rw[aZ];exact aD (aF h.h9) (cW a9)
 ·have Rx:i<ld.length:=by rw[<- aZ];exact(bz.mp hi).1
  by_cases e:i=r
  ·subst e;rw[qE jM]at hi;cases hi;simp only[e_];exact⟨aK (aF g1),aD aw ∅⟩
  ·rw[qF (cW e)]at hi;obtain⟨k1,k2⟩:=h.hl i l' hi;obtain⟨x1,x2⟩:=h.d2 i r Rx jM e;simp only[aq e];exact⟨aD (aF k1) x1,aD (aF k2) (cW (h.d1 r i jM Rx))⟩
 ·rw[aZ];intro i j hi hj;have:=aM i hi;split
  ·omega
  ·exact h.d1 i j hi hj
 ·rw[aZ];intro i j hi hj Tg;have:=bM i hi;have:=bM j hj;obtain⟨x1,x2⟩:=h.d2 i j hi hj Tg;refine⟨x1,?_⟩;split<;>split<;>first | omega | exact x2
 ·rw[aZ];intro i hi;obtain⟨x1,x2,x3,x4⟩:=h.d3 i hi;refine⟨x1,?_,x3,?_⟩
  ·split
   ·omega
   ·exact x2
  ·split
   ·omega
   ·exact x4
 ·rw[aZ];intro i hi;obtain⟨x1,x2⟩:=h.ge i hi;refine⟨x1,?_⟩;have:=h.fr.1;split
  ·exact this
  ·exact x2
end
def Vn:List S:=[.bD [10,11] .seq [4] [.expr (.me .append (.sub (.sub 9 10) (.kn 1)) [(.tup [(.sub (.sub 9 10) (.kn 0)),11])]),.put (.sub 9 10) (.kn 0) (.bin .add (.sub (.sub 9 10) (.kn 0)) (.kn 1))],.asg [12] (.bi .tuple1 [(.comp .seq [9] [1] none (.tup [(.ks 1 0),(.bi .tuple1 [(.ks 1 1)])]) [none,none])]),.ret (.tup [(.tup [(.bi .tuple1 [7]),12]),(.ite (.val (.cmp .tM 5 (.bw .aP))) (.bw .aP) (.tup [6,5]))])]
theorem qg{G:dQ}{M0 M:aj}{n7 n9 m N:Nat}{as b:Nat->Nat}{o0 o1 o2 o3 o8 ko iN Dh:Option D}{sd:List (Int×Str)}{w:Option Str}{st:List Int}{ld:WB}{nx:En->aj->Prop}{rt:W->aj->Prop}{bk ct:En->aj->Prop}(hA:LA M0 M n7 n9 as b st ld)(Rl:∀l∈ld,gZ N l)(hN:N<=900)(p4:∀p∈sd,eO p.2/\0<=p.1/\p.1.toNat<ld.length)(h3:sd.length<=3)(h8:ld.length<=8)(q:∀M',Ex M0 M'->rt (.d (.tup [.tup [.tup (st.map D.int),.tup ((dU ld sd).map ki)],Qn m w])) M'):eh G Vn [o0,o1,o2,o3,some (.tup (sd.map pD)),some (P9 w),some (.int m),some (.ai n7),o8,some (.ai n9),ko,iN,Dh] M nx rt bk ct:=by
 nofun;refine gC (ds:=sd.map pD) (λi ρ M'=>∃ko iN,ρ=[o0,o1,o2,o3,some (.tup (sd.map pD)),some (P9 w),some (.int m),some (.ai n7),o8,some (.ai n9),ko,iN,Dh]/\LA M0 M' n7 n9 as b st (dU ld (sd.take i))) ⟨_,_,rfl,hA⟩ ?_ ?_
 ·rintro i ρ M' dd bC ⟨ko,iN,rfl,hA⟩;rw[bc]at bC
  cases e:sd[i]? with
  | none=>rw[e]at bC;cases bC
  | some p =>
   rw[e]at bC;cases bC;obtain⟨p1,p2,p3⟩:=p4 p (cQ e);have hi:=(bz.mp e).1;have Dw:p.1.toNat<(dU ld (sd.take i)).length:=by rw[lr];exact p3
   have bI:=ox (n:=i) Rl (λq hq=>⟨(p4 q (sC hq)).1,(p4 q (sC hq)).2.2⟩) (by rw[hG];omega:(sd.take i).length<=i);have Jc:=g8 (d:=((0:Int),([]:List (Int×Str)))) bI Dw;have Rv:=Jc.n;have zB:(dU ld (sd.take i))[p.1.toNat]?=some ((dU ld (sd.take i)).getD p.1.toNat (0,[])):=by rw[gL,br Dw];rfl
   have WC:dU ld (sd.take (i+1))=(dU ld (sd.take i)).set p.1.toNat (more ((dU ld (sd.take i)).getD p.1.toNat (0,[])) p.2):=by rw[bq e,sf]
   rw[WC];generalize (dU ld (sd.take i)).getD p.1.toNat (0,[])=l at Jc Rv zB⊢;obtain⟨g1,g2⟩:=hA.hl _ _ zB;have Rm:=hA.d1 _ _ Dw Dw;nofun;rw[hA.Vm p2 Dw];nofun;rw[bY g1 (i:=1) (x:=.ai (b p.1.toNat)) (by decide) rfl];nofun;refine⟨bL g2,?_⟩;nofun;rw[hA.Vm p2 Dw];nofun;rw[bY g1 (i:=0) (x:=.int l.1) (by decide) rfl];nofun;refine⟨s2,?_⟩;nofun;rw[cf g2 (aT (by rw[ay];omega))];nofun;have k9:(M'.set (b p.1.toNat) (.lst (l.2.map pD++[.tup [.int l.1,.str p.2]])))[n9]?=some (.lst ((List.range (dU ld (sd.take i)).length).map λi=>D.ai (as i))):=aD hA.h9 (cW (hA.d3 _ Dw).2.2.2);have ka:(M'.set (b p.1.toNat) (.lst (l.2.map pD++[.tup [.int l.1,.str p.2]])))[as p.1.toNat]?=some (.lst [.int l.1,.ai (b p.1.toNat)]):=aD g1 Rm;have k9':de (.d (.ai n9)) (.d (.int p.1)) (M'.set (b p.1.toNat) (.lst (l.2.map pD++[.tup [.int l.1,.str p.2]])))=.ok (.d (.ai (as p.1.toNat))) (M'.set (b p.1.toNat) (.lst (l.2.map pD++[.tup [.int l.1,.str p.2]]))):=bY k9 p2 (by rw[bc,jT Dw];rfl);rw[k9'];nofun;rw[bY ka (i:=0) (x:=.int l.1) (by decide) rfl];nofun;rw[k9'];nofun;rw[pX (i:=0) ka (by decide) (show 0<2 by decide)];exact⟨_,_,rfl,hA.app zB p.2⟩
 ·rintro ρ M' ⟨ko,iN,rfl,hA⟩;rw[ay,gD]at hA;have bI:=ox (n:=3) Rl (λq hq=>⟨(p4 q hq).1,(p4 q hq).2.2⟩) h3;have aZ:(dU ld sd).length=ld.length:=lr;nofun;rw[dy hA.h9];refine je (ds:=(List.range (dU ld sd).length).map λi=>D.ai (as i)) (λi M2 acc=>M'=M2/\acc=((dU ld sd).take i).map ki) (by decide) (λi M2 acc h hi=>pZ hA.h9 M2 (by rw[<- h.1];exact Ex.refl _) i hi) ⟨rfl,rfl⟩ ?_ ?_ (qU hA.h9)
  ·rintro i M2 acc dd bC ⟨rfl,rfl⟩;have hi:=(bz.mp bC).1;rw[ay,lS]at hi;rw[bc,jT hi]at bC;cases bC;obtain⟨g1,g2⟩:=hA.hl i _ (br hi);refine⟨aT (by rw[ay,hG];omega),?_⟩;nofun;rw[bY g1 (i:=0) (x:=.int (dU ld sd)[i].1) (by decide) rfl];nofun;rw[bY g1 (i:=1) (x:=.ai (b i)) (by decide) rfl];nofun;rw[bZ g2];nofun;refine⟨s2,rfl,?_⟩;rw[bq (br hi),eQ];rfl
  rintro M2 acc ⟨rfl,rfl⟩;rw[ay,lS,gD];nofun;rw[bZ hA.h7]
  cases w with
  | none =>
   nofun;exact⟨s2,s2,q M' hA.fr⟩
  | some x =>
   nofun;refine⟨s2,s2,s2,q M' hA.fr⟩
theorem Qs{G:dQ}{fV fW:Nat}(hA:uF (G fV))(Ve:nj (G fW)):sg (ao G 13 (zo fV fW)):=by
 intro M f N s d x hf hs hN hd hx;have hm:=hd.mc hf;have K0:=Ba hf hs hd hx;have h8:=hf.l8;have u4:=hs.ll;obtain⟨a,sd,w⟩:=x;rw[bJ];show eh G (zo fV fW) [some (dG f),some (dB s),some (c_ d),none,none,none,none,none,none,none,none,none,none] M _ _ _ _;nofun;refine(hA M f N s d hf hs hN hd).imp ?_;rintro r M1 ⟨f1,e⟩;rw[hx]at e;subst e;nofun;refine(Ve M1 f d hf hd).imp ?_;rintro r M2 ⟨rfl,rfl⟩;nofun;have fB:mc f d<(s.st.map D.int).length:=by rw[ay,hs.ls];exact hm
 rw[jv aw fB];nofun;have g7:((M1++[MO.lst (s.st.map D.int)]).set M1.length (.lst ((s.st.map D.int).set (mc f d) (.int a))))[M1.length]?=some (.lst ((s.st.set (mc f d) a).map D.int)):=by rw[aK aw,List.map_set]
 have yA:Ex M ((M1++[MO.lst (s.st.map D.int)]).set M1.length (.lst ((s.st.map D.int).set (mc f d) (.int a)))):=Fr.set (Fr.app f1) f1.1;have Cy:=f1.1;have hm7:=aB g7;generalize (M1++[MO.lst (s.st.map D.int)]).set M1.length (.lst ((s.st.map D.int).set (mc f d) (.int a)))=M5 at g7 yA hm7⊢;have hl7:=yA.1
 have p4:∀(ld:WB),ld.length=f.ro.length->∀p∈sd,eO p.2/\0<=p.1/\p.1.toNat<ld.length:=λld hl p hp=>by
  obtain⟨a,b,r,c,_⟩:=K0.sd p hp;exact⟨a,b,by rw[hl];exact(bz.mp c).1⟩
 have Dx:UX f d (a,sd,w)=Qn (mc f d) w:=by cases w<;>rfl
 rw[Dx];refine je (ds:=s.ld.map ki) (λi M' acc=>acc=(List.range i).map (λj=>D.ai (M5.length+2*j+1))/\M'.length=M5.length+2*i/\(∀j l,j<i->s.ld[j]?=some l->M'[M5.length+2*j+1]?=some (.lst [.int l.1,.ai (M5.length+2*j)])/\M'[M5.length+2*j]?=some (.lst (l.2.map pD)))/\Ex M5 M') (by decide) (λi M' acc _ _=>xD) ⟨rfl,rfl,(by intro j l h;omega),Ex.refl _⟩ ?_ ?_ rfl
 ·rintro i M' acc dd bC ⟨rfl,hl,hj,fr⟩;have hi:=(bz.mp bC).1;rw[ay]at hi;rw[bc,br hi]at bC;cases bC;refine⟨aT (by rw[ay,lS];omega),?_⟩;nofun;refine⟨s2,?_⟩;nofun;have Dr:(M'++[MO.lst (s.ld[i].2.map pD)]).length=M5.length+2*i+1:=by rw[cI,hl];rfl
  refine⟨?_,by rw[cI,Dr];simp;omega,?_,Fr.app (Fr.app fr)⟩
  ·rw[yc,eQ,Dr];rfl
  ·intro j l hji Qt;by_cases e:j=i
   ·subst e;rw[br hi]at Qt;cases Qt;rw[<- Dr,<- hl];exact⟨aw,aF aw⟩
   ·obtain⟨k1,k2⟩:=hj j l ∅ Qt;exact⟨aF (aF k1),aF (aF k2)⟩
 rintro M6 acc ⟨rfl,hl,hj,fr⟩;rw[ay]at hl hj⊢
 have Mh:LA M (M6++[MO.lst ((List.range s.ld.length).map λj=>D.ai (M5.length+2*j+1))]) M1.length M6.length (λj=>M5.length+2*j+1) (λj=>M5.length+2*j) (s.st.set (mc f d) a) s.ld:=by
  refine⟨aF (Ex.get fr g7),aw,λi l hi=>?_,λi j hi hj=>?_,λi j hi hj Tg=>⟨?_,?_⟩,λi hi=>⟨?_,?_,?_,?_⟩,λi hi=>⟨?_,?_⟩,Fr.app (Ex.trans yA fr)⟩
  ·obtain⟨k1,k2⟩:=hj i l (bz.mp hi).1 hi;exact⟨aF k1,aF k2⟩
  all_goals (try dsimp only)
  all_goals omega
 cases d with
 | own m =>
  nofun;rw[bW cw aR,Df];exact qg Mh hs.ld hN (p4 _ u4) K0.l ∅ λM2 f2=>⟨f2,rfl⟩
 | ej m c' =>
  nofun;rw[bW cH aR,zu];exact qg Mh hs.ld hN (p4 _ u4) K0.l ∅ λM2 f2=>⟨f2,rfl⟩
 | bE r k =>
  have hr:r<s.ld.length:=by rw[hs.ll];exact hd
  have Jc:=g8 (d:=((0:Int),([]:List (Int×Str)))) hs.ld hr;have Rv:=Jc.n;have zB:s.ld[r]?=some (s.ld.getD r (0,[])):=by rw[gL,br hr];rfl
  have hle:jg s.ld (.bE r k)=s.ld.set r (less (s.ld.getD r (0,[])) k):=rfl;nofun;rw[bW aR aR,xu];generalize M6++[MO.lst ((List.range s.ld.length).map λj=>D.ai (M5.length+2*j+1))]=M7 at Mh⊢;obtain⟨as,b,Mh⟩:∃as b,LA M M7 M1.length M6.length as b (s.st.set (mc f (.bE r k)) a) s.ld:=⟨_,_,Mh⟩;nofun;rw[Mh.at9 hr];obtain⟨g1,g2⟩:=Mh.hl _ _ zB;nofun;rw[bY g1 (i:=1) (x:=.ai (b r)) (by decide) rfl];nofun;rw[dy g2];refine xB (ps:=(s.ld.getD r (0,[])).2) (k:=k) (it:=.at (b r)) (pZ g2) ∅ ?_ ?_ (λM8 f8=>?_) (qU g2)
  ·intro M' p Q _ h;exact h
  ·show 1<3;decide
  have hA8:=Mh.ex f8;have g1':=(hA8.hl _ _ zB).1;nofun;rw[pX (i:=1) (aF g1') (by decide) (show 1<2 by decide)];have hA9:=hA8.cut zB k;refine qg hA9 (qf (d:=.bE r k) hs.ld λr' k' e=>by cases e;exact hr) hN (p4 _ (by rw[kB];exact u4)) K0.l (by rw[kB];omega) λM2 f2=>⟨f2,rfl⟩
def xE:Dn->PyData
 | .own m=>.tuple [.str "own",.int m]
 | .ej m c=>.tuple [.str "hear",.int m,.str c]
 | .bE r k=>.tuple [.str "come",.int r,.int k]
theorem Mi(h:1<=n):eK M n (c_ d)=some (xE d):=by
 obtain⟨n,rfl⟩:∃m,n=m+1:=⟨n-1,∅⟩;cases d<;>(show eK M (n+1) (.tup _)=_;try simp only[eK,cv,DT];try rfl)
theorem GQ(h:1<=n):∀ds:List Dn,cv M n (ds.map c_)=some (ds.map xE)
 | []=>by rw[oM];unfold cv;rfl
 | d::ds=>by
  rw[fi];unfold cv;rw[Mi h,GQ h ds];rfl
def Ry:Dn->Prop
 | .ej _ c=>PyData.strOk c=true
 | _=>True
theorem dN.s(h:dN f d):Ry d:=by
 cases d with
 | own m=>trivial
 | ej m c=>exact h.2.ok.1
 | bE r k=>trivial
theorem GR(h:Ry d):PyData.canLay0 (xE d)=true/\PyData.depth (xE d)<=1:=by
 cases d with
 | own m =>
  unfold xE;simp only[x8,u7,u6,vc,BD,cw,yb,u_,u9,vg,BL];decide
 | ej m c =>
  have h:PyData.strOk c=true:=h;unfold xE;simp only[x8,u7,u6,vc,BD,cH,h,yb,u_,u9,vg,BL];decide
 | bE r k =>
  unfold xE;simp only[x8,u7,u6,vc,BD,aR,yb,u_,u9,vg,BL];decide
theorem Bg:∀{ds:List Dn},(∀d∈ds,Ry d)->PyData.canLayAll0 (ds.map xE)=true/\PyData.depthAll (ds.map xE)<=1
 | [],_=>by rw[oM,u6,u9];decide
 | d::ds,h=>by
  obtain⟨a1,a2⟩:=GR (h d dH);obtain⟨b1,b2⟩:=Bg (ds:=ds) λx hx=>h x (da _ hx);rw[fi,u7,u_,a1,b1];exact⟨rfl,∅⟩
theorem Qu{ds:List Dn}(h:∀d∈ds,Ry d):SeqAt.shaped (.list (ds.map xE))=true:=by
 obtain⟨a,b⟩:=Bg h;unfold SeqAt.shaped;rw[PyData.canLay0.eq_5,a,PyData.depth.eq_1,vk];exact fh ∅
theorem GS{n:Nat}{ds:List Dn}(hM:M[n]?=some (.lst (ds.map c_)))(h:∀d∈ds,Ry d):bh .ne (.d (.ai n)) (.lv []) M=.ok (!ds.isEmpty) M:=by
 have h1:jD M (.d (.ai n))=some (.list (ds.map xE)):=by
  show eK M 30 (.ai n)=_;unfold eK
  try simp only[hM]
  rw[GQ (by decide) ds];rfl
 have h2:jD M (.lv [])=some (.list []):=by show(cv M 30 []).map _=_;unfold cv;rfl
 have h3:=Qu h;have h4:SeqAt.shaped (.list [])=true:=⋯;unfold bh
 try simp only[h1,h2,h3,h4,kE,e_,PyData.eqv.eq_7]
 cases ds with
 | nil=>rw[oM,Ib];rfl
 | cons d ds =>
  have:PyData.eqvAll (xE d::ds.map xE) []=false:=by simp only[PyData.eqvAll]
  rw[fi,this];rfl
noncomputable def cmI:D->Option D
 | .tup [a,b,_]=>some (.tup [.str "come",a,b])
 | _=>none
def cm(f:Fm)(s:Sd):List Dn:=(fl f s f.ro.length).map λx=>.bE x.1 x.2.1
theorem GU:∀l:List (Nat×Int×Str),(l.map tD).filterMap cmI=(l.map λx=>Dn.bE x.1 x.2.1).map c_
 | []=>rfl
 | x::l=>by
  have:=GU l;rw[fi,lQ,this];rfl
theorem GV(hs:bO f N s)(h:d∈cm f s):dN f d/\cn f s d=true:=by
 obtain⟨⟨r,k,c⟩,hx,rfl⟩:=dI.mp h;obtain⟨h1,h2⟩:=(uD _).mp hx;refine⟨h1,?_⟩;rw[Bd hs h1];exact fh (dI.mpr ⟨_,h2,rfl⟩)
theorem GW(hf:cD f)(hs:bO f N s)(hN:N<=900):(cm f s).length<=7200:=by
 unfold cm;rw[ay];exact dW (zy hs _ (aH _)) (BS hN hf.l8)
theorem K7(hM:M[n]?=some (.lst ((fl f s f.ro.length).map tD)))(hl:(fl f s f.ro.length).length<=7200)(q:∀M',Ex M M'->P (.lv ((cm f s).map c_)) M')(hk:k=((fl f s f.ro.length).map tD).length):aV (bu (λτ M=>bV G none τ M) (λτ M=>(ev G (.tup [(.bw (.str "come")),(.eX 1),(.eX 2)]) τ M).bind own) (.at n) [1,2,3] k 0 [none,none,none,none] M []) P:=by
 refine lg (ds:=(fl f s f.ro.length).map tD) cmI (by decide) (pZ hM) (by rw[ay];exact dW hl (by decide)) ?_ ?_ hk
 ·intro i M' d hd fr;rw[bc]at hd
  cases e:(fl f s f.ro.length)[i]? with
  | none=>rw[e]at hd;cases hd
  | some p =>
   rw[e]at hd;cases hd;nofun;exact⟨s3,rfl,fr⟩
 ·intro M' fr;rw[GU];exact q M' fr
theorem WA.ex(h:WA M w T)(f:Ex M M'):WA M' w T:=h.fr f (by have:=h.lt;omega)
theorem Mj{ds:List Dn}{i:Int}(h0:0<=i)(h1:i<ds.length):∃d,d∈ds/\(ds.map c_)[i.toNat]?=some (c_ d):=by
 have hl:i.toNat<ds.length:=∅;exact⟨ds[i.toNat],kA hl,by rw[bc,br hl];rfl⟩
def zC(F:Fn):Prop:=∀(M:aj)(w:Nat)(T:Int)(f:Fm)(N:Nat)(s:Sd),WA M w T->T<10000->cD f->bO f N s->N<=900->aV (F [.ai w,dG f,dB s] M) λr M'=>∃d,r=.d (c_ d)/\dN f d/\cn f s d=true/\Fr w M M'
theorem Qv{eY fV aC:Nat}(hC:oy (G eY))(hA:uF (G fV))(hD:fu (G aC)):zC (ao G 7 (zq eY fV aC)):=by
  intro M w T f N s hw hT hf hs hN;have h4:=hf.l4;have h1:=hf.l1;have Ja:=hw.lt;rw[bJ];show eh G (zq eY fV aC) [some (.ai w),some (dG f),some (dB s),none,none,none,none] M _ _ _ _;nofun;refine(hC M f N s hf hs hN).imp ?_;rintro o M1 ⟨n,rfl,Dt,hn,f1⟩;nofun;rw[dy hn];refine K7 hn (by have:=GW hf hs hN;unfold cm at this;rw[ay]at this;exact this) (λM2 f2=>?_) (qU hn);have Di:=Ex.trans f1 f2;nofun;refine⟨s0,?_⟩;nofun;refine⟨⟨by rw[ay];omega,by rw[ay];omega⟩,?_⟩;have Dp:(M2++[MO.lst ((cm f s).map c_)])[M2.length]?=some (.lst ((cm f s).map c_)):=aw;have Dr:=Di.1;have qC:Fr w M (M2++[MO.lst ((cm f s).map c_)]):=Fr.app ((Fr.refl w M).back Di (.inl (aH _)));have xl:WA (M2++[MO.lst ((cm f s).map c_)]) w T:=(hw.ex Di).app;have aZ:(M2++[MO.lst ((cm f s).map c_)]).length=M2.length+1:=by simp
  generalize (M2++[MO.lst ((cm f s).map c_)])=M3 at Dp qC xl aZ⊢;generalize M2.length=n3 at Dp Dr aZ⊢;refine gB (n:=((f.ru.map u3).length:Int).toNat) (λi ρ M'=>∃o5,∃ms:List Dn,ρ=[some (.ai w),some (dG f),some (dB s),some (.ai n3),some (.ai M3.length),o5,none]/\M'[n3]?=some (.lst ((cm f s).map c_))/\M'[M3.length]?=some (.lst (ms.map c_))/\ms.length<=i/\(∀d∈ms,dN f d/\cn f s d=true)/\WA M' w T/\Fr w M M') ⟨_,[],rfl,aF Dp,aw,aH _,(by intro d h;cases h),xl.app,qC.app⟩ ?_ ?_
  · rintro i ρ M' hi ⟨o5,ms,rfl,hc,hm,Vg,Rz,UT,KZ⟩;have hi:i<f.ru.length:=by rw[ay]at hi;omega
    have bI:dN f (.own i):=hi;sleep 27;refine⟨s2,?_⟩;nofun;refine(hA M' f N s (.own i) hf hs hN bI).imp ?_;rintro r M4 ⟨f4,rfl⟩;have hc4:=Ex.get f4 hc;have L9:=Ex.get f4 hm;have lO:=KZ.back f4 (.inl KZ.1);have mL:=UT.ex f4;nofun;rw[U8]
    cases hcn:(rp f s (.own i)).isSome with
    | true =>
      nofun;refine⟨bL L9,?_⟩;nofun;refine⟨s2,?_⟩;nofun;rw[cf L9 (aT (by rw[ay];omega))];refine⟨_,ms++[.own i],rfl,aD hc4 ∅,?_,by simp;omega,jh (x:=Dn.own i) Rz ⟨bI,hcn⟩,mL.set (by have:=qC.1;omega),lO.set (by have:=qC.1;omega)⟩;rw[aK L9,eQ];rfl
    | false =>
      exact⟨_,ms,rfl,hc4,L9,∅,Rz,mL,lO⟩
  rintro ρ M' ⟨o5,ms,rfl,hc,hm,Vg,Rz,UT,KZ⟩;have Vg:ms.length<=4:=by rw[ay]at Vg;omega
  have Wm:=GW hf hs hN;have hM3:=qC.1;nofun;refine(hD M' w T 8 UT ∅ ∅ ∅).imp ?_;rintro r M5 ⟨wy,rfl,y0,y1,qB,f5⟩;have ZP:=f5.get hc ∅;have ZQ:=f5.get hm ∅;have jl:=KZ.trans f5;nofun;refine⟨s0,?_⟩;nofun;rw[GS ZP λd hd=>(GV hs hd).1.s]
  have second : eh G [.iff (.dv [(.val (.cmp .ne (.eX 4) (.lst []))), (.val (.cmp .lt (.eX 6) (.bw (.int 7))))]) [.ret (.sub (.eX 4) (.call aC [(.eX 0), (.bi .len [(.eX 4)])]))] [], .ret (.tup [(.bw (.str "hear")), (.call aC [(.eX 0), (.bi .len [(.sub (.eX 1) (.bw (.int 0)))])]), (.sub (.bw (.str "abcz")) (.call aC [(.eX 0), (.bw (.int 4))]))])]
      [some (.ai w),some (dG f),some (dB s),some (.ai n3),some (.ai M3.length),o5,some (.int wy)] M5 (λρ M'=>∃d,W.d D.aP=.d (c_ d)/\dN f d/\cn f s d=true/\Fr w M M') (λr M'=>∃d,r=.d (c_ d)/\dN f d/\cn f s d=true/\Fr w M M') (λ_ _=>False) (λ_ _=>False):=by
    have Mk : eh G [.ret (.tup [(.bw (.str "hear")), (.call aC [(.eX 0), (.bi .len [(.sub (.eX 1) (.bw (.int 0)))])]), (.sub (.bw (.str "abcz")) (.call aC [(.eX 0), (.bw (.int 4))]))])]
        [some (.ai w),some (dG f),some (dB s),some (.ai n3),some (.ai M3.length),o5,some (.int wy)] M5 (λρ M'=>∃d,W.d D.aP=.d (c_ d)/\dN f d/\cn f s d=true/\Fr w M M') (λr M'=>∃d,r=.d (c_ d)/\dN f d/\cn f s d=true/\Fr w M M') (λ_ _=>False) (λ_ _=>False):=by
      nofun;refine(hD M5 w _ ((f.ru.map u3).length:Int) qB ∅ (by rw[ay];omega) (by rw[ay];omega)).imp ?_;rintro r M6 ⟨i,rfl,i0,i1,qW,f6⟩;nofun;refine(hD M6 w _ 4 qW ∅ ∅ ∅).imp ?_;rintro r M7 ⟨j,rfl,j0,j1,KI,f7⟩;obtain⟨c,hc,K5⟩:=PX (M:=M7) j0 j1;nofun;rw[hc];nofun;rw[ay]at i1;refine⟨s3,.ej i.toNat c,?_,⟨∅,K5⟩,?_,(jl.trans f6).trans f7⟩
      · show W.d (.tup [.str "hear",.int i,.str c])=.d (.tup [.str "hear",.int (i.toNat:Nat),.str c]);rw[Int.toNat_of_nonneg i0]
      · obtain⟨x,hx⟩:=uA (mv:=r_ f i.toNat) (s:=s.st.getD i.toNat 0) K5;show(an (r_ f i.toNat) (s.st.getD i.toNat 0) c).isSome=true;rw[hx];rfl
    nofun;refine⟨s0,?_⟩;nofun;rw[GS ZQ λd hd=>(Rz d hd).1.s]
    cases ms with
    | nil=>exact Mk
    | cons d0 ms =>
      nofun;by_cases hy:wy<7
      · rw[fh hy];nofun;rw[dq ZQ];nofun;refine(hD M5 w _ (((d0::ms).map c_).length:Int) qB ∅ (by rw[ay,iP];omega) (by rw[ay];omega)).imp ?_;rintro r M6 ⟨i,rfl,i0,i1,qW,f6⟩;rw[ay]at i1;obtain⟨d,hd,hg⟩:=Mj i0 i1;nofun;rw[bY (f6.get ZQ ∅) i0 hg];exact⟨d,rfl,(Rz d hd).1,(Rz d hd).2,jl.trans f6⟩
      · rw[dO hy];exact Mk
  cases hcm:(cm f s).isEmpty with
  | true=>exact second
  | false =>
    nofun;by_cases hy:wy<4
    · rw[fh hy];nofun;rw[dq ZP];nofun
      have hpos:0<(cm f s).length:=by
        cases hz:cm f s with
        | nil=>rw[hz]at hcm;cases hcm
        | cons a b=>simp
      refine(hD M5 w _ (((cm f s).map c_).length:Int) qB ∅ (by rw[ay];omega) (by rw[ay];omega)).imp ?_;rintro r M6 ⟨i,rfl,i0,i1,qW,f6⟩;rw[ay]at i1;obtain⟨d,hd,hg⟩:=Mj i0 i1;nofun;rw[bY (f6.get ZP ∅) i0 hg];exact⟨d,rfl,(GV hs hd).1,(GV hs hd).2,jl.trans f6⟩
    · rw[dO hy];exact second
end Ev
end
section
namespace Ev
open PySem
noncomputable def zD(K8:Nat)(Bh:Nat):List S:=[.asg [3] (.lst []),.asg [4] 1,.bD [5,6] .enum [2] [.iff (.neg (.val (.call K8 [0,4,6]))) [.never] [],.asg [7] (.call Bh [0,4,6]),.asg [4] (.ks 7 0),.expr (.me .append 3 [7])],.ret 3]
noncomputable def uH(cT:Nat)(aC:Nat)(uI:Nat)(uJ:Nat):List S:=[.asg [4] (.call cT [0,(.kn 6)]),.asg [5] (.lst []),.asg [6] (.lst [(.call aC [4,(.kn 13)]),(.bin .add (.kn 6) (.call aC [4,(.kn 13)])),(.bin .sub 3 (.call aC [4,(.kn 4)]))]),.bD [7] .eR [(.sub 6 (.bin .fdiv (.call aC [4,(.kn 9)]) (.kn 4)))] [.asg [8] (.call uI [(.call cT [0,(.bin .add (.kn 7) 7)]),1,2]),.expr (.me .append 5 [8]),.asg [2] (.sub (.call uJ [1,2,8]) (.kn 0))],.ret 5]
end Ev
end
section
namespace Ev
open L2
open PySem PySem.Spec PyProof.Rows
def Ml(f:Fm)(s:Sd)(d:Dn):Int×List (Int×Str)×Option Str:=(rp f s d).getD (0,[],none)
def cO(f:Fm)(s:Sd)(d:Dn):Sd:=UW f s d (Ml f s d)
def fin(f:Fm)(s:Sd)(ds:List Dn):Sd:=ds.foldl (cO f) s
def tr(f:Fm):Sd->List Dn->List (Sd×Nat×Option Str)
 | _,[]=>[]
 | s,d::ds=>(cO f s d,mc f d,(Ml f s d).2.2)::tr f (cO f s d) ds
def dr(f:Fm):Sd->List Dn->Prop
 | _,[]=>True
 | s,d::ds=>(dN f d/\cn f s d=true)/\dr f (cO f s d) ds
theorem uK:fin f s (a++b)=fin f (fin f s a) b:=by unfold fin;rw[DL]
theorem oA:∀{a b:List Dn}{s:Sd},dr f s (a++b)↔dr f s a/\dr f (fin f s a) b
 | [],b,s=>⟨λh=>⟨trivial,h⟩,λh=>h.2⟩
 | d::a,b,s=>by
  show _/\dr f (cO f s d) (a++b)↔(_/\dr f (cO f s d) a)/\dr f (fin f (cO f s d) a) b;rw[oA (a:=a)];constructor
  ·rintro⟨h1,h2,h3⟩;exact⟨⟨h1,h2⟩,h3⟩
  ·rintro⟨⟨h1,h2⟩,h3⟩;exact⟨h1,h2,h3⟩
theorem GX:∀{a b:List Dn}{s:Sd},tr f s (a++b)=tr f s a++tr f (fin f s a) b
 | [],b,s=>rfl
 | d::a,b,s=>by
  show _::tr f (cO f s d) (a++b)=_;rw[GX (a:=a)];rfl
theorem uL:∀{a:List Dn}{s:Sd},(tr f s a).length=a.length
 | [],s=>rfl
 | d::a,s=>by show(tr f (cO f s d) a).length+1=_;rw[uL];rfl
theorem GY{α:Type}{l:List α}{i:Nat}{x:α}(h:l[i]?=some x):l=l.take i++x::l.drop (i+1):=by
 obtain⟨hi,rfl⟩:=bz.mp h;rw[<- List.drop_eq_getElem_cons hi,MM]
theorem iw(h:dr f s ds)(hi:ds[i]?=some d):dN f d/\cn f (fin f s (ds.take i)) d=true:=by
 rw[GY hi,oA]at h;exact h.2.1
theorem ji(h:dr f s ds):dr f s (ds.take i):=by
 rw[<- MM i ds,oA]at h;exact h.1
theorem uM(h:cn f s d=true):rp f s d=some (Ml f s d):=by
 unfold cn at h;obtain⟨x,e⟩:=sv.mp h;unfold Ml;rw[e];rfl
theorem bO.cO(hf:cD f)(h:bO f N s)(hd:dN f d)(hc:cn f s d=true):bO f (N+3) (cO f s d):=h.UW hd (Ba hf h hd (uM hc))
theorem bO.fin(hf:cD f):∀{ds:List Dn}{N:Nat}{s:Sd},bO f N s->dr f s ds->bO f (N+3*ds.length) (fin f s ds)
 | [],N,s,h,_=>h
 | d::ds,N,s,h,k=>by
  have:=bO.fin hf (h.cO hf k.1.1 k.1.2) k.2;rw[show N+3*(d::ds).length=N+3+3*ds.length by rw[iP];omega];exact this
def RA(x:Sd×Nat×Option Str):D:=.tup [dB x.1,Qn x.2.1 x.2.2]
section
variable {G:dQ} {b:List S} {tg:List Nat} {ρ:En} {M:aj} {nx:En->aj->Prop} {rt:W->aj->Prop} {bk ct:En->aj->Prop}
theorem lz(I:Nat->En->aj->Prop)(hM:∀i ρ M,I i ρ M->M[n]?=some (.lst ds))(h0:I 0 ρ M)(hs:∀i ρ M d,ds[i]?=some d->I i ρ M->HF (cb tg (.tup [.int i,d]) ρ) λρ=>eh G b ρ M (I (i+1)) rt nx (I (i+1)))(he:∀ρ M,I ds.length ρ M->nx ρ M){k:Nat}(hk:k=ds.length):gK (ee (λρ M=>dg G b ρ M) (.j4 n) tg k 0 ρ M) nx rt bk ct:=by
 subst hk;have aZ:(ds.mapIdx λi d=>D.tup [.int (i:Nat),d]).length=ds.length:=by simp
 refine mK (ds:=ds.mapIdx λi d=>D.tup [.int (i:Nat),d]) I (λi ρ M h _=>?_) (λi ρ M d h e=>?_) (λρ M h=>he ρ M (by rw[aZ]at h;exact h)) ds.length 0 ρ M h0 (by rw[aZ];omega)
 ·unfold itemAt;simp only[hM i ρ M h];rw[List.getElem?_mapIdx]
 ·rw[List.getElem?_mapIdx]at e
  cases e3:ds[i]? with
  | none=>rw[e3]at e;cases e
  | some d' =>
   rw[e3]at e;cases e;have q:=hs i ρ M d' e3 h
   cases e2:cb tg (.tup [.int i,d']) ρ with
   | none=>rw[e2]at q;exact q.elim
   | some ff=>rw[e2]at q;exact⟨ff,rfl,by rw[xg];exact q⟩
end
theorem uN(hM:M[n]?=some (.lst ds)):fc .enum [.d (.ai n)] M=.ok (.j4 n) M:=by
 unfold fc bQ;simp only[hM];rfl
theorem lB(hM:M[n]?=some (.lst ds)):dw M (.j4 n)=ds.length:=by unfold dw;simp only[hM]
theorem ZR{x:Int×List (Int×Str)×Option Str}:UX f d x=Qn (mc f d) x.2.2:=by
 obtain⟨a,sd,w⟩:=x;cases w<;>rfl
def zE(F:Fn):Prop:=∀(M:aj)(f:Fm)(N:Nat)(s:Sd)(ds:List Dn)(n:Nat),cD f->bO f N s->N+3*ds.length<=890->dr f s ds->M[n]?=some (.lst (ds.map c_))->aV (F [dG f,dB s,.ai n] M) λr M'=>∃n',r=.d (.ai n')/\M.length<=n'/\M'[n']?=some (.lst ((tr f s ds).map RA))/\Ex M M'
theorem Qw(hC:Qj (G K8))(hO:sg (G Bh)):zE (ao G 8 (zD K8 Bh)):=by
 intro M f N s ds n hf hs hN hr hn;rw[bJ];show eh G (zD K8 Bh) [some (dG f),some (dB s),some (.ai n),none,none,none,none,none] M _ _ _ _;nofun;refine⟨s0,?_⟩;nofun;have Dy:(M++[MO.lst []])[n]?=some (.lst (ds.map c_)):=aF hn;rw[uN Dy];refine lz (n:=n) (ds:=ds.map c_) (λi ρ M'=>∃o5 o6 o7,ρ=[some (dG f),some (dB s),some (.ai n),some (.ai M.length),some (dB (fin f s (ds.take i))),o5,o6,o7]/\M'[M.length]?=some (.lst ((tr f s (ds.take i)).map RA))/\Ex M M') (by rintro i ρ M' ⟨_,_,_,_,_,fr⟩;exact Ex.get fr hn) ⟨_,_,_,rfl,aw,(Ex.refl M).app⟩ ?_ ?_ (lB Dy)
 ·rintro i ρ M' dd bC ⟨o5,o6,o7,rfl,hL,fr⟩;rw[bc]at bC
  cases e:ds[i]? with
  | none=>rw[e]at bC;cases bC
  | some d =>
   rw[e]at bC;cases bC;have hi:=(bz.mp e).1;obtain⟨k1,k2⟩:=iw hr e;have HH:=bO.fin hf hs (ji (i:=i) hr);have WD:(ds.take i).length=i:=by rw[hG];omega
   rw[WD]at HH;have hx:=uM k2;nofun;refine(hC M' f _ _ d hf HH ∅ k1).imp ?_;rintro r M2 ⟨f2,e2⟩;rw[k2]at e2;subst e2;nofun;refine(hO M2 f _ _ d _ hf HH ∅ k1 hx).imp ?_;rintro r M3 ⟨f3,rfl⟩;have Bj:=Ex.get f3 (Ex.get f2 hL);nofun;refine⟨bL Bj,?_⟩;nofun;rw[cf Bj (aT (by rw[ay,uL,WD];omega))];have WC:ds.take (i+1)=ds.take i++[d]:=bq e;refine⟨some (.int i),some (c_ d),some (.tup [dB (cO f (fin f s (ds.take i)) d),UX f d (Ml f (fin f s (ds.take i)) d)]),?_,?_,Fr.set (Ex.trans (Ex.trans fr f2) f3) (aH _)⟩
   ·rw[WC,uK];rfl
   ·rw[aK Bj,WC,GX,eQ,ZR];rfl
 ·rintro ρ M' ⟨o5,o6,o7,rfl,hL,fr⟩;rw[ay,gD]at hL;nofun;exact⟨_,rfl,aH _,hL,fr⟩
theorem Mm:∀{ds:List Dn}{s:Sd}{i:Nat}{x:Sd×Nat×Option Str},(tr f s ds)[i]?=some x->x.1=fin f s (ds.take (i+1))
 | [],s,i,x,h=>by simp[tr]at h
 | d::ds,s,0,x,h=>by
  have h:(cO f s d,mc f d,(Ml f s d).2.2)=x:=by simpa[tr]using h
  rw[<- h];rfl
 | d::ds,s,i+1,x,h=>by
  have h:(tr f (cO f s d) ds)[i]?=some x:=by simpa[tr]using h
  have q:=Mm (ds:=ds) (s:=cO f s d) (i:=i) h;rw[q];rfl
def uO(F:Fn):Prop:=∀(M:aj)(ns:List Int)(f:Fm)(s:Sd)(most:Int),ns.length<=63->cD f->bO f 4 s->18<=most->most<=60->aV (F [.ls (ns.map D.int),dG f,dB s,.int most] M) λr M'=>∃n,∃ds:List Dn,r=.d (.ai n)/\M.length<=n/\M'[n]?=some (.lst (ds.map c_))/\dr f s ds/\(ds.length:Int)<=most/\Ex M M'
theorem K9(hW:rX (G cT))(hD:fu (G aC))(hNx:zC (G uI))(hDo:sg (G uJ)):uO (ao G 9 (uH cT aC uI uJ)):=by
 intro M ns f s most mh hf hs hm0 Zs;rw[bJ];show eh G (uH cT aC uI uJ) [some (.ls (ns.map D.int)),some (dG f),some (dB s),some (.int most),none,none,none,none,none] M _ _ _ _;nofun;refine(hW M ns 6 ∅ ∅ mh).imp ?_;rintro r M1 ⟨rfl,Cy,C8,f1⟩;nofun;refine⟨s0,?_⟩;nofun;have RB:(M1++[MO.lst []])[M1.length]?=some (.lst []):=aw;refine(hD _ M.length 0 13 C8.app ∅ ∅ ∅).imp ?_;rintro r M2 ⟨a,rfl,a0,a1,xl,f2⟩;nofun;refine(hD M2 M.length _ 13 xl ∅ ∅ ∅).imp ?_;rintro r M3 ⟨b,rfl,b0,b1,AS,f3⟩;nofun;refine(hD M3 M.length _ 4 AS ∅ ∅ ∅).imp ?_;rintro r M4 ⟨c,rfl,c0,c1,mL,f4⟩;nofun;refine⟨s3,?_⟩;nofun;have WE:M4[M1.length]?=some (.lst []):=f4.get (f3.get (f2.get RB ∅) ∅) ∅;have l4:=aB WE;refine(hD _ M.length _ 9 mL.app ∅ ∅ ∅).imp ?_;rintro r M5 ⟨g,rfl,g0,g1,qB,f5⟩;have hA5:M5[M4.length]?=some (.lst [.int a,.int (6+b),.int (most-c)]):=f5.get aw ∅;have Mn:M5[M1.length]?=some (.lst []):=f5.get (aF WE) ∅;have jl:Ex M M5:=((((f1.app).trans f2).trans f3).trans f4).app.trans f5;nofun;refine⟨⟨∅,∅⟩,?_⟩
 obtain⟨d,hd,j,rfl,j0,j1⟩:∃d,[D.int a,.int (6+b),.int (most-c)][(g / 4).toNat]?=some d/\∃j:Int,d=.int j/\0<=j/\j<=most:=nM (ds:=[D.int a,.int (6+b),.int (most-c)]) (k:=3) (λd hd=>by
  simp only[bT,lU,fY]at hd;rcases hd with rfl | rfl | rfl
  ·exact⟨_,rfl,∅,∅⟩
  ·exact⟨_,rfl,∅,∅⟩
  ·exact⟨_,rfl,∅,∅⟩) ∅ ∅ rfl
 nofun;rw[bY hA5 (i:=g / 4) ∅ hd];nofun;refine⟨⟨∅,∅⟩,?_⟩;have hm:M.length<=M1.length:=f1.1;refine gB (n:=j.toNat) (λi ρ M'=>∃o7 o8,∃ds:List Dn,ρ=[some (.ls (ns.map D.int)),some (dG f),some (dB (fin f s ds)),some (.int most),some (.ai M.length),some (.ai M1.length),some (.ai M4.length),o7,o8]/\M'[M1.length]?=some (.lst (ds.map c_))/\ds.length=i/\dr f s ds/\Ex M M') ⟨_,_,[],rfl,Mn,rfl,trivial,jl⟩ ?_ ?_
 ·rintro i ρ M6 hi ⟨o7,o8,ds,rfl,WG,RC,WH,Dv⟩;have Wx:=bO.fin hf hs WH;have hi60:(i:Int)<60:=∅;nofun;refine(hW M6 ns (7+(0+(i:Int))) ∅ ∅ mh).imp ?_;rintro r M7 ⟨rfl,hl7,KI,f7⟩;have l6:=aB WG;nofun;refine(hNx M7 M6.length 0 f _ _ KI ∅ hf Wx ∅).imp ?_;rintro r M8 ⟨d,rfl,hd1,hd2,f8⟩;have f78:Ex M6 M8:=f7.trans f8;have ZS:=Ex.get f78 WG;nofun;refine⟨bL ZS,?_⟩;nofun;rw[cf ZS (aT (by rw[ay];omega))];nofun;have hx:=uM hd2;refine(hDo _ f _ _ d _ hf Wx ∅ hd1 hx).imp ?_;rintro r M9 ⟨f9,rfl⟩;refine⟨some (.int (0+(i:Int))),some (c_ d),ds++[d],?_,?_,by simp[RC],?_,?_⟩
  ·rw[uK];rfl
  ·refine Ex.get f9 ?_;rw[aK ZS,eQ];rfl
  ·rw[oA];exact⟨WH,⟨hd1,hd2⟩,trivial⟩
  ·exact Ex.trans (Fr.set (Ex.trans Dv f78) hm) f9
 ·rintro ρ M6 ⟨o7,o8,ds,rfl,WG,RC,WH,Dv⟩;exact⟨_,ds,rfl,hm,WG,WH,∅,Dv⟩
end Ev
end
section
namespace Ev
open PySem
end Ev
end
section
namespace Ev
open L2
open PySem PySem.Spec PyProof.Rows
theorem GZ(h1:a<=b)(h2:b<=c):gf a b++gf b c=gf a c:=by
 obtain⟨n,hn⟩:∃n:Nat,b=a+n:=⟨(b-a).toNat,∅⟩;subst hn;clear h1
 induction n generalizing a with
 | zero=>rw[show a+((0:Nat):Int)=a by omega,lu (qL _)];rfl
 | succ n ih =>
  have e:a+((n+1:Nat):Int)=a+1+(n:Int):=∅;rw[e]at h2⊢;rw[jx (a:=a) (b:=a+1+n) ∅,jx (a:=a) (b:=c) ∅,List.cons_append,ih h2]
theorem G0:gf a (a+1)=[a]:=by rw[jx ∅,lu ∅]
theorem xF{α:Type}{l:List α}{i j:Nat}{x d:α}(h:i<l.length):(l.set i x).getD j d=if i=j then x else l.getD j d:=by
 rw[gL,gL,MW];by_cases q:i=j
 ·rw[ar q,ar q,ar ∅];rfl
 ·rw[aq q,aq q]
theorem si:∀(sd:List (Int×Str))(ld:List (Int×List (Int×Str)))(r:Nat),(∀p∈sd,0<=p.1/\p.1.toNat<ld.length)->(ld.getD r (0,[])).1<=((dU ld sd).getD r (0,[])).1/\cZ ((dU ld sd).getD r (0,[]))=cZ (ld.getD r (0,[]))++gf (ld.getD r (0,[])).1 ((dU ld sd).getD r (0,[])).1/\(dU ld sd).length=ld.length
 | [],ld,r,_=>⟨qL _,by rw[show dU ld []=ld from rfl,lu (qL _),iQ],rfl⟩
 | p::sd,ld,r,h=>by
  have hp:=h p (dH ..);have hl:(ld.set p.1.toNat (more (ld.getD p.1.toNat (0,[])) p.2)).length=ld.length:=kB;obtain⟨i1,i2,i3⟩:=si sd (ld.set p.1.toNat (more (ld.getD p.1.toNat (0,[])) p.2)) r λq hq=>by rw[hl];exact h q (da _ hq)
  have e:dU ld (p::sd)=dU (ld.set p.1.toNat (more (ld.getD p.1.toNat (0,[])) p.2)) sd:=rfl;rw[e,i2,i3];rw[xF hp.2]at i1⊢;by_cases q:p.1.toNat=r
  ·rw[ar q]at i1⊢;subst q;have hm:(more (ld.getD p.1.toNat (0,[])) p.2).1=(ld.getD p.1.toNat (0,[])).1+1:=rfl;have hn:cZ (more (ld.getD p.1.toNat (0,[])) p.2)=cZ (ld.getD p.1.toNat (0,[]))++[(ld.getD p.1.toNat (0,[])).1]:=by unfold cZ more;rw[eQ];rfl
   rw[hm]at i1⊢;rw[hn];refine⟨∅,?_,hl⟩;have e2:=GZ (a:=(ld.getD p.1.toNat (0,[])).1) (b:=(ld.getD p.1.toNat (0,[])).1+1) ∅ i1;rw[G0]at e2;rw[oI,e2]
  ·rw[aq q]at i1⊢;exact⟨i1,rfl,hl⟩
def WI(s:Sd)(d:Dn)(r:Nat):Int×List (Int×Str):=match d with
 | .bE q k=>if q=r then less (load s r) k else load s r
 | _=>load s r
theorem Qx{f:Fm}{N:Nat}{s:Sd}{d:Dn}(hs:bO f N s)(hd:dN f d)(r:Nat):(jg s.ld d).getD r (0,[])=WI s d r/\(jg s.ld d).length=s.ld.length:=by
 cases d with
 | own m=>exact⟨rfl,rfl⟩
 | ej m c=>exact⟨rfl,rfl⟩
 | bE q k =>
  have hq:q<s.ld.length:=by rw[hs.ll];exact hd
  refine⟨?_,kB⟩;show(s.ld.set q (less (s.ld.getD q (0,[])) k)).getD r (0,[])=_;rw[xF hq];show _=if q=r then less (load s r) k else load s r
  by_cases z:q=r
  ·subst z;rw[ar rfl,ar rfl];rfl
  ·rw[aq z,aq z];rfl
theorem qh(hf:cD f)(hs:bO f N s)(hd:dN f d)(hc:cn f s d=true)(r:Nat):(load s r).1<=(load (cO f s d) r).1/\cZ (load (cO f s d) r)=cZ (WI s d r)++gf (load s r).1 (load (cO f s d) r).1:=by
 have ax:=Ba hf hs hd (uM hc);obtain⟨e1,e2⟩:=Qx hs hd r
 have hb:∀p∈(Ml f s d).2.1,0<=p.1/\p.1.toNat<(jg s.ld d).length:=λp hp=>by
  obtain⟨_,h2,x,h3,_⟩:=ax.sd p hp;refine⟨h2,?_⟩;rw[e2,hs.ll];exact(bz.mp h3).1
 obtain⟨i1,i2,_⟩:=si (Ml f s d).2.1 (jg s.ld d) r hb
 have h1:(WI s d r).1=(load s r).1:=by
  cases d with
  | own m=>rfl
  | ej m c=>rfl
  | bE q k =>
   show(if q=r then less (load s r) k else load s r).1=_;split<;>rfl
 rw[e1,h1]at i1 i2;exact⟨i1,i2⟩
theorem lC{f:Fm}{s:Sd}{r:Nat}{k:Int}(hc:cn f s (.bE r k)=true):k∈cZ (load s r)/\(((cN f r).2.2 == "row")=true->(load s r).2.head?.map (·.1)=some k):=by
 unfold cn rp at hc
 cases q:cs f s (.bE r k)with
 | none=>rw[q]at hc;exact absurd hc aQ
 | some c =>
  have q:((jf (cN f r).2.2 (load s r).2).find? λp=>p.1==k).map (·.2)=some c:=q
  cases z:(jf (cN f r).2.2 (load s r).2).find? λp=>p.1==k with
  | none=>rw[z]at q;cases q
  | some p =>
   have hm:=HQ z;have hk:p.1=k:=eq_of_beq (show(p.1==k)=true from List.find?_some (p:=λp:Int×Str=>p.1==k) z);refine⟨?_,λho=>?_⟩
   ·unfold jf at hm;refine dI.mpr ⟨p,?_,hk⟩;split at hm
    ·exact sC hm
    ·exact hm
   ·unfold jf at hm;rw[ar ho]at hm
    cases hl:(load s r).2 with
    | nil=>rw[hl]at hm;cases hm
    | cons a l =>
     rw[hl]at hm;have:p=a:=by simpa using hm
     rw[<- this];simp[hk]
theorem ints_map:∀l:List Int,gm (l.map D.int)=some l
 | []=>rfl
 | i::l=>by
  show(gm (l.map D.int)).map (i::·)=_;rw[ints_map l];rfl
structure kj (M:aj) (n:Nat) (as:List Nat) (g:Nat->List Int):Prop where
 at':M[n]?=some (.lst (as.map D.ai))
 nd:as.Nodup
 na:n∉as
 av:∀(r a:Nat),as[r]?=some a->M[a]?=some (.lst ((g r).map D.int))
theorem kj.ex(h:kj M n as g)(f:Ex M M'):kj M' n as g:=⟨Ex.get f h.at',h.nd,h.na,λr a e=>Ex.get f (h.av r a e)⟩
theorem kj.to(h:kj M n as g)(e:∀r,r<as.length->g r=g2 r):kj M n as g2:=⟨h.at',h.nd,h.na,λr a q=>by rw[<- e r (bz.mp q).1];exact h.av r a q⟩
theorem kj.upd(h:kj M n as g)(e:as[r]?=some a)(ks:List Int):kj (M.set a (.lst (ks.map D.int))) n as (λq=>if q=r then ks else g q):=by
 have ha:=h.av r a e;refine⟨aD h.at' (λz=>h.na (by rw[z];exact cQ e)),h.nd,h.na,λq b eq=>?_⟩;by_cases z:q=r
 ·subst z;rw[e]at eq;cases eq;rw[ar rfl];exact aK ha
 ·rw[aq z];refine aD (h.av q b eq) λzz=>z ?_;subst zz;have h1:=bz.mp e;have h2:=bz.mp eq;have nn:=HP.mp h.nd;rcases BI q r with w | w | w
  ·exact absurd (h2.2.trans h1.2.symm) (nn q r h2.1 h1.1 w)
  ·exact w
  ·exact absurd (h1.2.trans h2.2.symm) (nn r q h1.1 h2.1 w)
theorem kj.sub(h:kj M n as g)(hr:r<as.length):∃a,as[r]?=some a/\de (.d (.ai n)) (.d (.int (r:Nat))) M=.ok (.d (.ai a)) M/\M[a]?=some (.lst ((g r).map D.int)):=by
 have e:as[r]?=some as[r]:=br hr;refine⟨as[r],e,bo h.at' (by rw[bc,e];rfl),h.av r _ e⟩
end Ev
end
section
namespace Ev
open PySem
def Bk(gY:Nat):List S:=[.fg 2 (.comp .seq [(.ks 0 0)] [1] none (.kn 0) [none,none]),.asg [3] (.lst []),.bD [4] .seq [1] [.asg [5] (.call gY [0,4]),.expr (.me .append 3 [(.tup [5,(.sub 2 5)])]),.put 2 5 (.bin .add (.sub 2 5) (.kn 1))],.ret 3]
noncomputable def G1:List S:=[.asg [2] (.lst []),.bD [3] .eR [(.bi .len [(.ks 0 1)])] [.bD [4] .qP [(.sub (.sub (.ks 0 1) 3) (.kn 0)),(.sub (.sub (.ks 1 1) 3) (.kn 0))] [.expr (.me .append 2 [(.tup [3,4])])]],.ret 2]
def xG(dS:Nat)(qj:Nat)(gJ:Nat):List S:=[.asg [3] .pA,.bD [4] .eR [(.bi .len [(.ks 0 1)])] [.bD [5,6] .seq [(.call dS [1,4])] [.dput 3 (.tup [4,5]) (.tup [(.bw .aP),(.bw .aP)])]],.asg [7] 1,.bD [8,9] .enum [(.call qj [0,1,2])] [.asg [10] (.sub 2 8),.iff (.val (.cmp .eq (.ks 10 0) (.bw (.str "come")))) [.asg [11] (.tup [(.ks 10 1),(.ks 10 2)]),.dput 3 11 (.tup [(.sub (.kQ 3 11) (.kn 0)),8])] [],.bD [11] .seq [(.call gJ [7,(.ks 9 0)])] [.dput 3 11 (.tup [8,(.bw .aP)])],.asg [7] (.ks 9 0)],.ret 3]
end Ev
end
section
namespace Ev
open L2
open PySem PySem.Spec PyProof.Rows
abbrev Kv:=List (List bN×D)
abbrev Lm:=Nat->Int->Option (Option Nat×Option Nat)
def k2(r:Nat)(k:Int):List bN:=[Sum.inl (r:Int),Sum.inl k]
def oD:Option Nat->D
 | none=>.aP
 | some n=>.int n
def zF(x:Option Nat×Option Nat):D:=.tup [oD x.1,oD x.2]
theorem G2(h:k2 r k=k2 r' k'):r=r'/\k=k':=by
 unfold k2 at h;simp only[List.cons.injEq,Sum.inl.injEq]at h;exact⟨∅,h.2.1⟩
theorem G3{κ:Type}[DecidableEq κ]{ag:List (κ×D)}{k:κ}:(dJ ag k).isSome=true↔k∈ag.map (·.1):=by
 unfold dJ;rw[BE,List.find?_isSome,dI];constructor
 ·rintro⟨p,h1,h2⟩;exact⟨p,h1,DM h2⟩
 ·rintro⟨p,h1,h2⟩;exact⟨p,h1,fh h2⟩
theorem sW{κ:Type}[DecidableEq κ]{ag:List (κ×D)}{k k':κ}{v:D}:(k≠k'->dJ (ag.map λkv=>if kv.1=k then (kv.1,v) else kv) k'=dJ ag k')/\(k=k'->k∈ag.map (·.1)->dJ (ag.map λkv=>if kv.1=k then (kv.1,v) else kv) k'=some v):=by
 induction ag with
 | nil=>exact⟨λ_=>rfl,λ_ h=>by cases h⟩
 | cons p ag ih =>
  obtain⟨i1,i2⟩:=ih;unfold dJ at i1 i2⊢;rw[fi,hU,hU];by_cases hp:p.1=k
  ·rw[ar hp];refine⟨λhk=>?_,λhk _=>?_⟩
   ·have h1:decide (p.1=k')=false:=dO λh=>hk (hp.symm.trans h);simp only[h1];exact i1 hk
   ·subst hk;simp only[hp,decide_true];rfl
  ·rw[aq hp];refine⟨λhk=>?_,λhk hm=>?_⟩
   ·cases q:decide (p.1=k')with
    | true=>rfl
    | false=>exact i1 hk
   ·subst hk;simp only[dO hp];refine i2 rfl ?_;rw[fi]at hm;rcases bT.mp hm with z | z
    ·exact absurd z.symm hp
    ·exact z
theorem oB{κ:Type}[DecidableEq κ]{ag:List (κ×D)}{k:κ}:(ag.any λkv=>decide (kv.1=k))=true↔k∈ag.map (·.1):=by
 rw[Ig,dI];constructor
 ·rintro⟨p,h1,h2⟩;exact⟨p,h1,DM h2⟩
 ·rintro⟨p,h1,h2⟩;exact⟨p,h1,fh h2⟩
theorem K_{κ:Type}[DecidableEq κ]{ag:List (κ×D)}{k k':κ}{v:D}(h:k∉ag.map (·.1)):dJ (ag++[(k,v)]) k'=if k=k' then some v else dJ ag k':=by
 have e:dJ (ag++[(k,v)]) k'=((ag.find? λp=>decide (p.1=k')).or ([(k,v)].find? λp=>decide (p.1=k'))).map (·.2):=by
  unfold dJ;rw[MV]
 rw[e];by_cases hk:k=k'
 ·subst hk;rw[ar rfl,List.find?_eq_none.mpr (λp hp q=>h (dI.mpr ⟨p,hp,DM q⟩))];simp
 ·rw[aq hk]
  have:([(k,v)].find? λp=>decide (p.1=k'))=none:=by
   rw[hU];have:decide ((k,v).1=k')=false:=dO hk;simp only[this];rfl
  rw[this,Option.or_none];rfl
theorem Bl{κ:Type}[DecidableEq κ]{ag:List (κ×D)}{k k':κ}{v:D}:dJ (eM ag k v) k'=if k=k' then some v else dJ ag k':=by
 unfold eM;by_cases h:k∈ag.map (·.1)
 ·rw[ar (oB.mpr h)];by_cases hk:k=k'
  ·rw[sW.2 hk h,ar hk]
  ·rw[sW.1 hk,aq hk]
 ·rw[aq (λz=>h (oB.mp z)),K_ h]
theorem Bm{κ:Type}[DecidableEq κ]{ag:List (κ×D)}{k:κ}{v:D}(h:k∈ag.map (·.1)):(eM ag k v).map (·.1)=ag.map (·.1):=by
 unfold eM;rw[ar (oB.mpr h),sL];refine List.map_congr_left λp _=>?_;show(if p.1=k then (p.1,v) else p).1=p.1;split<;>rfl
theorem xH{κ:Type}[DecidableEq κ]{ag:List (κ×D)}{k:κ}{v:D}(h:k∉ag.map (·.1)):(eM ag k v).map (·.1)=ag.map (·.1)++[k]:=by
 unfold eM;rw[aq (λz=>h (oB.mp z)),eQ];rfl
theorem lD{κ:Type}[DecidableEq κ]{ag:List (κ×D)}{k:κ}{v:D}:(eM ag k v).length<=ag.length+1:=by
 unfold eM;split
 ·rw[ay];omega
 ·rw[cI];exact aH _
structure gh (ag:Kv) (L:Lm):Prop where
 nd:(ag.map (·.1)).Nodup
 ky:∀k∈ag.map (·.1),∃r n x,k=k2 r n/\L r n=some x
 gt:∀r k,dJ ag (k2 r k)=(L r k).map zF
noncomputable def putL(L:Lm)(r:Nat)(k:Int)(x:Option Nat×Option Nat):Lm:=λr' k'=>if r=r'/\k=k' then some x else L r' k'
theorem gh.nil:gh [] λ_ _=>none:=⟨DV,λk h=>(by cases h),λ_ _=>rfl⟩
theorem gh.put{ag:Kv}{L:Lm}(h:gh ag L)(r:Nat)(k:Int)(x:Option Nat×Option Nat):gh (eM ag (k2 r k) (zF x)) (putL L r k x):=by
 refine⟨?_,λkey hk=>?_,λr' k'=>?_⟩
 ·by_cases z:k2 r k∈ag.map (·.1)
  ·rw[Bm z];exact h.nd
  ·rw[xH z,x_];exact⟨h.nd,by simp,λa ha b hb e=>z (by rw[<- iO.mp hb,<- e];exact ha)⟩
 ·have hk:key=k2 r k\/key∈ag.map (·.1):=by
   by_cases z:k2 r k∈ag.map (·.1)
   ·rw[Bm z]at hk;exact .inr hk
   ·rw[xH z]at hk;rcases dk.mp hk with z | z
    ·exact .inr z
    ·exact .inl (iO.mp z)
  rcases hk with rfl | z
  ·exact⟨r,k,x,rfl,ar ⟨rfl,rfl⟩⟩
  ·obtain⟨r',k',y,e,q⟩:=h.ky key z;subst e;by_cases hc:r=r'/\k=k'
   ·exact⟨r',k',x,rfl,ar hc⟩
   ·exact⟨r',k',y,rfl,(aq hc).trans q⟩
 ·rw[Bl];unfold putL;by_cases hc:r=r'/\k=k'
  ·obtain⟨rfl,rfl⟩:=hc;rw[ar rfl,ar ⟨rfl,rfl⟩];rfl
  ·rw[aq hc,aq (λz=>hc (G2 z)),h.gt]
theorem gh.congr(h:gh ag L)(e:∀r k,L r k=L' r k):gh ag L':=by
 have:L=L':=by funext r k;exact e r k
 rw[<- this];exact h
theorem g9{α:Type}[DecidableEq α]:∀{a b:List α},a.Nodup->(∀x∈a,x∈b)->a.length<=b.length
 | [],b,_,_=>lV _
 | x::a,b,h,s=>by
  have hx:=s x dH;obtain⟨h1,h2⟩:=sG.mp h;have:=g9 (a:=a) (b:=b.erase x) h2 λy hy=>(List.mem_erase_of_ne (show y≠x from λe=>h1 (by rw[<- e];exact hy))).mpr (s y (da _ hy));rw[List.length_erase_of_mem hx]at this;have hb:=List.length_pos_of_mem hx;rw[iP];omega
theorem gh.mem{ag:Kv}{L:Lm}(h:gh ag L){r:Nat}{k:Int}:k2 r k∈ag.map (·.1)↔(L r k).isSome=true:=by
 rw[<- G3,h.gt,BE]
def L0(f:Fm)(s:Sd):Lm:=λr k=>if r<f.ro.length/\k∈cZ (load s r) then some (none,none) else none
def nk(d:Dn)(i:Nat)(L:Lm):Lm:=match d with
 | .bE q n=>putL L q n (((L q n).getD (none,none)).1,some i)
 | _=>L
def Qy(s s':Sd)(i:Nat)(L:Lm):Lm:=λr k=>if (load s r).1<=k/\k<(load s' r).1 then some (some i,none) else L r k
def RE(f:Fm)(s:Sd)(d:Dn)(i:Nat)(L:Lm):Lm:=Qy s (cO f s d) i (nk d i L)
def fx(f:Fm)(s:Sd)(ds:List Dn):Nat->Lm
 | 0=>L0 f s
 | i+1=>match ds[i]? with
  | some d=>RE f (fin f s (ds.take i)) d i (fx f s ds i)
  | none=>fx f s ds i
theorem jk(h:ds[i]?=some d):fx f s ds (i+1)=RE f (fin f s (ds.take i)) d i (fx f s ds i):=by
 show(match ds[i]? with
  | some d=>RE f (fin f s (ds.take i)) d i (fx f s ds i)
  | none=>fx f s ds i)=_
 rw[h]
theorem uP{ds:List Dn}{i:Nat}(h:ds[i]?=some d):fin f s (ds.take (i+1))=cO f (fin f s (ds.take i)) d:=by
 rw[bq h,uK];rfl
theorem Bn(hf:cD f){ds:List Dn}{N:Nat}(hs:bO f N s)(hr:dr f s ds):∀i,i<=ds.length->∀r k,r<f.ro.length->k∈cZ (load (fin f s (ds.take i)) r)->(fx f s ds i r k).isSome=true
 | 0,_,r,k,h1,h2=>by
  show(if r<f.ro.length/\k∈cZ (load s r) then some (none,none) else none:Option (Option Nat×Option Nat)).isSome=true;rw[ar ⟨h1,h2⟩];rfl
 | i+1,hi,r,k,h1,h2=>by
  have e:ds[i]?=some ds[i]:=br ∅;rw[jk e];rw[uP e]at h2;obtain⟨k1,k2⟩:=iw hr e;obtain⟨h3,h4⟩:=qh hf (bO.fin hf hs (ji (i:=i) hr)) k1 k2 r;rw[h4]at h2;show(if _/\_ then some (some i,none) else nk ds[i] i (fx f s ds i) r k).isSome=true;split
  ·rfl
  ·rename_i hn
   have hk:k∈cZ (load (fin f s (ds.take i)) r):=by
    rcases dk.mp h2 with z | z
    ·generalize ds[i]=d at z
     cases d with
     | own m=>exact z
     | ej m c=>exact z
     | bE q n =>
      have z:k∈cZ (if q=r then less (load (fin f s (ds.take i)) r) n else load (fin f s (ds.take i)) r):=z;split at z
      ·unfold cZ less at z;obtain⟨p,hp,rfl⟩:=dI.mp z;exact dI.mpr ⟨p,(qH.mp hp).1,rfl⟩
      ·exact z
    ·unfold gf at z;obtain⟨j,hj,rfl⟩:=dI.mp z;rw[qJ]at hj;exact absurd ⟨∅,∅⟩ hn
   have ih:=Bn hf hs hr i ∅ r k h1 hk;generalize ds[i]=d
   cases d with
   | own m=>exact ih
   | ej m c=>exact ih
   | bE q n =>
    show(if q=r/\n=k then some _ else fx f s ds i r k).isSome=true;split
    ·rfl
    ·exact ih
theorem G4(h:n<=1000000):n<sizeLine:=MS h (by decide)
theorem G5{n r:Nat}{k:Int}{d:D}(hM:M[n]?=some (.dT ag))(hl:ag.length<=1000000):iE (.d (.ai n)) (.d (.tup [.int r,.int k])) d M=.ok () (M.set n (.dT (eM ag (k2 r k) d))):=by
 unfold iE;simp only[hM,show Fd (.d (.tup [.int r,.int k]))=some (k2 r k) from rfl];rw[ar (G4 hl)]
theorem Mo(hM:LR M (.d (.ai n))=some ag)(hg:dJ ag (k2 r k)=some d):m8 (.d (.ai n)) (.d (.tup [.int r,.int k])) M=.ok (.d d) M:=by
 unfold m8;simp only[hM,show Fd (.d (.tup [.int r,.int k]))=some (k2 r k) from rfl,hg]
theorem ZT(hM:M[n]?=some (.dT ag)):LR M (.d (.ai n))=some ag:=by unfold LR;simp only[hM]
def RF(p:Nat×Int):D:=.tup [.int p.1,.int p.2]
def qX(s s':Sd)(r:Nat):List (Nat×Int):=(gf (load s r).1 (load s' r).1).map λk=>(r,k)
def Bo(s s':Sd)(n:Nat):List (Nat×Int):=(List.range n).flatMap (qX s s')
theorem xI:Bo s s' (n+1)=Bo s s' n++qX s s' n:=by
 unfold Bo;rw[yc,MP];simp
theorem lE:(gf a b).length=(b-a).toNat:=by unfold gf;simp
theorem La{a b:Int}{j:Nat}(h:j<(b-a).toNat):(gf a b)[j]?=some (a+(j:Int)):=by
 unfold gf;rw[bc,jT h];rfl
theorem lF:k∈gf a b↔a<=k/\k<b:=by
 unfold gf;rw[dI];constructor
 ·rintro⟨j,hj,rfl⟩;rw[qJ]at hj;omega
 ·rintro⟨h1,h2⟩;exact⟨(k-a).toNat,qJ.mpr ∅,∅⟩
theorem Bp:(r,k)∈Bo s s' n↔r<n/\(load s r).1<=k/\k<(load s' r).1:=by
 unfold Bo qX;rw[List.mem_flatMap];constructor
 ·rintro⟨q,hq,h⟩;obtain⟨j,hj,e⟩:=dI.mp h;cases e;exact⟨qJ.mp hq,lF.mp hj⟩
 ·rintro⟨h1,h2⟩;exact⟨r,qJ.mpr h1,dI.mpr ⟨k,lF.mpr h2,rfl⟩⟩
theorem uQ{B:Nat}:∀{n:Nat},(∀r,r<n->(load s' r).1-(load s r).1<=B)->(Bo s s' n).length<=n*B
 | 0,_=>lV _
 | n+1,h=>by
  rw[xI,cI,Nat.add_mul];have h1:=uQ (n:=n) λr hr=>h r ∅;have h2:=h n ∅;unfold qX;rw[ay,lE];omega
def uR(F:Fn):Prop:=∀(M:aj)(f:Fm)(N N':Nat)(s s':Sd),cD f->bO f N s->bO f N' s'->N<=900->N'<=900->(∀r,r<f.ro.length->(load s' r).1-(load s r).1<=900)->aV (F [dB s,dB s'] M) λr M'=>∃n,r=.d (.ai n)/\M.length<=n/\M'[n]?=some (.lst ((Bo s s' f.ro.length).map RF))/\Ex M M'
theorem Qz:uR (ao G 5 G1):=by
 intro M f N N' s s' hf hs HH hN hN' hd;have h8:=hf.l8;rw[bJ];show eh G G1 [some (.tup [.tup (s.st.map D.int),.tup (s.ld.map ki)]),some (.tup [.tup (s'.st.map D.int),.tup (s'.ld.map ki)]),none,none,none] M _ _ _ _;nofun;refine⟨s0,?_⟩;nofun;have hl:((s.ld.map ki).length:Int).toNat=f.ro.length:=by rw[gP,ay,hs.ll]
 refine⟨⟨∅,by rw[ay,hs.ll];omega⟩,?_⟩;rw[hl];refine gB (n:=f.ro.length) (λi ρ M'=>∃o3 o4,ρ=[some (.tup [.tup (s.st.map D.int),.tup (s.ld.map ki)]),some (.tup [.tup (s'.st.map D.int),.tup (s'.ld.map ki)]),some (.ai M.length),o3,o4]/\M'[M.length]?=some (.lst ((Bo s s' i).map RF))/\Ex M M') ⟨_,_,rfl,aw,(Ex.refl M).app⟩ ?_ ?_
 ·rintro i ρ M' hi ⟨o3,o4,rfl,hL,fr⟩;obtain⟨e1,l1⟩:=hs.De hi;obtain⟨e2,l2⟩:=HH.De hi;sleep 27;rw[jd e1];nofun;rw[jd e2];nofun;have b1:=l1.s;have b2:=l2.s;have b3:=hd i hi;refine⟨⟨∅,∅,∅,∅⟩,?_⟩;refine gB (n:=((load s' i).1-(load s i).1).toNat) (λj ρ M'=>∃o4,ρ=[some (.tup [.tup (s.st.map D.int),.tup (s.ld.map ki)]),some (.tup [.tup (s'.st.map D.int),.tup (s'.ld.map ki)]),some (.ai M.length),some (.int i),o4]/\M'[M.length]?=some (.lst ((Bo s s' i++(qX s s' i).take j).map RF))/\Ex M M') ⟨_,rfl,by rw[sI,iQ];exact hL,fr⟩ ?_ ?_
  ·rintro j ρ M2 hj ⟨o4,rfl,sj,qC⟩;have hb:=uQ (s:=s) (s':=s') (B:=900) (n:=i) λr hr=>hd r ∅
   have hb2:((qX s s' i).take j).length<=900:=by
    rw[hG];unfold qX;rw[ay,lE];omega
   have hi8:i*900<=8*900:=HX _ ∅;nofun;refine⟨bL sj,?_⟩;nofun;refine⟨s2,?_⟩;nofun;rw[cf sj (G4 (by rw[ay,cI];omega))];refine⟨_,rfl,?_,Fr.set qC (aH _)⟩
   have hat:(qX s s' i)[j]?=some (i,(load s i).1+(j:Int)):=by
    unfold qX;rw[bc,La hj];rfl
   rw[aK sj,bq hat,<- oI,eQ (l₂:=[_])];rfl
  ·rintro ρ M2 ⟨o4,rfl,sj,qC⟩;refine⟨_,_,rfl,?_,qC⟩;rw[xI];rw[MG (by unfold qX;rw[ay,lE];exact aH _)]at sj;exact sj
 ·rintro ρ M' ⟨o3,o4,rfl,hL,fr⟩;nofun;exact⟨_,rfl,aH _,hL,fr⟩
theorem G6(hf:cD f)(hs:bO f N s)(hd:dN f d)(hc:cn f s d=true)(hr:r<f.ro.length):(load (cO f s d) r).1-(load s r).1<=(N+3:Nat):=by
 obtain⟨h1,h2⟩:=qh hf hs hd hc r;have h3:=((hs.cO hf hd hc).De hr).2.n;have h4:=lW List.length h2;rw[cI,lE]at h4;unfold cZ at h4;rw[ay,ay]at h4;omega
def Lb(s:Sd)(i j:Nat):Lm:=λr k=>if (r<i/\k∈cZ (load s r))\/(r=i/\k∈(cZ (load s i)).take j) then some (none,none) else none
theorem gh.lb0:gh [] (Lb s 0 0):=gh.nil.congr λr k=>by
 unfold Lb;rw[aq];rintro(h | h)
 ·omega
 ·rw[sI]at h;cases h.2
theorem gh.lbp(h:gh ag (Lb s i j))(e:(cZ (load s i))[j]?=some k):gh (eM ag (k2 i k) (zF (none,none))) (Lb s i (j+1)):=(h.put i k (none,none)).congr λr' k'=>by
 unfold putL Lb;rw[bq e];by_cases hc:i=r'/\k=k'
 ·obtain⟨rfl,rfl⟩:=hc;rw[ar ⟨rfl,rfl⟩,ar (.inr ⟨rfl,dk.mpr (.inr dH)⟩)]
 ·rw[aq hc];by_cases h2:(r'<i/\k'∈cZ (load s r'))\/(r'=i/\k'∈(cZ (load s i)).take j)
  ·rw[ar h2,ar (h2.imp_right λz=>⟨z.1,dk.mpr (.inl z.2)⟩)]
  ·rw[aq h2,aq];rintro(z | ⟨z1,z2⟩)
   ·exact h2 (.inl z)
   ·rcases dk.mp z2 with z | z
    ·exact h2 (.inr ⟨z1,z⟩)
    ·exact hc ⟨z1.symm,(iO.mp z).symm⟩
theorem gh.lbn(h:gh ag (Lb s i j))(e:(cZ (load s i)).length<=j):gh ag (Lb s (i+1) 0):=h.congr λr k=>by
 unfold Lb;rw[MG e,sI];by_cases h2:(r<i/\k∈cZ (load s r))\/(r=i/\k∈cZ (load s i))
 ·rw[ar h2,ar];rcases h2 with z | ⟨rfl,z⟩
  ·exact .inl ⟨∅,z.2⟩
  ·exact .inl ⟨∅,z⟩
 ·rw[aq h2,aq];rintro(⟨z1,z2⟩|⟨_,z⟩)
  ·rcases fj r i with q | q
   ·exact h2 (.inl ⟨q,z2⟩)
   ·have:r=i:=∅;subst this;exact h2 (.inr ⟨rfl,z2⟩)
  ·cases z
theorem gh.lbe(h:gh ag (Lb s f.ro.length 0)):gh ag (L0 f s):=h.congr λr k=>by
 unfold Lb L0;by_cases h2:r<f.ro.length/\k∈cZ (load s r)
 ·rw[ar (.inl h2),ar h2]
 ·rw[aq h2,aq];rintro(z | ⟨_,z⟩)
  ·exact h2 z
  ·rw[sI]at z;cases z
noncomputable def Ls(L:Lm)(i:Nat)(ps:List (Nat×Int)):Lm:=λr k=>if (r,k)∈ps then some (some i,none) else L r k
theorem gh.ls0(h:gh ag L):gh ag (Ls L i []):=h.congr λr k=>by
 unfold Ls;rw[aq (by simp)]
theorem gh.lsp(h:gh ag (Ls L i ps)):gh (eM ag (k2 r k) (zF (some i,none))) (Ls L i (ps++[(r,k)])):=(h.put r k (some i,none)).congr λr' k'=>by
 unfold putL Ls;by_cases hc:r=r'/\k=k'
 ·obtain⟨rfl,rfl⟩:=hc;rw[ar ⟨rfl,rfl⟩,ar (dk.mpr (.inr dH))]
 ·rw[aq hc];by_cases h2:(r',k')∈ps
  ·rw[ar h2,ar (dk.mpr (.inl h2))]
  ·rw[aq h2,aq];intro z;rcases dk.mp z with z | z
   ·exact h2 z
   ·have:=iO.mp z;cases this;exact hc ⟨rfl,rfl⟩
theorem xJ(hs:bO f N s)(h:¬r<f.ro.length):load s r=(0,[]):=by
 unfold load;rw[gL,gM (by rw[hs.ll];omega)];rfl
theorem gh.lse(hs:bO f N s)(HH:bO f N' s')(h:gh ag (Ls L i (Bo s s' f.ro.length))):gh ag (Qy s s' i L):=h.congr λr k=>by
 unfold Ls Qy;by_cases h2:(load s r).1<=k/\k<(load s' r).1
 ·rw[ar h2,ar (Bp.mpr ⟨?_,h2⟩)];rcases fj r f.ro.length with q | q
  ·exact q
  ·rw[xJ hs ∅,xJ HH ∅]at h2;have:=h2.1;have:=h2.2;omega
 ·rw[aq h2,aq (λz=>h2 (Bp.mp z).2)]
def lG(F:Fn):Prop:=∀(M:aj)(f:Fm)(N:Nat)(s:Sd)(ds:List Dn)(n:Nat),cD f->bO f N s->N+3*ds.length<=890->ds.length<=60->dr f s ds->M[n]?=some (.lst (ds.map c_))->aV (F [dG f,dB s,.ai n] M) λr M'=>∃n' ag,r=.d (.ai n')/\M.length<=n'/\M'[n']?=some (.dT ag)/\gh ag (fx f s ds ds.length)/\Ex M M'
def G7(gJ:Nat):List S:=[.bD [11] .seq [(.call gJ [7,(.ks 9 0)])] [.dput 3 11 (.tup [8,(.bw .aP)])],.asg [7] (.ks 9 0)]
theorem Lc{r j:Nat}{p:Int×Str}(h:(load s r).2[j]?=some p):(cZ (load s r))[j]?=some p.1:=by
 unfold cZ;rw[bc,h];rfl
theorem G8{l:Int×List (Int×Str)}:(cZ l).length=l.2.length:=by unfold cZ;rw[ay]
theorem Vo(hM:M[n]?=some (.dT ag))(hl:ag.length<=1000000):iE (.d (.ai n)) (.d (RF (r,k))) d M=.ok () (M.set n (.dT (eM ag (k2 r k) d))):=G5 hM hl
theorem Ld(hB:uR (G gJ))(hf:cD f)(hs:bO f N s)(hN:N+3<=900)(hd:dN f d)(hc:cn f s d=true)(hL:M[nL]?=some (.dT ag))(hk:ag.length<=500000)(hr:gh ag (nk d i L))(hx:Ex M0 M)(hl:M0.length<=nL){nx:En->aj->Prop}{rt:W->aj->Prop}{bk ct:En->aj->Prop}(hn:∀M' QA iN,M'[nL]?=some (.dT QA)->QA.length<=ag.length+7200->gh QA (RE f s d i L)->Fr nL M M'->nx [e0,e1,e2,some (.ai nL),o4,o5,o6,some (dB (cO f s d)),some (.int i),some (.tup [dB (cO f s d),w]),ko,iN] M'):eh G (G7 gJ) [e0,e1,e2,some (.ai nL),o4,o5,o6,some (dB s),some (.int i),some (.tup [dB (cO f s d),w]),ko,iN] M nx rt bk ct:=by
 have h8:=hf.l8;have HH:=hs.cO hf hd hc;have vS:∀r,r<f.ro.length->(load (cO f s d) r).1-(load s r).1<=900:=λr hr=>by have:=G6 hf hs hd hc hr;omega
 have Ay:=uQ (s:=s) (s':=cO f s d) (B:=900) (n:=f.ro.length) vS;have h89:f.ro.length*900<=8*900:=HX _ h8;nofun;refine(hB M f N (N+3) s (cO f s d) hf hs HH ∅ hN vS).imp ?_;rintro r M1 ⟨n1,rfl,Cy,Dy,f1⟩;have RB:=Ex.get f1 hL;have lL:=aB hL;nofun;rw[dy Dy];refine xj (n:=n1) (ds:=(Bo s (cO f s d) f.ro.length).map RF) (λj ρ M'=>∃iN RG,ρ=[e0,e1,e2,some (.ai nL),o4,o5,o6,some (dB s),some (.int i),some (.tup [dB (cO f s d),w]),ko,iN]/\M'[n1]?=some (.lst ((Bo s (cO f s d) f.ro.length).map RF))/\M'[nL]?=some (.dT RG)/\RG.length<=ag.length+j/\gh RG (Ls (nk d i L) i ((Bo s (cO f s d) f.ro.length).take j))/\Fr nL M M') (by rintro j ρ M' ⟨_,_,_,h,_⟩;exact h) ⟨_,ag,rfl,Dy,RB,aH _,hr.ls0,Fr.back (Fr.refl nL M) f1 (.inl (aH _))⟩ ?_ ?_
 ·rintro j ρ M2 dd bC ⟨iN,RG,rfl,vW,sj,Rr,HD,qC⟩;rw[bc]at bC
  cases e:(Bo s (cO f s d) f.ro.length)[j]? with
  | none=>rw[e]at bC;cases bC
  | some p =>
   rw[e]at bC;cases bC;have hj:=(bz.mp e).1;obtain⟨r,k⟩:=p;nofun;refine⟨s2,?_⟩;nofun;rw[Vo sj ∅];refine⟨_,_,rfl,aD vW ∅,aK sj,dW lD ∅,?_,Fr.PN qC⟩;rw[bq e];exact HD.lsp
 ·rintro ρ M2 ⟨iN,RG,rfl,vW,sj,Rr,HD,qC⟩;rw[ay]at Rr HD;rw[gD]at HD;nofun;exact hn M2 RG _ sj ∅ (HD.lse hs HH) qC
theorem G9{dS qj gJ:Nat}(hW:qe (G dS))(hS:zE (G qj))(hB:uR (G gJ)):lG (ao G 12 (xG dS qj gJ)):=by
 intro M f N s ds n hf hs hN xX hr hn;have h8:=hf.l8;rw[bJ];show eh G (xG dS qj gJ) [some (.tup [.tup (f.ru.map u3),.tup (f.ro.map xt)]),some (dB s),some (.ai n),none,none,none,none,none,none,none,none,none] M _ _ _ _;have hl:((f.ro.map xt).length:Int).toNat=f.ro.length:=by rw[gP,ay]
 have lM:=aB hn;nofun;refine⟨⟨∅,by rw[ay];omega⟩,?_⟩;rw[hl];refine gB (n:=f.ro.length) (λi ρ M'=>∃o4 o5 o6 ag,ρ=[some (dG f),some (dB s),some (.ai n),some (.ai M.length),o4,o5,o6,none,none,none,none,none]/\M'[M.length]?=some (.dT ag)/\ag.length<=i*N/\gh ag (Lb s i 0)/\Ex M M') ⟨_,_,_,[],rfl,aw,lV _,gh.lb0,(Ex.refl M).app⟩ ?_ ?_
 ·rintro i ρ M1 hi ⟨o4,o5,o6,ag,rfl,hL,hk,hR,fr⟩;have hiN:i*N<=8*890:=BS ∅ ∅;obtain⟨e1,l1⟩:=hs.De hi;have ln:=l1.n;sleep 27;refine(hW M1 f N s i hs hi).imp ?_;rintro o M2 ⟨rfl,rfl⟩;nofun;refine gC (ds:=(load s i).2.map pD) (λj ρ M'=>∃o5 o6 kv,ρ=[some (dG f),some (dB s),some (.ai n),some (.ai M.length),some (.int i),o5,o6,none,none,none,none,none]/\M'[M.length]?=some (.dT kv)/\kv.length<=i*N+j/\gh kv (Lb s i j)/\Ex M M') ⟨_,_,ag,rfl,hL,hk,hR,fr⟩ ?_ ?_
  ·rintro j ρ M2 dd bC ⟨o5,o6,kv,rfl,sj,Rr,WJ,qC⟩;rw[bc]at bC
   cases e:(load s i).2[j]? with
   | none=>rw[e]at bC;cases bC
   | some p =>
    rw[e]at bC;cases bC;have hj:=(bz.mp e).1;obtain⟨k,c⟩:=p;nofun;refine⟨s2,?_⟩;nofun;refine⟨s2,?_⟩;nofun;rw[G5 sj ∅];exact⟨_,_,_,rfl,aK sj,dW lD ∅,WJ.lbp (Lc e),Fr.set qC (aH _)⟩
  ·rintro ρ M2 ⟨o5,o6,kv,rfl,sj,Rr,WJ,qC⟩;rw[ay]at Rr WJ;exact⟨_,_,_,kv,rfl,sj,by rw[Nat.add_mul];omega,WJ.lbn (by rw[G8];exact aH _),qC⟩
 ·rintro ρ M1 ⟨o4,o5,o6,ag,rfl,hL,hk,hR,fr⟩;have hR:=hR.lbe;have Dy:=Ex.get fr hn;have hkN:f.ro.length*N<=8*890:=BS h8 ∅;nofun;refine(hS M1 f N s ds n hf hs hN hr Dy).imp ?_;rintro o M2 ⟨n2,rfl,Dr,vW,f2⟩;have lM1:=fr.1;have lL:=aB hL;have sj:=Ex.get f2 hL;nofun;rw[uN vW];refine lz (n:=n2) (ds:=(tr f s ds).map RA) (λi ρ M'=>∃o4 o5 o6 o8 o9 ko iN ag,ρ=[some (dG f),some (dB s),some (.ai n),some (.ai M.length),o4,o5,o6,some (dB (fin f s (ds.take i))),o8,o9,ko,iN]/\M'[n2]?=some (.lst ((tr f s ds).map RA))/\M'[M.length]?=some (.dT ag)/\ag.length<=8000+7201*i/\gh ag (fx f s ds i)/\Ex M M') (by rintro i ρ M' ⟨_,_,_,_,_,_,_,_,_,h,_⟩;exact h) ⟨_,_,_,_,_,_,_,ag,rfl,vW,sj,∅,hR,Ex.trans fr f2⟩ ?_ ?_ (lB vW)
  ·rintro i ρ M3 dd bC ⟨o4,o5,o6,o8,o9,ko,iN,ag,rfl,HI,Bj,YG,QB,jG⟩;rw[bc]at bC
   cases e:(tr f s ds)[i]? with
   | none=>rw[e]at bC;cases bC
   | some x =>
    rw[e]at bC;cases bC;have hx:=Mm e;have hi:=(bz.mp e).1;rw[uL]at hi;have ed:ds[i]?=some ds[i]:=br hi;obtain⟨k1,k2⟩:=iw hr ed;have ZU:=Bn hf hs hr i ∅;have hLn:=jk (f:=f) (s:=s) ed;rw[uP ed]at hx;have hfx:=uP (f:=f) (s:=s) ed;have hsi:=bO.fin hf hs (ji (i:=i) hr);have WD:(ds.take i).length=i:=by rw[hG];omega
    rw[WD]at hsi;have hn0:=Ex.get jG hn;have YW:(ds.map c_)[i]?=some (c_ ds[i]):=by rw[bc,ed];rfl
    obtain⟨t,m,wd⟩:=x;have hx:t=cO f (fin f s (ds.take i)) ds[i]:=hx;subst hx;generalize hgd:ds[i]=d at *
    have uS:∀(M4:aj)(kv:Kv)(ko iN:Option D),M4[M.length]?=some (.dT kv)->kv.length<=8001+7201*i->gh kv (nk d i (fx f s ds i))->M4[n2]?=some (.lst ((tr f s ds).map RA))->Ex M M4->∀rt bk ct,eh G (G7 gJ) [some (dG f),some (dB s),some (.ai n),some (.ai M.length),o4,o5,o6,some (dB (fin f s (ds.take i))),some (.int i),some (.tup [dB (cO f (fin f s (ds.take i)) d),Qn m wd]),ko,iN] M4 (λρ M'=>∃o4 o5 o6 o8 o9 ko iN ag,ρ=[some (dG f),some (dB s),some (.ai n),some (.ai M.length),o4,o5,o6,some (dB (fin f s (ds.take (i+1)))),o8,o9,ko,iN]/\M'[n2]?=some (.lst ((tr f s ds).map RA))/\M'[M.length]?=some (.dT ag)/\ag.length<=8000+7201*(i+1)/\gh ag (fx f s ds (i+1))/\Ex M M') rt bk ct:=by
     intro M4 kv ko iN h1 h2 h3 h4 h5 rt bk ct;refine Ld hB hf hsi ∅ k1 k2 h1 ∅ h3 h5 (aH _) ?_;intro M5 kv5 iN g1 g2 g3 g4;rw[hfx,hLn];exact⟨_,_,_,_,_,_,_,kv5,rfl,g4.get h4 ∅,g1,∅,g3,Fr.back h5 g4 (.inl (aH _))⟩
    nofun;rw[bo hn0 YW];nofun
    cases d with
    | own m =>
     nofun;rw[bW cw aR,Df];exact uS M3 ag _ _ Bj ∅ QB HI jG _ _ _
    | ej m c =>
     nofun;rw[bW cH aR,zu];exact uS M3 ag _ _ Bj ∅ QB HI jG _ _ _
    | bE r k =>
     have hd:=ZU r k k1 (lC k2).1;obtain⟨x,hx⟩:=sv.mp hd;have hg:dJ ag (Ev.k2 r k)=some (zF x):=by rw[QB.gt,hx];rfl
     nofun;rw[bW aR aR,xu];nofun;refine⟨s2,?_⟩;nofun;rw[Mo (ZT Bj) hg];nofun;refine⟨s2,?_⟩;nofun;rw[G5 Bj ∅];refine uS (M3.set M.length (.dT (eM ag (Ev.k2 r k) (zF (x.1,some i))))) _ _ _ (aK Bj) (dW lD ∅) ?_ (aD HI ∅) (Fr.set jG (aH _)) _ _ _;have:=QB.put r k (x.1,some i);show gh _ (putL (fx f s ds i) r k (((fx f s ds i r k).getD (none,none)).1,some i));rw[hx];exact this
  ·rintro ρ M3 ⟨o4,o5,o6,o8,o9,ko,iN,ag,rfl,HI,Bj,YG,QB,jG⟩;rw[ay,uL]at QB;nofun;exact⟨_,ag,rfl,aH _,Bj,QB,jG⟩
def u5(f:Fm)(ds:List Dn):List Nat:=ds.map (mc f)
def WK(f:Fm)(ds:List Dn)(i:Nat):D:=.tup [.int (mc f (ds.getD i (.own 0))),.int ((u5 f (ds.take i)).count (mc f (ds.getD i (.own 0))):Nat)]
def nN(f:Fm)(ds:List Dn)(i:Nat):List D:=(List.range i).map (WK f ds)
def nO(f:Fm)(ds:List Dn)(i:Nat):List D:=(List.range f.ru.length).map λm=>D.int ((u5 f (ds.take i)).count m:Nat)
theorem G_:nN f ds (i+1)=nN f ds i++[WK f ds i]:=by
 unfold nN;rw[yc,eQ];rfl
theorem lH:(nN f ds i).length=i:=by unfold nN;rw[ay,lS]
theorem uT(h:m<f.ru.length):(nO f ds i)[m]?=some (.int ((u5 f (ds.take i)).count m:Nat)):=by
 unfold nO;rw[bc,jT h];rfl
theorem oC:(nO f ds i).length=f.ru.length:=by unfold nO;rw[ay,lS]
theorem xM{ds:List Dn}{i:Nat}(e:ds[i]?=some d):u5 f (ds.take (i+1))=u5 f (ds.take i)++[mc f d]:=by
 unfold u5;rw[bq e,eQ];rfl
theorem Ha{ds:List Dn}{i:Nat}(e:ds[i]?=some d):(nO f ds i).set (mc f d) (.int (((u5 f (ds.take i)).count (mc f d):Nat)+1:Int))=nO f ds (i+1):=by
 refine BJ λm=>?_;rw[MW,oC];by_cases hm:m<f.ru.length
 ·rw[uT hm,uT hm,xM e,List.count_append];by_cases z:mc f d=m
  ·subst z;rw[ar rfl,ar hm,List.count_singleton_self];rfl
  ·rw[aq z,List.count_singleton,aq (by simpa using z)];rfl
 ·have h1:(nO f ds i)[m]?=none:=gM (by rw[oC];omega);have h2:(nO f ds (i+1))[m]?=none:=gM (by rw[oC];omega);rw[h1,h2];by_cases z:mc f d=m
  ·rw[ar z,aq ∅]
  ·rw[aq z]
theorem xN:(f.ru.map u3).filterMap (λ_=>some (D.int 0))=nO f ds 0:=by
 unfold nO;rw[sI,MR];show f.ru.filterMap (λ_=>some (D.int 0))=(List.range f.ru.length).map λm=>D.int 0;refine BJ λj=>?_;rw[show(λ_:Int×List Mv=>some (D.int 0))=some∘(λ_=>D.int 0) from rfl,List.filterMap_eq_map,bc,bc];rcases fj j f.ru.length with h | h
 ·rw[jT h,br h];rfl
 ·rw[gM (l:=f.ru) h,gM (l:=List.range f.ru.length) (by rw[lS];exact h)];rfl
theorem Vp(e:ds[i]?=some d):WK f ds i=.tup [.int (mc f d),.int ((u5 f (ds.take i)).count (mc f d):Nat)]:=by
 unfold WK;rw[gL,e];rfl
inductive QC (M:aj) (ds:List Dn):D->Prop where
 | l {n:Nat} (h:M[n]?=some (.lst (ds.map c_))):QC M ds (.ai n)
 | t:QC M ds (.tup (ds.map c_))
def lI(F:Fn):Prop:=∀(M:aj)(f:Fm)(ds:List Dn)(x:D),cD f->(∀d∈ds,dN f d)->ds.length<=60->QC M ds x->aV (F [dG f,x] M) λr M'=>∃n',r=.d (.ai n')/\M.length<=n'/\M'[n']?=some (.lst (nN f ds ds.length))/\Ex M M'
noncomputable def QD(gY:Nat):List S:=[.asg [5] (.call gY [0,4]),.expr (.me .append 3 [(.tup [5,(.sub 2 5)])]),.put 2 5 (.bin .add (.sub 2 5) (.kn 1))]
theorem Le(hM:nj (G gY)):lI (ao G 6 (Bk gY)):=by
 intro M f ds x hf hd xX hx;have h4:=hf.l4;rw[bJ];show eh G (Bk gY) [some (.tup [.tup (f.ru.map u3),.tup (f.ro.map xt)]),some x,none,none,none,none] M _ _ _ _;nofun;refine lg (ds:=f.ru.map u3) (λ_=>some (.int 0)) (by decide) lh (dz (by rw[ay];omega)) ?_ ?_ rfl
 ·intro j M' dd bC fr;nofun;exact⟨rfl,fr⟩
 intro M1 f1;rw[xN (ds:=ds)];nofun;refine⟨s0,?_⟩;nofun;have lM:=f1.1;have hC:(M1++[MO.lst (nO f ds 0)]++[MO.lst []])[M1.length]?=some (.lst (nO f ds 0)):=aF aw;have hE:(M1++[MO.lst (nO f ds 0)]++[MO.lst []])[(M1++[MO.lst (nO f ds 0)]).length]?=some (.lst (nN f ds 0)):=aw;have fr:Ex M (M1++[MO.lst (nO f ds 0)]++[MO.lst []]):=Fr.app (Fr.app f1);have mW:M1.length≠(M1++[MO.lst (nO f ds 0)]).length:=by rw[cI];simp
 have hle:M.length<=(M1++[MO.lst (nO f ds 0)]).length:=by rw[cI];omega
 generalize (M1++[MO.lst (nO f ds 0)]).length=nE at hE mW hle⊢;generalize M1++[MO.lst (nO f ds 0)]++[MO.lst []]=M2 at hC hE fr⊢;generalize M1.length=nC at hC mW lM⊢
 have step:∀(i:Nat)(ρ:En)(M':aj)(dd:D)(rt:W->aj->Prop)(bk:En->aj->Prop),(ds.map c_)[i]?=some dd->(∃o4 o5,ρ=[some (dG f),some x,some (.ai nC),some (.ai nE),o4,o5]/\M'[nC]?=some (.lst (nO f ds i))/\M'[nE]?=some (.lst (nN f ds i))/\Ex M M')->HF (cb [4] dd ρ) λρ=>eh G (QD gY) ρ M' (λρ M'=>∃o4 o5,ρ=[some (dG f),some x,some (.ai nC),some (.ai nE),o4,o5]/\M'[nC]?=some (.lst (nO f ds (i+1)))/\M'[nE]?=some (.lst (nN f ds (i+1)))/\Ex M M') rt bk (λρ M'=>∃o4 o5,ρ=[some (dG f),some x,some (.ai nC),some (.ai nE),o4,o5]/\M'[nC]?=some (.lst (nO f ds (i+1)))/\M'[nE]?=some (.lst (nN f ds (i+1)))/\Ex M M'):=by
  rintro i ρ M3 dd rt bk bC ⟨o4,o5,rfl,N4,Dj,jG⟩;rw[bc]at bC
  cases e:ds[i]? with
  | none=>rw[e]at bC;cases bC
  | some d =>
   rw[e]at bC;cases bC;have hi:=(bz.mp e).1;have hdk:=hd d (cQ e);have hm:=hdk.mc hf;nofun;refine(hM M3 f d hf hdk).imp ?_;rintro r M4 ⟨rfl,rfl⟩;nofun;refine⟨bL Dj,?_⟩;nofun;rw[bo N4 (uT hm)];nofun;refine⟨s2,?_⟩;nofun;rw[cf Dj (aT (by rw[lH];omega))];have N5:(M3.set nE (.lst (nN f ds i++[.tup [.int (mc f d),.int ((u5 f (ds.take i)).count (mc f d):Nat)]])))[nC]?=some (.lst (nO f ds i)):=aD N4 mW;nofun;rw[bo N5 (uT hm)];nofun;rw[jv N5 (by rw[oC];exact hm),Ha e];refine⟨_,_,rfl,aK N5,aD ?_ (cW mW),Fr.set (Fr.set jG hle) lM⟩;rw[aK Dj,G_,Vp e]
 cases hx with
 | l h =>
  rename_i n
  have hnx:n≠nC/\n≠nE:=by have:=aB h;omega
  have h2:=Ex.get fr h;rw[dy h2];refine xj (n:=n) (ds:=ds.map c_) (λi ρ M'=>∃o4 o5,ρ=[some (dG f),some (.ai n),some (.ai nC),some (.ai nE),o4,o5]/\M'[nC]?=some (.lst (nO f ds i))/\M'[nE]?=some (.lst (nN f ds i))/\Ex M M') (by rintro i ρ M' ⟨_,_,_,_,_,h3⟩;exact Ex.get h3 h) ⟨_,_,rfl,hC,hE,fr⟩ (λi ρ M' dd h1 h2=>step i ρ M' dd _ _ h1 h2) ?_;rintro ρ M3 ⟨o4,o5,rfl,N4,Dj,jG⟩;rw[ay]at Dj;nofun;exact⟨_,rfl,hle,Dj,jG⟩
 | t =>
  refine gC (ds:=ds.map c_) (λi ρ M'=>∃o4 o5,ρ=[some (dG f),some (.tup (ds.map c_)),some (.ai nC),some (.ai nE),o4,o5]/\M'[nC]?=some (.lst (nO f ds i))/\M'[nE]?=some (.lst (nN f ds i))/\Ex M M') ⟨_,_,rfl,hC,hE,fr⟩ (λi ρ M' dd h1 h2=>step i ρ M' dd _ _ h1 h2) ?_;rintro ρ M3 ⟨o4,o5,rfl,N4,Dj,jG⟩;rw[ay]at Dj;nofun;exact⟨_,rfl,hle,Dj,jG⟩
theorem mO:∀{i r:Nat}{k:Int}{x:Option Nat×Option Nat},fx f s ds i r k=some x->(∀a,x.1=some a->a<i)/\∀a,x.2=some a->a<i
 | 0,r,k,x,h=>by
  have h:(if r<f.ro.length/\k∈cZ (load s r) then some (none,none) else none:Option (Option Nat×Option Nat))=some x:=h;split at h
  ·cases h;exact⟨λa z=>(by cases z),λa z=>(by cases z)⟩
  ·cases h
 | i+1,r,k,x,h=>by
  cases e:ds[i]? with
  | none =>
   have q:fx f s ds (i+1)=fx f s ds i:=by
    show(match ds[i]? with
     | some d=>RE f (fin f s (ds.take i)) d i (fx f s ds i)
     | none=>fx f s ds i)=_
    rw[e]
   rw[q]at h;obtain⟨h1,h2⟩:=mO h;exact⟨λa z=>iG (h1 a z),λa z=>iG (h2 a z)⟩
  | some d =>
   rw[jk e]at h
   have qv:∀ {r k x},fx f s ds i r k=some x->(∀a,x.1=some a->a<i+1)/\∀a,x.2=some a->a<i+1:=λ{r k x} h=>by
    obtain⟨h1,h2⟩:=mO h;exact⟨λa z=>iG (h1 a z),λa z=>iG (h2 a z)⟩
   have h:(if (load (fin f s (ds.take i)) r).1<=k/\k<(load (cO f (fin f s (ds.take i)) d) r).1 then some (some i,none) else nk d i (fx f s ds i) r k)=some x:=h;split at h
   ·cases h;exact⟨λa z=>(by cases z;omega),λa z=>(by cases z)⟩
   ·cases d with
    | own m=>exact qv h
    | ej m c=>exact qv h
    | bE q n =>
     have h:(if q=r/\n=k then some (((fx f s ds i q n).getD (none,none)).1,some i) else fx f s ds i r k)=some x:=h;split at h
     ·cases h;refine⟨λa z=>?_,λa z=>(by cases z;omega)⟩
      cases w:fx f s ds i q n with
      | none=>rw[w]at z;cases z
      | some y=>rw[w]at z;exact(qv w).1 a z
     ·exact qv h
noncomputable def DAt(M:aj)(n:Nat)(ag:Kv):Prop:=M[n]?=some (.dT ag)\/M[n]?=some (.dF ag)
def dP(M:aj)(n:Nat)(ag:Kv):aj:=M.set n (.dF ag)
theorem Vq(h:DAt M n ag):∃M',fc .keys [.d (.ai n)] M=.ok (.items (ag.map pE)) M'/\Fr n M M'/\M'[n]?=some (.dF ag):=by
 rcases h with h | h
 ·exact⟨M.set n (.dF ag),by unfold fc;simp only[h],Fr.PN (Fr.refl n M),aK h⟩
 ·exact⟨M,by unfold fc;simp only[h],Fr.refl n M,h⟩
theorem QE(h:dr f s ds):∀d∈ds,dN f d:=λd hd=>by
 obtain⟨i,hi,rfl⟩:=qG.mp hd;exact(iw h (br hi)).1
end Ev
end
section
namespace Ev
open PySem
def Bq(lJ:Nat)(eG:Nat):List S:=[.asg [3] (.call lJ [0,1,2]),.fg 4 (.comp .seq [2] [1] none (.lst []) [none,none]),.asg [5] (.v8 [] []),.bD [6,7] .enum [(.call eG [0,2])] [.iff (.val (.cmp .isin (.ks 7 0) 5)) [.expr (.me .append (.sub 4 6) [(.sub 5 (.ks 7 0))])] [],.put 5 (.ks 7 0) 6],.bD [8,9] .vals [3] [.iff (.dv [(.val (.cmp .eL 8 (.bw .aP))),(.val (.cmp .eL 9 (.bw .aP)))]) [.expr (.me .append (.sub 4 9) [8])] []],.ret 4]
def Br(fJ:Nat)(eG:Nat):List S:=[.asg [3] (.call fJ [0,1,2]),.asg [4] (.lst []),.bD [5,6] .enum [(.call eG [0,2])] [.fg 7 (.comp .seq [(.ks 0 0)] [1] none (.kn 0) [none,none]),.bD [8] .seq [(.sub 3 5)] [.fg 7 (.comp .zip [7,(.sub 4 8)] [1,2] none (.bi .max2 [1,2]) [none,none,none])],.put 7 (.ks 6 0) (.bin .add (.ks 6 1) (.kn 1)),.expr (.me .append 4 [(.bi .tuple1 [7])])],.ret 4]
noncomputable def Hb:List S:=[.asg [4] (.sub 0 2),.ret (.dv [(.cmp .ne 2 3),(.cmp .lt (.ks 4 1) (.sub (.sub 1 3) (.ks 4 0)))])]
end Ev
end
section
namespace Ev
open L2
open PySem PySem.Spec PyProof.Rows
section
variable (A:Nat->List Nat) (mA cA:Nat->Nat)
inductive mP:Nat->Nat->Prop where
 | one {i j:Nat} (h:j∈A i):mP i j
 | more {i o j:Nat} (h:o∈A i) (r:mP o j):mP i j
noncomputable def tk:Nat->Nat->Nat->Nat
 | 0,_,_=>0
 | f+1,i,m=>if m=mA i then cA i+1 else (A i).foldl (λa o=>max a (tk f o m)) 0
def Tk(i m:Nat):Nat:=tk A mA cA (i+1) i m
end
section
variable {A:Nat->List Nat} {mA cA:Nat->Nat}
theorem mP.lt(hA:∀i j,j∈A i->j<i)(h:mP A i j):j<i:=by
 induction h with
 | one h=>exact hA _ _ h
 | more h _ ih=>have:=hA _ _ h;omega
theorem mP.inv(h:mP A i j):∃o∈A i,j=o\/mP A o j:=by
 cases h with
 | one h=>exact⟨j,h,.inl rfl⟩
 | more h r=>exact⟨_,h,.inr r⟩
theorem mP.of(h:o∈A i)(r:j=o\/mP A o j):mP A i j:=by
 rcases r with rfl | r
 ·exact .one h
 ·exact .more h r
theorem ql{α:Type}{l:List Nat}{f g:α->Nat->α}{a:α}(h:∀a,∀o∈l,f a o=g a o):l.foldl f a=l.foldl g a:=by
 induction l generalizing a with
 | nil=>rfl
 | cons x l ih =>
  rw[BO,BO,h a x dH];exact ih λa o ho=>h a o (da _ ho)
theorem Bs(hA:∀i j,j∈A i->j<i):∀(f g i m:Nat),i<f->i<g->tk A mA cA f i m=tk A mA cA g i m
 | 0,_,_,_,h,_=>∅
 | _+1,0,_,_,_,h=>∅
 | f+1,g+1,i,m,h1,h2=>by
  unfold tk;by_cases hm:m=mA i
  ·rw[ar hm,ar hm]
  ·rw[aq hm,aq hm];refine ql λa o ho=>?_;have:=hA i o ho;rw[Bs hA f g o m ∅ ∅]
theorem sk(hA:∀i j,j∈A i->j<i)(i m:Nat):Tk A mA cA i m=if m=mA i then cA i+1 else (A i).foldl (λa o=>max a (Tk A mA cA o m)) 0:=by
 show tk A mA cA (i+1) i m=_;unfold tk;by_cases hm:m=mA i
 ·rw[ar hm,ar hm]
 ·rw[aq hm,aq hm];refine ql λa o ho=>?_;have:=hA i o ho;rw[Bs hA i (o+1) o m ∅ ∅];rfl
theorem Hc{l:List Nat}{g:Nat->Nat}{c:Nat}:∀{a:Nat},c<l.foldl (λa o=>max a (g o)) a↔c<a\/∃o∈l,c<g o:=by
 induction l with
 | nil=>intro a;simp
 | cons x l ih =>
  intro a;rw[BO,ih];constructor
  ·rintro(h | ⟨o,ho,h⟩)
   ·rcases fj c a with z | z
    ·exact .inl z
    ·exact .inr ⟨x,dH,∅⟩
   ·exact .inr ⟨o,da _ ho,h⟩
  ·rintro(h | ⟨o,ho,h⟩)
   ·exact .inl ∅
   ·rcases bT.mp ho with rfl | ho
    ·exact .inl ∅
    ·exact .inr ⟨o,ho,h⟩
theorem zG{n:Nat}(hA:∀i j,j∈A i->j<i)(hc:∀i j,i<n->j<n->mA i=mA j->(cA j<cA i↔j<i))(hp:∀i j,i<n->j<i->mA j=mA i->∃o∈A i,mA o=mA i/\j<=o):∀(i j:Nat),i<n->j<n->((j=i\/mP A i j)↔cA j<Tk A mA cA i (mA j)):=by
 intro i
 induction i using Nat.strongRecOn with
 | _ i ih =>
  intro j hi hj;rw[sk hA];by_cases hm:mA j=mA i
  ·rw[ar hm];constructor
   ·rintro(rfl | h)
    ·omega
    ·have:=(hc i j hi hj hm.symm).mpr (h.lt hA);omega
   ·intro h;rcases fj j i with z | z
    ·obtain⟨o,ho,hmo,hjo⟩:=hp i j hi z hm;have qw:=hA i o ho;refine .inr (mP.of ho ?_);refine(ih o qw j ∅ hj).mpr ?_;rw[sk hA,ar (hm.trans hmo.symm)];rcases fj j o with y | y
     ·have:=(hc o j ∅ hj (hmo.trans hm.symm)).mpr y;omega
     ·have:j=o:=∅;subst this;omega
    ·rcases fj i j with y | y
     ·have:=(hc j i hj hi hm).mpr y;omega
     ·exact .inl ∅
  ·rw[aq hm,Hc];constructor
   ·rintro(rfl | h)
    ·exact absurd rfl hm
    ·obtain⟨o,ho,r⟩:=h.inv;have qw:=hA i o ho;exact .inr ⟨o,ho,(ih o qw j ∅ hj).mp r⟩
   ·rintro(h | ⟨o,ho,h⟩)
    ·omega
    ·have qw:=hA i o ho;exact .inr (mP.of ho ((ih o qw j ∅ hj).mpr h))
end
def mA(f:Fm)(ds:List Dn)(i:Nat):Nat:=mc f (ds.getD i (.own 0))
def cA(f:Fm)(ds:List Dn)(i:Nat):Nat:=(u5 f (ds.take i)).count (mA f ds i)
theorem xO(e:ds[i]?=some d):mA f ds i=mc f d:=by
 unfold mA;rw[gL,e];rfl
def aU(f:Fm)(ds:List Dn)(m:Nat):Nat->Option Nat
 | 0=>none
 | i+1=>if mA f ds i=m then some i else aU f ds m i
theorem mQ:∀{i j:Nat},aU f ds m i=some j->j<i/\mA f ds j=m/\∀k,k<i->mA f ds k=m->k<=j
 | 0,j,h=>by cases h
 | i+1,j,h=>by
  unfold aU at h;by_cases hm:mA f ds i=m
  ·rw[ar hm]at h;cases h;exact⟨∅,hm,λk hk _=>∅⟩
  ·rw[aq hm]at h;obtain⟨h1,h2,h3⟩:=mQ h;refine⟨∅,h2,λk hk hkm=>?_⟩;rcases fj k i with z | z
   ·exact h3 k z hkm
   ·have:k=i:=∅;subst this;exact absurd hkm hm
theorem so:∀{i:Nat},aU f ds m i=none->∀k,k<i->mA f ds k≠m
 | 0,_,k,hk=>∅
 | i+1,h,k,hk=>by
  unfold aU at h;by_cases hm:mA f ds i=m
  ·rw[ar hm]at h;cases h
  ·rw[aq hm]at h;rcases fj k i with z | z
   ·exact so h k z
   ·have:k=i:=∅;subst this;exact hm
theorem kl(hi:i<ds.length):(u5 f (ds.take (i+1))).count m=(u5 f (ds.take i)).count m+if mA f ds i=m then 1 else 0:=by
 have e:ds[i]?=some ds[i]:=br hi;rw[xM e,List.count_append,List.count_singleton,<- xO (f:=f) e];simp
theorem qo{ds:List Dn}{m i j:Nat}(h:i<=j):(u5 f (ds.take i)).count m<=(u5 f (ds.take j)).count m:=by
 unfold u5;have:ds.take i=(ds.take j).take i:=by rw[List.take_take];congr 1;omega
 rw[this,List.map_take];exact List.Sublist.count_le _ (DH _ _)
theorem Vr{ds:List Dn}{i j:Nat}(hi:i<ds.length)(hj:j<ds.length)(hm:mA f ds i=mA f ds j):cA f ds j<cA f ds i↔j<i:=by
 have key:∀{i j:Nat},j<ds.length->mA f ds i=mA f ds j->j<i->cA f ds j<cA f ds i:=λ{i j} hj hm h=>by
  unfold cA;rw[hm];have h1:=kl (f:=f) (m:=mA f ds j) hj;rw[ar rfl]at h1;have h2:=qo (f:=f) (ds:=ds) (m:=mA f ds j) (i:=j+1) (j:=i) ∅;omega
 constructor
 ·intro h;rcases BI j i with z | z | z
  ·exact z
  ·subst z;omega
  ·have:=key hi hm.symm z;omega
 ·exact key hj hm
theorem nr:∀{n:Nat},n<=ds.length->((List.range n).filter λj=>decide (mA f ds j=m)&&decide (cA f ds j<t)).length=min t ((u5 f (ds.take n)).count m)
 | 0,_=>by simp[u5]
 | n+1,h=>by
  rw[yc,List.filter_append,cI,nr (n:=n) ∅,kl ∅];by_cases hm:mA f ds n=m
  ·subst hm;rw[ar rfl];show min t (cA f ds n)+_=min t (cA f ds n+1);by_cases hc:cA f ds n<t
   ·rw[DQ,ar (by simp[hc])];show min t (cA f ds n)+1=_;omega
   ·rw[DQ,aq (by simp;omega)];show min t (cA f ds n)+0=_;omega
  ·rw[aq hm,DQ,aq (by simp[hm])];rfl
def xP(f:Fm)(s:Sd)(ds:List Dn)(i:Nat):Option Nat:=match ds[i]? with
 | some (.bE r k)=>(fx f s ds i r k).bind (·.1)
 | _=>none
def cz(f:Fm)(s:Sd)(ds:List Dn)(i:Nat):List Nat:=(aU f ds (mA f ds i) i).toList++(xP f s ds i).toList
theorem Lf(h:xP f s ds i=some j):j<i:=by
 unfold xP at h;split at h
 ·rename_i r k _
  cases e:fx f s ds i r k with
  | none=>rw[e]at h;cases h
  | some x=>rw[e]at h;exact(mO e).1 j h
 ·cases h
theorem cy(i j:Nat)(h:j∈cz f s ds i):j<i:=by
 rcases dk.mp h with z | z
 ·exact(mQ (Option.mem_toList.mp z)).1
 ·exact Lf (Option.mem_toList.mp z)
theorem Hd(h:j<i)(hm:mA f ds j=mA f ds i):∃o∈cz f s ds i,mA f ds o=mA f ds i/\j<=o:=by
 cases e:aU f ds (mA f ds i) i with
 | none=>exact absurd hm (so e j h)
 | some o =>
  obtain⟨_,h2,h3⟩:=mQ e;exact⟨o,dk.mpr (.inl (by rw[e];simp)),h2,h3 j h hm⟩
theorem Bt:(cz f s ds i).length<=2:=by
 unfold cz;rw[cI];have h:∀o:Option Nat,o.toList.length<=1:=λo=>by cases o<;>simp
 have:=h (aU f ds (mA f ds i) i);have:=h (xP f s ds i);omega
theorem He(hs:bO f N s)(hr:r<f.ro.length)(h:k∈cZ (load s r)):k<(load s r).1:=by
 obtain⟨p,hp,rfl⟩:=dI.mp h;exact((hs.De hr).2.p p hp).2.2
theorem Lg(h:k∈cZ (WI s d r)):k∈cZ (load s r):=by
 cases d with
 | own m=>exact h
 | ej m c=>exact h
 | bE q n =>
  have h:k∈cZ (if q=r then less (load s r) n else load s r):=h;split at h
  ·unfold cZ less at h;obtain⟨p,hp,rfl⟩:=dI.mp h;exact dI.mpr ⟨p,(qH.mp hp).1,rfl⟩
  ·exact h
section
variable {f:Fm} (hf:cD f) {N:Nat} {s:Sd} (hs:bO f N s) {ds:List Dn} (hr:dr f s ds)
include hf hs hr
theorem ZV(e:ds[i]?=some (.bE r k)):∀t,i<t->t<=ds.length->k∉cZ (load (fin f s (ds.take t)) r)/\k<(load (fin f s (ds.take t)) r).1:=by
 intro t
 induction t with
 | zero=>intro h;omega
 | succ t ih =>
  intro h1 h2;have et:ds[t]?=some ds[t]:=br ∅;obtain⟨k1,k2⟩:=iw hr et;have fB:=bO.fin hf hs (ji (i:=t) hr);obtain⟨m1,m2⟩:=qh hf fB k1 k2 r;rw[uP et];rcases fj i t with z | z
  ·obtain⟨g1,g2⟩:=ih z ∅;refine⟨λq=>?_,∅⟩;rw[m2]at q;rcases dk.mp q with q | q
   ·exact g1 (Lg q)
   ·have:=(lF.mp q).1;omega
  ·have:i=t:=∅;subst this;rw[e]at et;have et:=bS et;rw[<- et]at k1 k2 m1 m2⊢;have hk:=He fB k1 (lC k2).1;refine⟨λq=>?_,∅⟩;rw[m2]at q;rcases dk.mp q with q | q
   ·have q:k∈cZ (if r=r then less (load (fin f s (ds.take i)) r) k else load (fin f s (ds.take i)) r):=q;rw[ar rfl]at q;unfold cZ less at q;obtain⟨p,hp,e2⟩:=dI.mp q;have:=(qH.mp hp).2;rw[e2]at this;simp at this
   ·have:=(lF.mp q).1;omega
theorem kept(e:ds[i]?=some (.bE r k)):∀t,i<t->t<=ds.length->fx f s ds t r k=some ((fx f s ds i r k).bind (·.1),some i):=by
 intro t
 induction t with
 | zero=>intro h;omega
 | succ t ih =>
  intro h1 h2;have et:ds[t]?=some ds[t]:=br ∅;obtain⟨k1,k2⟩:=iw hr et;have fB:=bO.fin hf hs (ji (i:=t) hr);rw[jk et];rcases fj i t with z | z
  ·obtain⟨g1,g2⟩:=ZV hf hs hr e t z ∅;show(if (load (fin f s (ds.take t)) r).1<=k/\k<(load (cO f (fin f s (ds.take t)) ds[t]) r).1 then some (some t,none) else nk ds[t] t (fx f s ds t) r k)=_;rw[aq ∅];have ih:=ih z ∅;generalize ds[t]=d at k1 k2
   cases d with
   | own m=>exact ih
   | ej m c=>exact ih
   | bE q n =>
    show(if q=r/\n=k then some _ else fx f s ds t r k)=_;rw[aq]
    ·exact ih
    ·rintro⟨rfl,rfl⟩;exact g1 (lC k2).1
  ·have:i=t:=∅;subst this;rw[e]at et;have et:=bS et;rw[<- et]at k1 k2⊢;have hk:=He fB k1 (lC k2).1;show(if (load (fin f s (ds.take i)) r).1<=k/\k<(load (cO f (fin f s (ds.take i)) (.bE r k)) r).1 then some (some i,none) else (if r=r/\k=k then some (((fx f s ds i r k).getD (none,none)).1,some i) else fx f s ds i r k))=_;rw[aq ∅,ar ⟨rfl,rfl⟩]
   cases fx f s ds i r k with
   | none=>rfl
   | some x=>rfl
omit hf hs hr in
theorem zH:∀{t:Nat},fx f s ds t r k=some (a,some c)->ds[c]?=some (.bE r k)
 | 0,h=>by
  have h:(if r<f.ro.length/\k∈cZ (load s r) then some (none,none) else none:Option (Option Nat×Option Nat))=some (a,some c):=h;split at h<;>cases h
 | t+1,h=>by
  cases e:ds[t]? with
  | none =>
   have q:fx f s ds (t+1)=fx f s ds t:=by
    show(match ds[t]? with
     | some d=>RE f (fin f s (ds.take t)) d t (fx f s ds t)
     | none=>fx f s ds t)=_
    rw[e]
   rw[q]at h;exact zH h
  | some d =>
   rw[jk e]at h;have h:(if (load (fin f s (ds.take t)) r).1<=k/\k<(load (cO f (fin f s (ds.take t)) d) r).1 then some (some t,none) else nk d t (fx f s ds t) r k)=some (a,some c):=h;split at h
   ·cases h
   ·cases d with
    | own m=>exact zH h
    | ej m c=>exact zH h
    | bE q n =>
     have h:(if q=r/\n=k then some (((fx f s ds t q n).getD (none,none)).1,some t) else fx f s ds t r k)=some (a,some c):=h;by_cases z:q=r/\n=k
     ·rw[ar z]at h;have e2:some t=some c:=lW Prod.snd (bS h);rw[<- bS e2,e,z.1,z.2]
     ·rw[aq z]at h;exact zH h
end
abbrev QF:=Nat×Int×(Option Nat×Option Nat)
def ZW(t:QF):List bN×D:=(k2 t.1 t.2.1,zF t.2.2)
theorem Dk{ag:Kv}(h:(ag.map (·.1)).Nodup){p:List bN×D}(hp:p∈ag):dJ ag p.1=some p.2:=by
 unfold dJ
 induction ag with
 | nil=>cases hp
 | cons q ag ih =>
  rw[fi,sG]at h;rw[hU];rcases bT.mp hp with rfl | hp
  ·simp
  ·have:decide (q.1=p.1)=false:=dO λz=>h.1 (by rw[z];exact dI.mpr ⟨p,hp,rfl⟩);simp only[this];exact ih h.2 hp
theorem gh.typed{ag:Kv}{L:Lm}(h:gh ag L):∃ts:List QF,ag=ts.map ZW/\ts.Nodup/\∀t,t∈ts↔L t.1 t.2.1=some t.2.2:=by
 obtain⟨ts,e,q⟩:=uy (toD:=λt:QF=>D.tup [.int t.1,.int t.2.1,zF t.2.2]) (ds:=ag.map λp=>D.tup (p.1.map kD++[p.2])) (Q:=λt=>L t.1 t.2.1=some t.2.2) λx hx=>by
  obtain⟨p,hp,rfl⟩:=dI.mp hx;obtain⟨r,k,x,ek,hL⟩:=h.ky p.1 (dI.mpr ⟨p,hp,rfl⟩);refine⟨(r,k,x),?_,hL⟩;have:=Dk h.nd hp;rw[ek,h.gt,hL]at this;have:=bS this;rw[ek,<- this];rfl
 have hk:ag=ts.map ZW:=by
  have hl:ag.length=ts.length:=by have:=lW List.length e;rw[ay,ay]at this;exact this
  refine BJ λi=>?_;rcases fj i ag.length with hi | hi
  ·have e1:(ag.map λp=>D.tup (p.1.map kD++[p.2]))[i]?=(ts.map λt:QF=>D.tup [.int t.1,.int t.2.1,zF t.2.2])[i]?:=by rw[e]
   rw[bc,bc,br hi,br ∅]at e1;have e1:=bS e1;obtain⟨r,k,x,ek,hL⟩:=h.ky ag[i].1 (dI.mpr ⟨ag[i],kA hi,rfl⟩);rw[bc,br hi,br ∅];show some ag[i]=some (ZW ts[i]);have e1:D.tup (ag[i].1.map kD++[ag[i].2])=D.tup [.int ts[i].1,.int ts[i].2.1,zF ts[i].2.2]:=e1;rw[ek]at e1;have e1:D.tup [.int r,.int k,ag[i].2]=D.tup [.int ts[i].1,.int ts[i].2.1,zF ts[i].2.2]:=e1;simp only[D.tup.injEq,List.cons.injEq,D.int.injEq,and_true]at e1;obtain⟨z1,z2,z3⟩:=e1;have z1:r=ts[i].1:=∅
   congr 1
   refine Prod.ext ?_ z3;rw[ek,z1,z2];rfl
  ·rw[gM hi,gM (by rw[ay];omega)]
 refine⟨ts,hk,?_,λt=>⟨q t,λht=>?_⟩⟩
 ·have:=h.nd;rw[hk,sL]at this;exact(List.pairwise_map.mp this).imp λh e=>h (lW _ e)
 ·have:k2 t.1 t.2.1∈ag.map (·.1):=h.mem.mpr (by rw[ht];rfl);rw[hk,sL]at this;obtain⟨u,hu,eu⟩:=dI.mp this;obtain⟨z1,z2⟩:=G2 (show k2 u.1 u.2.1=k2 t.1 t.2.1 from eu);have h3:=q u hu;rw[z1,z2,ht]at h3;have h3:=bS h3;obtain⟨a,b,c⟩:=t;obtain⟨a',b',c'⟩:=u;have z1:a'=a:=z1;have z2:b'=b:=z2;have h3:c=c':=h3;have:(a,b,c)=(a',b',c'):=by rw[z1,z2,h3]
  rw[this];exact hu
noncomputable def cR(ts:List QF)(i:Nat):List Nat:=ts.filterMap λt=>match t.2.2 with
 | (some a,some c)=>if c=i then some a else none
 | _=>none
theorem qq{α β:Type}{g:α->Option β}{t0:α}:∀{l:List α},l.Nodup->(∀t∈l,t≠t0->g t=none)->t0∈l->l.filterMap g=(g t0).toList
 | x::l,h,q,m=>by
  rw[sG]at h;rw[lQ];by_cases e:x=t0
  ·subst e;rw[List.filterMap_eq_nil_iff.mpr λt ht=>q t (da _ ht) λz=>h.1 (by rw[<- z];exact ht)];cases g x<;>rfl
  ·rw[q x dH e];refine qq (g:=g) (t0:=t0) h.2 (λt ht=>q t (da _ ht)) ?_;rcases bT.mp m with z | z
   ·exact absurd z.symm e
   ·exact z
theorem lK{f:Fm}(hf:cD f){N:Nat}{s:Sd}(hs:bO f N s){ds:List Dn}(hr:dr f s ds){ts:List QF}(nd:ts.Nodup)(hm:∀t,t∈ts↔fx f s ds ds.length t.1 t.2.1=some t.2.2){i:Nat}(hi:i<ds.length):cR ts i=(xP f s ds i).toList:=by
  have none_of : ∀ t ∈ ts, (∀ r k, ds[i]? = some (.bE r k) -> ¬ (t.1 = r /\ t.2.1 = k)) -> (match t.2.2 with
      | (some a,some c)=>if c=i then some a else none
      | _=>none:Option Nat)=none:=λt ht q=>by
    obtain⟨r,k,a,c⟩:=t
    cases a with
    | none=>rfl
    | some a =>
      cases c with
      | none=>rfl
      | some c =>
        show(if c=i then some a else none)=none;rw[aq];rintro rfl;exact q r k (zH ((hm _).mp ht)) ⟨rfl,rfl⟩
  unfold cR xP;split
  · rename_i r k e
    have hk:=kept hf hs hr e ds.length hi (aH _)
    rw[qq (t0:=(r,k,((fx f s ds i r k).bind (·.1),some i))) nd (λt ht ne=>none_of t ht λr' k' e' z=>by
      rw[e]at e';cases e';obtain⟨rfl,rfl⟩:=z;have:=(hm t).mp ht;rw[hk]at this;have:=bS this;obtain⟨a,b,c⟩:=t;have this:_=c:=this;exact ne (by rw[<- this])) ((hm (r,k,((fx f s ds i r k).bind (·.1),some i))).mpr hk)]
    cases (fx f s ds i r k).bind (·.1)with
    | none=>rfl
    | some a=>show(if i=i then some a else none:Option Nat).toList=_;rw[ar rfl]
  · rename_i ne
    rw[List.filterMap_eq_nil_iff.mpr λt ht=>none_of t ht λr k e _=>ne r k e];rfl
abbrev Kn:=List (bN×D)
def Lh(ag:Kn)(l:Nat->Option Nat):Prop:=∀m:Nat,dJ ag (Sum.inl (m:Int):bN)=(l m).map λn:Nat=>D.int n
theorem Lh.put(h:Lh ag l)(m n:Nat):Lh (eM ag (Sum.inl (m:Int)) (.int n)) λm'=>if m'=m then some n else l m':=λm'=>by
 rw[Bl];show _=(if m'=m then some n else l m').map λn:Nat=>D.int n;by_cases e:m'=m
 ·subst e;rw[ar rfl,ar rfl];rfl
 ·rw[aq (λz=>e (by have:=Sum.inl.inj z;omega)),aq e,h]
theorem Mp{n m:Nat}(hM:M[n]?=some (.dK ag))(h:Lh ag l):bh .isin (.d (.int m)) (.d (.ai n)) M=.ok (l m).isSome M:=by
 unfold bh;simp only[show bQ M (.d (.ai n))=none by unfold bQ;simp only[hM],show iL M (.d (.ai n))=some ag by unfold iL;simp only[hM],show wC (.d (.int m))=some (Sum.inl (m:Int)) from rfl,h m,BE]
theorem Hf(hM:M[n]?=some (.dK ag))(h:Lh ag l)(e:l m=some j):de (.d (.ai n)) (.d (.int m)) M=.ok (.d (.int j)) M:=by
 unfold de bQ;simp only[hM,h m,e,DT]
theorem Hg(hM:M[n]?=some (.dK ag))(hl:ag.length<=1000):ig (.d (.ai n)) (.d (.int m)) d M=.ok () (M.set n (.dK (eM ag (Sum.inl (m:Int)) d))):=by
 unfold ig;simp only[hM];rw[ar (aT hl)]
structure zI (M0 M:aj) (as:List Nat) (g:Nat->List Int):Prop where
 av:∀(r a:Nat),as[r]?=some a->M[a]?=some (.lst ((g r).map D.int))
 bd:∀a∈as,M0.length<=a/\a<M.length
 nd:as.Nodup
 ex:Ex M0 M
theorem zI.nil(h:Ex M0 M):zI M0 M [] g:=⟨λr a e=>(by simp at e),λa h=>(by cases h),DV,h⟩
theorem zI.more{M0 M M1:aj}{as:List Nat}{g:Nat->List Int}(h:zI M0 M as g)(f:Ex M M1):zI M0 M1 as g:=⟨λr a e=>Ex.get f (h.av r a e),λa ha=>⟨(h.bd a ha).1,gO (h.bd a ha).2 f.1⟩,h.nd,Ex.trans h.ex f⟩
theorem zI.snoc(h:zI M0 M as g)(ha:M[a]?=some (.lst ((g as.length).map D.int)))(h0:M0.length<=a)(hn:a∉as):zI M0 M (as++[a]) g:=by
 refine⟨λr b e=>?_,λb hb=>?_,?_,h.ex⟩
 ·rcases fj r as.length with z | z
  ·rw[kr z]at e;exact h.av r b e
  ·rw[qD z]at e
   have hr:r=as.length:=by
    have:=(bz.mp e).1;simp only[iP,Ii]at this;omega
   subst hr;simp at e;subst e;exact ha
 ·rcases dk.mp hb with z | z
  ·exact h.bd b z
  ·rw[iO.mp z];exact⟨h0,aB ha⟩
 ·rw[x_];exact⟨h.nd,by simp,λx hx y hy e=>hn (by rw[<- iO.mp hy,<- e];exact hx)⟩
theorem zI.new(h:zI M0 M as g):zI M0 (M++[MO.lst ((g as.length).map D.int)]) (as++[M.length]) g :=
 (h.more (Fr.app (Ex.refl M))).snoc aw h.ex.1 λz=>by have:=(h.bd _ z).2;omega
def jI(l:List Nat):List Int:=l.map λj:Nat=>(j:Int)
def oE(F:Fn):Prop:=∀(M:aj)(f:Fm)(N:Nat)(s:Sd)(ds:List Dn)(n:Nat),cD f->bO f N s->N+3*ds.length<=890->ds.length<=60->dr f s ds->M[n]?=some (.lst (ds.map c_))->aV (F [dG f,dB s,.ai n] M) λr M'=>∃n' as,r=.d (.ai n')/\as.length=ds.length/\kj M' n' as (λi=>jI (cz f s ds i))/\(∀a∈as,M.length<=a)/\Ex M M'
theorem Vs(h:M[n]?=some (.dT ag)):fc .vals [.d (.ai n)] M=.ok (.items (ag.map (·.2))) (M.set n (.dF ag)):=by
 unfold fc;simp only[h]
theorem Li(hL:lG (G lJ))(hE:lI (G eG)):oE (ao G 10 (Bq lJ eG)):=by
 intro M f N s ds n hf hs hN xX hr hn
 have Hh:∀d∈ds,dN f d:=λd hd=>by
  obtain⟨i,hi,rfl⟩:=qG.mp hd;exact(iw hr (br hi)).1
 rw[bJ];show eh G (Bq lJ eG) [some (dG f),some (dB s),some (.ai n),none,none,none,none,none,none,none] M _ _ _ _;nofun;refine(hL M f N s ds n hf hs hN xX hr hn).imp ?_;rintro r M1 ⟨nL,ag,rfl,Cy,RB,hR,f1⟩;have Dy:=Ex.get f1 hn;have lL:=aB RB;nofun;rw[dy Dy];refine je (ds:=ds.map c_) (λi M' acc=>∃as:List Nat,acc=as.map D.ai/\as.length=i/\zI M1 M' as (λ_=>[])) (by decide) (λi M' acc ⟨as,_,_,h⟩ hi=>pZ Dy M' h.ex i hi) ⟨[],rfl,rfl,zI.nil (Ex.refl M1)⟩ ?_ ?_ (qU Dy)
 ·rintro i M' acc dd bC ⟨as,rfl,rH,hv⟩;have hi:=(bz.mp bC).1;rw[ay]at hi;refine⟨aT (by rw[ay];omega),?_⟩;nofun;refine⟨s0,?_⟩;nofun;exact⟨as++[M'.length],by rw[eQ];rfl,by rw[cI,rH];rfl,hv.new⟩
 rintro M2 acc ⟨as,rfl,rH,hv⟩;rw[ay]at rH;nofun;refine⟨rfl,?_⟩;nofun;have ml:=hv.bd;have lM2:=hv.ex.1;have qC:Ex M M2:=Ex.trans f1 hv.ex;have sj:=Ex.get hv.ex RB;have vW:=Ex.get hv.ex Dy;have HB:(M2++[MO.lst (as.map D.ai)]++[MO.dK []])[(M2++[MO.lst (as.map D.ai)]).length]?=some (.dK []):=aw;have HJ:kj (M2++[MO.lst (as.map D.ai)]++[MO.dK []]) M2.length as (λ_=>[]):=⟨aF aw,hv.nd,λz=>by have:=(ml _ z).2;omega,λr a e=>aF (aF (hv.av r a e))⟩;have Bj:(M2++[MO.lst (as.map D.ai)]++[MO.dK []])[nL]?=some (.dT ag):=aF (aF sj);have HI:(M2++[MO.lst (as.map D.ai)]++[MO.dK []])[n]?=some (.lst (ds.map c_)):=aF (aF vW);have jG:Ex M (M2++[MO.lst (as.map D.ai)]++[MO.dK []]):=Fr.app (Fr.app qC);have ln:(M2++[MO.lst (as.map D.ai)]).length=M2.length+1:=by rw[cI];rfl
 rw[ln]at HB⊢;show aV (G eG [dG f,.ai n] (M2++[MO.lst (as.map D.ai)]++[MO.dK []])) _;generalize M2++[MO.lst (as.map D.ai)]++[MO.dK []]=M3 at HB HJ Bj HI jG⊢;refine(hE M3 f ds (.ai n) hf Hh xX (.l HI)).imp ?_;rintro r M4 ⟨nE,rfl,hlE,QG,f4⟩;have lM3:=aB HB;nofun;rw[uN QG];refine lz (n:=nE) (ds:=nN f ds ds.length) (λi ρ M'=>∃o6 o7 kv,ρ=[some (dG f),some (dB s),some (.ai n),some (.ai nL),some (.ai M2.length),some (.ai (M2.length+1)),o6,o7,none,none]/\M'[nE]?=some (.lst (nN f ds ds.length))/\kj M' M2.length as (λj=>jI (if j<i then (aU f ds (mA f ds j) j).toList else []))/\M'[M2.length+1]?=some (.dK kv)/\kv.length<=i/\Lh kv (λm=>aU f ds m i)/\M'[nL]?=some (.dT ag)/\Ex M M') (by rintro i ρ M' ⟨_,_,_,_,h,_⟩;exact h) ⟨_,_,[],rfl,QG,(HJ.ex f4).to λr _=>by rw[aq (Ij r)];rfl,Ex.get f4 HB,aH _,λm=>rfl,Ex.get f4 Bj,Ex.trans jG f4⟩ ?_ ?_ (lB QG)
 ·rintro i ρ M5 dd bC ⟨o6,o7,kv,rfl,Vt,mR,Hi,ZX,Dz,Mn,jl⟩;have hi:=(bz.mp bC).1;rw[lH]at hi
  have he:dd=.tup [.int (mA f ds i),.int (cA f ds i)]:=by
   unfold nN at bC;rw[bc,jT hi]at bC;exact(bS bC).symm
  subst he;obtain⟨a,ea,es,xY⟩:=mR.sub (r:=i) ∅;have ba:=ml a (cQ ea);rw[aq (iS i)]at xY
  have uS:∀(M6:aj)(g:Nat->List Int),kj M6 M2.length as g->(∀j,j<as.length->g j=jI (if j<i+1 then (aU f ds (mA f ds j) j).toList else []))->M6[nE]?=some (.lst (nN f ds ds.length))->M6[M2.length+1]?=some (.dK kv)->M6[nL]?=some (.dT ag)->Ex M M6->∀rt bk ct,eh G [.put (.eX 5) (.sub (.eX 7) (.bw (.int 0))) (.eX 6)] [some (dG f),some (dB s),some (.ai n),some (.ai nL),some (.ai M2.length),some (.ai (M2.length+1)),some (.int i),some (.tup [.int (mA f ds i),.int (cA f ds i)]),none,none] M6 (λρ M'=>∃o6 o7 kv,ρ=[some (dG f),some (dB s),some (.ai n),some (.ai nL),some (.ai M2.length),some (.ai (M2.length+1)),o6,o7,none,none]/\M'[nE]?=some (.lst (nN f ds ds.length))/\kj M' M2.length as (λj=>jI (if j<i+1 then (aU f ds (mA f ds j) j).toList else []))/\M'[M2.length+1]?=some (.dK kv)/\kv.length<=i+1/\Lh kv (λm=>aU f ds m (i+1))/\M'[nL]?=some (.dT ag)/\Ex M M') rt bk ct:=by
   intro M6 g h1 h2 h3 h4 h5 h6 rt bk ct;nofun;rw[Hg h4 ∅];refine⟨_,_,_,rfl,aD h3 ∅,?_,aK h4,dW lD ∅,?_,aD h5 ∅,Fr.set h6 ∅⟩
   ·have h1:=h1.to h2;exact⟨aD h1.at' ∅,h1.nd,h1.na,λr b e=>aD (h1.av r b e) (by have:=ml b (cQ e);omega)⟩
   ·have:=Dz.put (mA f ds i) i;refine λm=>(this m).trans ?_;show Option.map _ (if m=mA f ds i then some i else aU f ds m i)=Option.map _ (if mA f ds i=m then some i else aU f ds m i);by_cases z:m=mA f ds i
    ·rw[ar z,ar z.symm]
    ·rw[aq z,aq (cW z)]
  nofun;rw[Mp Hi Dz]
  cases hl:aU f ds (mA f ds i) i with
  | none =>
   refine uS M5 _ mR (λj hj=>?_) Vt Hi Mn jl _ _ _;rcases BI j i with z | z | z
   ·rw[ar z,ar ∅]
   ·subst z;rw[aq (iS j),ar ∅,hl];rfl
   ·rw[aq ∅,aq ∅]
  | some j0 =>
   nofun;rw[es];nofun;refine⟨bL xY,?_⟩;nofun;rw[Hf Hi Dz hl];nofun;rw[cf xY (aT (by simp[jI]))];refine uS (M5.set a (.lst ((jI [j0]).map D.int))) _ (mR.upd ea (jI [j0])) (λj hj=>?_) (aD Vt ∅) (aD Hi ∅) (aD Mn ∅) (Fr.set jl ∅) _ _ _;by_cases z:j=i
   ·subst z;rw[ar rfl,ar ∅,hl];rfl
   ·rw[aq z];rcases fj j i with y | y
    ·rw[ar y,ar ∅]
    ·rw[aq ∅,aq ∅]
 ·rintro ρ M5 ⟨o6,o7,kv,rfl,Vt,mR,Hi,ZX,Dz,Mn,jl⟩;rw[lH]at mR;obtain⟨ts,ZY,RH,Mq⟩:=hR.typed
  have mR:kj M5 M2.length as (λj=>jI ((aU f ds (mA f ds j) j).toList++cR (ts.take 0) j)):=mR.to λj hj=>by
   rw[ar ∅,sI];show _=jI (_++[]);rw[iQ]
  nofun;rw[Vs Mn];have DA:kj (M5.set nL (.dF ag)) M2.length as (λj=>jI ((aU f ds (mA f ds j) j).toList++cR (ts.take 0) j)):=⟨aD mR.at' ∅,mR.nd,mR.na,λr b e=>aD (mR.av r b e) (by have:=ml b (cQ e);omega)⟩;have evl:ag.map (·.2)=ts.map λt=>zF t.2.2:=by rw[ZY,sL];rfl
  rw[evl];refine gC (ds:=ts.map λt=>zF t.2.2) (λi ρ M'=>∃o5 o6 o7 o8 o9,ρ=[some (dG f),some (dB s),some (.ai n),some (.ai nL),some (.ai M2.length),o5,o6,o7,o8,o9]/\kj M' M2.length as (λj=>jI ((aU f ds (mA f ds j) j).toList++cR (ts.take i) j))/\Ex M M') ⟨_,_,_,_,_,rfl,DA,Fr.set jl ∅⟩ ?_ ?_
  ·rintro i ρ M6 dd bC ⟨o5,o6,o7,o8,o9,rfl,DA,Dv⟩;rw[bc]at bC
   cases e:ts[i]? with
   | none=>rw[e]at bC;cases bC
   | some t =>
    rw[e]at bC;cases bC;have WL:=(Mq t).mp (cQ e);obtain⟨q,k,a,c⟩:=t
    have Vu:∀j,cR (ts.take (i+1)) j=cR (ts.take i) j++cR [(q,k,a,c)] j:=λj=>by
     unfold cR;rw[bq e,ML]
    have keep:(∀j,cR [(q,k,a,c)] j=[])->kj M6 M2.length as (λj=>jI ((aU f ds (mA f ds j) j).toList++cR (ts.take (i+1)) j)):=λh=>DA.to λj _=>by rw[Vu,h,iQ]
    cases a with
    | none=>exact⟨_,_,_,_,_,rfl,keep λj=>rfl,Dv⟩
    | some a =>
     cases c with
     | none=>exact⟨_,_,_,_,_,rfl,keep λj=>rfl,Dv⟩
     | some c =>
      have hc:=(bz.mp (zH WL)).1;obtain⟨b,eb,es,Vv⟩:=DA.sub (r:=c) ∅;have bb:=ml b (cQ eb)
      have aZ:((aU f ds (mA f ds c) c).toList++cR (ts.take i) c).length<=1000:=by
       have h1:∀o:Option Nat,o.toList.length<=1:=λo=>by cases o<;>simp
       have h2:=h1 (aU f ds (mA f ds c) c);have h3:=lK hf hs hr RH Mq hc
       have h4:(cR (ts.take i) c).length<=(cR ts c).length:=by
        unfold cR;exact((DH i ts).filterMap _).length_le
       rw[h3]at h4;have h5:=h1 (xP f s ds c);rw[cI];omega
      have es:de (.d (.ai M2.length)) (.d (oD (q,k,some a,some c).2.2.2)) M6=.ok (.d (.ai b)) M6:=es;nofun;rw[es];nofun;refine⟨bL Vv,?_⟩;nofun;rw[cf Vv (aT (by unfold jI;rw[ay,ay];exact aZ))];have hu:=DA.upd eb (jI ((aU f ds (mA f ds c) c).toList++cR (ts.take i) c++[a]));refine⟨_,_,_,_,_,rfl,?_,Fr.set Dv ∅⟩
      have e1:(jI ((aU f ds (mA f ds c) c).toList++cR (ts.take i) c)).map D.int++[D.int a]=(jI ((aU f ds (mA f ds c) c).toList++cR (ts.take i) c++[a])).map D.int:=by
       unfold jI;rw[eQ (l₂:=[a]),eQ (l₂:=[a].map _)];rfl
      rw[show [oD (q,k,some a,some c).2.2.1]=[D.int a] from rfl,e1];refine hu.to λj hj=>?_;rw[Vu];rw[show cR [(q,k,some a,some c)] j=if c=j then [a] else [] by by_cases z:c=j<;>simp[cR,z]];by_cases z:j=c
      ·subst z;rw[ar rfl,ar rfl,oI]
      ·rw[aq z,aq (cW z),iQ]
  ·rintro ρ M6 ⟨o5,o6,o7,o8,o9,rfl,DA,Dv⟩;rw[ay,gD]at DA;nofun;refine⟨_,as,rfl,rH,DA.to λj hj=>?_,λa ha=>dW f1.1 (ml a ha).1,Dv⟩;rw[lK hf hs hr RH Mq ∅];rfl
def T(f:Fm)(s:Sd)(ds:List Dn)(i m:Nat):Nat:=Tk (cz f s ds) (mA f ds) (cA f ds) i m
noncomputable def dC(n:Nat)(g:Nat->Nat):List D:=(List.range n).map λm=>D.int (g m:Nat)
def QH(f:Fm)(s:Sd)(ds:List Dn)(i:Nat):D:=.tup (dC f.ru.length (T f s ds i))
def Dl(f:Fm)(s:Sd)(ds:List Dn)(i:Nat):List D:=(List.range i).map (QH f s ds)
theorem eZ:(dC n g).length=n:=by unfold dC;rw[ay,lS]
theorem iB(h:m<n):(dC n g)[m]?=some (.int (g m:Nat)):=by
 unfold dC;rw[bc,jT h];rfl
theorem Lj(h:m<n)(h1:g2 m=k)(h2:∀j,j≠m->g2 j=g j):(dC n g).set m (.int (k:Nat))=dC n g2:=by
 refine BJ λj=>?_;rw[MW,eZ];by_cases z:m=j
 ·subst z;rw[ar rfl,ar h,iB h,h1]
 ·rw[aq z];rcases fj j n with y | y
  ·rw[iB y,iB y,h2 j (cW z)]
  ·rw[gM (by rw[eZ];exact y),gM (by rw[eZ];exact y)]
theorem Hj:Dl f s ds (i+1)=Dl f s ds i++[QH f s ds i]:=by
 unfold Dl;rw[yc,eQ];rfl
theorem Bu:(Dl f s ds i).length=i:=by unfold Dl;rw[ay,lS]
theorem mS(h:j<i):(Dl f s ds i)[j]?=some (QH f s ds j):=by
 unfold Dl;rw[bc,jT h];rfl
noncomputable def Lk:D->Option D
 | .tup [.int a,.int b]=>some (.int (if b>a then b else a))
 | _=>none
theorem Bv:(List.zipWith (λa b=>D.tup [a,b]) (dC n g) (dC n h)).filterMap Lk=dC n λm=>max (g m) (h m):=by
 unfold dC;rw[List.zipWith_map,List.zipWith_self,MR]
 rw[show(Lk∘λm=>D.tup [D.int ((g m:Nat):Int),D.int ((h m:Nat):Int)])=some∘λm=>D.int (((max (g m) (h m):Nat)):Int) from by
  funext m;show some (D.int (if ((h m:Nat):Int)>((g m:Nat):Int) then ((h m:Nat):Int) else ((g m:Nat):Int)))=some (D.int ((max (g m) (h m):Nat):Int));rw[show(if ((h m:Nat):Int)>((g m:Nat):Int) then ((h m:Nat):Int) else ((g m:Nat):Int))=((max (g m) (h m):Nat):Int) by split<;>omega],List.filterMap_eq_map]
theorem Hk(hM:M[n]?=some (.lst xs)):fc .zip [.d (.ai n),.d (.tup ys)] M=.ok (.zip (.at n) (.items ys)) M:=by
 unfold fc LQ bQ;simp only[hM];rfl
theorem Hl(hM:M[n]?=some (.lst xs)):dw M (.zip (.at n) (.items ys))=(List.zipWith (λa b=>D.tup [a,b]) xs ys).length:=by
 unfold dw pC;simp only[hM,HY]
theorem Ll(hM:M[n]?=some (.lst xs)):∀M',Ex M M'->∀i,i<=(List.zipWith (λa b=>D.tup [a,b]) xs ys).length->itemAt M' i (.zip (.at n) (.items ys))=some (List.zipWith (λa b=>D.tup [a,b]) xs ys)[i]?:=λM' e i _=>by
 unfold itemAt pC;simp only[Ex.get e hM];unfold rM;rw[HV];cases xs[i]? <;> cases ys[i]? <;> rfl
def uU(F:Fn):Prop:=∀(M:aj)(f:Fm)(N:Nat)(s:Sd)(ds:List Dn)(n:Nat),cD f->bO f N s->N+3*ds.length<=890->ds.length<=60->dr f s ds->M[n]?=some (.lst (ds.map c_))->aV (F [dG f,dB s,.ai n] M) λr M'=>∃n',r=.d (.ai n')/\M.length<=n'/\M'[n']?=some (.lst (Dl f s ds ds.length))/\Ex M M'
theorem Hm{f:Fm}:(f.ru.map u3).filterMap (λ_=>some (D.int 0))=dC f.ru.length λ_=>0:=xN (ds:=[])
theorem Ln(hR:oE (G fJ))(hE:lI (G eG)):uU (ao G 9 (Br fJ eG)):=by
 intro M f N s ds n hf hs hN xX hr hn;have h4:=hf.l4
 have Hh:∀d∈ds,dN f d:=λd hd=>by
  obtain⟨i,hi,rfl⟩:=qG.mp hd;exact(iw hr (br hi)).1
 rw[bJ];show eh G (Br fJ eG) [some (.tup [.tup (f.ru.map u3),.tup (f.ro.map xt)]),some (dB s),some (.ai n),none,none,none,none,none,none] M _ _ _ _;nofun;refine(hR M f N s ds n hf hs hN xX hr hn).imp ?_;rintro r M1 ⟨nl,as,rfl,rH,ZZ,_,f1⟩;nofun;refine⟨s0,?_⟩;nofun;have lM:=f1.1;have E8:(M1++[MO.lst []])[M1.length]?=some (.lst (Dl f s ds 0)):=aw;have hv2:=ZZ.ex (Fr.app (X:=[MO.lst []]) (Ex.refl M1));have vW:(M1++[MO.lst []])[n]?=some (.lst (ds.map c_)):=aF (Ex.get f1 hn);have qC:Ex M (M1++[MO.lst []]):=Fr.app f1
 have Vw:∀a∈as,a≠M1.length:=λa ha=>by
  obtain⟨r,hr,rfl⟩:=qG.mp ha;have:=aB (ZZ.av r _ (br hr));omega
 have Dt:=aB ZZ.at';generalize M1++[MO.lst []]=M2 at E8 hv2 vW qC⊢;show aV (G eG [dG f,.ai n] M2) _;refine(hE M2 f ds (.ai n) hf Hh xX (.l vW)).imp ?_;rintro r M3 ⟨nE,rfl,hlE,Dj,f3⟩;have lT:=aB E8;nofun;rw[uN Dj];refine lz (n:=nE) (ds:=nN f ds ds.length) (λi ρ M'=>∃o5 o6 o7 o8,ρ=[some (.tup [.tup (f.ru.map u3),.tup (f.ro.map xt)]),some (dB s),some (.ai n),some (.ai nl),some (.ai M1.length),o5,o6,o7,o8]/\M'[nE]?=some (.lst (nN f ds ds.length))/\kj M' nl as (λi=>jI (cz f s ds i))/\M'[M1.length]?=some (.lst (Dl f s ds i))/\Ex M M') (by rintro i ρ M' ⟨_,_,_,_,_,h,_⟩;exact h) ⟨_,_,_,_,rfl,Dj,hv2.ex f3,Ex.get f3 E8,Ex.trans qC f3⟩ ?_ ?_ (lB Dj)
 ·rintro i ρ M4 dd bC ⟨o5,o6,o7,o8,rfl,QG,Z0,RI,lO⟩;have hi:=(bz.mp bC).1;rw[lH]at hi
  have he:dd=.tup [.int (mA f ds i),.int (cA f ds i)]:=by
   unfold nN at bC;rw[bc,jT hi]at bC;exact(bS bC).symm
  subst he
  have WM:mA f ds i<f.ru.length:=by
   rw[xO (br hi)];exact(Hh _ (kA hi)).mc hf
  have lT4:=aB RI;have lE4:=aB QG;nofun;refine lg (ds:=f.ru.map u3) (λ_=>some (.int 0)) (by decide) lh (dz (by rw[ay];omega)) ?_ ?_ rfl
  ·intro j M' dd bC fr;nofun;exact⟨rfl,fr⟩
  intro M5 f5;rw[Hm];nofun;have Z2:(M5++[MO.lst (dC f.ru.length λ_=>0)])[M5.length]?=some (.lst (dC f.ru.length λ_=>0)):=aw;have f6:Ex M4 (M5++[MO.lst (dC f.ru.length λ_=>0)]):=Fr.app f5;have l5:=f5.1;generalize Z3:M5.length=nc at Z2⊢;generalize M5++[MO.lst (dC f.ru.length λ_=>0)]=M6 at Z2 f6⊢;have DA:=Z0.ex f6;obtain⟨a,ea,es,xY⟩:=DA.sub (r:=i) ∅;have haT:=Vw a (cQ ea);rw[es];nofun;rw[dy xY];refine xj (n:=a) (ds:=(jI (cz f s ds i)).map D.int) (λj ρ M'=>∃o8 nc,ρ=[some (.tup [.tup (f.ru.map u3),.tup (f.ro.map xt)]),some (dB s),some (.ai n),some (.ai nl),some (.ai M1.length),some (.int i),some (.tup [.int (mA f ds i),.int (cA f ds i)]),some (.ai nc),o8]/\M4.length<=nc/\M'[nc]?=some (.lst (dC f.ru.length λm=>((cz f s ds i).take j).foldl (λa o=>max a (T f s ds o m)) 0))/\M'[a]?=some (.lst ((jI (cz f s ds i)).map D.int))/\Ex M4 M') (by rintro j ρ M' ⟨_,_,_,_,_,h,_⟩;exact h) ⟨_,nc,rfl,∅,Z2,xY,f6⟩ ?_ ?_
  ·rintro j ρ M7 dd bC ⟨o8,nc,rfl,Z3,QI,ha7,f7⟩;unfold jI at bC;rw[bc,bc]at bC
   cases e:(cz f s ds i)[j]? with
   | none=>rw[e]at bC;cases bC
   | some o =>
    rw[e]at bC;cases bC;have ho:=cy i o (cQ e);have hT7:=Ex.get f7 RI;nofun;rw[bo hT7 (mS ho)];nofun;show eA (fc .zip [.d (.ai nc),.d (.tup (dC f.ru.length (T f s ds o)))] M7) _;rw[Hk QI];refine lg (ds:=List.zipWith (λa b=>D.tup [a,b]) (dC f.ru.length λm=>((cz f s ds i).take j).foldl (λa o=>max a (T f s ds o m)) 0) (dC f.ru.length (T f s ds o))) Lk (by decide) (Ll QI) (dz (by rw[HY,eZ,eZ];omega)) ?_ ?_ (Hl QI)
    ·intro q M' dd bC fr;rw[HV]at bC
     have hq:q<f.ru.length:=by
      rcases fj q f.ru.length with z | z
      ·exact z
      ·rw[gM (by rw[eZ];exact z)]at bC;cases bC
     rw[iB hq,iB hq]at bC;cases bC;nofun;exact⟨rfl,fr⟩
    ·intro M8 f8;rw[Bv];have l7:=Ex.trans f7 f8
     have Vx:(λm=>max (((cz f s ds i).take j).foldl (λa o=>max a (T f s ds o m)) 0) (T f s ds o m))=λm=>((cz f s ds i).take (j+1)).foldl (λa o=>max a (T f s ds o m)) 0:=by
      funext m;rw[bq e,DL];rfl
     rw[Vx];exact⟨_,M8.length,rfl,l7.1,aw,aF (Ex.get f8 ha7),Fr.app l7⟩
  ·rintro ρ M7 ⟨o8,nc,rfl,Z3,QI,ha7,f7⟩;have Qt:((jI (cz f s ds i)).map D.int).length=(cz f s ds i).length:=by unfold jI;rw[ay,ay]
   rw[Qt,gD]at QI;nofun;rw[show((cA f ds i:Nat):Int)+1=((cA f ds i+1:Nat):Int) by omega,jv QI (by rw[eZ];exact WM),Lj (g2:=T f s ds i) WM (by unfold T;rw[sk cy,ar rfl]) (λj hj=>by unfold T;rw[sk cy,aq hj])];have hc8:(M7.set nc (.lst (dC f.ru.length (T f s ds i))))[nc]?=some (.lst (dC f.ru.length (T f s ds i))):=aK QI;have WN:(M7.set nc (.lst (dC f.ru.length (T f s ds i))))[M1.length]?=some (.lst (Dl f s ds i)):=aD (Ex.get f7 RI) ∅;have RJ:(M7.set nc (.lst (dC f.ru.length (T f s ds i))))[nE]?=some (.lst (nN f ds ds.length)):=aD (Ex.get f7 QG) ∅;have f8:Ex M4 (M7.set nc (.lst (dC f.ru.length (T f s ds i)))):=Fr.set f7 Z3;have Mr:=Z0.ex f8;generalize M7.set nc (.lst (dC f.ru.length (T f s ds i)))=M8 at hc8 WN RJ f8 Mr⊢;nofun;refine⟨bL WN,?_⟩;nofun;rw[bZ hc8];nofun;rw[cf WN (aT (by rw[Bu];omega))];have hTl:M1.length≠nE:=∅;refine⟨_,_,_,_,rfl,aD RJ (cW hTl),⟨aD Mr.at' ∅,Mr.nd,Mr.na,λr b e=>aD (Mr.av r b e) (Vw b (cQ e))⟩,?_,Fr.set (Ex.trans lO f8) ∅⟩;rw[aK WN,Hj];rfl
 ·rintro ρ M4 ⟨o5,o6,o7,o8,rfl,QG,Z0,RI,lO⟩;rw[lH]at RI;nofun;exact⟨_,rfl,∅,RI,lO⟩
def zJ(F:Fn):Prop:=∀(M:aj)(f:Fm)(s:Sd)(ds:List Dn)(nE nC one dZ:Nat),cD f->(∀d∈ds,dN f d)->one<ds.length->dZ<ds.length->M[nE]?=some (.lst (nN f ds ds.length))->M[nC]?=some (.lst (Dl f s ds ds.length))->aV (F [.ai nE,.ai nC,.int one,.int dZ] M) λr M'=>M=M'/\r=.d (.bl (!(one==dZ)&&decide (cA f ds one<T f s ds dZ (mA f ds one))))
theorem zK(h:i<n):(nN f ds n)[i]?=some (.tup [.int (mA f ds i),.int (cA f ds i)]):=by
 unfold nN;rw[bc,jT h];rfl
theorem QJ:zJ (ao G 5 Hb):=by
 intro M f s ds nE nC one dZ hf hd h1 h2 hE hC
 have hm:mA f ds one<f.ru.length:=by
  rw[xO (br h1)];exact(hd _ (kA h1)).mc hf
 rw[bJ];show eh G Hb [some (.ai nE),some (.ai nC),some (.int one),some (.int dZ),none] M _ _ _ _;nofun;rw[bo hE (zK h1)];nofun;by_cases e:one=dZ
 ·subst e;rw[sF,sF];exact⟨rfl,rfl⟩
 ·rw[show(((one:Nat):Int)==((dZ:Nat):Int))=false from lP.mpr ∅,show(one==dZ)=false from lP.mpr e];nofun;rw[bo hC (mS h2)];nofun;rw[show de (.d (QH f s ds dZ)) (.d (.int (mA f ds one:Nat))) M=.ok (.d (.int (T f s ds dZ (mA f ds one):Nat))) M from jd (iB hm)];nofun;refine⟨rfl,?_⟩
  congr 2
  show decide (((cA f ds one:Nat):Int)<((T f s ds dZ (mA f ds one):Nat):Int))=(true&&decide (cA f ds one<T f s ds dZ (mA f ds one)));rw[vk];exact decide_eq_decide.mpr ∅
theorem Hn{a:List Nat}{x:Nat}:(x:Int)∈jI a↔x∈a:=by
 unfold jI;rw[dI];constructor
 ·rintro⟨y,hy,e⟩;have:y=x:=∅;subst this;exact hy
 ·exact λh=>⟨x,h,rfl⟩
theorem zL(hi:i<ds.length)(hj:j<ds.length):(j=i\/mP (cz f s ds) i j)↔cA f ds j<T f s ds i (mA f ds j) :=
 zG (n:=ds.length) cy (λi j hi hj hm=>Vr hi hj hm) (λi j _ h hm=>Hd h hm) i j hi hj
theorem Z4:∀{i:Nat},i<ds.length->T f s ds i m<=(u5 f ds).count m:=by
 intro i
 induction i using Nat.strongRecOn with
 | _ i ih =>
  intro hi;unfold T;rw[sk cy];by_cases hm:m=mA f ds i
  ·subst hm;rw[ar rfl];have h1:=kl (f:=f) (m:=mA f ds i) hi;rw[ar rfl]at h1;have h2:=qo (f:=f) (ds:=ds) (m:=mA f ds i) (i:=i+1) (j:=ds.length) hi;rw[gD]at h2;unfold cA;omega
  ·rw[aq hm];refine Nat.not_lt.mp λz=>?_;rcases Hc.mp z with z | ⟨o,ho,z⟩
   ·omega
   ·have qw:=cy i o ho;have:=ih o qw ∅;unfold T at this;omega
theorem uV{l:List Nat}{g:Nat->Nat}{m:Nat}:(l.map λx=>((g x:Nat):Int)).count (m:Int)=(l.filter λj=>decide (g j=m)).length:=by
 induction l with
 | nil=>rfl
 | cons x l ih =>
  rw[fi,List.count_cons,ih,DQ];by_cases h:g x=m
  ·rw[ar (by simp[h]),ar (by simp[h]),iP]
  ·rw[aq (by simp;omega),aq (by simp[h])];rfl
theorem Ho{ds:List Dn}{k m:Nat}{h:List Int}(hk:k<ds.length)(nd:h.Nodup)(hm:∀x:Int,x∈h↔∃j:Nat,x=j/\mP (cz f s ds) k j):((h.map λx=>((mA f ds x.toNat:Nat):Int))++[((mA f ds k:Nat):Int)]).count (m:Int)=T f s ds k m:=by
 have hB:(h.map λx=>((mA f ds x.toNat:Nat):Int))++[((mA f ds k:Nat):Int)]=(h.map Int.toNat++[k]).map λx=>((mA f ds x:Nat):Int):=by
  rw[eQ,sL];rfl
 have mB:∀j,j∈h.map Int.toNat++[k]↔j=k\/mP (cz f s ds) k j:=λj=>by
  rw[dk,iO,dI];constructor
  ·rintro(⟨x,hx,rfl⟩ | rfl)
   ·obtain⟨y,rfl,hy⟩:=(hm x).mp hx;exact .inr (by simpa using hy)
   ·exact .inl rfl
  ·rintro(rfl | r)
   ·exact .inr rfl
   ·exact .inl ⟨j,(hm j).mpr ⟨j,rfl,r⟩,by simp⟩
 have nB:(h.map Int.toNat++[k]).Nodup:=by
  rw[x_];refine⟨List.pairwise_map.mpr ((List.Pairwise.and_mem.mp nd).imp ?_),by simp,λx hx y hy e=>?_⟩
  ·rintro x y ⟨hx,hy,ne⟩ e;obtain⟨a,rfl,_⟩:=(hm x).mp hx;obtain⟨b,rfl,_⟩:=(hm y).mp hy;have e:a=b:=by simpa using e
   exact ne (by rw[e])
  ·obtain⟨z,hz,rfl⟩:=dI.mp hx;obtain⟨a,rfl,ra⟩:=(hm z).mp hz;have:=ra.lt cy;rw[iO.mp hy]at e;have e:a=k:=by simpa using e
   omega
 rw[hB,uV];have hT:=Z4 (f:=f) (s:=s) (m:=m) hk;have hc:=nr (f:=f) (ds:=ds) (m:=m) (t:=T f s ds k m) (n:=ds.length) (aH _);rw[gD,Nat.min_eq_left hT]at hc;rw[<- hc]
 have key:∀j,j∈(h.map Int.toNat++[k]).filter (λj=>decide (mA f ds j=m))↔j∈(List.range ds.length).filter λj=>decide (mA f ds j=m)&&decide (cA f ds j<T f s ds k m):=λj=>by
  rw[qH,qH,mB,qJ];simp only[aW,oJ];constructor
  ·rintro⟨r,rfl⟩
   have hj:j<ds.length:=by
    rcases r with rfl | r
    ·exact hk
    ·have:=r.lt cy;omega
   exact⟨hj,rfl,(zL hk hj).mp r⟩
  ·rintro⟨hj,rfl,r⟩;exact⟨(zL hk hj).mpr r,rfl⟩
 refine Nat.le_antisymm (g9 (nB.filter _) λx hx=>(key x).mp hx) (g9 (List.nodup_range.filter _) λx hx=>(key x).mpr hx)
theorem Bw{ds:List Dn}{one dZ:Nat}{h:List Int}(h1:one<ds.length)(h2:dZ<ds.length)(hm:∀x:Int,x∈h↔∃j:Nat,x=j/\mP (cz f s ds) dZ j):(!(one==dZ)&&decide (cA f ds one<T f s ds dZ (mA f ds one)))=decide ((one:Int)∈h):=by
 have q:=zL (f:=f) (s:=s) h2 h1
 have q2:(one:Int)∈h↔mP (cz f s ds) dZ one:=by
  rw[hm];constructor
  ·rintro⟨j,e,r⟩;have:one=j:=∅;rw[this];exact r
  ·exact λr=>⟨one,rfl,r⟩
 by_cases e:one=dZ
 ·subst e;rw[sF,show decide ((one:Int)∈h)=false from dO λz=>by have:=(q2.mp z).lt cy;omega];rfl
 ·rw[show(one==dZ)=false from lP.mpr e,Bool.not_false,vk];refine decide_eq_decide.mpr ?_;rw[<- q,q2];exact⟨λz=>z.resolve_left e,.inr⟩
section
variable (A:Nat->List Nat)
def pk:Nat->Nat->List Int
 | 0,_=>[]
 | f+1,i=>mq (yE (jI (A i)++(A i).flatMap (pk f)))
def Pk(i:Nat):List Int:=pk A (i+1) i
end
section
variable {A:Nat->List Nat}
theorem xQ{l:List Nat}(h:∀o∈l,f o=g o):l.flatMap f=l.flatMap g:=by
 induction l with
 | nil=>rfl
 | cons x l ih=>rw[DN,DN,h x dH,ih λo ho=>h o (da _ ho)]
theorem Bx(hA:∀i j,j∈A i->j<i):∀(f g i:Nat),i<f->i<g->pk A f i=pk A g i
 | 0,_,_,h,_=>∅
 | _+1,0,_,_,h=>∅
 | f+1,g+1,i,h1,h2=>by
  unfold pk;rw[xQ λo ho=>Bx hA f g o (by have:=hA i o ho;omega) (by have:=hA i o ho;omega)]
theorem By(hA:∀i j,j∈A i->j<i)(i:Nat):Pk A i=mq (yE (jI (A i)++(A i).flatMap (Pk A))):=by
 show pk A (i+1) i=_;unfold pk;rw[xQ λo ho=>Bx hA i (o+1) o (by have:=hA i o ho;omega) ∅];rfl
theorem Bz(hA:∀i j,j∈A i->j<i)(i:Nat):(Pk A i).Nodup:=by
 rw[By hA];exact fQ.nodup_iff.mpr (LP _)
theorem mT(hA:∀i j,j∈A i->j<i):∀(n i:Nat),i<n->∀x:Int,x∈Pk A i↔∃j:Nat,x=j/\mP A i j
 | 0,i,h,_=>∅
 | n+1,i,h,x=>by
  rw[By hA,fQ.mem_iff,N9,dk,List.mem_flatMap];constructor
  ·rintro(z | ⟨o,ho,z⟩)
   ·unfold jI at z;obtain⟨j,hj,rfl⟩:=dI.mp z;exact⟨j,rfl,.one hj⟩
   ·obtain⟨j,rfl,r⟩:=(mT hA n o (by have:=hA i o ho;omega) x).mp z;exact⟨j,rfl,.more ho r⟩
  ·rintro⟨j,rfl,r⟩;obtain⟨o,ho,z | z⟩:=r.inv
   ·subst z;exact .inl (Hn.mpr ho)
   ·exact .inr ⟨o,ho,(mT hA n o (by have:=hA i o ho;omega) _).mpr ⟨j,rfl,z⟩⟩
theorem qr(hA:∀i j,j∈A i->j<i)(i:Nat):(Pk A i).length<=i:=by
 have:=g9 (b:=jI (List.range i)) (Bz hA i) λx hx=>by
  obtain⟨j,rfl,r⟩:=(mT hA (i+1) i (iI _) x).mp hx;exact Hn.mpr (qJ.mpr (r.lt hA))
 unfold jI at this;rw[ay,lS]at this;exact this
theorem lN(hA:∀i j,j∈A i->j<i)(h:x∈Pk A i):∃j:Nat,x=j/\j<i:=by
 obtain⟨j,rfl,r⟩:=(mT hA (i+1) i (iI _) x).mp h;exact⟨j,rfl,r.lt hA⟩
end
def Vy(f:Fm)(s:Sd)(ds:List Dn)(i:Nat):D:=.tup ((Pk (cz f s ds) i).map D.int)
def Hq(f:Fm)(s:Sd)(ds:List Dn)(i:Nat):List D:=(List.range i).map (Vy f s ds)
theorem Hr:Hq f s ds (i+1)=Hq f s ds i++[Vy f s ds i]:=by
 unfold Hq;rw[yc,eQ];rfl
theorem uW:(Hq f s ds i).length=i:=by unfold Hq;rw[ay,lS]
theorem qt(h:j<i):(Hq f s ds i)[j]?=some (Vy f s ds j):=by
 unfold Hq;rw[bc,jT h];rfl
def Hs(fJ:Nat):List S:=[.asg [3] (.lst []),.bD [4] .seq [(.call fJ [0,1,2])] [.asg [5] (.bi .list1 [4]),.bD [6] .seq [4] [.expr (.me .extend 5 [(.sub 3 6)])],.expr (.me .append 3 [(.bi .tuple1 [(.sset 5)])])],.ret 3]
theorem QK(h:M[n]?=some (.lst ds))(hl:ds.length+es.length<=sizeLine):tN .extend (.d (.ai n)) [.tup es] M=.ok (.d .aP) (M.set n (.lst (ds++es))):=by
 unfold tN;simp only[h,ar hl]
theorem xR(h:M[n]?=some (.lst (is.map D.int)))(h1:is.length+1<scanBound)(h2:(yE is).length<64):pG (.d (.ai n)) M=.ok (.lv ((mq (yE is)).map D.int)) M:=by
 unfold pG;simp only[show fE M (.d (.ai n))=some (is.map D.int) by unfold fE;simp only[h],Ev.ints_map,ar (And.intro h1 h2)]
def zM(F:Fn):Prop:=∀(M:aj)(f:Fm)(N:Nat)(s:Sd)(ds:List Dn)(n:Nat),cD f->bO f N s->N+3*ds.length<=890->ds.length<=60->dr f s ds->M[n]?=some (.lst (ds.map c_))->aV (F [dG f,dB s,.ai n] M) λr M'=>∃n',r=.d (.ai n')/\M.length<=n'/\M'[n']?=some (.lst (Hq f s ds ds.length))/\Ex M M'
theorem zN(hA:∀i j,j∈A i->j<i)  : ∀l:List Nat,(∀o∈l,o<i)->(l.flatMap (Pk A)).length<=l.length*i
 | [],_=>lV _
 | o::l,h=>by
  rw[DN,cI,iP,Nat.succ_mul];have a:=qr hA o;have b:=h o dH;have c:=zN hA l λx hx=>h x (da _ hx);omega
theorem QL(hR:oE (G fJ)):zM (ao G 7 (Hs fJ)):=by
 intro M f N s ds n hf hs hN xX hr hn;rw[bJ];show eh G (Hs fJ) [some (dG f),some (dB s),some (.ai n),none,none,none,none] M _ _ _ _;nofun;refine⟨s0,?_⟩;nofun;have hT1:(M++[MO.lst []])[M.length]?=some (.lst (Hq f s ds 0)):=aw;have Zx:Ex M (M++[MO.lst []]):=Fr.app (Ex.refl M);have lM1:(M++[MO.lst []]).length=M.length+1:=by rw[cI];rfl
 refine(hR (M++[MO.lst []]) f N s ds n hf hs hN xX hr (aF hn)).imp ?_;rintro r M2 ⟨nl,as,rfl,rH,hv,ml,f2⟩;nofun;rw[dy hv.at'];refine xj (n:=nl) (ds:=as.map D.ai) (λi ρ M'=>∃o4 o5 o6,ρ=[some (dG f),some (dB s),some (.ai n),some (.ai M.length),o4,o5,o6]/\kj M' nl as (λi=>jI (cz f s ds i))/\M'[M.length]?=some (.lst (Hq f s ds i))/\Ex M M') (by rintro i ρ M' ⟨_,_,_,_,h,_⟩;exact h.at') ⟨_,_,_,rfl,hv,Ex.get f2 hT1,Ex.trans Zx f2⟩ ?_ ?_
 ·rintro i ρ M3 dd bC ⟨o4,o5,o6,rfl,HJ,QM,jG⟩;rw[bc]at bC
  cases e:as[i]? with
  | none=>rw[e]at bC;cases bC
  | some a =>
   rw[e]at bC;cases bC;have hi:=(bz.mp e).1;have xY:=HJ.av i a e;have haT:a≠M.length:=by have:=ml a (cQ e);omega
   have Dt:nl≠M.length:=λz=>by
    have h:=HJ.at';rw[z,QM]at h;have:=lW List.length (MO.lst.inj (bS h));rw[uW,ay]at this;omega
   have lT3:=aB QM;nofun;rw[xi xY];nofun
   have Z5:(M3++[MO.lst ((jI (cz f s ds i)).map D.int)])[M3.length]?=some (.lst ((jI (cz f s ds i)++((cz f s ds i).take 0).flatMap (Pk (cz f s ds))).map D.int)):=by
    rw[sI,Ih,iQ];exact aw
   have Z6:(M3++[MO.lst ((jI (cz f s ds i)).map D.int)])[a]?=some (.lst ((jI (cz f s ds i)).map D.int)):=aF xY;have f4:Ex M3 (M3++[MO.lst ((jI (cz f s ds i)).map D.int)]):=Fr.app (Ex.refl M3);generalize hnb:M3.length=nb at Z5⊢;generalize M3++[MO.lst ((jI (cz f s ds i)).map D.int)]=M4 at Z5 Z6 f4⊢;have h2:(cz f s ds i).length<=2:=Bt;have Qt:(jI (cz f s ds i)).length<=2:=by unfold jI;rw[ay];exact h2
   have Rw:∀j,(((cz f s ds i).take j).flatMap (Pk (cz f s ds))).length<=120:=λj=>by
    have:=zN (cy (f:=f) (s:=s) (ds:=ds)) ((cz f s ds i).take j) λo ho=>cy i o (sC ho);have q:((cz f s ds i).take j).length<=2:=by rw[hG];omega
    have:=BS q (show i<=60 by omega);omega
   rw[dy Z6];refine xj (n:=a) (ds:=(jI (cz f s ds i)).map D.int) (λj ρ M'=>∃o6,ρ=[some (dG f),some (dB s),some (.ai n),some (.ai M.length),some (.ai a),some (.ai nb),o6]/\M'[nb]?=some (.lst ((jI (cz f s ds i)++((cz f s ds i).take j).flatMap (Pk (cz f s ds))).map D.int))/\M'[a]?=some (.lst ((jI (cz f s ds i)).map D.int))/\Ex M3 M') (by rintro j ρ M' ⟨_,_,_,h,_⟩;exact h) ⟨_,rfl,Z5,Z6,f4⟩ ?_ ?_
   ·rintro j ρ M5 dd bC ⟨o6,rfl,RK,ha5,f5⟩;unfold jI at bC;rw[bc,bc]at bC
    cases e2:(cz f s ds i)[j]? with
    | none=>rw[e2]at bC;cases bC
    | some o =>
     rw[e2]at bC;cases bC;have ho:=cy i o (cQ e2);have lA:=aB xY;nofun;refine⟨bL RK,?_⟩;nofun;rw[bo (Ex.get f5 QM) (qt ho)];nofun;have hq:=Rw j;have hp:=qr (cy (f:=f) (s:=s) (ds:=ds)) o;show eA (tN .extend (.d (.ai nb)) [.tup ((Pk (cz f s ds) o).map D.int)] M5) _;rw[QK RK (dz (by rw[ay,ay,cI];omega))];refine⟨_,rfl,?_,aD ha5 ∅,Fr.set f5 ∅⟩;rw[aK RK,<- eQ,bq e2,MP,oI,DN,Ih,iQ]
   ·rintro ρ M5 ⟨o6,rfl,RK,ha5,f5⟩;have QN:((jI (cz f s ds i)).map D.int).length=(cz f s ds i).length:=by unfold jI;rw[ay,ay]
    rw[QN,gD]at RK;have hq:=Rw (cz f s ds i).length;rw[gD]at hq;have Z7:=Ex.get f5 QM;have Vz:=By (cy (f:=f) (s:=s) (ds:=ds)) i;have Z8:=qr (cy (f:=f) (s:=s) (ds:=ds)) i
    have RC:(yE (jI (cz f s ds i)++(cz f s ds i).flatMap (Pk (cz f s ds)))).length<64:=by
     rw[Vz,fQ.length_eq]at Z8;omega
    nofun;refine⟨bL Z7,?_⟩;nofun;rw[xR RK (by rw[cI];show _<4096;omega) RC];nofun;rw[cf Z7 (aT (by rw[uW];omega))];have mR:=HJ.ex f5;refine⟨_,_,_,rfl,⟨aD mR.at' Dt,mR.nd,mR.na,λr b eb=>aD (mR.av r b eb) (by have:=ml b (cQ eb);omega)⟩,?_,Fr.set (Ex.trans jG f5) (aH _)⟩;rw[aK Z7,Hr];unfold Vy;rw[Vz]
 ·rintro ρ M3 ⟨o4,o5,o6,rfl,HJ,QM,jG⟩;rw[ay,rH]at QM;nofun;exact⟨_,rfl,aH _,QM,jG⟩
def Ht(fW:Nat):List S:=[.fg 3 (.comp .seq [1] [1] none (.lst []) [none,none]),.asg [4] (.v8 [] []),.bD [5] .eR [(.bi .len [1])] [.asg [6] (.call fW [0,(.sub 1 5)]),.iff (.val (.cmp .isin 6 4)) [.expr (.me .append (.sub 3 5) [(.sub 4 6)])] [],.put 4 6 5],.bD [7] .keys [2] [.asg [8,9] (.kQ 2 7),.iff (.dv [(.val (.cmp .eL 8 (.bw .aP))),(.val (.cmp .eL 9 (.bw .aP)))]) [.iff (.fZ [(.val (.cmp .ge 8 9)),(.val (.cmp .ne (.sub 1 9) (.bin .add (.tup [(.bw (.str "come"))]) 7)))]) [.ret (.bw .aP)] [],.expr (.me .append (.sub 3 9) [8])] []],.ret 3]
def zO(F:Fn):Prop:=∀(M:aj)(f:Fm)(N:Nat)(s:Sd)(ds:List Dn)(n nL:Nat)(ag:Kv),cD f->bO f N s->ds.length<=60->dr f s ds->M[n]?=some (.lst (ds.map c_))->M[nL]?=some (.dT ag)->gh ag (fx f s ds ds.length)->aV (F [dG f,.ai n,.ai nL] M) λr M'=>∃n' as,r=.d (.ai n')/\as.length=ds.length/\kj M' n' as (λi=>jI (cz f s ds i))/\(∀a∈as,M.length<=a)/\M.length<=n'/\Fr nL M M'
theorem QO(hf:cD f){N:Nat}(hs:bO f N s){ds:List Dn}(hr:dr f s ds){ts:List QF}(nd:ts.Nodup)(hm:∀t,t∈ts↔fx f s ds ds.length t.1 t.2.1=some t.2.2){q:Nat}{k:Int}{a c:Nat}(ht:(q,k,some a,some c)∈ts)(hc:c<ds.length):a<c:=by
 have e:=lK hf hs hr nd hm hc
 have h:a∈cR ts c:=by
  unfold cR;rw[MQ];exact⟨_,ht,by simp⟩
 rw[e]at h;refine cy (f:=f) (s:=s) (ds:=ds) c a ?_;unfold cz;exact dk.mpr (.inr h)
theorem VA(h:Ry d):bh .ne (.d (c_ d)) (.d (c_ d)) M=.ok false M:=by
 have h1:jD M (.d (c_ d))=some (xE d):=Mi (by decide);obtain⟨a,b⟩:=GR h
 have hs:SeqAt.shaped (xE d)=true:=by
  unfold SeqAt.shaped;rw[a,vk];exact fh ∅
 have hr:PyData.eqv (xE d) (xE d)=true:=SeqAt.eqv_refl _ a;unfold bh;simp only[h1,hs,kE,e_,hr];rfl
theorem QP{fW:Nat}(Ve:nj (G fW)):zO (ao G 10 (Ht fW)):=by
 intro M f N s ds n nL ag hf hs xX hr hn hL hR
 have Hh:∀d∈ds,dN f d:=λd hd=>by
  obtain⟨i,hi,rfl⟩:=qG.mp hd;exact(iw hr (br hi)).1
 rw[bJ];show eh G (Ht fW) [some (dG f),some (.ai n),some (.ai nL),none,none,none,none,none,none,none] M _ _ _ _;have lL:=aB hL;have ln0:=aB hn;nofun;rw[dy hn];refine je (ds:=ds.map c_) (λi M' acc=>∃as:List Nat,acc=as.map D.ai/\as.length=i/\zI M M' as (λ_=>[])) (by decide) (λi M' acc ⟨as,_,_,h⟩ hi=>pZ hn M' h.ex i hi) ⟨[],rfl,rfl,zI.nil (Ex.refl M)⟩ ?_ ?_ (qU hn)
 ·rintro i M' acc dd bC ⟨as,rfl,rH,hv⟩;have hi:=(bz.mp bC).1;rw[ay]at hi;refine⟨aT (by rw[ay];omega),?_⟩;nofun;refine⟨s0,?_⟩;nofun;exact⟨as++[M'.length],by rw[eQ];rfl,by rw[cI,rH];rfl,hv.new⟩
 rintro M2 acc ⟨as,rfl,rH,hv⟩;rw[ay]at rH;nofun;refine⟨rfl,?_⟩;nofun;have ml:=hv.bd;have lM2:=hv.ex.1;have HB:(M2++[MO.lst (as.map D.ai)]++[MO.dK []])[(M2++[MO.lst (as.map D.ai)]).length]?=some (.dK []):=aw;have HJ:kj (M2++[MO.lst (as.map D.ai)]++[MO.dK []]) M2.length as (λ_=>[]):=⟨aF aw,hv.nd,λz=>by have:=(ml _ z).2;omega,λr a e=>aF (aF (hv.av r a e))⟩;have HI:(M2++[MO.lst (as.map D.ai)]++[MO.dK []])[n]?=some (.lst (ds.map c_)):=aF (aF (Ex.get hv.ex hn));have jG:Ex M (M2++[MO.lst (as.map D.ai)]++[MO.dK []]):=Fr.app (Fr.app hv.ex);have ln:(M2++[MO.lst (as.map D.ai)]).length=M2.length+1:=by rw[cI];rfl
 rw[ln]at HB⊢;show eA (mZ .len [.d (.ai n)] (M2++[MO.lst (as.map D.ai)]++[MO.dK []])) _;generalize M2++[MO.lst (as.map D.ai)]++[MO.dK []]=M3 at HB HJ HI jG⊢;rw[dq HI];sleep 29;refine gB (n:=ds.length) (λi ρ M'=>∃o5 o6 kv,ρ=[some (dG f),some (.ai n),some (.ai nL),some (.ai M2.length),some (.ai (M2.length+1)),o5,o6,none,none,none]/\kj M' M2.length as (λj=>jI (if j<i then (aU f ds (mA f ds j) j).toList else []))/\M'[M2.length+1]?=some (.dK kv)/\kv.length<=i/\Lh kv (λm=>aU f ds m i)/\Ex M M') ⟨_,_,[],rfl,HJ.to λr _=>by rw[aq (Ij r)];rfl,HB,aH _,λm=>rfl,jG⟩ ?_ ?_
 ·rintro i ρ M5 hi ⟨o5,o6,kv,rfl,mR,Hi,ZX,Dz,jl⟩;have ed:ds[i]?=some ds[i]:=br hi;obtain⟨a,ea,es,xY⟩:=mR.sub (r:=i) ∅;have ba:=ml a (cQ ea);rw[aq (iS i)]at xY
  have uS:∀(M6:aj)(g:Nat->List Int),kj M6 M2.length as g->(∀j,j<as.length->g j=jI (if j<i+1 then (aU f ds (mA f ds j) j).toList else []))->M6[M2.length+1]?=some (.dK kv)->Ex M M6->∀rt bk ct,eh G [.put (.eX 4) (.eX 6) (.eX 5)] [some (dG f),some (.ai n),some (.ai nL),some (.ai M2.length),some (.ai (M2.length+1)),some (.int (i:Nat)),some (.int (mA f ds i:Nat)),none,none,none] M6 (λρ M'=>∃o5 o6 kv,ρ=[some (dG f),some (.ai n),some (.ai nL),some (.ai M2.length),some (.ai (M2.length+1)),o5,o6,none,none,none]/\kj M' M2.length as (λj=>jI (if j<i+1 then (aU f ds (mA f ds j) j).toList else []))/\M'[M2.length+1]?=some (.dK kv)/\kv.length<=i+1/\Lh kv (λm=>aU f ds m (i+1))/\Ex M M') rt bk ct:=by
   intro M6 g h1 h2 h4 h6 rt bk ct;nofun;rw[Hg h4 ∅];refine⟨_,_,_,rfl,?_,aK h4,dW lD ∅,?_,Fr.set h6 ∅⟩
   ·have h1:=h1.to h2;exact⟨aD h1.at' ∅,h1.nd,h1.na,λr b e=>aD (h1.av r b e) (by have:=ml b (cQ e);omega)⟩
   ·have:=Dz.put (mA f ds i) i;refine λm=>(this m).trans ?_;show Option.map _ (if m=mA f ds i then some i else aU f ds m i)=Option.map _ (if mA f ds i=m then some i else aU f ds m i);by_cases z:m=mA f ds i
    ·rw[ar z,ar z.symm]
    ·rw[aq z,aq (cW z)]
  sleep 27;rw[bo (Ex.get jl hn) (show(ds.map c_)[i]?=some (c_ ds[i]) by rw[bc,ed];rfl)];nofun;refine(Ve M5 f ds[i] hf (Hh _ (kA hi))).imp ?_;rintro r M6 ⟨rfl,rfl⟩;rw[<- xO ed];nofun;rw[Mp Hi Dz]
  cases hl:aU f ds (mA f ds i) i with
  | none =>
   refine uS _ _ mR (λj hj=>?_) Hi jl _ _ _;rcases BI j i with z | z | z
   ·rw[ar z,ar ∅]
   ·subst z;rw[aq (iS j),ar ∅,hl];rfl
   ·rw[aq ∅,aq ∅]
  | some j0 =>
   nofun;rw[es];nofun;refine⟨bL xY,?_⟩;nofun;rw[Hf Hi Dz hl];nofun;rw[cf xY (aT (by simp[jI]))];refine uS (M5.set a (.lst ((jI [j0]).map D.int))) _ (mR.upd ea (jI [j0])) (λj hj=>?_) (aD Hi ∅) (Fr.set jl ∅) _ _ _;by_cases z:j=i
   ·subst z;rw[ar rfl,ar ∅,hl];rfl
   ·rw[aq z];rcases fj j i with y | y
    ·rw[ar y,ar ∅]
    ·rw[aq ∅,aq ∅]
 ·rintro ρ M5 ⟨o5,o6,kv,rfl,mR,Hi,ZX,Dz,jl⟩;obtain⟨ts,ZY,RH,Mq⟩:=hR.typed
  have mR:kj M5 M2.length as (λj=>jI ((aU f ds (mA f ds j) j).toList++cR (ts.take 0) j)):=mR.to λj hj=>by
   rw[ar ∅,sI];show _=jI (_++[]);rw[iQ]
  have Mn:=Ex.get jl hL;nofun;obtain⟨M6,e6,f6,hF6⟩:=Vq (.inl Mn);rw[e6];have Z9:∀b,b≠nL->∀o,M5[b]?=some o->M6[b]?=some o:=λb hb o e=>Fr.get f6 e hb;have DA:kj M6 M2.length as (λj=>jI ((aU f ds (mA f ds j) j).toList++cR (ts.take 0) j)):=⟨Z9 _ ∅ _ mR.at',mR.nd,mR.na,λr b e=>Z9 _ (by have:=ml b (cQ e);omega) _ (mR.av r b e)⟩;have ekv:ag.map pE=ts.map λt=>D.tup [.int (t.1:Nat),.int t.2.1]:=by rw[ZY,sL];rfl
  rw[ekv];have hnn:n≠nL:=λz=>by rw[z,hL]at hn;cases hn
  refine gC (ds:=ts.map λt=>D.tup [.int (t.1:Nat),.int t.2.1]) (λi ρ M'=>∃o4 o5 o6 o7 o8 o9,ρ=[some (dG f),some (.ai n),some (.ai nL),some (.ai M2.length),o4,o5,o6,o7,o8,o9]/\M'[nL]?=some (.dF ag)/\M'[n]?=some (.lst (ds.map c_))/\kj M' M2.length as (λj=>jI ((aU f ds (mA f ds j) j).toList++cR (ts.take i) j))/\Fr nL M M') ⟨_,_,_,_,_,_,rfl,hF6,Z9 n hnn _ (Ex.get jl hn),DA,Fr.back (w:=nL) (Fr.back (Fr.refl nL M) jl (.inl (aH _))) f6 (.inr rfl)⟩ ?_ ?_
  ·rintro i ρ M7 dd bC ⟨o4,o5,o6,o7,o8,o9,rfl,VB,K4,RL,yA⟩;rw[bc]at bC
   cases e:ts[i]? with
   | none=>rw[e]at bC;cases bC
   | some t =>
    rw[e]at bC;cases bC;have WL:=(Mq t).mp (cQ e);have Z_:=cQ e;obtain⟨q,k,a,c⟩:=t
    have Vu:∀j,cR (ts.take (i+1)) j=cR (ts.take i) j++cR [(q,k,a,c)] j:=λj=>by
     unfold cR;rw[bq e,ML]
    have keep:(∀j,cR [(q,k,a,c)] j=[])->kj M7 M2.length as (λj=>jI ((aU f ds (mA f ds j) j).toList++cR (ts.take (i+1)) j)):=λh=>RL.to λj _=>by rw[Vu,h,iQ]
    have hg:dJ ag (k2 q k)=some (zF (a,c)):=by
     rw[hR.gt q k];show Option.map zF (fx f s ds ds.length q k)=_;rw[show fx f s ds ds.length q k=some (a,c) from WL];rfl
    nofun;rw[Mo (show LR M7 (.d (.ai nL))=some ag by unfold LR;simp only[VB]) hg]
    cases a with
    | none=>exact⟨_,_,_,_,_,_,rfl,VB,K4,keep λj=>rfl,yA⟩
    | some a =>
     cases c with
     | none=>exact⟨_,_,_,_,_,_,rfl,VB,K4,keep λj=>rfl,yA⟩
     | some c =>
      have Dq:=zH WL;have hc:=(bz.mp Dq).1;have P0:=QO hf hs hr RH Mq Z_ hc;obtain⟨b,eb,es,Vv⟩:=RL.sub (r:=c) ∅;have bb:=ml b (cQ eb)
      have aZ:((aU f ds (mA f ds c) c).toList++cR (ts.take i) c).length<=1000:=by
       have h1:∀o:Option Nat,o.toList.length<=1:=λo=>by cases o<;>simp
       have h2:=h1 (aU f ds (mA f ds c) c);have h3:=lK hf hs hr RH Mq hc
       have h4:(cR (ts.take i) c).length<=(cR ts c).length:=by
        unfold cR;exact((DH i ts).filterMap _).length_le
       rw[h3]at h4;have h5:=h1 (xP f s ds c);rw[cI];omega
      nofun;rw[show decide ((c:Int)<=(a:Int))=false from dO ∅];nofun;show eA (de (.d (.ai n)) (.d (.int (c:Nat))) M7) _;rw[bo K4 (show(ds.map c_)[c]?=some (c_ (.bE q k)) by rw[bc,Dq];rfl)];nofun;refine⟨s1,?_⟩;nofun;refine⟨dz (show 1+2<=1000 by decide),?_⟩;show eA (bh .ne (.d (c_ (.bE q k))) (.d (c_ (.bE q k))) M7) _;rw[VA (d:=.bE q k) trivial];nofun;have es:de (.d (.ai M2.length)) (.d (oD (some a,some c).2)) M7=.ok (.d (.ai b)) M7:=es;rw[es];nofun;refine⟨bL Vv,?_⟩;nofun;rw[cf Vv (aT (by unfold jI;rw[ay,ay];exact aZ))];have hu:=RL.upd eb (jI ((aU f ds (mA f ds c) c).toList++cR (ts.take i) c++[a]));refine⟨_,_,_,_,_,_,rfl,aD VB ∅,aD K4 ∅,?_,Fr.set yA ∅⟩
      have e1:(jI ((aU f ds (mA f ds c) c).toList++cR (ts.take i) c)).map D.int++[D.int a]=(jI ((aU f ds (mA f ds c) c).toList++cR (ts.take i) c++[a])).map D.int:=by
       unfold jI;rw[eQ (l₂:=[a]),eQ (l₂:=[a].map _)];rfl
      rw[show [oD (some a,some c).1]=[D.int a] from rfl,e1];refine hu.to λj hj=>?_;rw[Vu];rw[show cR [(q,k,some a,some c)] j=if c=j then [a] else [] by by_cases z:c=j<;>simp[cR,z]];by_cases z:j=c
      ·subst z;rw[ar rfl,ar rfl,oI]
      ·rw[aq z,aq (cW z),iQ]
  ·rintro ρ M7 ⟨o4,o5,o6,o7,o8,o9,rfl,VB,K4,RL,yA⟩;rw[ay,gD]at RL;nofun;refine⟨_,as,rfl,rH,RL.to λj hj=>?_,λa ha=>(ml a ha).1,lM2,yA⟩;rw[lK hf hs hr RH Mq ∅];rfl
theorem mP.trans(r:mP A i j)(q:mP A j k):mP A i k:=by
 induction r with
 | one h=>exact .more h q
 | more h _ ih=>exact .more h (ih q)
theorem QQ(ho:o<ds.length)(hk:k<ds.length)(r:mP (cz f s ds) k o)(m:Nat):T f s ds o m<=T f s ds k m:=by
 have M:∀i,∀x:Int,x∈Pk (cz f s ds) i↔∃j:Nat,x=j/\mP (cz f s ds) i j:=λi=>mT cy (i+1) i (iI _);have e1:=Ho (m:=m) ho (Bz cy o) (M o);have e2:=Ho (m:=m) hk (Bz cy k) (M k)
 have g:∀i:Nat,((Pk (cz f s ds) i).map λx=>((mA f ds x.toNat:Nat):Int))++[((mA f ds i:Nat):Int)]=(Pk (cz f s ds) i++[(i:Int)]).map λx=>((mA f ds x.toNat:Nat):Int):=λi=>by
  rw[eQ];show _++[((mA f ds i:Nat):Int)]=_++[((mA f ds ((i:Nat):Int).toNat:Nat):Int)];rw[gP]
 rw[g o,List.count_eq_countP,List.countP_map,List.countP_eq_length_filter]at e1;rw[g k,List.count_eq_countP,List.countP_map,List.countP_eq_length_filter]at e2;rw[<- e1,<- e2];refine g9 (List.Nodup.sublist List.filter_sublist ?_) λx hx=>?_
 ·rw[x_];refine⟨Bz cy o,by simp,λx hx y hy e=>?_⟩;obtain⟨j,rfl,hj⟩:=lN cy hx;have:=iO.mp hy;omega
 ·rw[qH]at hx⊢;refine⟨dk.mpr (.inl ?_),hx.2⟩;rcases dk.mp hx.1 with z | z
  ·obtain⟨j,rfl,q⟩:=(M o x).mp z;exact(M k _).mpr ⟨j,rfl,r.trans q⟩
  ·rw[iO.mp z];exact(M k _).mpr ⟨o,rfl,r⟩
theorem BA(h1:jD M x=some P)(h2:jD M y=some P)(hs:SeqAt.shaped P=true):bh .ne x y M=.ok false M:=by
 have hc:P.canLay0=true:=by
  unfold SeqAt.shaped at hs;exact((aW _ _).mp hs).1
 have hr:PyData.eqv P P=true:=SeqAt.eqv_refl _ hc;unfold bh;simp only[h1,h2,hs,kE,e_,hr];rfl
theorem Hu:∀l:List Int,cv M (n+1) (l.map D.int)=some (l.map PyData.int)
 | []=>by unfold cv;rfl
 | i::l=>by
  rw[fi];unfold cv;rw[Hu l];unfold eK;rfl
theorem Ms{l:List Int}:SeqAt.shaped (.list (l.map PyData.int))=true/\SeqAt.shaped (.tuple (l.map PyData.int))=true:=by
 have a:∀l:List Int,PyData.canLayAll0 (l.map PyData.int)=true/\PyData.depthAll (l.map PyData.int)<=1:=λl=>by
  induction l with
  | nil=>rw[oM,u6,u9];decide
  | cons i l ih=>rw[fi,u7,u_,vc,vg,ih.1];exact⟨rfl,∅⟩
 obtain⟨a,b⟩:=a l;constructor
 ·unfold SeqAt.shaped;rw[PyData.canLay0.eq_5,a,PyData.depth.eq_1,vk];exact fh ∅
 ·unfold SeqAt.shaped;rw[x8,a,yb,vk];exact fh ∅
theorem VC{l:List Int}:bh .ne (.lv (l.map D.int)) (.lv (l.map D.int)) M=.ok false M:=by
 have h:jD M (.lv (l.map D.int))=some (.list (l.map PyData.int)):=by
  show(cv M 30 (l.map D.int)).map _=_;rw[Hu l];rfl
 exact BA h h Ms.1
theorem QR{l:List Int}:bh .ne (.d (.tup (l.map D.int))) (.d (.tup (l.map D.int))) M=.ok false M:=by
 have h:jD M (.d (.tup (l.map D.int)))=some (.tuple (l.map PyData.int)):=by
  show eK M 30 (.tup (l.map D.int))=_;unfold eK;rw[Hu l];rfl
 exact BA h h Ms.2
end Ev
end
section
namespace iC
open Ev PySem
abbrev Fu:=List D->aj->cP W
abbrev c0(l:List Fu):=l
def n0:List Str:=["thing"]
def b0:List S:=zg
def f0:Fu:=ao (cM (c0 [])) 1 b0
abbrev c1(l:List Fu):=c0 (f0::l)
def n1:List Str:=["thing","bound"]
def b1:List S:=zh 0
def f1:Fu:=ao (cM (c1 [])) 2 b1
abbrev c2(l:List Fu):=c1 (f1::l)
def n2:List Str:=["thing"]
def b2:List S:=Gx
def f2:Fu:=ao (cM (c2 [])) 1 b2
abbrev c3(l:List Fu):=c2 (f2::l)
def n3:List Str:=["form","m","state","cause","move"]
def b3:List S:=ui
def f3:Fu:=ao (cM (c3 [])) 5 b3
abbrev c4(l:List Fu):=c3 (f3::l)
def n4:List Str:=["stand","road"]
def b4:List S:=zi
def f4:Fu:=ao (cM (c4 [])) 2 b4
abbrev c5(l:List Fu):=c4 (f4::l)
def n5:List Str:=["form","thing"]
def b5:List S:=zj 1 2 0
def f5:Fu:=ao (cM (c5 [])) 2 b5
abbrev c6(l:List Fu):=c5 (f5::l)
def n6:List Str:=["form","deed"]
def b6:List S:=Gy
def f6:Fu:=ao (cM (c6 [])) 2 b6
abbrev c7(l:List Fu):=c6 (f6::l)
def n7:List Str:=["form","stand","road","waiting"]
def b7:List S:=P7 4
def f7:Fu:=ao (cM (c7 [])) 4 b7
abbrev c8(l:List Fu):=c7 (f7::l)
def n8:List Str:=["form","stand","thing"]
def b8:List S:=P8 5 3 7
def f8:Fu:=ao (cM (c8 [])) 3 b8
abbrev c9(l:List Fu):=c8 (f8::l)
def n9:List Str:=["stand","deed"]
def b9:List S:=zk 4
def f9:Fu:=ao (cM (c9 [])) 2 b9
abbrev WO(l:List Fu):=c9 (f9::l)
def n10:List Str:=["letters","k"]
def b10:List S:=Gz
def QS:Fu:=ao (cM (WO [])) 2 b10
abbrev WQ(l:List Fu):=WO (QS::l)
def n11:List Str:=["letters","sign"]
def b11:List S:=GA
def HK:Fu:=ao (cM (WQ [])) 2 b11
abbrev WR(l:List Fu):=WQ (HK::l)
noncomputable def n12:List Str:=["form","stand","deed","m","reply","states","roads","road","sign","told"]
def b12:List S:=GB 6 3 9 10 11
def Di:Fu:=ao (cM (WR [])) 10 b12
abbrev WS(l:List Fu):=WR (Di::l)
noncomputable def n13:List Str:=["form","stand","deeds","behind","now","number","deed","step"]
def b13:List S:=zD 8 12
def Mt:Fu:=ao (cM (WS [])) 8 b13
abbrev WT(l:List Fu):=WS (Mt::l)
noncomputable def n14:List Str:=["form","deeds","counts","events","deed","m"]
def b14:List S:=[.fg 2 (.comp .seq [(.ks 0 0)] [1] none (.kn 0) [none,none]),.asg [3] (.lst []),.bD [4] .seq [1] [.asg [5] (.call 6 [0,4]),.expr (.me .append 3 [(.tup [5,(.sub 2 5)])]),.put 2 5 (.bin .add (.sub 2 5) (.kn 1))],.ret 3]
def f14:Fu:=ao (cM (WT [])) 6 b14
abbrev WU(l:List Fu):=WT (f14::l)
def n15:List Str:=["ahead","behind","letters","road","k"]
noncomputable def b15:List S:=[.asg [2] (.lst []),.bD [3] .eR [(.bi .len [(.ks 0 1)])] [.bD [4] .qP [(.sub (.sub (.ks 0 1) 3) (.kn 0)),(.sub (.sub (.ks 1 1) 3) (.kn 0))] [.expr (.me .append 2 [(.tup [3,4])])]],.ret 2]
def RM:Fu:=ao (cM (WU [])) 5 b15
abbrev WV(l:List Fu):=WU (RM::l)
noncomputable def n16:List Str:=["form","stand","deeds","letters","road","k","sign","ahead","number","step","deed","letter"]
def b16:List S:=[.asg [3] .pA,.bD [4] .eR [(.bi .len [(.ks 0 1)])] [.bD [5,6] .seq [(.call 4 [1,4])] [.dput 3 (.tup [4,5]) (.tup [(.bw .aP),(.bw .aP)])]],.asg [7] 1,.bD [8,9] .enum [(.call 13 [0,1,2])] [.asg [10] (.sub 2 8),.iff (.val (.cmp .eq (.ks 10 0) (.bw (.str "come")))) [.asg [11] (.tup [(.ks 10 1),(.ks 10 2)]),.dput 3 11 (.tup [(.sub (.kQ 3 11) (.kn 0)),8])] [],.bD [11] .seq [(.call 15 [7,(.ks 9 0)])] [.dput 3 11 (.tup [8,(.bw .aP)])],.asg [7] (.ks 9 0)],.ret 3]
def f16:Fu:=ao (cM (WV [])) 12 b16
abbrev WX(l:List Fu):=WV (f16::l)
noncomputable def n17:List Str:=["form","stand","deeds","letters","links","last","number","event","sending","coming"]
def b17:List S:=[.asg [3] (.call 16 [0,1,2]),.fg 4 (.comp .seq [2] [1] none (.lst []) [none,none]),.asg [5] (.v8 [] []),.bD [6,7] .enum [(.call 14 [0,2])] [.iff (.val (.cmp .isin (.ks 7 0) 5)) [.expr (.me .append (.sub 4 6) [(.sub 5 (.ks 7 0))])] [],.put 5 (.ks 7 0) 6],.bD [8,9] .vals [3] [.iff (.dv [(.val (.cmp .eL 8 (.bw .aP))),(.val (.cmp .eL 9 (.bw .aP)))]) [.expr (.me .append (.sub 4 9) [8])] []],.ret 4]
def f17:Fu:=ao (cM (WX [])) 10 b17
abbrev WY(l:List Fu):=WX (f17::l)
noncomputable def n18:List Str:=["form","stand","deeds","told","links","before","number"]
def b18:List S:=[.asg [3] (.lst []),.bD [4] .seq [(.call 17 [0,1,2])] [.asg [5] (.bi .list1 [4]),.bD [6] .seq [4] [.expr (.me .extend 5 [(.sub 3 6)])],.expr (.me .append 3 [(.bi .tuple1 [(.sset 5)])])],.ret 3]
def f18:Fu:=ao (cM (WY [])) 7 b18
abbrev WZ(l:List Fu):=WY (f18::l)
noncomputable def n19:List Str:=["form","stand","deeds","links","told","number","event","clock","other"]
def b19:List S:=[.asg [3] (.call 17 [0,1,2]),.asg [4] (.lst []),.bD [5,6] .enum [(.call 14 [0,2])] [.fg 7 (.comp .seq [(.ks 0 0)] [1] none (.kn 0) [none,none]),.bD [8] .seq [(.sub 3 5)] [.fg 7 (.comp .zip [7,(.sub 4 8)] [1,2] none (.bi .max2 [1,2]) [none,none,none])],.put 7 (.ks 6 0) (.bin .add (.ks 6 1) (.kn 1)),.expr (.me .append 4 [(.bi .tuple1 [7])])],.ret 4]
def f19:Fu:=ao (cM (WZ [])) 9 b19
abbrev W0(l:List Fu):=WZ (f19::l)
noncomputable def n20:List Str:=["events","deed_clocks","one","other","event"]
noncomputable def b20:List S:=[.asg [4] (.sub 0 2),.ret (.dv [(.cmp .ne 2 3),(.cmp .lt (.ks 4 1) (.sub (.sub 1 3) (.ks 4 0)))])]
def f20:Fu:=ao (cM (W0 [])) 5 b20
abbrev W2(l:List Fu):=W0 (f20::l)
def n21:List Str:=["_law_script","_law_k","_law_cell"]
def b21:List S:=Gf
def f21:Fu:=ao (cM (W2 [])) 3 b21
abbrev W3(l:List Fu):=W2 (f21::l)
noncomputable def n22:List Str:=["_law_well_here","_law_many","_law_turn","_law_left","_law_here","_law_mixed"]
def b22:List S:=AQ
def f22:Fu:=ao (cM (W3 [])) 6 b22
abbrev W4(l:List Fu):=W3 (f22::l)
noncomputable def n23:List Str:=["_law_well_here","_law_machines","_law_roads_here","_law_many","_law_k","_law_one","_law_other"]
def b23:List S:=y4 22
def f23:Fu:=ao (cM (W4 [])) 7 b23
abbrev W5(l:List Fu):=W4 (f23::l)
noncomputable def n24:List Str:=["_law_well_here","_law_some","_law_many","_law_k","_law_state"]
def b24:List S:=uj 22
def f24:Fu:=ao (cM (W5 [])) 5 b24
abbrev W6(l:List Fu):=W5 (f24::l)
noncomputable def n25:List Str:=["_law_well_here","_law_ways","_law_sends_here","_law_k","_law_road"]
def b25:List S:=y6 22
def f25:Fu:=ao (cM (W6 [])) 5 b25
abbrev W7(l:List Fu):=W6 (f25::l)
noncomputable def n26:List Str:=["_law_well_here","_law_some","_law_ways","_law_words","_law_moves_here","_law_state","_law_cause","_law_after","_law_sends_here","_law_word","_law_at"]
def b26:List S:=y8 22 25
def f26:Fu:=ao (cM (W7 [])) 11 b26
abbrev W8(l:List Fu):=W7 (f26::l)
noncomputable def n27:List Str:=["_law_script","_law_well_here","_law_machines","_law_roads_here","_law_rules","_law_m","_law_some","_law_ways","_law_start"]
def b27:List S:=AR 21 22 23 24 26
def f27:Fu:=ao (cM (W8 [])) 9 b27
abbrev W9(l:List Fu):=W8 (f27::l)
noncomputable def n28:List Str:=["_law_form_here","_law_m","_law_state","_law_cause","_law_told"]
def b28:List S:=uo
def f28:Fu:=ao (cM (W9 [])) 5 b28
abbrev W_(l:List Fu):=W9 (f28::l)
noncomputable def n29:List Str:=["_law_form_here","_law_stand_here","_law_found","_law_road","_law_waiting"]
def b29:List S:=uw
def f29:Fu:=ao (cM (W_ [])) 5 b29
abbrev Xa(l:List Fu):=W_ (f29::l)
noncomputable def n30:List Str:=["_law_form_here","_law_stand_here","_law_deed","_law_m","_law_road","_law_number","_law_sign"]
def b30:List S:=zl 28 29
def f30:Fu:=ao (cM (Xa [])) 7 b30
abbrev Xb(l:List Fu):=Xa (f30::l)
def n31:List Str:=["_law_form_here","_law_deed"]
def b31:List S:=zm
def f31:Fu:=ao (cM (Xb [])) 2 b31
abbrev Xc(l:List Fu):=Xb (f31::l)
noncomputable def n32:List Str:=["_law_form_here","_law_stand_here","_law_deed","_law_after","_law_sends_here","_law_word","_law_m","_law_states_here","_law_load_here","_law_loads","_law_road","_law_sign","_law_roads_here"]
def b32:List S:=zo 30 31
def f32:Fu:=ao (cM (Xc [])) 13 b32
abbrev Xd(l:List Fu):=Xc (f32::l)
noncomputable def n33:List Str:=["_law_well_here","_law_order","_law_some","_law_sent","_law_waiting","_law_least","_law_k"]
def b33:List S:=zp 22
def f33:Fu:=ao (cM (Xd [])) 7 b33
abbrev Xe(l:List Fu):=Xd (f33::l)
noncomputable def n34:List Str:=["_law_script","_law_form_here","_law_well_here","_law_loads","_law_states_here"]
def b34:List S:=ux 21 22 33
def f34:Fu:=ao (cM (Xe [])) 5 b34
abbrev Xf(l:List Fu):=Xe (f34::l)
noncomputable def n35:List Str:=["_law_well_here","_law_form_here","_law_stand_here","_law_some","_law_owns","_law_m","_law_way"]
def b35:List S:=zq 29 30 22
def f35:Fu:=ao (cM (Xf [])) 7 b35
abbrev Xg(l:List Fu):=Xf (f35::l)
noncomputable def n36:List Str:=["_law_script","_law_form_here","_law_stand_here","_law_most","_law_well_here","_law_deeds_here","_law_many","_law_k","_law_deed"]
def b36:List S:=uH 21 22 35 32
def f36:Fu:=ao (cM (Xg [])) 9 b36
abbrev Xh(l:List Fu):=Xg (f36::l)
noncomputable def n37:List Str:=["_law_form_here","_law_deeds_here","_law_letters","_law_bonds_here","_law_last","_law_k","_law_m","_law_letter","_law_sending","_law_coming"]
def b37:List S:=[.fg 3 (.comp .seq [1] [1] none (.lst []) [none,none]),.asg [4] (.v8 [] []),.bD [5] .eR [(.bi .len [1])] [.asg [6] (.call 31 [0,(.sub 1 5)]),.iff (.val (.cmp .isin 6 4)) [.expr (.me .append (.sub 3 5) [(.sub 4 6)])] [],.put 4 6 5],.bD [7] .keys [2] [.asg [8,9] (.kQ 2 7),.iff (.dv [(.val (.cmp .eL 8 (.bw .aP))),(.val (.cmp .eL 9 (.bw .aP)))]) [.iff (.fZ [(.val (.cmp .ge 8 9)),(.val (.cmp .ne (.sub 1 9) (.bin .add (.tup [(.bw (.str "come"))]) 7)))]) [.ret (.bw .aP)] [],.expr (.me .append (.sub 3 9) [8])] []],.ret 3]
def f37:Fu:=ao (cM (Xh [])) 10 b37
abbrev Xi(l:List Fu):=Xh (f37::l)
noncomputable def n38:List Str:=["_law_script","_law_form_here","_law_stand_here","_law_deeds_here","_law_letters","_law_events","_law_found","_law_times","_law_bonds_here","_law_k","_law_due","_law_one","_law_said","_law_grown"]
def Xj:List S:=[.asg [1] (.call 27 [0]),.asg [2] (.call 34 [0,1]),.asg [3] (.call 36 [0,1,2,(.kn 30)]),.asg [4] (.call 16 [1,2,3]),.asg [5] (.call 14 [1,3]),.asg [6] (.call 18 [1,2,3]),.asg [7] (.call 19 [1,2,3]),.asg [8] (.call 37 [1,3,4]),.iff (.fZ [(.val (.cmp .tM 8 (.bw .aP))),(.val (.cmp .ne (.bi .len [6]) (.bi .len [3]))),(.val (.cmp .ne (.bi .len [7]) (.bi .len [3])))]) [.ret (.bw (.bl false))] [],.bD [9] .eR [(.bi .len [3])] [.asg [10] (.bi .list1 [(.sub 8 9)]),.bD [11] .seq [(.sub 8 9)] [.asg [10] (.bin .add 10 (.bi .list1 [(.sub 6 11)]))],.iff (.fZ [(.val (.cmp .ne (.bi .list1 [(.sub 6 9)]) (.sset 10))),(.val (.bi .CL [(.comp .seq [(.sub 6 9)] [1] none (.cmp .ge 1 2) [none,none,some 9])]))]) [.ret (.bw (.bl false))] [],.iff (.val (.cmp .ne (.sub (.sub 7 9) (.sub (.sub 5 9) (.kn 0))) (.bin .add (.sub (.sub 5 9) (.kn 1)) (.kn 1)))) [.ret (.bw (.bl false))] [],.bD [11] .eR [(.bi .len [3])] [.asg [12] (.call 20 [5,7,11,9]),.iff (.fZ [(.val (.cmp .ne 12 (.cmp .isin 11 (.sub 6 9)))),(.dv [(.val 12),(.val (.call 20 [5,7,9,11]))])]) [.ret (.bw (.bl false))] [],.fg 13 (.comp .zip [(.sub 7 11),(.sub 7 9)] [1] none (.bi .CM [1]) [none,none]),.iff (.dv [(.val 12),(.val (.cmp .ne (.bi .tuple1 [13]) (.sub 7 9)))]) [.ret (.bw (.bl false))] []]],.ret (.bw (.bl true))]
def VD:Fu:=ao (cM (Xi [])) 14 Xj
def gs:List (Str×Int):=[]
noncomputable def fs:List (Str×Nat):=[(("is_whole" : Str),1),(("is_below" : Str),2),(("is_sign" : Str),1),(("answer" : Str),4),(("waits" : Str),2),(("is_plain" : Str),2),(("machine_of" : Str),2),(("may_come" : Str),3),(("can" : Str),3),(("cause_of" : Str),2),(("less_letter" : Str),2),(("more_letter" : Str),2),(("outcome" : Str),3),(("steps" : Str),3),(("events_of" : Str),2),(("sent_between" : Str),2),(("letters_of" : Str),3),(("right_ahead" : Str),3),(("pasts" : Str),3),(("clocks" : Str),3),(("is_before" : Str),4),(("_law_well" : Str),2),(("_law_draw" : Str),2),(("_law_roads" : Str),2),(("_law_states" : Str),1),(("_law_sends" : Str),2),(("_law_moves" : Str),3),(("_law_form" : Str),1),(("_law_answer" : Str),4),(("_law_comes" : Str),2),(("_law_answered" : Str),3),(("_law_machine" : Str),2),(("_law_done" : Str),3),(("_law_load" : Str),2),(("_law_stand" : Str),2),(("_law_next" : Str),3),(("_law_deeds" : Str),4),(("_law_bonds" : Str),3),(("law" : Str),1)]
end iC
end
section
namespace iC
open L2 Ev
open PySem PySem.Spec PyProof.Rows
theorem VE:bh .ne (.d (.bl a)) (.d (.bl b)) M=.ok (!(a==b)) M:=by
 have p:∀a:Bool,jD M (.d (.bl a))=some (.bool a):=λa=>by show eK M 30 (.bl a)=_;unfold eK;rfl
 unfold bh;simp only[p];cases a<;>cases b<;>rfl
theorem Lo{xs ys:List D}{M':aj}{i:Nat}:Ev.itemAt M' i (.zip (.items xs) (.items ys))=some (List.zipWith (λa b=>D.tup [a,b]) xs ys)[i]?:=by
 unfold Ev.itemAt pC;simp only;unfold rM;rw[HV];cases xs[i]? <;> cases ys[i]? <;> rfl
theorem QT{M:aj}:∀l:List Int,mZ .CL [.lv ((l.map D.int).filterMap λ_=>some (D.bl false))] M=.ok (.d (.bl false)) M:=λl=>by
 have h:∃k,wD ((l.map D.int).filterMap λ_=>some (D.bl false))=some (List.replicate k false):=by
  induction l with
  | nil=>exact⟨0,rfl⟩
  | cons x l ih =>
   obtain⟨k,e⟩:=ih;refine⟨k+1,?_⟩;show(wD ((l.map D.int).filterMap λ_=>some (D.bl false))).map (false::·)=_;rw[e];rfl
 obtain⟨k,e⟩:=h;unfold mZ;simp only[show bQ M (.lv ((l.map D.int).filterMap λ_=>some (D.bl false)))=some (true,(l.map D.int).filterMap λ_=>some (D.bl false)) from rfl,e];rw[show(List.replicate k false).any id=false by induction k<;>simp]
theorem QU{G:dQ}(hF:Gq (G 27))(UQ:uG (G 34))(hDe:uO (G 36))(hLe:lG (G 16))(hEv:lI (G 14))(hPa:zM (G 18))(hCk:uU (G 19))(hIb:zJ (G 20))(hBo:zO (G 37))(ns:List Int)(mh:ns.length<=63):aV (ao G 14 Xj [.ls (ns.map D.int)] []) λr _=>r=.d (.bl true):=by
 rw[bJ];show eh G Xj [some (.ls (ns.map D.int)),none,none,none,none,none,none,none,none,none,none,none,none,none] [] _ _ _ _;nofun;refine(hF [] ns mh).imp ?_;rintro r M1 ⟨d,rfl,hd,f1⟩;obtain⟨f,rfl,hf⟩:=zt hd;have h4:=hf.l4;nofun;refine(UQ M1 ns f mh hf).imp ?_;rintro r M2 ⟨s,rfl,hs,ht,f2⟩;nofun;refine(hDe M2 ns f s 30 mh hf hs ∅ ∅).imp ?_;rintro r M3 ⟨nD,ds,rfl,hlD,hD3,Hv,hl60,f3⟩;have xX:ds.length<=60:=∅;have Hh:=QE Hv;nofun;refine(hLe M3 f 4 s ds nD hf hs ∅ xX Hv hD3).imp ?_;rintro r M4 ⟨nL,ag,rfl,hlL,WE,hR,f4⟩;have hD4:=Ex.get f4 hD3;nofun;refine(hEv M4 f ds (.ai nD) hf Hh xX (.l hD4)).imp ?_;rintro r M5 ⟨nE,rfl,hlE,Vt,f5⟩;have Dz:=Ex.get f5 hD4;nofun;refine(hPa M5 f 4 s ds nD hf hs ∅ xX Hv Dz).imp ?_;rintro r M6 ⟨nP,rfl,hlP,hP6,f6⟩;have hD6:=Ex.get f6 Dz;nofun;refine(hCk M6 f 4 s ds nD hf hs ∅ xX Hv hD6).imp ?_;rintro r M7 ⟨nC,rfl,hlC,hC7,f7⟩;have hD7:=Ex.get f7 hD6;have hP7:=Ex.get f7 hP6;have hE7:=Ex.get f7 (Ex.get f6 Vt);have hL7:=Ex.get f7 (Ex.get f6 (Ex.get f5 WE));nofun;refine(hBo M7 f 4 s ds nD nL ag hf hs xX Hv hD7 hL7 hR).imp ?_;rintro r M8 ⟨nB,as,rfl,rH,Mr,ml,hlB,f8⟩;have ne:∀{k:Nat}{l:List D},M7[k]?=some (.lst l)->M8[k]?=some (.lst l):=λ{k l} h=>Fr.get f8 h λz=>by rw[z,hL7]at h;cases h
 have VF:=ne hD7;have RN:=ne hP7;have RJ:=ne hE7;have VG:=ne hC7;have A:=cy (f:=f) (s:=s) (ds:=ds);have hPm:∀i,∀x:Int,x∈Pk (cz f s ds) i↔∃j:Nat,x=j/\mP (cz f s ds) i j:=λi=>mT A (i+1) i (iI _);have Rv:(((Hq f s ds ds.length).length:Nat):Int)=(((ds.map c_).length:Nat):Int):=by rw[uW,ay]
 have hln2:(((Dl f s ds ds.length).length:Nat):Int)=(((ds.map c_).length:Nat):Int):=by rw[Bu,ay]
 nofun;rw[dq RN];nofun;rw[dq VF];nofun;rw[Rv,sF];nofun;rw[dq VG];nofun;rw[dq VF];nofun;rw[hln2,sF];nofun;rw[dq VF];sleep 29;refine gB (n:=ds.length) (λi ρ M'=>∃o9 ko iN Dh Hw,ρ=[some (.ls (ns.map D.int)),some (dG f),some (dB s),some (.ai nD),some (.ai nL),some (.ai nE),some (.ai nP),some (.ai nC),some (.ai nB),o9,ko,iN,Dh,Hw]/\Ex M8 M') ⟨_,_,_,_,_,rfl,Ex.refl M8⟩ ?_ ?_
 ·rintro i ρ M9 hi ⟨o9,ko,iN,Dh,Hw,rfl,f9⟩;have hv9:=Mr.ex f9;have hP9:=Ex.get f9 RN;obtain⟨a,ea,es,xY⟩:=hv9.sub (r:=i) ∅;sleep 27;rw[es];nofun;rw[xi xY];nofun
  have QV:(M9++[MO.lst ((jI (cz f s ds i)).map D.int)])[M9.length]?=some (.lst ((jI (cz f s ds i)++((cz f s ds i).take 0).flatMap (Pk (cz f s ds))).map D.int)):=by
   rw[sI,Ih,iQ];exact aw
  have QS:Ex M9 (M9++[MO.lst ((jI (cz f s ds i)).map D.int)]):=Fr.app (Ex.refl M9);generalize M9.length=nU at QV⊢;generalize M9++[MO.lst ((jI (cz f s ds i)).map D.int)]=M10 at QV QS⊢;have QS:=Ex.trans f9 QS;have h2:(cz f s ds i).length<=2:=Bt;have Qt:(jI (cz f s ds i)).length<=2:=by unfold jI;rw[ay];exact h2
  have Rw:∀j,(((cz f s ds i).take j).flatMap (Pk (cz f s ds))).length<=120:=λj=>by
   have:=zN A ((cz f s ds i).take j) λo ho=>A i o (sC ho);have q:((cz f s ds i).take j).length<=2:=by rw[hG];omega
   have:=BS q (show i<=60 by omega);omega
  obtain⟨a2,Rn,YI,VH⟩:=(Mr.ex QS).sub (r:=i) ∅;rw[YI];nofun;rw[dy VH];refine xj (n:=a2) (ds:=(jI (cz f s ds i)).map D.int) (λj ρ M'=>∃iN nU,ρ=[some (.ls (ns.map D.int)),some (dG f),some (dB s),some (.ai nD),some (.ai nL),some (.ai nE),some (.ai nP),some (.ai nC),some (.ai nB),some (.int (i:Nat)),some (.ai nU),iN,Dh,Hw]/\M'[nU]?=some (.lst ((jI (cz f s ds i)++((cz f s ds i).take j).flatMap (Pk (cz f s ds))).map D.int))/\M'[a2]?=some (.lst ((jI (cz f s ds i)).map D.int))/\Ex M8 M') (by rintro j ρ M' ⟨_,_,_,_,h,_⟩;exact h) ⟨_,nU,rfl,QV,VH,QS⟩ ?_ ?_
  ·rintro j ρ M11 dd bC ⟨iN,nU,rfl,Lp,VI,HK⟩;unfold jI at bC;rw[bc,bc]at bC
   cases e2:(cz f s ds i)[j]? with
   | none=>rw[e2]at bC;cases bC
   | some o =>
    rw[e2]at bC;cases bC;have ho:=A i o (cQ e2);nofun;rw[bo (Ex.get HK RN) (qt ∅)];nofun;have hq:=Rw j;have hp:=qr A o;show eA (qQ .add (.d (.ai nU)) (.lv ((Pk (cz f s ds) o).map D.int)) M11) _;rw[uE Lp (dz (by rw[ay,ay,cI];omega))];refine⟨_,M11.length,rfl,?_,aF VI,Fr.app HK⟩;rw[aw,<- eQ,bq e2,MP,oI,DN,Ih,iQ]
  ·rintro ρ M11 ⟨iN,nU,rfl,Lp,VI,HK⟩;have QN:((jI (cz f s ds i)).map D.int).length=(cz f s ds i).length:=by unfold jI;rw[ay,ay]
   rw[QN,gD]at Lp;have hq:=Rw (cz f s ds i).length;rw[gD]at hq;have Vz:=By A i;have Z8:=qr A i
   have RC:(yE (jI (cz f s ds i)++(cz f s ds i).flatMap (Pk (cz f s ds)))).length<64:=by
    rw[Vz,fQ.length_eq]at Z8;omega
   have VJ:=Ex.get HK RN;have hE11:=Ex.get HK RJ;have hC11:=Ex.get HK VG;have hD11:=Ex.get HK VF;nofun;rw[bo VJ (qt hi)];nofun;rw[xR Lp (by rw[cI];show _<4096;omega) RC,<- Vz];nofun;rw[VC];nofun;rw[bo VJ (qt hi)];nofun;refine lg (ds:=(Pk (cz f s ds) i).map D.int) (λ_=>some (.bl false)) (by decide) lh (dz (by rw[ay];omega)) ?_ ?_ rfl
   ·intro q M' dd bC fr;obtain⟨x,hx,rfl⟩:=dI.mp (cQ bC);obtain⟨j,rfl,hj⟩:=lN A hx;nofun;rw[show decide (((i:Nat):Int)<=((j:Nat):Int))=false from dO ∅];exact⟨rfl,fr⟩
   intro M12 Di;have Di:=Ex.trans HK Di;have VL:=Ex.get Di RJ;have hC12:=Ex.get Di VG;have hD12:=Ex.get Di VF;have hP12:=Ex.get Di RN;nofun;rw[QT];nofun;rw[bo hC12 (mS hi)];nofun;rw[bo VL (zK hi)];nofun
   have WM:mA f ds i<f.ru.length:=by
    rw[xO (br hi)];exact(Hh _ (kA hi)).mc hf
   rw[show de (.d (QH f s ds i)) (.d (.int (mA f ds i:Nat))) M12=.ok (.d (.int (T f s ds i (mA f ds i):Nat))) M12 from jd (iB WM)];nofun;rw[bo VL (zK hi)];nofun
   have hTi:((T f s ds i (mA f ds i):Nat):Int)=((cA f ds i:Nat):Int)+1:=by
    unfold T;rw[sk A,ar rfl];omega
   rw[hTi,sF];nofun;rw[dq hD12];sleep 29;refine gB (n:=ds.length) (λj ρ M'=>∃iN Dh Hw,ρ=[some (.ls (ns.map D.int)),some (dG f),some (dB s),some (.ai nD),some (.ai nL),some (.ai nE),some (.ai nP),some (.ai nC),some (.ai nB),some (.int (i:Nat)),some (.ai nU),iN,Dh,Hw]/\Ex M8 M') ⟨_,_,_,rfl,Di⟩ ?_ ?_
   ·rintro o ρ RO ho ⟨iN,Dh,Hw,rfl,Mt⟩;have VM:=Ex.get Mt RJ;have Lq:=Ex.get Mt VG;have hP13:=Ex.get Mt RN;rw[show(0:Int)+(o:Int)=((o:Nat):Int) by omega];nofun;refine(hIb RO f s ds nE nC o i hf Hh ho hi VM Lq).imp ?_;rintro r QW ⟨rfl,rfl⟩;rw[Bw ho hi (hPm i)];nofun;rw[bo hP13 (qt hi)];nofun;rw[show bh .isin (.d (.int (o:Nat))) (.d (Vy f s ds i)) RO=.ok (decide (((o:Nat):Int)∈Pk (cz f s ds) i)) RO from P6];nofun;rw[VE,sF]
    have eB:∀rt bk ct,eh G [.fg 13 (.comp .zip [(.sub (.eX 7) (.eX 11)),(.sub (.eX 7) (.eX 9))] [1] none (.bi .CM [(.eX 1)]) [none,none]),.iff (.dv [(.val (.eX 12)),(.val (.cmp .ne (.bi .tuple1 [(.eX 13)]) (.sub (.eX 7) (.eX 9))))]) [.ret (.bw (.bl false))] []] [some (.ls (ns.map D.int)),some (dG f),some (dB s),some (.ai nD),some (.ai nL),some (.ai nE),some (.ai nP),some (.ai nC),some (.ai nB),some (.int (i:Nat)),some (.ai nU),some (.int (o:Nat)),some (.bl (decide (((o:Nat):Int)∈Pk (cz f s ds) i))),Hw] RO (λρ M'=>∃iN Dh Hw,ρ=[some (.ls (ns.map D.int)),some (dG f),some (dB s),some (.ai nD),some (.ai nL),some (.ai nE),some (.ai nP),some (.ai nC),some (.ai nB),some (.int (i:Nat)),some (.ai nU),iN,Dh,Hw]/\Ex M8 M') rt bk ct:=by
     intro rt bk ct;nofun;rw[bo Lq (mS ho)];nofun;rw[bo Lq (mS hi)];nofun;refine lg (ds:=List.zipWith (λa b=>D.tup [a,b]) (dC f.ru.length (T f s ds o)) (dC f.ru.length (T f s ds i))) Lk (by decide) (λM' _ j _=>Lo) (dz (by rw[HY,eZ,eZ];omega)) ?_ ?_ (show min _ _=_ by rw[HY])
     ·intro p M' dd bC fr;rw[HV]at bC
      have hq:p<f.ru.length:=by
       rcases fj p f.ru.length with z | z
       ·exact z
       ·rw[gM (by rw[eZ];exact z)]at bC;cases bC
      rw[iB hq,iB hq]at bC;cases bC;nofun;exact⟨rfl,fr⟩
     intro QW f14;rw[Bv];have RM:Ex M8 (QW++[MO.lst (dC f.ru.length λm=>max (T f s ds o m) (T f s ds i m))]):=Fr.app (Ex.trans Mt f14);have QX:(QW++[MO.lst (dC f.ru.length λm=>max (T f s ds o m) (T f s ds i m))])[QW.length]?=some (.lst (dC f.ru.length λm=>max (T f s ds o m) (T f s ds i m))):=aw;nofun;generalize QW.length=nG at QX⊢;generalize QW++[MO.lst (dC f.ru.length λm=>max (T f s ds o m) (T f s ds i m))]=M15 at QX RM⊢;by_cases q:((o:Nat):Int)∈Pk (cz f s ds) i
     ·rw[fh q];nofun;rw[bZ QX];nofun;rw[bo (Ex.get RM VG) (mS hi)];obtain⟨j,e,r⟩:=(hPm i _).mp q;have e:o=j:=∅;subst e
      have ge:(λm=>max (T f s ds o m) (T f s ds i m))=T f s ds i:=by
       funext m;exact Nat.max_eq_right (QQ ho hi r m)
      rw[ge];nofun
      have er:dC f.ru.length (T f s ds i)=((List.range f.ru.length).map λm=>((T f s ds i m:Nat):Int)).map D.int:=by
       unfold dC;rw[sL];rfl
      rw[show bh .ne (.d (.tup (dC f.ru.length (T f s ds i)))) (.d (QH f s ds i)) M15=.ok false M15 by unfold QH;rw[er];exact QR];exact⟨_,_,_,rfl,RM⟩
     ·rw[dO q];exact⟨_,_,_,rfl,RM⟩
    by_cases q:((o:Nat):Int)∈Pk (cz f s ds) i
    ·rw[fh q]at eB⊢;nofun;refine(hIb RO f s ds nE nC i o hf Hh hi ho VM Lq).imp ?_;rintro r QW ⟨rfl,rfl⟩
     have nq:¬((i:Nat):Int)∈Pk (cz f s ds) o:=λz=>by
      obtain⟨a,e1,h1⟩:=lN A q;obtain⟨b,e2,h2⟩:=lN A z;omega
     rw[Bw hi ho (hPm o),dO nq];exact eB _ _ _
    ·rw[dO q]at eB⊢;exact eB _ _ _
   ·rintro ρ RO ⟨iN,Dh,Hw,rfl,Mt⟩;exact⟨_,_,_,_,_,rfl,Mt⟩
 ·rintro ρ M9 ⟨o9,ko,iN,Dh,Hw,rfl,f9⟩;rfl
theorem Hx:∀ns:List Int,ns.length<=63->∃M,VD [.ls (ns.map D.int)] []=.ok (.d (.bl true)) M:=by
 intro ns mh;have h0:∀l,uB (cM (c1 l) 0):=λl=>Qc;have h1:∀l,zv (cM (c2 l) 1):=λl=>Qd (h0 _);have h2:∀l,GH (cM (c3 l) 2):=λl=>U4;have h3:∀l,lq (cM (c4 l) 3):=λl=>KO;have h4:∀l,qe (cM (c5 l) 4):=λl=>Qf;have h5:∀l,zw (cM (c6 l) 5):=λl=>Qe (h1 _) (h2 _) (h0 _);have h6:∀l,nj (cM (c7 l) 6):=λl=>U3;have h7:∀l,Qg (cM (c8 l) 7):=λl=>ZK (h4 _);have h8:∀l,Qj (cM (c9 l) 8):=λl=>ZL (h5 _) (h3 _) (h7 _);have h9:∀l,zx (cM (WO l) 9):=λl=>Ql (h4 _);have h10:∀l,GN (cM (WQ l) 10):=λl=>U9;have h11:∀l,Be (cM (WR l) 11):=λl=>U_;have h12:∀l,sg (cM (WS l) 12):=λl=>Vd (h6 _) (h3 _) (h9 _) (h10 _) (h11 _);have h13:∀l,zE (cM (WT l) 13):=λl=>Qw (h8 _) (h12 _);have h14:∀l,lI (cM (WU l) 14):=λl=>Le (h6 _);have SI:∀l,uR (cM (WV l) 15):=λl=>Qz;have h16:∀l,lG (cM (WX l) 16):=λl=>G9 (h4 _) (h13 _) (SI _);have h17:∀l,oE (cM (WY l) 17):=λl=>Li (h16 _) (h14 _);have h18:∀l,zM (cM (WZ l) 18):=λl=>QL (h17 _);have h19:∀l,uU (cM (W0 l) 19):=λl=>Ln (h17 _) (h14 _);have h20:∀l,zJ (cM (W2 l) 20):=λl=>QJ;have h21:∀l,rX (cM (W3 l) 21):=λl=>UD;have Lr:∀l,fu (cM (W4 l) 22):=λl=>PU;have h23:∀l,y9 (cM (W5 l) 23):=λl=>PV (Lr _);have h24:∀l,oh (cM (W6 l) 24):=λl=>KJ (Lr _);have h25:∀l,zc (cM (W7 l) 25):=λl=>PY (Lr _);have h26:∀l,uq (cM (W8 l) 26):=λl=>PZ (Lr _) (h25 _);have h27:∀l,Gq (cM (W9 l) 27):=λl=>UR (h21 _) (Lr _) (h23 _) (h24 _) (h26 _);have h28:∀l,om (cM (W_ l) 28):=λl=>KR;have h29:∀l,oy (cM (Xa l) 29):=λl=>K1;have h30:∀l,uF (cM (Xb l) 30):=λl=>Qp (h28 _) (h29 _);have h31:∀l,nj (cM (Xc l) 31):=λl=>Qb;have h32:∀l,sg (cM (Xd l) 32):=λl=>Qs (h30 _) (h31 _);have h33:∀l,zA (cM (Xe l) 33):=λl=>Qq (Lr _);have h34:∀l,uG (cM (Xf l) 34):=λl=>K6 (h21 _) (Lr _) (h33 _);have h35:∀l,zC (cM (Xg l) 35):=λl=>Qv (h29 _) (h30 _) (Lr _);have h36:∀l,uO (cM (Xh l) 36):=λl=>K9 (h21 _) (Lr _) (h35 _) (h32 _);have h37:∀l,zO (cM (Xi l) 37):=λl=>QP (h31 _);obtain⟨r,M,e,q⟩:=Pb (QU (G:=cM (Xi [])) (h27 _) (h34 _) (h36 _) (h16 _) (h14 _) (h18 _) (h19 _) (h20 _) (h37 _) ns mh);subst q;exact⟨M,e⟩
end iC
end
section
namespace iC
open L2 Ev PySem PySem.Spec PyProof.Rows
noncomputable def cV(i:Nat):Stmt:=PySem.Challenge.pw_cutstand_k12_whole_what_is_before.main.body.getD i (.Pass ⟨0,0,0,0⟩)
abbrev s0:=cV 4
abbrev s1:=cV 5
abbrev s2:=cV 6
abbrev s3:=cV 8
abbrev s4:=cV 10
abbrev s5:=cV 12
abbrev s6:=cV 13
abbrev s7:=cV 15
abbrev s8:=cV 14
abbrev s9:=cV 17
abbrev V5:=cV 18
abbrev Ym:=cV 19
abbrev s12:=cV 16
abbrev s13:=cV 20
abbrev s14:=cV 22
abbrev s15:=cV 24
abbrev s16:=cV 23
abbrev s17:=cV 25
abbrev s18:=cV 26
abbrev s19:=cV 28
abbrev s20:=cV 29
abbrev s21:=cV 31
abbrev s22:=cV 32
abbrev s23:=cV 33
abbrev s24:=cV 34
abbrev s25:=cV 35
abbrev s26:=cV 36
abbrev s27:=cV 37
abbrev s28:=cV 38
abbrev s29:=cV 39
abbrev s30:=cV 40
abbrev s31:=cV 41
abbrev s32:=cV 42
abbrev s33:=cV 43
abbrev s34:=cV 44
abbrev s35:=cV 45
abbrev s36:=cV 46
abbrev s37:=cV 47
abbrev s38:=cV 48
abbrev m0:Value:=(.str "cutstand.kinds" 232)
abbrev m1:Value:=(.str "cutstand.forms" 256)
abbrev m2:Value:=(.str "cutstand.stands" 269)
abbrev m3:Value:=(.str "cutstand.plain" 279)
abbrev m4:Value:=(.str "cutstand.pasts" 364)
abbrev m5:Value:=(.str "cutstand.clocks" 420)
abbrev m6:Value:=(.str "law_cutstand_k12_whole_what_is_before" 439)
noncomputable def en(P:Params)(k:Str)(t:Nat)(v:Value):DictEntry:=⟨PyData.keyHash P k,.str k t,v⟩
noncomputable def co(a:Array Value):Obj:=⟨.type "code",none,.fields a,#[]⟩
def cp(n:Nat):Value:=.str "/claim/cut.py" n
def iv(n:Nat):Value:=.int n 0
def Kf(P:Params):Frag:=[(3,⟨(.type "dict"),none,.dict #[en P "__name__" 165 (.str "law_cutstand_k12_whole_what_is_before" 439),en P "__doc__" 166 .none,en P "__package__" 167 .none,en P "__loader__" 168 (.builtin "__main__.__loader__#opaque"),en P "__spec__" 169 .none,en P "__annotations__" 170 (.ref 6),en P "__builtins__" 171 (.ref 4),en P "__file__" 173 (cp 172),en P "__cached__" 174 .none,en P "CutError" 206 (.ref 24),en P "NoDeed" 231 (.ref 44),en P "is_whole" 240 (.ref 53),en P "is_below" 248 (.ref 60),en P "is_sign" 255 (.ref 67),en P "answer" 268 (.ref 74),en P "waits" 278 (.ref 81),en P "is_plain" 288 (.ref 88),en P "machine_of" 296 (.ref 95),en P "can" 305 (.ref 102),en P "may_come" 311 (.ref 107),en P "outcome" 327 (.ref 114),en P "cause_of" 335 (.ref 121),en P "less_letter" 341 (.ref 126),en P "more_letter" 349 (.ref 133),en P "steps" 363 (.ref 140),en P "events_of" 371 (.ref 145),en P "letters_of" 389 (.ref 152),en P "sent_between" 400 (.ref 159),en P "right_ahead" 406 (.ref 164),en P "pasts" 419 (.ref 171),en P "clocks" 427 (.ref 176),en P "is_before" 438 (.ref 183),en P "_law_well" 449 (.ref 190),en P "_law_draw" 461 (.ref 197),en P "_law_roads" 474 (.ref 204),en P "_law_states" 485 (.ref 211),en P "_law_sends" 496 (.ref 218),en P "_law_moves" 513 (.ref 225),en P "_law_form" 519 (.ref 230),en P "_law_answer" 525 (.ref 235),en P "_law_comes" 531 (.ref 240),en P "_law_answered" 544 (.ref 247),en P "_law_machine" 552 (.ref 254),en P "_law_done" 558 (.ref 259),en P "_law_load" 571 (.ref 266),en P "_law_stand" 577 (.ref 271),en P "_law_next" 583 (.ref 276),en P "_law_deeds" 598 (.ref 283),en P "_law_bonds" 604 (.ref 288),en P "law" 610 (.ref 293)] 50,#[]⟩),(52,co #[(.str "is_whole" 234),(.str "is_whole" 235),(cp 236),(iv 9),(iv 1),(iv 0),(iv 0),(iv 3),(.ref 47),(.bool true),(iv 181),(.ref 48),.none,(.ref 49),(.ref 50),(.ref 51),(iv 238),(iv 9),(cp 239)]),(53,fo (fq "is_whole" s0 m0 (.ref 52))),(59,co #[(.str "is_below" 241),(.str "is_below" 242),(cp 243),(iv 11),(iv 2),(iv 0),(iv 0),(iv 3),(.ref 54),(.bool true),(iv 181),(.ref 55),.none,(.ref 56),(.ref 57),(.ref 58),(iv 246),(iv 11),(cp 247)]),(60,fo (fq "is_below" s1 m0 (.ref 59))),(66,co #[(.str "is_sign" 249),(.str "is_sign" 250),(cp 251),(iv 13),(iv 1),(iv 0),(iv 0),(iv 3),(.ref 61),(.bool true),(iv 181),(.ref 62),.none,(.ref 63),(.ref 64),(.ref 65),(iv 253),(iv 13),(cp 254)]),(67,fo (fq "is_sign" s2 m0 (.ref 66))),(73,co #[(.str "answer" 258),(.str "answer" 259),(cp 260),(iv 16),(iv 4),(iv 0),(iv 0),(iv 3),(.ref 68),(.bool true),(iv 181),(.ref 69),.none,(.ref 70),(.ref 71),(.ref 72),(iv 266),(iv 16),(cp 267)]),(74,fo (fq "answer" s3 m1 (.ref 73))),(80,co #[(.str "waits" 271),(.str "waits" 272),(cp 273),(iv 24),(iv 2),(iv 0),(iv 0),(iv 3),(.ref 75),(.bool true),(iv 181),(.ref 76),.none,(.ref 77),(.ref 78),(.ref 79),(iv 276),(iv 24),(cp 277)]),(81,fo (fq "waits" s4 m2 (.ref 80))),(87,co #[(.str "is_plain" 281),(.str "is_plain" 282),(cp 283),(iv 27),(iv 2),(iv 0),(iv 0),(iv 3),(.ref 82),(.bool true),(iv 181),(.ref 83),.none,(.ref 84),(.ref 85),(.ref 86),(iv 286),(iv 27),(cp 287)]),(88,fo (fq "is_plain" s5 m3 (.ref 87))),(94,co #[(.str "machine_of" 289),(.str "machine_of" 290),(cp 291),(iv 35),(iv 2),(iv 0),(iv 0),(iv 3),(.ref 89),(.bool true),(iv 181),(.ref 90),.none,(.ref 91),(.ref 92),(.ref 93),(iv 294),(iv 35),(cp 295)]),(95,fo (fq "machine_of" s6 m3 (.ref 94))),(101,co #[(.str "can" 297),(.str "can" 298),(cp 299),(iv 39),(iv 3),(iv 0),(iv 0),(iv 3),(.ref 96),(.bool true),(iv 181),(.ref 97),.none,(.ref 98),(.ref 99),(.ref 100),(iv 303),(iv 39),(cp 304)]),(102,fo (fq "can" s8 m3 (.ref 101))),(106,co #[(.str "may_come" 306),(.str "may_come" 307),(cp 308),(iv 47),(iv 3),(iv 0),(iv 0),(iv 3),(.ref 103),(.bool true),(iv 181),(.ref 104),.none,.none,.none,(.ref 105),(iv 309),(iv 47),(cp 310)]),(107,fo (fq "may_come" s7 m3 (.ref 106))),(113,co #[(.str "outcome" 312),(.str "outcome" 313),(cp 314),(iv 52),(iv 3),(iv 0),(iv 0),(iv 3),(.ref 108),(.bool true),(iv 181),(.ref 109),.none,(.ref 110),(.ref 111),(.ref 112),(iv 325),(iv 52),(cp 326)]),(114,fo (fq "outcome" s12 m3 (.ref 113))),(120,co #[(.str "cause_of" 328),(.str "cause_of" 329),(cp 330),(iv 66),(iv 2),(iv 0),(iv 0),(iv 3),(.ref 115),(.bool true),(iv 181),(.ref 116),.none,(.ref 117),(.ref 118),(.ref 119),(iv 333),(iv 66),(cp 334)]),(121,fo (fq "cause_of" s9 m3 (.ref 120))),(125,co #[(.str "less_letter" 336),(.str "less_letter" 337),(cp 338),(iv 72),(iv 2),(iv 0),(iv 0),(iv 3),(.ref 122),(.bool true),(iv 181),(.ref 123),.none,.none,.none,(.ref 124),(iv 339),(iv 72),(cp 340)]),(126,fo (fq "less_letter" V5 m3 (.ref 125))),(132,co #[(.str "more_letter" 342),(.str "more_letter" 343),(cp 344),(iv 74),(iv 2),(iv 0),(iv 0),(iv 3),(.ref 127),(.bool true),(iv 181),(.ref 128),.none,(.ref 129),(.ref 130),(.ref 131),(iv 347),(iv 74),(cp 348)]),(133,fo (fq "more_letter" Ym m3 (.ref 132))),(139,co #[(.str "steps" 350),(.str "steps" 351),(cp 352),(iv 76),(iv 3),(iv 0),(iv 0),(iv 3),(.ref 134),(.bool true),(iv 181),(.ref 135),.none,(.ref 136),(.ref 137),(.ref 138),(iv 361),(iv 76),(cp 362)]),(140,fo (fq "steps" s13 m3 (.ref 139))),(144,co #[(.str "events_of" 366),(.str "events_of" 367),(cp 368),(iv 87),(iv 2),(iv 0),(iv 0),(iv 3),(.ref 141),(.bool true),(iv 181),(.ref 142),.none,.none,.none,(.ref 143),(iv 369),(iv 87),(cp 370)]),(145,fo (fq "events_of" s14 m4 (.ref 144))),(151,co #[(.str "letters_of" 372),(.str "letters_of" 373),(cp 374),(iv 95),(iv 3),(iv 0),(iv 0),(iv 3),(.ref 146),(.bool true),(iv 181),(.ref 147),.none,(.ref 148),(.ref 149),(.ref 150),(iv 387),(iv 95),(cp 388)]),(152,fo (fq "letters_of" s16 m4 (.ref 151))),(158,co #[(.str "sent_between" 390),(.str "sent_between" 391),(cp 392),(iv 110),(iv 2),(iv 0),(iv 0),(iv 3),(.ref 153),(.bool true),(iv 181),(.ref 154),.none,(.ref 155),(.ref 156),(.ref 157),(iv 398),(iv 110),(cp 399)]),(159,fo (fq "sent_between" s15 m4 (.ref 158))),(163,co #[(.str "right_ahead" 401),(.str "right_ahead" 402),(cp 403),(iv 116),(iv 3),(iv 0),(iv 0),(iv 3),(.ref 160),(.bool true),(iv 181),(.ref 161),.none,.none,.none,(.ref 162),(iv 404),(iv 116),(cp 405)]),(164,fo (fq "right_ahead" s17 m4 (.ref 163))),(170,co #[(.str "pasts" 407),(.str "pasts" 408),(cp 409),(iv 128),(iv 3),(iv 0),(iv 0),(iv 3),(.ref 165),(.bool true),(iv 181),(.ref 166),.none,(.ref 167),(.ref 168),(.ref 169),(iv 417),(iv 128),(cp 418)]),(171,fo (fq "pasts" s18 m4 (.ref 170))),(175,co #[(.str "clocks" 422),(.str "clocks" 423),(cp 424),(iv 137),(iv 3),(iv 0),(iv 0),(iv 3),(.ref 172),(.bool true),(iv 181),(.ref 173),.none,.none,.none,(.ref 174),(iv 425),(iv 137),(cp 426)]),(176,fo (fq "clocks" s19 m5 (.ref 175))),(182,co #[(.str "is_before" 428),(.str "is_before" 429),(cp 430),(iv 147),(iv 4),(iv 0),(iv 0),(iv 3),(.ref 177),(.bool true),(iv 181),(.ref 178),.none,(.ref 179),(.ref 180),(.ref 181),(iv 436),(iv 147),(cp 437)]),(183,fo (fq "is_before" s20 m5 (.ref 182))),(189,co #[(.str "_law_well" 441),(.str "_law_well" 442),(cp 443),(iv 151),(iv 2),(iv 0),(iv 0),(iv 3),(.ref 184),(.bool true),(iv 181),(.ref 185),.none,(.ref 186),(.ref 187),(.ref 188),(iv 447),(iv 151),(cp 448)]),(190,fo (fq "_law_well" s21 m6 (.ref 189))),(196,co #[(.str "_law_draw" 450),(.str "_law_draw" 451),(cp 452),(iv 156),(iv 2),(iv 0),(iv 0),(iv 3),(.ref 191),(.bool true),(iv 181),(.ref 192),.none,(.ref 193),(.ref 194),(.ref 195),(iv 459),(iv 156),(cp 460)]),(197,fo (fq "_law_draw" s22 m6 (.ref 196))),(203,co #[(.str "_law_roads" 462),(.str "_law_roads" 463),(cp 464),(iv 166),(iv 2),(iv 0),(iv 0),(iv 3),(.ref 198),(.bool true),(iv 181),(.ref 199),.none,(.ref 200),(.ref 201),(.ref 202),(iv 472),(iv 166),(cp 473)]),(204,fo (fq "_law_roads" s23 m6 (.ref 203))),(210,co #[(.str "_law_states" 475),(.str "_law_states" 476),(cp 477),(iv 175),(iv 1),(iv 0),(iv 0),(iv 3),(.ref 205),(.bool true),(iv 181),(.ref 206),.none,(.ref 207),(.ref 208),(.ref 209),(iv 483),(iv 175),(cp 484)]),(211,fo (fq "_law_states" s24 m6 (.ref 210))),(217,co #[(.str "_law_sends" 486),(.str "_law_sends" 487),(cp 488),(iv 183),(iv 2),(iv 0),(iv 0),(iv 3),(.ref 212),(.bool true),(iv 181),(.ref 213),.none,(.ref 214),(.ref 215),(.ref 216),(iv 494),(iv 183),(cp 495)]),(218,fo (fq "_law_sends" s25 m6 (.ref 217))),(224,co #[(.str "_law_moves" 497),(.str "_law_moves" 498),(cp 499),(iv 189),(iv 3),(iv 0),(iv 0),(iv 3),(.ref 219),(.bool true),(iv 181),(.ref 220),.none,(.ref 221),(.ref 222),(.ref 223),(iv 511),(iv 189),(cp 512)]),(225,fo (fq "_law_moves" s26 m6 (.ref 224))),(229,co #[(.str "_law_form" 514),(.str "_law_form" 515),(cp 516),(iv 201),(iv 1),(iv 0),(iv 0),(iv 3),(.ref 226),(.bool true),(iv 181),(.ref 227),.none,.none,.none,(.ref 228),(iv 517),(iv 201),(cp 518)]),(230,fo (fq "_law_form" s27 m6 (.ref 229))),(234,co #[(.str "_law_answer" 520),(.str "_law_answer" 521),(cp 522),(iv 213),(iv 4),(iv 0),(iv 0),(iv 3),(.ref 231),(.bool true),(iv 181),(.ref 232),.none,.none,.none,(.ref 233),(iv 523),(iv 213),(cp 524)]),(235,fo (fq "_law_answer" s28 m6 (.ref 234))),(239,co #[(.str "_law_comes" 526),(.str "_law_comes" 527),(cp 528),(iv 218),(iv 2),(iv 0),(iv 0),(iv 3),(.ref 236),(.bool true),(iv 181),(.ref 237),.none,.none,.none,(.ref 238),(iv 529),(iv 218),(cp 530)]),(240,fo (fq "_law_comes" s29 m6 (.ref 239))),(246,co #[(.str "_law_answered" 532),(.str "_law_answered" 533),(cp 534),(iv 226),(iv 3),(iv 0),(iv 0),(iv 3),(.ref 241),(.bool true),(iv 181),(.ref 242),.none,(.ref 243),(.ref 244),(.ref 245),(iv 542),(iv 226),(cp 543)]),(247,fo (fq "_law_answered" s30 m6 (.ref 246))),(253,co #[(.str "_law_machine" 545),(.str "_law_machine" 546),(cp 547),(iv 235),(iv 2),(iv 0),(iv 0),(iv 3),(.ref 248),(.bool true),(iv 181),(.ref 249),.none,(.ref 250),(.ref 251),(.ref 252),(iv 550),(iv 235),(cp 551)]),(254,fo (fq "_law_machine" s31 m6 (.ref 253))),(258,co #[(.str "_law_done" 553),(.str "_law_done" 554),(cp 555),(iv 237),(iv 3),(iv 0),(iv 0),(iv 3),(.ref 255),(.bool true),(iv 181),(.ref 256),.none,.none,.none,(.ref 257),(iv 556),(iv 237),(cp 557)]),(259,fo (fq "_law_done" s32 m6 (.ref 258))),(265,co #[(.str "_law_load" 559),(.str "_law_load" 560),(cp 561),(iv 251),(iv 2),(iv 0),(iv 0),(iv 3),(.ref 260),(.bool true),(iv 181),(.ref 261),.none,(.ref 262),(.ref 263),(.ref 264),(iv 569),(iv 251),(cp 570)]),(266,fo (fq "_law_load" s33 m6 (.ref 265))),(270,co #[(.str "_law_stand" 572),(.str "_law_stand" 573),(cp 574),(iv 261),(iv 2),(iv 0),(iv 0),(iv 3),(.ref 267),(.bool true),(iv 181),(.ref 268),.none,.none,.none,(.ref 269),(iv 575),(iv 261),(cp 576)]),(271,fo (fq "_law_stand" s34 m6 (.ref 270))),(275,co #[(.str "_law_next" 578),(.str "_law_next" 579),(cp 580),(iv 270),(iv 3),(iv 0),(iv 0),(iv 3),(.ref 272),(.bool true),(iv 181),(.ref 273),.none,.none,.none,(.ref 274),(iv 581),(iv 270),(cp 582)]),(276,fo (fq "_law_next" s35 m6 (.ref 275))),(282,co #[(.str "_law_deeds" 584),(.str "_law_deeds" 585),(cp 586),(iv 282),(iv 4),(iv 0),(iv 0),(iv 3),(.ref 277),(.bool true),(iv 181),(.ref 278),.none,(.ref 279),(.ref 280),(.ref 281),(iv 596),(iv 282),(cp 597)]),(283,fo (fq "_law_deeds" s36 m6 (.ref 282))),(287,co #[(.str "_law_bonds" 599),(.str "_law_bonds" 600),(cp 601),(iv 291),(iv 3),(iv 0),(iv 0),(iv 3),(.ref 284),(.bool true),(iv 181),(.ref 285),.none,.none,.none,(.ref 286),(iv 602),(iv 291),(cp 603)]),(288,fo (fq "_law_bonds" s37 m6 (.ref 287))),(292,co #[(.str "law" 605),(.str "law" 606),(cp 607),(iv 306),(iv 1),(iv 0),(iv 0),(iv 3),(.ref 289),(.bool true),(iv 181),(.ref 290),.none,.none,.none,(.ref 291),(iv 608),(iv 306),(cp 609)]),(293,fo (fq "law" s38 m6 (.ref 292)))]
noncomputable def ads:List Addr:=[3,52,53,59,60,66,67,73,74,80,81,87,88,94,95,101,102,106,107,113,114,120,121,125,126,132,133,139,140,144,145,151,152,158,159,163,164,170,171,175,176,182,183,189,190,196,197,203,204,210,211,217,218,224,225,229,230,234,235,239,240,246,247,253,254,258,259,265,266,270,271,275,276,282,283,287,288,292,293]
theorem nob{P:Params}{h:Heap}{mg:Str->Option Value}(X:(Kf P).In h)(G:h.Ns mainGlobals mg):∀b∈cC,mg b=none:=by
 have z:cC.all (λb=>match PySem.W.nsIn (Kf P) mainGlobals b with | some none=>true | _=>false)=true:=nofun;intro b hb;have q:=DO.mp z b hb;split at q
 ·rename_i e;exact PySem.W.mg_none_of X G e
 ·cases q
abbrev AL(l:PySem.W.OpenLaw)(w:World)(mg:Str->Option Value)(base:Heap)(i:Nat):=All l.prog w (Kf w.params) mg base i (fs.take i)
theorem all_mk{l:PySem.W.OpenLaw}{w:World}{h:Heap}{mg:Str->Option Value}{fa:Addr}(X:(Kf w.params).In h)(G:h.Ns mainGlobals mg) (hfa:mg "law" = some (.ref fa)):∃fd:FuncData,(∀(s:Shared)(v:Value),BindsTo s fd ⟨[v],[]⟩ [("_law_script",v)])/\∀base:Heap,(Kf w.params).In base->base.Ns mainGlobals mg->iW l.prog w (Kf w.params) mg base Cf 39 fa fd ["_law_script"] (J1 (Kf w.params) 1 VD):=by
 have W:Cw (Kf w.params) h mg gs:=⟨X,G,nob X G,O_ X G (nofun)⟩;cases hfa.symm.trans (PySem.W.mg_of X G (show PySem.W.nsIn (Kf w.params) mainGlobals "law" = some (some (.ref 293)) by kernel_rfl));refine⟨fq "law" s38 m6 (.ref 292),λs v=>.of_eq rfl,λbase _ _=>?_⟩;have A0:AL l w mg base 0 []:=All.nil;have A1:AL l w mg base 1 (c1 []):=nx "is_whole" 53 s0 n0 ["thing"] b0 m0 (.ref 52) W A0;have A2:AL l w mg base 2 (c2 []):=nx "is_below" 60 s1 n1 ["thing","bound"] b1 m0 (.ref 59) W A1;have A3:AL l w mg base 3 (c3 []):=nx "is_sign" 67 s2 n2 ["thing"] b2 m0 (.ref 66) W A2;have A4:AL l w mg base 4 (c4 []):=nx "answer" 74 s3 n3 ["form","m","state","cause"] b3 m1 (.ref 73) W A3;have A5:AL l w mg base 5 (c5 []):=nx "waits" 81 s4 n4 ["stand","road"] b4 m2 (.ref 80) W A4;have A6:AL l w mg base 6 (c6 []):=nx "is_plain" 88 s5 n5 ["form","thing"] b5 m3 (.ref 87) W A5;have A7:AL l w mg base 7 (c7 []):=nx "machine_of" 95 s6 n6 ["form","deed"] b6 m3 (.ref 94) W A6;have A8:AL l w mg base 8 (c8 []):=nx "may_come" 107 s7 n7 ["form","stand","road"] b7 m3 (.ref 106) W A7;have A9:AL l w mg base 9 (c9 []):=nx "can" 102 s8 n8 ["form","stand","thing"] b8 m3 (.ref 101) W A8;have A10:AL l w mg base 10 (WO []):=nx "cause_of" 121 s9 n9 ["stand","deed"] b9 m3 (.ref 120) W A9;have A11:AL l w mg base 11 (WQ []):=nx "less_letter" 126 V5 n10 ["letters","k"] b10 m3 (.ref 125) W A10;have A12:AL l w mg base 12 (WR []):=nx "more_letter" 133 Ym n11 ["letters","sign"] b11 m3 (.ref 132) W A11;have A13:AL l w mg base 13 (WS []):=nx "outcome" 114 s12 n12 ["form","stand","deed"] b12 m3 (.ref 113) W A12;have A14:AL l w mg base 14 (WT []):=nx "steps" 140 s13 n13 ["form","stand","deeds"] b13 m3 (.ref 139) W A13;have A15:AL l w mg base 15 (WU []):=nx "events_of" 145 s14 n14 ["form","deeds"] b14 m4 (.ref 144) W A14;have A16:AL l w mg base 16 (WV []):=nx "sent_between" 159 s15 n15 ["ahead","behind"] b15 m4 (.ref 158) W A15;have A17:AL l w mg base 17 (WX []):=nx "letters_of" 152 s16 n16 ["form","stand","deeds"] b16 m4 (.ref 151) W A16;have A18:AL l w mg base 18 (WY []):=nx "right_ahead" 164 s17 n17 ["form","stand","deeds"] b17 m4 (.ref 163) W A17;have A19:AL l w mg base 19 (WZ []):=nx "pasts" 171 s18 n18 ["form","stand","deeds"] b18 m4 (.ref 170) W A18;have A20:AL l w mg base 20 (W0 []):=nx "clocks" 176 s19 n19 ["form","stand","deeds"] b19 m5 (.ref 175) W A19;have A21:AL l w mg base 21 (W2 []):=nx "is_before" 183 s20 n20 ["events","deed_clocks","one","other"] b20 m5 (.ref 182) W A20;have A22:AL l w mg base 22 (W3 []):=nx "_law_well" 190 s21 n21 ["_law_script","_law_k"] b21 m6 (.ref 189) W A21;have A23:AL l w mg base 23 (W4 []):=nx "_law_draw" 197 s22 n22 ["_law_well_here","_law_many"] b22 m6 (.ref 196) W A22;have A24:AL l w mg base 24 (W5 []):=nx "_law_roads" 204 s23 n23 ["_law_well_here","_law_machines"] b23 m6 (.ref 203) W A23;have A25:AL l w mg base 25 (W6 []):=nx "_law_states" 211 s24 n24 ["_law_well_here"] b24 m6 (.ref 210) W A24;have A26:AL l w mg base 26 (W7 []):=nx "_law_sends" 218 s25 n25 ["_law_well_here","_law_ways"] b25 m6 (.ref 217) W A25;have A27:AL l w mg base 27 (W8 []):=nx "_law_moves" 225 s26 n26 ["_law_well_here","_law_some","_law_ways"] b26 m6 (.ref 224) W A26;have A28:AL l w mg base 28 (W9 []):=nx "_law_form" 230 s27 n27 ["_law_script"] b27 m6 (.ref 229) W A27;have A29:AL l w mg base 29 (W_ []):=nx "_law_answer" 235 s28 n28 ["_law_form_here","_law_m","_law_state","_law_cause"] b28 m6 (.ref 234) W A28;have A30:AL l w mg base 30 (Xa []):=nx "_law_comes" 240 s29 n29 ["_law_form_here","_law_stand_here"] b29 m6 (.ref 239) W A29;have A31:AL l w mg base 31 (Xb []):=nx "_law_answered" 247 s30 n30 ["_law_form_here","_law_stand_here","_law_deed"] b30 m6 (.ref 246) W A30;have A32:AL l w mg base 32 (Xc []):=nx "_law_machine" 254 s31 n31 ["_law_form_here","_law_deed"] b31 m6 (.ref 253) W A31;have A33:AL l w mg base 33 (Xd []):=nx "_law_done" 259 s32 n32 ["_law_form_here","_law_stand_here","_law_deed"] b32 m6 (.ref 258) W A32;have A34:AL l w mg base 34 (Xe []):=nx "_law_load" 266 s33 n33 ["_law_well_here","_law_order"] b33 m6 (.ref 265) W A33;have A35:AL l w mg base 35 (Xf []):=nx "_law_stand" 271 s34 n34 ["_law_script","_law_form_here"] b34 m6 (.ref 270) W A34;have A36:AL l w mg base 36 (Xg []):=nx "_law_next" 276 s35 n35 ["_law_well_here","_law_form_here","_law_stand_here"] b35 m6 (.ref 275) W A35;have A37:AL l w mg base 37 (Xh []):=nx "_law_deeds" 283 s36 n36 ["_law_script","_law_form_here","_law_stand_here","_law_most"] b36 m6 (.ref 282) W A36;have A38:AL l w mg base 38 (Xi []):=nx "_law_bonds" 288 s37 n37 ["_law_form_here","_law_deeds_here","_law_letters"] b37 m6 (.ref 287) W A37;exact F5 "law" 293 s38 n38 ["_law_script"] Xj m6 (.ref 292) W A38 (nofun) (nofun) (nofun) ⋯
theorem QY{K:Frag}{H:Hp}{a:Addr}{xs:List V}(hO:Jd H)(h:fb K H a xs):wA K H a xs:=by
 rcases h with(h | ⟨o,h⟩) | h
 ·rcases hO a with q | ⟨o,ys,q⟩
  ·rw[q]at h;cases h
  ·rw[q]at h;cases h
 ·exact .inl ⟨o,h⟩
 ·exact .inr h
theorem xS{K:Frag}{H:Hp}{ads:List Addr}:∀(ns:List Int),aS K ads H (ns.map D.int) (ns.map V.int)
 | []=>by unfold aS;rfl
 | i::ns=>by
  show aS K ads H (D.int i::ns.map D.int) (V.int i::ns.map V.int);unfold aS;exact⟨_,_,rfl,by unfold RD;rfl,xS ns⟩
theorem walk {l : PySem.W.OpenLaw} {q : Program} {loose : List Str} {XP : (Str -> Option Value) -> Heap -> Prop} {YP : World -> Heap -> Prop} {d : DefRec} {K : Params -> Frag} (hlaw : ∀ ns : List Int, ns.length <= 63 -> ∃ M, VD [.ls (ns.map D.int)] [] = .ok (.d (.bl true)) M) (hn : l.most = some 63) (LI : d.params.defaults = [])
    (hY:∀(w:World)(h:Heap),YP w h->(K w.params).In h)
    (F:∀(w:World)(mg:Str->Option Value)(fa:Addr)(h:Heap),(K w.params).In h->h.Ns mainGlobals mg->mg d.name=some (.ref fa) ->
      ∃fd:FuncData,(∀(s:Shared)(u:Value),BindsTo s fd ⟨[u],[]⟩ [("_law_script",u)])/\∀base:Heap,(K w.params).In base->base.Ns mainGlobals mg->iW l.prog w (K w.params) mg base Cf 39 fa fd ["_law_script"] (J1 (K w.params) 1 VD)) :
    PySem.W.WalkO q loose XP YP l.row.toRowW d [] (λf vs=>PySem.call f vs) :=
  L2.Je (n:=63) (k:=39) (x := "_law_script") (CX:=λ_=>Cf) (sp:=λw=>J1 (K w.params) 1 VD) hn (by decide) LI ⟨rfl,by decide,by decide,rfl⟩ hY F (λw H a ns hl hO hS=>by
    obtain⟨M,hM⟩:=hlaw ns hl;refine⟨[],[],[.ls (ns.map D.int)],⟨DV,rfl,λn o a e _=>by simp at e⟩,.one ?_,rfl,?_⟩
    · unfold RD;exact⟨a,_,rfl,QY hO hS,xS ns⟩
    · rw[hM];intro v H' aE _ _ r;have r:RD (K w.params) aE H' (.bl true) v:=r;unfold RD at r;exact r) λ_ _ _ _ _ z=>z
def vw:Program:={PySem.Challenge.pw_cutstand_k12_whole_what_is_before with main:={PySem.Challenge.pw_cutstand_k12_whole_what_is_before.main with body:=[cV 1,cV 2,cV 4,cV 5,cV 6,cV 8,cV 10,cV 12,cV 13,cV 14,cV 15,cV 16,cV 17,cV 18,cV 19,cV 20,cV 22,cV 23,cV 24,cV 25,cV 26,cV 28,cV 29,cV 31,cV 32,cV 33,cV 34,cV 35,cV 36,cV 37,cV 38,cV 39,cV 40,cV 41,cV 42,cV 43,cV 44,cV 45,cV 46,cV 47,cV 48]}}
def hk:PySem.W.Hook:=PySem.W.kHook Kf ads (λ_=>nofun)
theorem lft:PySem.W.LeftO PySem.Challenge.pw_cutstand_k12_whole_what_is_before vw [] (λs=>PySem.W.xlAt vw [] s&&PySem.W.recOk [] s) (PySem.W.Hook.obs hk) (PySem.W.Hook.val hk) 3526:=by
 intro w
 kernel_rfl
theorem QZ:PySem.W.OpenLaw.wellSaid PySem.Challenge.rw_cutstand_k12_whole_what_is_before=true:=nofun
end iC
end
end
open PySem PySem.W PyProof.Rows
set_option maxRecDepth 100000 in
set_option maxHeartbeats 0 in
theorem PySem.Challenge.cw_cutstand_k12_whole_what_is_before_holds : PySem.Challenge.rw_cutstand_k12_whole_what_is_before.Holds := by
 refine holds_law iC.QZ λQZ=>?_;refine holds_open (q:=iC.vw) (loose:=[]) (Xt:=λs=>xlAt iC.vw [] s&&recOk [] s) (XP:=XL iC.vw []) (Yf:=Hook.obs iC.hk) (Ya:=Hook.val iC.hk) (YP:=Hook.says iC.hk) (N:=3526) iC.lft (Hook.of iC.hk) (Hook.keeps iC.hk) (λs e=>xl_of s (Bool.and_eq_true_iff.mp e).1) XL.keeps (by rfl) (by rfl) (by rfl) (λs e=>recFacts_of (Bool.and_eq_true_iff.mp e).2) (by rfl) QZ ⋯ ⟨rfl,rfl,rfl,rfl,rfl,⋯⟩ ?hw ?hc
 case hw=>w_witness2
 case hc=>exact iC.walk (l:=PySem.Challenge.rw_cutstand_k12_whole_what_is_before) (K:=iC.Kf) iC.Hx rfl rfl (λw h Y=>kIn_of Y) λw mg fa h KX G SU=>iC.all_mk KX G SU
