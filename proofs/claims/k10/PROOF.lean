import PyProof.Rows.All
import Wide.All
import OpenK.AllK
import Wide.FinOn
import Lean
import PyProof.EqAt
import PyProof.EqKinds
import PyProof.TupleCall
import PyProof.ZipIter
import PyProof.ListRange
import PyProof.TupleOfSeq
import PyProof.Rows.CallKwBuiltin
import PyProof.Rows.Range3
import KE.KFind
import PyProof.IsRules
import PyProof.DictIter
import PyProof.DictWalks
import PyProof.DictTruth
import PyProof.MeetsSeq
import PyProof.DictValues
import PyProof.Rows.SortWalk
import PySem.Challenge.RW_cutstand_k10_pasts
set_option Elab.async false
set_option linter.all false
set_option maxRecDepth 100000
set_option maxHeartbeats 4000000
local macro_rules
  | `(⋯) => `(by decide +kernel)
  | `(nofun) => `(by kernel_rfl)
  | `(∅) => `(by omega)
  | `(tactic| omega) => `(tactic| first | with_reducible assumption | decide +kernel | lia | omega (config := {}))
abbrev ag:=@PySem.wpAny_bind
abbrev aB:=@List.length_map
abbrev bq:=@List.getElem?_eq_some_iff
abbrev aT:=@Bool.false_ne_true
abbrev aA:=@PySem.wpAny_pure
abbrev bx:=@List.getElem?_eq_getElem
abbrev aU:=@Bool.and_eq_true
abbrev bz:=@PySem.Heap.get?_push_of_some
abbrev aI:=@Nat.le_refl
abbrev bj:=@List.getElem?_map
abbrev aw:=@if_pos
abbrev az:=@if_neg
abbrev cC:=@List.length_append
abbrev cG:=@List.size_toArray
abbrev cg:=@Option.some.inj
abbrev dq:=@List.mem_cons_of_mem
abbrev cj:=@List.mem_append
abbrev dw:=@List.mem_of_getElem?
abbrev bU:=@List.mem_cons
abbrev dP:=@PySem.Heap.get?_push_size
abbrev dC:=@List.mem_cons_self
abbrev cv:=@PySem.Heap.lt_size
abbrev cH:=@Nat.ne_of_lt
abbrev dg:=@List.mem_map
abbrev iC:=@List.getD_eq_getElem?_getD
abbrev eA:=@List.map_append
abbrev dr:=@Nat.le_trans
abbrev eJ:=@decide_eq_false
abbrev jn:=@List.getElem?_append_left
abbrev fC:=@PySem.wpAny_newObj_type
abbrev gj:=@List.mem_singleton
abbrev gF:=@Nat.lt_of_lt_of_le
abbrev jo:=@List.getElem?_eq_none
abbrev mD:=@List.getElem?_append_right
abbrev gW:=@List.length_take
abbrev mE:=@Array.getElem?_eq_getElem
abbrev gk:=@decide_eq_true
abbrev iq:=@List.lookup_cons
abbrev fO:=@List.map_cons
abbrev gX:=@List.find?_cons
abbrev mF:=@PySem.wpAny_callSpecial?_slot
abbrev iE:=@PySem.wpAny_call_entry
abbrev jq:=@Nat.lt_succ_of_lt
abbrev jr:=@Int.toNat_natCast
abbrev kg:=@PySem.Heap.SameBut.update
abbrev dh:=@Ne.symm
abbrev jt:=@List.length_cons
abbrev ju:=@Nat.lt_succ_self
abbrev jN:=@Bool.not_eq_true'
abbrev mG:=@List.mem_append_right
abbrev lh:=@List.filterMap_cons
abbrev jO:=@List.take_length
abbrev nz:=@Array.getElem?_toList
abbrev pS:=@List.getElem?_set_self
abbrev mH:=@PySem.Obj.data_mapFields
abbrev ir:=@Nat.lt_or_ge
abbrev pT:=@PySem.Heap.get?_update_self
abbrev kh:=@List.length_set
abbrev nF:=@Array.length_toList
abbrev nG:=@PySem.mem_of_lookup
abbrev nI:=@List.getElem?_range
abbrev lj:=@List.mem_nil_iff
abbrev mI:=@List.length_range
abbrev pU:=@List.getElem?_set_ne
abbrev lq:=@List.append_nil
abbrev uh:=@Option.isSome_iff_exists
abbrev pV:=@beq_eq_false_iff_ne
abbrev eP:=@if_true
abbrev iF:=@PySem.wpAny_field
abbrev AE:=@PyProof.Rows.slot_tuple_getitem
abbrev ki:=@Nat.lt_irrefl
abbrev kj:=@PySem.wpAny_holding
abbrev rn:=@List.mem_iff_getElem
abbrev rq:=@List.mem_of_mem_take
abbrev fP:=@or_false
abbrev pW:=@PySem.F.plainAttrs_list
abbrev nJ:=@PySem.W.kia_one
abbrev rB:=@List.pairwise_cons
abbrev nK:=@PySem.Heap.size_push
abbrev wL:=@PySem.PyData.canLayAll0.eq_1
abbrev wM:=@PySem.PyData.canLayAll0.eq_2
abbrev rC:=@List.append_assoc
abbrev rD:=@decide_eq_true_eq
abbrev jP:=@beq_iff_eq
abbrev CB:=@PySem.F.slot_dict_valueiterator_next
abbrev AF:=@List.getElem?_eq_none_iff
abbrev rE:=@List.not_mem_nil
abbrev rF:=@List.getElem_mem
abbrev lr:=@Nat.zero_le
abbrev pX:=@PySem.wpAny_setField
abbrev wN:=@PySem.Around.under_plainId
abbrev wQ:=@PySem.PyData.depthAll.eq_1
abbrev wR:=@PySem.PyData.depthAll.eq_2
abbrev ui:=@PySem.wpAny_truthy_bool
abbrev uj:=@List.nodup_append
abbrev rG:=@List.nodup_cons
abbrev wU:=@PySem.PyData.canLay0.eq_3
abbrev nM:=@Nat.le_of_lt
abbrev rH:=@List.mem_range
abbrev AG:=@PySem.Obj.isFreed_of_fields
abbrev CD:=@List.isEmpty_eq_false_iff
abbrev pY:=@Nat.ne_of_gt
abbrev pZ:=@List.map_nil
abbrev um:=@PySem.codeAny_builtin
abbrev jQ:=@and_self
abbrev wV:=@Option.isSome_map
abbrev wW:=@Option.some.injEq
abbrev wX:=@PySem.PyData.depth.eq_6
abbrev Gu:=@PySem.wpAny_typeNameOfWhole_valiter
abbrev AH:=@List.replicate_succ
abbrev AI:=@PySem.PyData.canLay0.eq_4
abbrev AJ:=@PySem.PyData.canLay0.eq_6
abbrev uo:=@List.nodup_nil
abbrev p0:=@Int.le_refl
abbrev Gv:=@PyProof.Rows.callWith_type1
abbrev rJ:=@Nat.le_of_eq
abbrev wY:=@List.mem_filter
abbrev wZ:=@PySem.wpAny_passesOwn
abbrev w4:=@List.length_nil
abbrev lu:=@congrArg
abbrev Gw:=@PySem.F.slot_tuple_iterator_next
abbrev uq:=@PySem.wpAny_attempt
abbrev AK:=@PySem.wpAny_setState_of
abbrev AM:=@List.ext_getElem?
abbrev AN:=@of_decide_eq_true
abbrev AO:=@PySem.PyData.depth.eq_7
abbrev AQ:=@PySem.PyData.depth.eq_2
abbrev p4:=@PySem.wpAny_mono
abbrev Gx:=@List.pairwise_iff_getElem
abbrev Gy:=@List.mem_of_find?_eq_some
abbrev w6:=@List.take_zero
abbrev Gz:=@PySem.wpAny_typeNameOf_valiter
abbrev AR:=@PySem.wpAny_askSetting
abbrev ur:=@PySem.F.called_set
abbrev AS:=@List.isEmpty_iff
abbrev CF:=@PySem.wpAny_setEntries_of
abbrev w8:=@PySem.plainId_quiet
abbrev rK:=@PySem.wpAny_rule
abbrev CG:=@PySem.wpAny_setField_rec
abbrev AU:=@Bool.or_eq_true
abbrev CH:=@Bool.false_eq_true
abbrev CI:=@PySem.PyData.eqvAll.eq_1
abbrev nN:=@if_false
abbrev uu:=@Nat.le_succ
abbrev K2:=@List.eq_nil_of_length_eq_zero
abbrev CJ:=@List.flatten_cons
abbrev CK:=@Nat.le_of_succ_le
abbrev CL:=@PySem.Obj.cls_mapFields
abbrev w_:=@PySem.wpAny_typeOf
abbrev GA:=@PySem.F.slot_enumerate_next
abbrev AV:=@PySem.wpAny_fieldsOf
abbrev GB:=@List.mem_append_left
abbrev uw:=@PySem.call_meets
abbrev CM:=@List.all_eq_true
abbrev GC:=@Nat.mul_le_mul_right
abbrev CN:=@Option.map_some
abbrev CO:=@PySem.PyData.eqv.eq_5
abbrev CP:=@List.range_succ
abbrev GD:=@PySem.tupleKind_room_in1
abbrev K3:=@PySem.F.args_tuple_add_2
abbrev GF:=@PySem.F.slot_list_extend
abbrev K4:=@PySem.F.slot_list_getattribute
abbrev AW:=@List.map_map
abbrev GG:=@Int.emod_lt_of_pos
abbrev AX:=@List.map_set
abbrev CQ:=@Nat.mul_le_mul
abbrev K5:=@PySem.F.entry_tuple_add
abbrev K6:=@List.length_eq_zero_iff
abbrev GH:=@PySem.fits_of_scanBound
abbrev GI:=@Nat.lt_trichotomy
abbrev GJ:=@List.flatMap_cons
abbrev AY:=@PySem.sizeLine_eq
abbrev K7:=@PySem.F.slot_tuple_add
abbrev K8:=@PySem.Calls.callWith_builtin
abbrev P8:=@List.findIdx?_eq_some_iff_getElem
abbrev K9:=@List.take_of_length_le
abbrev CS:=@PySem.Paired.length
abbrev CT:=@List.any_cons
abbrev GK:=@List.length_drop
abbrev GL:=@PySem.wpAny_isInstance
abbrev K_:=@List.length_replicate
abbrev La:=@PySem.builtinLookup_eq_fast
abbrev Lc:=@List.getElem?_toArray
abbrev Ld:=@PySem.wpAny_isOneOf_valiter
abbrev Le:=@List.take_append_drop
abbrev CU:=@PySem.codeAny_mono
abbrev CV:=@Nat.lt_trans
abbrev GN:=@Int.emod_nonneg
abbrev ux:=@Iff.rfl
abbrev Lf:=@Nat.lt_of_le_of_lt
abbrev Lg:=@List.any_eq_false
abbrev Lh:=@List.take_sublist
abbrev Li:=@List.reverse_cons
abbrev Lj:=@List.foldl_append
abbrev Lk:=@List.find?_append
abbrev Ll:=@List.getElem?_set
set_option autoImplicit true
noncomputable section
section
namespace L2
open PySem PySem.Spec PyProof.Rows
abbrev bH:=Sum Int Str
noncomputable def iG:bH->Value->Bool
 | .inl k,v=>Value.isInt k v
 | .inr x,v=>Value.isStrOf x v
noncomputable def VJ(w:World):bH->Int
 | .inl k=>hashInt k
 | .inr x=>hashStr w x
theorem cD:∀{k:bH}{v:Value},iG k v=true->(∃i t,k=Sum.inl i/\v=Value.int i t)\/(∃x t,k=Sum.inr x/\v=Value.str x t)
 | .inl i,v,h=>by
  obtain⟨t,e⟩:=Value.isInt_shape (k:=i) (v:=v) h;exact .inl ⟨i,t,rfl,e⟩
 | .inr x,v,h=>by
  obtain⟨t,e⟩:=Value.isStrOf_shape (x:=x) (v:=v) h;exact .inr ⟨x,t,rfl,e⟩
theorem qt(i:Int)(t:Tok):iG (.inl i) (.int i t)=true:=by simp[iG,Value.isInt]
theorem qu(x:Str)(t:Tok):iG (.inr x) (.str x t)=true:=by simp[iG,Value.isStrOf]
theorem CW(a b:Int):decide ((Sum.inl a:bH)=Sum.inl b)=(a==b):=by
 by_cases e:a=b
 ·subst e;simp
 ·have h:¬(Sum.inl a:bH)=Sum.inl b:=λq=>e (Sum.inl.inj q);rw[eJ h];exact(pV.mpr e).symm
theorem Ln(a b:Str):decide ((Sum.inr a:bH)=Sum.inr b)=decide (a=b):=by
 by_cases e:a=b
 ·subst e;simp
 ·have h:¬(Sum.inr a:bH)=Sum.inr b:=λq=>e (Sum.inr.inj q);rw[eJ h,eJ e]
theorem Lo(a:Int)(b:Str):decide ((Sum.inl a:bH)=Sum.inr b)=false:=eJ (λq=>nomatch q)
theorem Lp(a:Str)(b:Int):decide ((Sum.inr a:bH)=Sum.inl b)=false:=eJ (λq=>nomatch q)
def bA(prog:Program)(w:World):PySem.KeyKind prog w bH where
 is:=iG
 hash:=VJ w
 inj:=λv a b ha hb=>by
  rcases cD ha with⟨i,t,rfl,rfl⟩|⟨x,t,rfl,rfl⟩
  ·rcases cD hb with⟨j,u,rfl,e⟩|⟨y,u,rfl,e⟩
   ·injection e with e1 _;rw[e1]
   ·exact nomatch e
  ·rcases cD hb with⟨j,u,rfl,e⟩|⟨y,u,rfl,e⟩
   ·exact nomatch e
   ·injection e with e1 _;rw[e1]
 byValue:=λk v h=>by
  rcases cD h with⟨i,t,rfl,rfl⟩|⟨x,t,rfl,rfl⟩<;>rfl
 pyHash:=λhv h=>by
  rcases cD hv with⟨i,t,rfl,rfl⟩|⟨x,t,rfl,rfl⟩
  ·exact wpAny_pyHash_int h
  ·exact wpAny_pyHash_str h
 eqBool:=λhu hv h=>by
  rcases cD hu with⟨i,t,rfl,rfl⟩|⟨x,t,rfl,rfl⟩
  ·rcases cD hv with⟨j,u,rfl,rfl⟩|⟨y,u,rfl,rfl⟩
   ·rw[CW]at h;exact wpAny_eqBool_int h
   ·rw[Lo]at h;exact SeqAt.EqAt.int_str i t y u _ _ _ _ h
  ·rcases cD hv with⟨j,u,rfl,rfl⟩|⟨y,u,rfl,rfl⟩
   ·rw[Lp]at h;exact SeqAt.EqAt.str_int x t j u _ _ _ _ h
   ·rw[Ln]at h;exact wpAny_eqBool_str h
 «strs»:=λk x t v h=>by
  rcases cD h with⟨i,u,rfl,e⟩|⟨y,u,rfl,e⟩
  ·exact nomatch e
  ·injection e with e1 _;subst e1;cases v<;>rfl
theorem uy(prog:Program)(w:World)(i:Int)(t:Tok):(bA prog w).is (.inl i) (.int i t)=true:=qt i t
theorem uA(prog:Program)(w:World)(x:Str)(t:Tok):(bA prog w).is (.inr x) (.str x t)=true:=qu x t
inductive V where
 | aR | bl (b:Bool) | int (i:Int) | str (x:Str) | P9 (b:Array UInt8) | Pe (b:UInt64) | ref (a:Addr) | ty (n:String)
 deriving DecidableEq
noncomputable def RelV:V->Value->Prop
 | .aR,u=>u=Value.none
 | .bl b,u=>u=Value.bool b
 | .int i,u=>∃t,u=Value.int i t
 | .str x,u=>∃t,u=Value.str x t
 | .P9 b,u=>∃t,u=Value.bytes b t
 | .Pe b,u=>∃t,u=Value.float b t
 | .ref a,u=>u=Value.ref a
 | .ty n,u=>u=Value.type n
abbrev aS:List V->List Value->Prop:=Paired RelV
theorem aS.length(r:aS xs us):xs.length=us.length:=CS r
theorem aS.get:∀{xs:List V}{us:List Value}{i:Nat}{x:V},aS xs us->xs[i]?=some x->∃u,us[i]?=some u/\RelV x u
 | _,_,_,_,.nil,e=>by simp at e
 | _,_,0,_,.cons r _,e=>by simp at e;subst e;exact⟨_,rfl,r⟩
 | _,_,i+1,x,.cons _ t,e=>by
  obtain⟨u,h1,h2⟩:=aS.get (i:=i) (x:=x) t (by simpa using e);exact⟨u,by simpa using h1,h2⟩
theorem aS.set(r:RelV x u):∀{xs:List V}{us:List Value}(i:Nat),aS xs us->aS (xs.set i x) (us.set i u)
 | _,_,_,.nil=>.nil
 | _,_,0,.cons _ t=>.cons r t
 | _,_,i+1,.cons q t=>.cons q (aS.set r i t)
theorem aS.append:∀{xs ys:List V}{us ws:List Value},aS xs us->aS ys ws->aS (xs++ys) (us++ws)
 | _,_,_,_,.nil,s=>s
 | _,_,_,_,.cons r t,s=>.cons r (aS.append t s)
theorem aS.take:∀{xs:List V}{us:List Value}(n:Nat),aS xs us->aS (xs.take n) (us.take n)
 | _,_,0,_=>.nil
 | _,_,_+1,.nil=>.nil
 | _,_,n+1,.cons r t=>.cons r (aS.take n t)
theorem aS.drop:∀{xs:List V}{us:List Value}(n:Nat),aS xs us->aS (xs.drop n) (us.drop n)
 | _,_,0,r=>r
 | _,_,_+1,.nil=>.nil
 | _,_,n+1,.cons _ t=>aS.drop n t
def jR:Option V->Option Value->Prop
 | some v,some u=>RelV v u
 | none,none=>True
 | _,_=>False
def KV{κ:Type}:List (κ×V)->List (κ×Value)->Prop:=Paired λ(p:κ×V) (q:κ×Value)=>p.1=q.1/\RelV p.2 q.2
def kV:bH->V
 | .inl i=>.int i
 | .inr x=>.str x
inductive HO where
 | lst (xs:List V)
 | tup (xs:List V)
 | dK (ah:List (bH×V)) | dT (ah:List (List bH×V))
 | set (S:Int->Bool) (n:Nat)
 | ins (C dx:Addr) (fs:List (Str×V))
 | own (x:Addr)
 | xd (fs:List (Str×V))
 | met (f x:Addr)
 | lx (lo hi:Int)
 | eQ (o:Obj) (u:HO)
 | Lq (ps:Array Value)
 | ext (φ:Heap->Prop)
abbrev Hp:=Addr->Option HO
noncomputable def upd(H:Hp)(a:Addr)(o:HO):Hp:=λb=>if b=a then some o else H b
theorem bt:upd H a o a=some o:=by unfold upd;rw[aw rfl]
theorem aC(h:b≠a):upd H a o b=H b:=by unfold upd;rw[az h]
theorem P_{H:Hp}{a b:Addr}{o u:HO}(h:H a=some o)(h':H b=some u)(d:o≠u):a≠b:=by
 intro e;subst e;rw[h]at h';exact d (cg h')
theorem fD{H:Hp}{a b:Addr}{o:HO}(h:H a=some o)(h':H b=none):a≠b:=by
 intro e;subst e;rw[h]at h';cases h'
section
variable (P:Program) (w:World)
def bO(H:Hp)(h:Heap)(a:Addr):HO->Prop
  | .lst xs=>xs.length<=sizeLine/\∃(aG:List Value) (n:Nat),aS xs aG/\h.get? a=some {cls:=.type "list",data:=.seq aG.toArray n}
  | .tup xs=>xs.length<=sizeLine/\∃aG:List Value,aS xs aG/\IsTup h a aG.toArray
  | .dK ah=>ah.length<=sizeLine/\(a==sysModules)=false/\∃vs,KV ah vs/\h.DictOf (bA P w) a vs
  | .dT ah => ah.length <= sizeLine /\ (a == sysModules) = false /\ ∃ xs : List (List bH × Addr × Value),
      Paired (λ(p:List bH×V) (q:List bH×Addr×Value)=>p.1=q.1/\H q.2.1=some (.tup (p.1.map kV))/\RelV p.2 q.2.2) ah xs /\
      ∃o es ep,h.get? a=some o/\o.ExactDict/\o.data=.dict es ep/\es.toList=xs.map (entryOfKey (tupleKind (bA P w)))/\(xs.map (·.1)).Nodup
  | .set S n=>h.SetOf (intKind P w) a S n
  | .ins C dx fs => H dx = some (.own a) /\ fs.length <= 1000 /\ dx ≠ a /\ h.get? a = some (PySem.W.instObj C dx) /\
      ∃mA,h.Ns1 dx mA/\(∀f,jR (fs.lookup f) (mA f))/\PySem.Within mA (fs.map (·.1))
  | .own _=>∃o,h.get? a=some o
  | .xd fs=>∃mA,h.Ns1 a mA/\∀f,jR (fs.lookup f) (mA f)
  | .lx lo hi=>∃t u v,h.get? a=some {cls:=.type "range",data:=.fields #[.int lo t,.int hi u,.int 1 v]}
  | .eQ o u=>h.get? a=some o/\bO H h a u
  | .Lq ps=>h.get? a=some {cls:=.none,data:=.fields ps}
  | .met f x=>h.get? a=some (PySem.W.methodObj (.ref f) (.ref x))
  | .ext φ=>φ h/\(∃o,h.get? a=some o)/\∀h1 h2:Heap,φ h1->(∀o,h1.get? a=some o->h2.get? a=some o)->φ h2
def jy(H:Hp)(h:Heap):Prop:=∀a o,H a=some o->bO P w H h a o
end
section
variable {P:Program} {w:World} {H H':Hp} {h h':Heap} {a:Addr} {o:HO}
theorem bO.lt(x:bO P w H h a o):a<h.objs.size:=by
 cases o with
 | lst xs=>obtain⟨_,_,_,_,e⟩:=x;exact cv e
 | tup xs=>obtain⟨_,_,_,p⟩:=x;exact p.lt
 | dK ah=>obtain⟨_,_,_,_,o,_,_,e,_⟩:=x;exact cv e
 | dT ah=>obtain⟨_,_,_,_,o,_,_,e,_⟩:=x;exact cv e
 | set S n=>obtain⟨o,_,_,_,e,_⟩:=x;exact cv e
 | ins C dx fs=>obtain⟨_,_,_,e,_⟩:=x;exact cv e
 | own y=>obtain⟨_,e⟩:=x;exact cv e
 | xd fs=>obtain⟨_,⟨_,_,_,e,_⟩,_⟩:=x;exact cv e
 | lx lo hi=>obtain⟨_,_,_,e⟩:=x;exact cv e
 | eQ ob u=>obtain⟨e,_⟩:=x;exact cv e
 | Lq ps=>exact cv (show h.get? a=some _ from x)
 | met f y=>exact cv (show h.get? a=some _ from x)
 | ext φ=>obtain⟨_,⟨_,e⟩,_⟩:=x;exact cv e
theorem Paired.Lr{α β:Type}{F G:α->β->Prop}:∀{Qa:List α}{l₂:List β},Paired F Qa l₂->(∀a b,F a b->G a b)->Paired G Qa l₂
 | _,_,.nil,_=>.nil
 | _,_,.cons r t,f=>.cons (f _ _ r) (Paired.Lr t f)
theorem bO.AZ(x:bO P w H h a o)(k:∀b u,(b=a\/H b=some (.own a))->h.get? b=some u->h'.get? b=some u)(ho:∀b,H b=some (.own a)->H' b=some (.own a))(ht:∀b xs,H b=some (.tup xs)->H' b=some (.tup xs)):bO P w H' h' a o:=by
 induction o with
 | lst xs=>obtain⟨z,aG,n,r,e⟩:=x;exact⟨z,aG,n,r,k _ _ (.inl rfl) e⟩
 | tup xs=>obtain⟨z,aG,r,ob,e,c⟩:=x;exact⟨z,aG,r,ob,k _ _ (.inl rfl) e,c⟩
 | dK ah=>obtain⟨z,y,vs,r,ob,es,ep,e,c⟩:=x;exact⟨z,y,vs,r,ob,es,ep,k _ _ (.inl rfl) e,c⟩
 | dT ah =>
  obtain⟨z,y,xs,r,ob,es,ep,e,c⟩:=x;exact⟨z,y,xs,Paired.Lr r λp q z=>⟨z.1,ht _ _ z.2.1,z.2.2⟩,ob,es,ep,k _ _ (.inl rfl) e,c⟩
 | set S n=>obtain⟨ob,es,ep,t,e,c⟩:=x;exact⟨ob,es,ep,t,k _ _ (.inl rfl) e,c⟩
 | ins C dx fs =>
  obtain⟨d,z,ne,e,mA,⟨od,es,ep,e2,c⟩,r⟩:=x;exact⟨ho _ d,z,ne,k _ _ (.inl rfl) e,mA,⟨od,es,ep,k _ _ (.inr d) e2,c⟩,r⟩
 | own y=>obtain⟨ob,e⟩:=x;exact⟨ob,k _ _ (.inl rfl) e⟩
 | xd fs=>obtain⟨mA,⟨od,es,ep,e,c⟩,r⟩:=x;exact⟨mA,⟨od,es,ep,k _ _ (.inl rfl) e,c⟩,r⟩
 | lx lo hi=>obtain⟨t,u,v,e⟩:=x;exact⟨t,u,v,k _ _ (.inl rfl) e⟩
 | eQ ob u ih=>obtain⟨e,q⟩:=x;exact⟨k _ _ (.inl rfl) e,ih q⟩
 | Lq ps =>
  have e:h.get? a=some {cls:=.none,data:=.fields ps}:=x;show h'.get? a=some {cls:=.none,data:=.fields ps};exact k a _ (.inl rfl) e
 | met f y =>
  have e:h.get? a=some (PySem.W.methodObj (.ref f) (.ref y)):=x;show h'.get? a=some (PySem.W.methodObj (.ref f) (.ref y));exact k a _ (.inl rfl) e
 | ext φ=>obtain⟨p,⟨o,e⟩,st⟩:=x;exact⟨st _ _ p λo q=>k _ _ (.inl rfl) q,⟨o,k _ _ (.inl rfl) e⟩,st⟩
theorem jy.lt(x:jy P w H h)(e:H a=some o):a<h.objs.size:=(x a o e).lt
theorem jy.fresh(x:jy P w H h)(e:h.objs.size<=a):H a=none:=by
 cases q:H a with
 | none=>rfl
 | some u=>exact absurd (gF (x.lt q) e) (ki _)
theorem jy.kept(x:jy P w H h)(k:∀b u,h.get? b=some u->h'.get? b=some u):jy P w H h':=λa o e =>
 (x a o e).AZ (λb u _ q=>k b u q) (λ_ q=>q) λ_ _ q=>q
theorem jy.laid(x:jy P w H h)(k:∀b u,h.get? b=some u->h'.get? b=some u)(hp:h.objs.size<=a)(new:bO P w (upd H a o) h' a o):jy P w (upd H a o) h':=λb u e=>by
 have hn:=x.fresh hp;by_cases hb:b=a
 ·subst hb;rw[bt]at e;cases e;exact new
 ·rw[aC hb]at e;exact(x b u e).AZ (λc v _ q=>k c v q) (λc q=>by rw[aC (fD q hn)];exact q) λc xs q=>by rw[aC (fD q hn)];exact q
end
noncomputable def Rd(H:Hp)(a:Addr)(u:HO):Prop:=H a=some u\/∃o,H a=some (.eQ o u)
theorem Rd.ok(r:Rd H a u)(x:jy P w H h):bO P w H h a u:=by
 rcases r with r | ⟨o,r⟩
 ·exact x a u r
 ·obtain⟨_,q⟩:=x a _ r;exact q
noncomputable def Qb:Option HO->Prop
 | some (.lst _)=>True
 | some (.dK _)=>True
 | some (.dT _)=>True
 | some (.set _ _)=>True
 | some (.ins _ _ _)=>True
 | some (.ext _)=>True
 | _=>False
section
variable {P:Program} {w:World} {H:Hp} {h h':Heap} {x e:Addr} {o':HO}
theorem jy.write(ok:jy P w H h)(mu:Qb (H x))(he:e=x\/H e=some (.own x))(k:∀b u,b≠e->h.get? b=some u->h'.get? b=some u)(Pf:∃u,h'.get? e=some u)(new:bO P w (upd H x o') h' x o'):jy P w (upd H x o') h':=λb u q=>by
 have Qc:∀c y,H c=some (.own y)->c≠x:=λc y r z=>by subst z;rw[r]at mu;exact mu
 have VL:∀c xs,H c=some (.tup xs)->c≠x:=λc xs r z=>by subst z;rw[r]at mu;exact mu
 by_cases hb:b=x
 ·subst hb;rw[bt]at q;cases q;exact new
 ·rw[aC hb]at q;by_cases Lu:b=e
  ·have q':H b=some (.own x):=by
    rcases he with z | z
    ·exact absurd (Lu.trans z) hb
    ·rw[Lu];exact z
   rw[q]at q';cases q';obtain⟨v,hv⟩:=Pf;exact⟨v,by rw[Lu];exact hv⟩
  ·refine(ok b u q).AZ (λc v hc r=>k c v ?_ r) (λc r=>by rw[aC (Qc c b r)];exact r) λc xs r=>by rw[aC (VL c xs r)];exact r
   rcases hc with rfl | hc
   ·exact Lu
   ·rintro rfl;rcases he with z | z
    ·exact Qc c b hc z
    ·rw[hc]at z;cases z;exact hb rfl
end
structure Un (fs ex:List Addr) (H H':Hp) (h h':Heap):Prop where
 keep:∀b o,h.get? b=some o->H b=none->b∉fs->b∉ex->h'.get? b=some o
 slot:∀b o,h.get? b=some o->H b=none->b∈fs->b∉ex->∃sl,h'.get? b=some {o with slots:=sl}
 free:∀b o,h.get? b=some o->H b=none->b∉ex->H' b=none
 there:∀b o,h.get? b=some o->b∉ex->∃o',h'.get? b=some o'
 iu:∀b xs,H b=some (.tup xs)->H' b=some (.tup xs)
 rL:∀b o u,H b=some (.eQ o u)->H' b=some (.eQ o u)
 uB:∀b ps,H b=some (.Lq ps)->∃more,H' b=some (.Lq (ps++more))
section
variable {fs fs' ex ex':List Addr} {H H1 H2:Hp} {h h1 h2 h':Heap} {a x e:Addr} {o:HO}
theorem Un.any(u:Un fs ex H H1 h h1)(q:h.get? b=some ob)(n:H b=none)(hx:b∉ex):∃sl,h1.get? b=some {ob with slots:=sl}:=by
 by_cases hb:b∈fs
 ·exact u.slot b ob q n hb hx
 ·exact⟨ob.slots,u.keep b ob q n hb hx⟩
theorem Un.kept(k:∀b u,h.get? b=some u->h'.get? b=some u):Un fs ex H H h h' :=
 ⟨λb ob q _ _ _=>k b ob q,λb ob q _ _ _=>⟨ob.slots,k b ob q⟩,λ_ _ _ n _=>n,λb ob q _=>⟨ob,k b ob q⟩,λ_ _ q=>q,λ_ _ _ q=>q,λ_ ps q=>⟨#[],by rw[q];simp⟩⟩
theorem Un.refl:Un fs ex H H h h:=Un.kept λ_ _ q=>q
theorem Un.laid(k:∀b u,h.get? b=some u->h'.get? b=some u)(hp:h.objs.size<=a)(hn:H a=none):Un fs ex H (upd H a o) h h' where
 keep:=λb u q _ _ _=>k b u q
 slot:=λb u q _ _ _=>⟨u.slots,k b u q⟩
 free:=λb u q n _=>by rw[aC (cH (gF (cv q) hp))];exact n
 there:=λb u q _=>⟨u,k b u q⟩
 iu:=λb xs q=>by rw[aC (fD q hn)];exact q
 rL:=λb u xs q=>by rw[aC (fD q hn)];exact q
 uB:=λb ps q=>⟨#[],by rw[aC (fD q hn),q];simp⟩
theorem Un.write(mu:Qb (H x))(he:e=x\/H e=some (.own x))(k:∀b u,b≠e->h.get? b=some u->h'.get? b=some u)(Pf:∃u,h'.get? e=some u):Un fs ex H (upd H x o) h h':=by
 have hx:∀b,H b=none->b≠x:=λb n z=>by subst z;rw[n]at mu;exact mu
 have hb:∀b,H b=none->b≠e:=λb n z=>by
  subst z;rcases he with r | r
  ·exact hx b n r
  ·rw[n]at r;cases r
 have hm:∀b u,H b=some u->¬Qb (some u)->b≠x:=λb u q nm z=>by subst z;rw[q]at mu;exact nm mu
 refine⟨λb u q n _ _=>k b u (hb b n) q,λb u q n _ _=>⟨u.slots,k b u (hb b n) q⟩,λb u q n _=>by rw[aC (hx b n)];exact n,λb u q _=>?_,
  λb xs q=>by rw[aC (hm b _ q λz=>z)];exact q,λb u xs q=>by rw[aC (hm b _ q λz=>z)];exact q,λb ps q=>⟨#[],by rw[aC (hm b _ q λz=>z),q];simp⟩⟩
 by_cases Lu:b=e
 ·subst Lu;exact Pf
 ·exact⟨u,k b u Lu q⟩
end
noncomputable def Uc(h:Heap)(H:Hp):List Addr:=(List.range h.objs.size).filter λa=>(H a).isSome
def rM(h:Heap)(H:Hp):Heap:=PySem.W.hideAll h (Uc h H)
theorem A_(h:Heap)(H:Hp):(rM h H).objs.size=h.objs.size:=PySem.W.hideAll_size _ _
theorem CY(e:h.get? b=some o)(n:H b=none):(rM h H).get? b=some o :=
 PySem.W.hideAll_get _ e λhm=>by
  have q:(H b).isSome=true:=(wY.mp hm).2;rw[n]at q;simp at q
theorem GO(e:(rM h H).get? b=some o):h.get? b=some o/\H b=none:=by
 have e':h.get? b=some o:=PySem.W.of_hideAll (Uc h H) e;refine⟨e',?_⟩
 cases q:H b with
 | none=>rfl
 | some x =>
  have hm:b∈Uc h H:=wY.mpr ⟨rH.mpr (cv e'),by simp[q]⟩;have z:(rM h H).get? b=none:=PySem.W.hideAll_none (Uc h H) hm;rw[z]at e;cases e
noncomputable def GP(g h:Heap)(L:Addr):List (Addr×Obj):=(List.range h.objs.size).filterMap λa=>if a=L\/(g.get? a).isSome=true then none else (h.get? a).map λo=>(a,o)
def fc(g h:Heap)(L d:Addr):List (Addr×Obj):=(GP g h L).filter λp=>decide (p.1≠d)
structure Mod (K:PySem.W.Frag) (mg:Str->Option Value) (base:Heap):Prop where
 Qd:K.In base
 glob:base.Ns mainGlobals mg
 blt:∃mb,base.Ns builtinsNs mb/\∀x:Str,x≠ "__name__" -> mb x=bootBuiltins x
 nolimit:base.NoLimit
structure Cx where
 prog:Program
 w:World
 K:PySem.W.Frag
 mg:Str->Option Value
 base:Heap
 A:Around
 N:List Str
 ff:Shared
 uC:Hp
 env:Env
 outer:List Env
 stack:List Env
 ex:List Addr
 fn:Str->Bool
 calm:Bool
 pn:List (Addr×Obj)
 xe:Value->Shared->Prop
def CZ(l:List Env):List Addr:=l.filterMap (·.frame)
abbrev Cx.fs(X:Cx):List Addr:=CZ X.outer
noncomputable def Ud(sc:Scope)(x:Str):Prop:=sc.names.lookup x=some .local\/sc.names.lookup x=some .cell\/sc.names.lookup x=some .free
noncomputable def Loc(sc:Scope)(x:Str):Prop:=sc.names.lookup x=some .local\/sc.names.lookup x=some .cell
noncomputable def Look(env:Env)(h:Heap)(m:Str->Option Value)(x:Str)(u:Value):Prop :=
 (env.kindOf x=some .local/\m x=some u)\/((env.kindOf x=some .cell\/env.kindOf x=some .free)/\∃c,env.cells.lookup x=some c/\h.IsCell c (some u))
structure Cx.Ok (X:Cx):Prop where
 mod:Mod X.K X.mg X.base
 kind:X.env.scope.kind=.function
 glob:X.env.globals=mainGlobals
 blt:X.env.builtins=builtinsNs
 above:X.ff.heap.objs.size<=X.env.locals
 inj:∀x y c,X.env.cells.lookup x=some c->X.env.cells.lookup y=some c->x=y
 has:∀x,(X.env.kindOf x=some .cell\/X.env.kindOf x=some .free)->∃c,X.env.cells.lookup x=some c
 Lv:∀x c,X.fn x=true->X.env.cells.lookup x=some c->X.ff.heap.objs.size<=c
 hd:X.calm=true->X.A.handled=none
 frames:X.A.frames=some X.stack
 Ue:X.stack=X.outer\/(X.stack=X.env::X.outer/\X.env.frame=some X.env.locals)
 VM:∀b∈X.ex,b≠X.env.locals/\∀x c,X.env.cells.lookup x=some c->c≠b
 bs:∀b o,X.base.get? b=some o->X.ff.heap.get? b=some o/\X.uC b=none
 J1:X.base.objs.size<=X.ff.heap.objs.size
 C0:∀b o,X.base.get? b=some o->b∉X.ex
 C1:∀b∈X.ex,b∉X.fs
 nO:X.ff.heap.FunFrames X.base X.outer
 Pg:∀b∈X.fs,X.uC b=none
structure Inv (X:Cx) (aa:List (Addr×Obj)) (σ:List (Option V)) (H:Hp) (s:Shared):Prop where
 ok:X.Ok
 os:s.os=X.ff.os
 bare:AllBare s.gens
 base:Un X.fs X.ex X.uC H X.ff.heap s.heap
 loc:∃m,s.heap.Ns X.env.locals m/\∀(i:Nat)(x:Str)(v:V),X.N[i]?=some x->σ[i]?=some (some v)->Ud X.env.scope x->∃u,RelV v u/\Look X.env s.heap m x u
 cell:∀x c,X.env.cells.lookup x=some c->∃v,s.heap.IsCell c v
 free:H X.env.locals=none
 jz:∀x c,X.env.cells.lookup x=some c->H c=none
 pin:∀p∈X.pn++aa,s.heap.get? p.1=some p.2/\H p.1=none/\p.1≠X.env.locals/\p.1∉X.fs/\∀v,p.2.data≠.cell v
 bJ:jy X.prog X.w H s.heap
 len:σ.length=X.N.length
section
variable {X:Cx} {aa:List (Addr×Obj)} {σ:List (Option V)} {H H':Hp} {s:Shared} {h':Heap}
theorem Cx.Ok.VN(ok:X.Ok)(e:X.base.get? b=some o):b∉X.fs:=λhb=>by
 have:=(ok.nO.mem hb).1;rw[e]at this;cases this
theorem Inv.bs(I:Inv X aa σ H s):∀b o,X.base.get? b=some o->s.heap.get? b=some o/\H b=none:=λb o e =>
 ⟨I.base.keep b o (I.ok.bs b o e).1 (I.ok.bs b o e).2 (I.ok.VN e) (I.ok.C0 b o e),I.base.free b o (I.ok.bs b o e).1 (I.ok.bs b o e).2 (I.ok.C0 b o e)⟩
theorem Inv.bk(I:Inv X aa σ H s):∀b o,X.base.get? b=some o->s.heap.get? b=some o:=λb o e=>(I.bs b o e).1
theorem Inv.mod(I:Inv X aa σ H s):Mod X.K X.mg X.base:=I.ok.mod
theorem Inv.uD(I:Inv X aa σ H s):X.K.In s.heap:=I.ok.mod.Qd.keeps I.bk
theorem Inv.lt(I:Inv X aa σ H s):X.env.locals<s.heap.objs.size:=let ⟨_,hn,_⟩:=I.loc;hn.lt
theorem Inv.sz(I:Inv X aa σ H s):X.ff.heap.objs.size<=s.heap.objs.size:=dr I.ok.above (nM I.lt)
theorem Inv.Qe(I:Inv X aa σ H s)(h:s.heap.objs.size<=a):a∉X.fs:=λhb=>by
 obtain⟨_,o,ho,_⟩:=I.ok.nO.mem hb;exact absurd (gF (cv ho) (dr I.sz h)) (ki _)
theorem Inv.Lw(I:Inv X aa σ H s):∀x c,X.env.cells.lookup x=some c->c≠X.env.locals:=λx c e z=>by
 obtain⟨v,o,ho,hd⟩:=I.cell x c e;obtain⟨m,⟨o',es,ep,yV,Qf,_⟩,_⟩:=I.loc;rw[z,yV]at ho;cases ho;rw[Qf]at hd;cases hd
theorem Inv.nO(I:Inv X aa σ H s):s.heap.FunFrames X.base X.outer:=by
 have all:∀(l:List Env),(∀b∈CZ l,b∈X.fs)->X.ff.heap.FunFrames X.base l->s.heap.FunFrames X.base l:=by
  intro l
  induction l with
  | nil=>intro _ _;trivial
  | cons env r ih =>
   intro hs hl;obtain⟨hk,⟨L,o,hf,hn,ho,hd⟩,hr⟩:=hl;have hL:L∈X.fs:=hs L (by unfold CZ;rw[lh,hf];exact dC);obtain⟨sl,e⟩:=I.base.slot L o ho (I.ok.Pg L hL) hL λz=>I.ok.C1 L z hL;exact⟨hk,⟨L,_,hf,hn,e,hd⟩,ih (λb hb=>hs b (by unfold CZ;rw[lh,hf];exact dq _ hb)) hr⟩
 exact all X.outer (λ_ hb=>hb) I.ok.nO
theorem Inv.stack(I:Inv X aa σ H s):s.heap.FunFrames X.base X.stack:=by
 rcases I.ok.Ue with e | ⟨e,hf⟩
 ·rw[e];exact I.nO
 ·rw[e];obtain⟨m,hn,_⟩:=I.loc;refine .cons (by rw[I.ok.kind];decide) hf hn ?_ I.nO;exact Heap.get?_none_of_le (dr I.ok.J1 I.ok.above)
theorem Inv.xa(I:Inv X aa σ H s):∀b∈CZ X.stack,b∈X.env.locals::X.fs:=λb hb=>by
 rcases I.ok.Ue with e | ⟨e,hf⟩
 ·rw[e]at hb;exact dq _ hb
 ·rw[e]at hb;unfold CZ at hb;rw[lh,hf]at hb;exact hb
theorem Inv.yW(I:Inv X aa σ H s):∀b∈CZ X.stack,H b=none:=λb hb=>by
 rcases bU.mp (I.xa b hb)with e | hb
 ·rw[e];exact I.free
 ·obtain⟨_,o,ho,_⟩:=I.ok.nO.mem hb;exact I.base.free b o ho (I.ok.Pg b hb) λz=>I.ok.C1 b z hb
theorem Inv.step{t':Nat}{ch:List Addr}(I:Inv X aa σ H s)(Cr:∀b∈ch,(b∈X.ex\/X.ff.heap.objs.size<=b)/\b≠X.env.locals/\(∀x c,X.env.cells.lookup x=some c->c≠b)/\∀p∈X.pn++aa,p.1≠b)(keep:∀b o,b≠X.env.locals->b∉X.fs->b∉ch->s.heap.get? b=some o->H b=none->h'.get? b=some o)(slot:∀b o,b≠X.env.locals->b∈X.fs->b∉ch->s.heap.get? b=some o->H b=none->∃sl,h'.get? b=some {o with slots:=sl})(free:∀b o,b∉ch->s.heap.get? b=some o->H b=none->H' b=none)(there:∀b o,b∉ch->s.heap.get? b=some o->∃o',h'.get? b=some o')(iu:∀b xs,H b=some (.tup xs)->H' b=some (.tup xs))(rL:∀b o u,H b=some (.eQ o u)->H' b=some (.eQ o u))(uB:∀b ps,H b=some (.Lq ps)->∃more,H' b=some (.Lq (ps++more)))(ns:∀m,s.heap.Ns X.env.locals m->h'.Ns X.env.locals m)(bJ:jy X.prog X.w H' h')(hg:AllBare g'):Inv X aa σ H' {s with heap:=h',gens:=g',drawn:=d',toks:=t'}:=by
 have YB:∀b o,X.ff.heap.get? b=some o->b≠X.env.locals:=λb o e=>cH (gF (cv e) I.ok.above)
 have Ug:∀b o,X.ff.heap.get? b=some o->b∉X.ex->b∉ch:=λb o e hx hb=>by
  rcases(Cr b hb).1 with z | z
  ·exact hx z
  ·exact absurd (gF (cv e) z) (ki _)
 have cellK:∀x c,X.env.cells.lookup x=some c->∀v,s.heap.IsCell c v->h'.IsCell c v:=λx c e v ⟨o,ho,hd⟩=>by
  have Qg:c∉ch:=λz=>(Cr c z).2.2.1 x c e rfl;by_cases hc:c∈X.fs
  ·obtain⟨sl,q⟩:=slot c o (I.Lw x c e) hc Qg ho (I.jz x c e);exact⟨_,q,hd⟩
  ·exact⟨o,keep c o (I.Lw x c e) hc Qg ho (I.jz x c e),hd⟩
 refine⟨I.ok,I.os,hg,⟨λb o e n hb hx=>?_,λb o e n hb hx=>?_,λb o e n hx=>?_,λb o e hx=>?_,λb xs e=>iu b xs (I.base.iu b xs e),λb o xs e=>rL b o xs (I.base.rL b o xs e),λb ps e=>?_⟩,?_,λx c e=>?_,?_,λx c e=>?_,λp hp=>?_,bJ,I.len⟩
 ·exact keep b o (YB b o e) hb (Ug b o e hx) (I.base.keep b o e n hb hx) (I.base.free b o e n hx)
 ·obtain⟨sl,e1⟩:=I.base.slot b o e n hb hx;obtain⟨sl',e2⟩:=slot b _ (YB b o e) hb (Ug b o e hx) e1 (I.base.free b o e n hx);exact⟨sl',e2⟩
 ·obtain⟨o',e1⟩:=I.base.there b o e hx;exact free b o' (Ug b o e hx) e1 (I.base.free b o e n hx)
 ·obtain⟨o',e1⟩:=I.base.there b o e hx;exact there b o' (Ug b o e hx) e1
 ·obtain⟨m1,e1⟩:=I.base.uB b ps e;obtain⟨m2,e2⟩:=uB b _ e1;exact⟨m1++m2,by rw[e2,Array.append_assoc]⟩
 ·obtain⟨m,hn,hl⟩:=I.loc;refine⟨m,ns m hn,λi x v e1 e2 e3=>?_⟩;obtain⟨u,r,l⟩:=hl i x v e1 e2 e3;refine⟨u,r,?_⟩;rcases l with l | ⟨k,c,e,z⟩
  ·exact .inl l
  ·exact .inr ⟨k,c,e,cellK x c e _ z⟩
 ·obtain⟨v,z⟩:=I.cell x c e;exact⟨v,cellK x c e v z⟩
 ·obtain⟨m,⟨o,_,_,ho,_⟩,_⟩:=I.loc;exact free _ o (λz=>(Cr _ z).2.1 rfl) ho I.free
 ·obtain⟨v,o,ho,hd⟩:=I.cell x c e;exact free c o (λz=>(Cr c z).2.2.1 x c e rfl) ho (I.jz x c e)
 ·obtain⟨e,n,ne,nf,d⟩:=I.pin p hp;have Qg:p.1∉ch:=λz=>(Cr p.1 z).2.2.2 p hp rfl;exact⟨keep p.1 p.2 ne nf Qg e n,free p.1 p.2 Qg e n,ne,nf,d⟩
theorem Inv.un{t':Nat}(I:Inv X aa σ H s)(u:Un X.fs [] H H' s.heap h')(bJ:jy X.prog X.w H' h'):Inv X aa σ H' {s with heap:=h',toks:=t'}:=by
 obtain⟨m,⟨o,es,ep,ho,r⟩,_⟩:=id I.loc;obtain⟨sl,hL⟩:=u.any ho I.free (by simp)
 exact I.step (g':=s.gens) (d':=s.drawn) (ch:=[]) (λ_ z=>nomatch z) (λb o _ hb _ e n=>u.keep b o e n hb (by simp)) (λb o _ hb _ e n=>u.slot b o e n hb (by simp)) (λb o _ e n=>u.free b o e n (by simp)) (λb o _ e=>u.there b o e (by simp)) u.iu u.rL u.uB (λm' hm=>by
  obtain⟨o',iw,VO,yV,r'⟩:=hm;rw[ho]at yV;cases yV;exact⟨_,iw,VO,hL,r'⟩) bJ I.bare
theorem Inv.call{t':Nat}{ch:List Addr}(I:Inv X aa σ H s)(u:Un (CZ X.stack) ch H H' s.heap h')(bJ:jy X.prog X.w H' h')(hg:AllBare g')(Cr:∀b∈ch,(b∈X.ex\/X.ff.heap.objs.size<=b)/\b≠X.env.locals/\(∀x c,X.env.cells.lookup x=some c->c≠b)/\∀p∈X.pn++aa,p.1≠b):Inv X aa σ H' {s with heap:=h',gens:=g',drawn:=d',toks:=t'}:=by
 obtain⟨m,⟨o,es,ep,ho,r⟩,_⟩:=id I.loc;obtain⟨sl,hL⟩:=u.any ho I.free λz=>(Cr _ z).2.1 rfl
 exact I.step (ch:=ch) Cr (λb o hL hb hc e n=>u.keep b o e n (λz=>(bU.mp (I.xa b z)).elim hL hb) hc) (λb o _ _ hc e n=>u.any e n hc) (λb o hc e n=>u.free b o e n hc) (λb o hc e=>u.there b o e hc) u.iu u.rL u.uB (λm' hm=>by
  obtain⟨o',iw,VO,yV,r'⟩:=hm;rw[ho]at yV;cases yV;exact⟨_,iw,VO,hL,r'⟩) bJ hg
theorem Inv.turned{t':Nat}(I:Inv X aa σ H s)(k:∀b o,b≠it->s.heap.get? b=some o->h'.get? b=some o)(hn:H it=none)(hL:it≠X.env.locals)(h1:it∈X.ex\/X.ff.heap.objs.size<=it)(h2:∀x c,X.env.cells.lookup x=some c->c≠it)(h3:∀p∈X.pn++aa,p.1≠it):Inv X aa σ H {s with heap:=h',toks:=t'}:=by
 have Qh:∀b u,H b=some u->b≠it:=λb u e z=>by rw[z,hn]at e;cases e
 refine I.step (g':=s.gens) (d':=s.drawn) (ch:=[it]) (λb hb=>?_) (λb o _ _ hc e _=>k b o (λz=>hc (by simp[z])) e) (λb o _ _ hc e _=>⟨o.slots,k b o (λz=>hc (by simp[z])) e⟩) (λ_ _ _ _ n=>n)
  (λb o hc e=>⟨o,k b o (λz=>hc (by simp[z])) e⟩) (λ_ _ e=>e) (λ_ _ _ e=>e) (λb ps e=>⟨#[],by rw[e];simp⟩) (λm hm=>?_) (λb u e=>?_) I.bare
 ·have e:b=it:=by simpa using hb
  subst e;exact⟨h1,hL,h2,h3⟩
 ·obtain⟨o,es,ep,ho,r⟩:=hm;exact⟨o,es,ep,k _ o (dh hL) ho,r⟩
 ·refine(I.bJ b u e).AZ (λc v hc q=>k c v ?_ q) (λ_ q=>q) λ_ _ q=>q;rcases hc with z | z
  ·rw[z];exact Qh b u e
  ·exact Qh c _ z
theorem Inv.tok(I:Inv X aa σ H s)(t:Nat):Inv X aa σ H {s with toks:=t}:=I.un (h':=s.heap) (t':=t) Un.refl I.bJ
theorem Inv.kept(I:Inv X aa σ H s)(k:∀b u,s.heap.get? b=some u->h'.get? b=some u):Inv X aa σ H {s with heap:=h',toks:=t'}:=I.un (Un.kept k) (I.bJ.kept k)
theorem Inv.laid(I:Inv X aa σ H s)(k:∀b u,s.heap.get? b=some u->h'.get? b=some u)(hp:s.heap.objs.size<=a)(new:bO X.prog X.w (upd H a o) h' a o):Inv X aa σ (upd H a o) {s with heap:=h',toks:=t'}:=I.un (Un.laid k hp (I.bJ.fresh hp)) (I.bJ.laid k hp new)
theorem Inv.write(I:Inv X aa σ H s)(mu:Qb (H x))(he:e=x\/H e=some (.own x))(k:∀b u,b≠e->s.heap.get? b=some u->h'.get? b=some u)(Pf:∃u,h'.get? e=some u)(new:bO X.prog X.w (upd H x o) h' x o):Inv X aa σ (upd H x o) {s with heap:=h',toks:=t'}:=I.un (Un.write mu he k Pf) (I.bJ.write mu he k Pf new)
theorem Inv.rN(I:Inv X aa σ H s)(h:∀p∈Qi,s.heap.get? p.1=some p.2/\H p.1=none/\p.1≠X.env.locals/\p.1∉X.fs/\∀v,p.2.data≠.cell v):Inv X Qi σ H s :=
 ⟨I.ok,I.os,I.bare,I.base,I.loc,I.cell,I.free,I.jz,λp hp=>(cj.mp hp).elim (λz=>I.pin p (GB _ z)) (h p),I.bJ,I.len⟩
theorem uE{N:List Str}(hN:N.Nodup){i j:Nat}{x:Str}(a:N[i]?=some x)(b:N[j]?=some x):i=j:=by
 obtain⟨h1,e1⟩:=bq.mp a;obtain⟨h2,e2⟩:=bq.mp b;exact(List.getElem_inj hN).mp (e1.trans e2.symm)
theorem Ba{i:Nat}{x:Str}{v:V}(I:Inv X aa σ H s)(hN:X.N.Nodup)(hi:X.N[i]?=some x)(hx:Loc X.env.scope x)(r:RelV v u)(h:∀s',Inv X aa (σ.set i (some v)) H s'->(∃a,Heap.SameBut a s.heap s'.heap/\(a=X.env.locals\/X.env.cells.lookup x=some a))->Q () s')(hf:X.fn x=true\/X.env.scope.names.lookup x=some .local:=by first | exact .inl rfl | exact .inr rfl | assumption):wpAny M A (storeName X.env x u) Q E s:=by
 obtain⟨m,hn,hl⟩:=id I.loc;have VP:(X.env.scope.kind == .class||(X.env.scope.kind == .module&&X.env.locals != X.env.globals))=false:=by rw[I.ok.kind];rfl
 have Qj:i<σ.length:=by rw[I.len];exact(bq.mp hi).1
 have Lw:=I.Lw
 have tracked:∀{a:Addr}{h':Heap},(∃o,s.heap.get? a=some o/\H a=none)->Heap.SameBut a s.heap h'->jy X.prog X.w H h':=λ{a h'} ha hs b ob e=>by
  obtain⟨_,_,uF⟩:=ha;refine(I.bJ b ob e).AZ (λc w' hc q=>(hs.2 c ?_).trans q) (λ_ q=>q) λ_ _ q=>q;rintro rfl;rcases hc with rfl | hc
  ·rw[uF]at e;cases e
  ·rw[uF]at hc;cases hc
 rcases hx with hk | hk
 ·refine wpAny_storeName_local hk hn (λh' hn' hs=>?_) VP;obtain⟨oL,_,_,hoL,_⟩:=id hn;refine h _ ⟨I.ok,I.os,I.bare,⟨λb o e n hb hx=>?_,λb o e n hb hx=>?_,I.base.free,λb o e hx=>?_,I.base.iu,I.base.rL,I.base.uB⟩,⟨_,hn',λj y v' e1 e2 e3=>?_⟩,λy c e=>?_,I.free,I.jz,λp hp=>?_,tracked ⟨oL,hoL,I.free⟩ hs,by simpa using I.len⟩ ⟨_,hs,.inl rfl⟩
  ·exact(hs.2 b (cH (gF (cv e) I.ok.above))).trans (I.base.keep b o e n hb hx)
  ·obtain⟨sl,e1⟩:=I.base.slot b o e n hb hx;exact⟨sl,(hs.2 b (cH (gF (cv e) I.ok.above))).trans e1⟩
  ·obtain⟨o',e1⟩:=I.base.there b o e hx;exact⟨o',(hs.2 b (cH (gF (cv e) I.ok.above))).trans e1⟩
  ·by_cases hj:j=i
   ·subst hj;rw[hi]at e1;cases e1;rw[pS Qj]at e2;cases e2;exact⟨u,r,.inl ⟨hk,by simp⟩⟩
   ·rw[pU (dh hj)]at e2;obtain⟨u',r',q⟩:=hl j y v' e1 e2 e3;refine⟨u',r',?_⟩;rcases q with⟨k,e⟩|⟨k,c,e,z⟩
    ·refine .inl ⟨k,?_⟩;have:y≠x:=λe=>hj (uE hN e1 (e▸hi));simp[this,e]
    ·exact .inr ⟨k,c,e,z.sameBut hs (Lw y c e)⟩
  ·obtain⟨w',z⟩:=I.cell y c e;exact⟨w',z.sameBut hs (Lw y c e)⟩
  ·obtain⟨e,n,ne,nf,d⟩:=I.pin p hp;exact⟨(hs.2 p.1 ne).trans e,n,ne,nf,d⟩
 ·have VQ:X.fn x=true:=by
   rcases hf with z | z
   ·exact z
   ·rw[z]at hk;cases hk
  obtain⟨c,hc⟩:=I.ok.has x (.inl hk);obtain⟨w',z⟩:=I.cell x c hc;refine wpAny_storeName_cell I.ok.kind hk hc z (λh' Bb hs=>?_);obtain⟨oc,YC,VR⟩:=id z;refine h {s with heap:=h'} ⟨I.ok,I.os,I.bare,⟨λb o e n hb hx=>?_,λb o e n hb hx=>?_,I.base.free,λb o e hx=>?_,I.base.iu,I.base.rL,I.base.uB⟩,⟨m,hn.sameBut hs (dh (Lw x c hc)),λj y v' e1 e2 e3=>?_⟩,λy c' e=>?_,I.free,I.jz,λp hp=>?_,tracked ⟨oc,YC,I.jz x c hc⟩ hs,by simpa using I.len⟩ ⟨c,hs,.inr hc⟩
  ·exact(hs.2 b (cH (gF (cv e) (I.ok.Lv x c VQ hc)))).trans (I.base.keep b o e n hb hx)
  ·obtain⟨sl,e1⟩:=I.base.slot b o e n hb hx;exact⟨sl,(hs.2 b (cH (gF (cv e) (I.ok.Lv x c VQ hc)))).trans e1⟩
  ·obtain⟨o',e1⟩:=I.base.there b o e hx;exact⟨o',(hs.2 b (cH (gF (cv e) (I.ok.Lv x c VQ hc)))).trans e1⟩
  ·by_cases hj:j=i
   ·subst hj;rw[hi]at e1;cases e1;rw[pS Qj]at e2;cases e2;exact⟨u,r,.inr ⟨.inl hk,c,hc,Bb⟩⟩
   ·rw[pU (dh hj)]at e2;obtain⟨u',r',q⟩:=hl j y v' e1 e2 e3;refine⟨u',r',?_⟩;rcases q with q | ⟨k,c',e,z'⟩
    ·exact .inl q
    ·refine .inr ⟨k,c',e,z'.sameBut hs ?_⟩;rintro rfl;exact hj (uE hN e1 (I.ok.inj _ _ _ e hc▸hi))
  ·by_cases YD:c'=c
   ·subst YD;exact⟨_,Bb⟩
   ·obtain⟨w2,z2⟩:=I.cell y c' e;exact⟨w2,z2.sameBut hs YD⟩
  ·obtain⟨e,n,ne,nf,d⟩:=I.pin p hp;refine⟨(hs.2 p.1 ?_).trans e,n,ne,nf,d⟩;intro q;rw[q,YC]at e;have q':oc=p.2:=cg e;exact d w' (by rw[<- q'];exact VR)
theorem C2{x:Str}(I:Inv X aa σ H s)(hN:X.N.Nodup)(hi:X.N[i]?=some x)(hx:Loc X.env.scope x)(r:RelV v u)(h:∀s',Inv X aa (σ.set i (some v)) H s'->Q () s')(hf:X.fn x=true\/X.env.scope.names.lookup x=some .local:=by first | exact .inl rfl | exact .inr rfl | assumption):wpAny M A (storeName X.env x u) Q E s :=
 Ba I hN hi hx r (λs' I' _=>h s' I') hf
theorem Inv.J2(I:Inv X aa σ H s)(ho:s'.os=s.os)(u:Un (CZ X.stack) ch H H' s.heap s'.heap)(bJ:jy X.prog X.w H' s'.heap)(hg:AllBare s'.gens)(Cr:∀b∈ch,(b∈X.ex\/X.ff.heap.objs.size<=b)/\b≠X.env.locals/\(∀x c,X.env.cells.lookup x=some c->c≠b)/\∀p∈X.pn++aa,p.1≠b):Inv X aa σ H' s':=by
 obtain⟨h',g',d',t',o'⟩:=s';have e:o'=s.os:=ho;subst e;exact I.call (g':=g') (t':=t') (d':=d') u bJ hg Cr
end
abbrev XK:=Value->Option Addr->Hp->Prop
abbrev St:=List (Option V)
abbrev VK:=V->Hp->Prop
abbrev TE:=St->Hp->VK->Prop
abbrev TT:=St->Hp->(Bool->Hp->Prop)->Prop
abbrev TA:=St->Hp->(List V->Hp->Prop)->Prop
structure Ends where
 nx:St->Hp->Prop
 rt:VK
 bk:St->Hp->Prop:=λ_ _=>False
 ct:St->Hp->Prop:=λ_ _=>False
abbrev TS:=Ends->St->Hp->Prop
def EP(X:Cx)(aa:List (Addr×Obj))(σ:St)(Q:VK)(u:Value)(s':Shared):Prop:=∃v H',Inv X aa σ H' s'/\RelV v u/\Q v H'
noncomputable def TP(X:Cx)(aa:List (Addr×Obj))(σ:St)(Q:Bool->Hp->Prop)(b:Bool)(s':Shared):Prop:=∃H',Inv X aa σ H' s'/\Q b H'
noncomputable def AP(X:Cx)(aa:List (Addr×Obj))(σ:St)(Q:List V->Hp->Prop)(us:List Value)(s':Shared):Prop:=∃vs H',Inv X aa σ H' s'/\aS vs us/\Q vs H'
def SP(X:Cx)(aa:List (Addr×Obj))(D:Ends)(f:Flow)(s':Shared):Prop :=
 match f with
 | .next=>∃cU H',Inv X aa cU H' s'/\D.nx cU H'
 | .brk=>∃cU H',Inv X aa cU H' s'/\D.bk cU H'
 | .cont=>∃cU H',Inv X aa cU H' s'/\D.ct cU H'
 | .ret u=>∃v cU H',Inv X aa cU H' s'/\RelV v u/\D.rt v H'
def PE(X:Cx)(e:Expr)(t:TE):Prop :=
 ∀(aa:List (Addr×Obj))(s:Shared)(σ:St)(H:Hp)(Q:VK),Inv X aa σ H s->t σ H Q->wpAny (model X.prog X.w) X.A (eval e X.env) (EP X aa σ Q) X.xe s
def PT(X:Cx)(e:Expr)(t:TT):Prop :=
 ∀(aa:List (Addr×Obj))(s:Shared)(σ:St)(H:Hp)(Q:Bool->Hp->Prop),Inv X aa σ H s->t σ H Q->wpAny (model X.prog X.w) X.A (isTrue e X.env (eval e X.env)) (TP X aa σ Q) X.xe s
def PW(X:Cx)(e:Expr)(t:TT):Prop :=
 ∀(nP:Sem Value)(aa:List (Addr×Obj))(s:Shared)(σ:St)(H:Hp)(Q:Bool->Hp->Prop),Inv X aa σ H s->t σ H Q->wpAny (model X.prog X.w) X.A (isTrue e X.env nP) (TP X aa σ Q) X.xe s
theorem PW.pt(h:PW X e t):PT X e t:=h _
def PA(X:Cx)(es:List Expr)(t:TA):Prop :=
 ∀(pos:Pos)(aa:List (Addr×Obj))(s:Shared)(σ:St)(H:Hp)(Q:List V->Hp->Prop),Inv X aa σ H s->t σ H Q->wpAny (model X.prog X.w) X.A (spliced (backTo pos (starEach es X.env))) (AP X aa σ Q) X.xe s
def PS(X:Cx)(st:Stmt)(t:TS):Prop :=
 ∀(aa:List (Addr×Obj))(s:Shared)(σ:St)(H:Hp)(D:Ends),Inv X aa σ H s->t D σ H->wpAny (model X.prog X.w) X.A (exec st X.env) (SP X aa D) X.xe s
def rO(X:Cx)(st:List Stmt)(t:TS):Prop :=
 ∀(aa:List (Addr×Obj))(s:Shared)(σ:St)(H:Hp)(D:Ends),Inv X aa σ H s->t D σ H->wpAny (model X.prog X.w) X.A (execs st X.env) (SP X aa D) X.xe s
theorem cJ{α:Type}{t:Sem α}{Q Q':α->Shared->Prop}{M:Model}{A:Around}{E:Value->Shared->Prop}{s:Shared}(h:wpAny M A t Q E s)(hQ:∀a s,Q a s->Q' a s):wpAny M A t Q' E s:=p4 h hQ λ_ _ x=>x
section
variable {X:Cx}
theorem bin{a b:Expr}{ta tb:TE}(ha:PE X a ta)(hb:PE X b tb){aa:List (Addr×Obj)}{s:Shared}{σ:St}{H:Hp}{R:V->V->Hp->Prop}(I:Inv X aa σ H s)(h:ta σ H λx H1=>tb σ H1 λy H2=>R x y H2){α:Type}{Q:α->Shared->Prop}{f:Value->Value->Sem α}(hf:∀v u s2 x y H2,Inv X aa σ H2 s2->RelV x v->RelV y u->R x y H2->wpAny (model X.prog X.w) X.A (f v u) Q X.xe s2):wpAny (model X.prog X.w) X.A (eval a X.env) (λv bo=>wpAny (model X.prog X.w) X.A (eval b X.env) (λu Bc=>wpAny (model X.prog X.w) X.A (f v u) Q X.xe Bc) X.xe bo) X.xe s:=by
 refine cJ (ha aa s σ H _ I h) ?_;rintro v s1 ⟨x,H1,I1,r1,q1⟩;refine cJ (hb aa s1 σ H1 _ I1 q1) ?_;rintro u s2 ⟨y,H2,I2,r2,q2⟩;exact hf v u s2 x y H2 I2 r1 r2 q2
noncomputable def Qk(i:Nat):TE:=λσ H Q=>∃v,σ[i]?=some (some v)/\Q v H
def tC(v:V):TE:=λ_ H Q=>Q v H
theorem C3{i:Nat}{x:Str}{pos:Pos}(hN:X.N[i]?=some x)(hv:Ud X.env.scope x) (hd:(x==("__debug__" : Str))=false:=by decide) (Gd:(x==("__classdict__" : Str))=false:=by decide):PE X (.Name x pos) (Qk i):=by
 intro aa s σ H Q I h;obtain⟨v,e,h⟩:=h;obtain⟨m,hn,hl⟩:=I.loc;obtain⟨u,r,l⟩:=hl i x v hN e hv;have fin:EP X aa σ Q u s:=⟨v,H,I,r,h⟩;rcases l with⟨hk,hm⟩|⟨hk,c,hc,yX⟩
 ·exact wpAny_Name (wpAny_loadName_local I.ok.kind hk hn hm fin) hd
 ·rcases hk with hk | hk
  ·exact wpAny_Name (wpAny_loadName_cell I.ok.kind hk hc yX fin) hd
  ·exact wpAny_Name (wpAny_loadName_free I.ok.kind hk hc yX fin Gd) hd
theorem rP {i j pos}:PE X (.Constant (.int i) j pos) (tC (.int i)):=λ_ _ _ H _ I h=>wpAny_Constant_int ⟨.int i,H,I.tok _,⟨_,rfl⟩,h⟩
theorem J3 {b j pos}:PE X (.Constant (.bool b) j pos) (tC (.bl b)):=λ_ _ _ H _ I h=>Constant_bool ⟨.bl b,H,I,rfl,h⟩
theorem Lx {j pos}:PE X (.Constant .none j pos) (tC .aR):=λ_ _ _ H _ I h=>Constant_none ⟨.aR,H,I,rfl,h⟩
theorem C4 {x j pos}:PE X (.Constant (.str x) j pos) (tC (.str x)):=λ_ _ _ H _ I h=>Calls.Constant_str ⟨.str x,H,I.tok _,⟨_,rfl⟩,h⟩
noncomputable def Gl(X:Cx)(x:Str):Prop:=X.env.kindOf x=some .globalImplicit
theorem yY{x:Str}(I:Inv X aa σ H s)(hg:Gl X x)(hm:X.mg x=some u)(h:Q u s) (hd:(x==("__debug__" : Str))=false:=by decide):wpAny (model X.prog X.w) X.A (eval (.Name x pos) X.env) Q E s :=
 Calls.Name_function_global I.ok.kind hg (Calls.loadGlobal_global (by rw[I.ok.glob];exact I.mod.glob.keeps I.bk) hm h) hd
theorem ly{x:Str}(I:Inv X aa σ H s)(hg:Gl X x)(hm:X.mg x=none)(hv:bootBuiltins x=some u)(h:Q u s) (hn:x≠ "__name__" := by decide) (hd:(x==("__debug__" : Str))=false:=by decide):wpAny (model X.prog X.w) X.A (eval (.Name x pos) X.env) Q E s:=by
 obtain⟨mb,h1,h2⟩:=I.mod.blt;exact Calls.Name_function_global I.ok.kind hg (Calls.loadGlobal_builtin (by rw[I.ok.glob];exact I.mod.glob.keeps I.bk) hm (by rw[I.ok.blt];exact h1.keeps I.bk) ((h2 x hn).trans hv) h) hd
theorem GQ{x:Str}{v:V}{u:Value}{pos:Pos}(hg:Gl X x)(hm:X.mg x=some u)(r:RelV v u) (hd:(x==("__debug__" : Str))=false:=by decide):PE X (.Name x pos) (tC v) :=
 λ_ _ _ H _ I h=>yY I hg hm ⟨v,H,I,r,h⟩ hd
theorem GR{x:Str}{v:V}{u:Value}{pos:Pos}(hg:Gl X x)(hm:X.mg x=none)(hv:bootBuiltins x=some u)(r:RelV v u) (hn:x≠ "__name__" := by decide) (hd:(x==("__debug__" : Str))=false:=by decide):PE X (.Name x pos) (tC v) :=
 λ_ _ _ H _ I h=>ly I hg hm hv ⟨v,H,I,r,h⟩ hn hd
variable {a b:Expr} {ta tb:TE} {pos:Pos}
variable {tA Uh:TT} {fc:List Expr}
noncomputable def VS(t u:TT):TT:=λσ H Q=>t σ H λc H1=>if c=true then u σ H1 Q else Q false H1
noncomputable def tOr(t u:TT):TT:=λσ H Q=>t σ H λc H1=>if c=true then Q true H1 else u σ H1 Q
def VT(t:TT):TT:=λσ H Q=>t σ H λc H1=>Q (!c) H1
theorem GS(ha:PT X a tA):PW X (.BoolOp .And [a] pos) tA:=by
 intro wh aa s σ H Q I h;refine isTrue_and (cJ (ha aa s σ H Q I h) λc s1 e=>?_)
 cases c with
 | true=>exact isTrue_and_nil e
 | false=>exact e
theorem Ly(ha:PT X a tA):PW X (.BoolOp .Or [a] pos) tA:=by
 intro wh aa s σ H Q I h;refine isTrue_or (cJ (ha aa s σ H Q I h) λc s1 e=>?_)
 cases c with
 | false=>exact isTrue_or_nil e
 | true=>exact e
theorem Lz(ha:PT X a tA)(hb:PW X (.BoolOp .And (b::fc) pos) Uh):PW X (.BoolOp .And (a::b::fc) pos) (VS tA Uh):=by
 intro wh aa s σ H Q I h;refine isTrue_and (cJ (ha aa s σ H _ I h) ?_);rintro c s1 ⟨H1,I1,q1⟩
 cases c with
 | true=>exact hb wh aa s1 σ H1 Q I1 q1
 | false=>exact⟨H1,I1,q1⟩
theorem Ql(ha:PT X a tA)(hb:PW X (.BoolOp .Or (b::fc) pos) Uh):PW X (.BoolOp .Or (a::b::fc) pos) (tOr tA Uh):=by
 intro wh aa s σ H Q I h;refine isTrue_or (cJ (ha aa s σ H _ I h) ?_);rintro c s1 ⟨H1,I1,q1⟩
 cases c with
 | true=>exact⟨H1,I1,q1⟩
 | false=>exact hb wh aa s1 σ H1 Q I1 q1
theorem LB(ha:PT X a tA):PT X (.UnaryOp .Not a pos) (VT tA):=by
 intro aa s σ H Q I h;exact isTrue_not (ha aa s σ H (λc H1=>Q (!c) H1) I h)
noncomputable def Qm(ta tb:TE):TE:=λσ H Q=>ta σ H λx H1=>∃c,x=.bl c/\if c=true then tb σ H1 Q else Q (.bl false) H1
noncomputable def VU(ta tb:TE):TE:=λσ H Q=>ta σ H λx H1=>∃c,x=.bl c/\if c=true then Q (.bl true) H1 else tb σ H1 Q
noncomputable def Qn(ta:TE):TE:=λσ H Q=>ta σ H λx H1=>∃c,x=.bl c/\Q (.bl (!c)) H1
theorem C5 {op}  (h:PE X a t):PE X (.BoolOp op [a] pos) t:=λaa s σ H Q I hw=>BoolOp_one (h aa s σ H Q I hw)
theorem LC(ha:PE X a ta)(hb:PE X (.BoolOp .And (b::fc) pos) tb):PE X (.BoolOp .And (a::b::fc) pos) (Qm ta tb):=by
 intro aa s σ H Q I h;refine BoolOp_and (cJ (ha aa s σ H _ I h) ?_);rintro v s1 ⟨x,H1,I1,r1,q1⟩;obtain⟨c,rfl,q1⟩:=q1;cases r1;refine ui ?_
 cases c with
 | true=>exact hb aa s1 σ H1 Q I1 q1
 | false=>exact⟨.bl false,H1,I1,rfl,q1⟩
theorem Qo(ha:PE X a ta)(hb:PE X (.BoolOp .Or (b::fc) pos) tb):PE X (.BoolOp .Or (a::b::fc) pos) (VU ta tb):=by
 intro aa s σ H Q I h;refine BoolOp_or (cJ (ha aa s σ H _ I h) ?_);rintro v s1 ⟨x,H1,I1,r1,q1⟩;obtain⟨c,rfl,q1⟩:=q1;cases r1;refine ui ?_
 cases c with
 | false=>exact hb aa s1 σ H1 Q I1 q1
 | true=>exact⟨.bl true,H1,I1,rfl,q1⟩
theorem LD(ha:PE X a ta):PE X (.UnaryOp .Not a pos) (Qn ta):=by
 intro aa s σ H Q I h;refine UnaryOp_ (cJ (ha aa s σ H _ I h) ?_);rintro v s1 ⟨x,H1,I1,r1,q1⟩;obtain⟨c,rfl,q1⟩:=q1;cases r1;exact not_of (ui ⟨.bl (!c),H1,I1,rfl,q1⟩)
noncomputable def tIf(t:TT)(ta tb:TE):TE:=λσ H Q=>t σ H λc H1=>if c=true then ta σ H1 Q else tb σ H1 Q
theorem C6(hc:PT X c tA)(ha:PE X a ta)(hb:PE X b tb):PE X (.IfExp c a b pos) (tIf tA ta tb):=by
 intro aa s σ H Q I h;refine wpAny_IfExp (cJ (hc aa s σ H _ I h) ?_);rintro d s1 ⟨H1,I1,q1⟩
 cases d with
 | true=>exact ha aa s1 σ H1 Q I1 q1
 | false=>exact hb aa s1 σ H1 Q I1 q1
end
def fK(K:PySem.W.Frag)(H:Hp)(a:Addr)(xs:List V):Prop :=
 Rd H a (.lst xs) \/
  ∃(o:Obj) (aG:Array Value) (n:Nat),K.lookup a=some o/\o.cls=.type "list" /\ o.dict=none/\o.data=.seq aG n/\aG.size<=sizeLine/\aS xs aG.toList
def gE(K:PySem.W.Frag)(H:Hp)(a:Addr)(xs:List V):Prop :=
 Rd H a (.tup xs) \/
  ∃(o:Obj) (aG:Array Value) (n:Nat),K.lookup a=some o/\o.cls=.type "tuple" /\ o.data=.seq aG n/\aG.size<=sizeLine/\aS xs aG.toList
noncomputable def VW:Value->Option V
 | .none=>some .aR
 | .bool b=>some (.bl b)
 | .int i _=>some (.int i)
 | .str x _=>some (.str x)
 | .bytes b _=>some (.P9 b)
 | .float b _=>some (.Pe b)
 | .ref a=>some (.ref a)
 | .type n=>some (.ty n)
 | _=>none
theorem RelV.abs(r:RelV x u):VW u=some x:=by
 cases x with
 | aR=>cases r;rfl
 | bl _=>cases r;rfl
 | int _=>obtain⟨t,rfl⟩:=r;rfl
 | str _=>obtain⟨t,rfl⟩:=r;rfl
 | P9 _=>obtain⟨t,rfl⟩:=r;rfl
 | Pe _=>obtain⟨t,rfl⟩:=r;rfl
 | ref _=>cases r;rfl
 | ty _=>cases r;rfl
theorem RelV.inj(r:RelV x u)(q:RelV y u):x=y:=cg (r.abs.symm.trans q.abs)
theorem aS.inj:∀{xs ys:List V}{us:List Value},aS xs us->aS ys us->xs=ys
 | _,_,_,.nil,.nil=>rfl
 | _,_,_,.cons r t,.cons r' t'=>by rw[r.inj r',aS.inj t t']
section
variable {X:Cx} {aa:List (Addr×Obj)} {σ:St} {H:Hp} {s:Shared} {a:Addr} {xs ys:List V}
theorem fK.of{K:PySem.W.Frag}(h:H a=some (.lst xs)):fK K H a xs:=.inl (.inl h)
theorem gE.of{K:PySem.W.Frag}(h:H a=some (.tup xs)):gE K H a xs:=.inl (.inl h)
theorem Inv.list(I:Inv X aa σ H s)(h:fK X.K H a xs):∃aG:List Value,aS xs aG/\PlainL s.heap a aG.toArray/\xs.length<=sizeLine:=by
 rcases h with h | ⟨o,aG,n,hk,hc,hd,hs,hz,r⟩
 ·obtain⟨z,aG,n,r,e⟩:=h.ok I.bJ;exact⟨aG,r,⟨_,n,e,rfl,rfl,rfl⟩,z⟩
 ·refine⟨aG.toList,r,⟨o,n,I.uD a o hk,hc,hd,by simpa using hs⟩,?_⟩;have e:=r.length;simp only[nF]at e;omega
theorem Inv.tuple(I:Inv X aa σ H s)(h:gE X.K H a xs):∃aG:List Value,aS xs aG/\IsTup s.heap a aG.toArray/\xs.length<=sizeLine:=by
 rcases h with h | ⟨o,aG,n,hk,hc,hs,hz,r⟩
 ·obtain⟨z,aG,r,p⟩:=h.ok I.bJ;exact⟨aG,r,p,z⟩
 ·refine⟨aG.toList,r,⟨o,I.uD a o hk,hc,n,by simpa using hs⟩,?_⟩;have e:=r.length;simp only[nF]at e;omega
theorem Inv.uG(I:Inv X aa σ H s)(h:fK X.K H a xs)(h':fK X.K H a ys):xs=ys:=by
 obtain⟨aG,r,⟨o,n,e,_,_,d⟩,_⟩:=I.list h;obtain⟨its',r',⟨o',n',e',_,_,d'⟩,_⟩:=I.list h';rw[e]at e';cases e';rw[d]at d';injection d' with d1 _;have:aG=its':=by simpa using lu Array.toList d1
 subst this;exact r.inj r'
theorem Inv.qv(I:Inv X aa σ H s)(h:gE X.K H a xs)(h':gE X.K H a ys):xs=ys:=by
 obtain⟨aG,r,⟨o,e,_,n,d⟩,_⟩:=I.tuple h;obtain⟨its',r',⟨o',e',_,n',d'⟩,_⟩:=I.tuple h';rw[e]at e';cases e';rw[d]at d';injection d' with d1 _;have:aG=its':=by simpa using lu Array.toList d1
 subst this;exact r.inj r'
end
abbrev Cx.p5(X:Cx)(E:Value->Shared->Prop):Cx:={X with xe:=E}
abbrev Cx.Qp(X:Cx):Cx:=X.p5 λ_ _=>False
theorem Cx.Ok.p5{X:Cx}(ok:X.Ok)(E:Value->Shared->Prop):(X.p5 E).Ok :=
 ⟨ok.mod,ok.kind,ok.glob,ok.blt,ok.above,ok.inj,ok.has,ok.Lv,ok.hd,ok.frames,ok.Ue,ok.VM,ok.bs,ok.J1,ok.C0,ok.C1,ok.nO,ok.Pg⟩
theorem Cx.Ok.iH{X:Cx}{E:Value->Shared->Prop}(ok:(X.p5 E).Ok):X.Ok :=
 ⟨ok.mod,ok.kind,ok.glob,ok.blt,ok.above,ok.inj,ok.has,ok.Lv,ok.hd,ok.frames,ok.Ue,ok.VM,ok.bs,ok.J1,ok.C0,ok.C1,ok.nO,ok.Pg⟩
section
variable {X:Cx} {aa:List (Addr×Obj)} {σ:St} {H:Hp} {s:Shared} {E:Value->Shared->Prop}
theorem Inv.p5(I:Inv X aa σ H s)(E:Value->Shared->Prop):Inv (X.p5 E) aa σ H s:=⟨I.ok.p5 E,I.os,I.bare,I.base,I.loc,I.cell,I.free,I.jz,I.pin,I.bJ,I.len⟩
theorem Inv.iH(I:Inv (X.p5 E) aa σ H s):Inv X aa σ H s:=⟨I.ok.iH,I.os,I.bare,I.base,I.loc,I.cell,I.free,I.jz,I.pin,I.bJ,I.len⟩
theorem SP.iH(h:SP (X.p5 E) aa D f s'):SP X aa D f s':=by
 cases f with
 | next=>obtain⟨cU,H',I,q⟩:=h;exact⟨cU,H',I.iH,q⟩
 | brk=>obtain⟨cU,H',I,q⟩:=h;exact⟨cU,H',I.iH,q⟩
 | cont=>obtain⟨cU,H',I,q⟩:=h;exact⟨cU,H',I.iH,q⟩
 | ret u=>obtain⟨v,cU,H',I,r,q⟩:=h;exact⟨v,cU,H',I.iH,r,q⟩
theorem rO.Qp{st:List Stmt}(h:rO X.Qp st t):rO X st t:=λaa s σ H D I hw =>
 p4 (h aa s σ H D (I.p5 _) hw) (λ_ _ q=>q.iH) λ_ _ z=>False.elim z
end
section
variable {X:Cx} {st:Stmt} {fc:List Stmt} {t u:TS} {e:Expr} {te:TE} {pos:Pos}
def J4:TS:=λD σ H=>D.nx σ H
def Qq(t u:TS):TS:=λD σ H=>t {D with nx:=u D} σ H
theorem GU:rO X [] J4:=λ_ _ σ H _ I h=>wpAny_execs_nil ⟨σ,H,I,h⟩
theorem C7(h1:PS X st t)(h2:rO X fc u):rO X (st::fc) (Qq t u):=by
 intro aa s σ H D I h;refine wpAny_execs_cons (cJ (h1 aa s σ H {D with nx:=u D} I h) λf s1 q=>?_)
 cases f with
 | next =>
  obtain⟨cU,H',I',q⟩:=q;exact h2 aa s1 cU H' D I' q
 | ret v=>exact q
 | brk=>exact q
 | cont=>exact q
def LF:TS:=λD σ H=>D.bk σ H
def Qr:TS:=λD σ H=>D.ct σ H
theorem GV:PS X (.Pass pos) J4:=λ_ _ σ H _ I h=>wpAny_Pass ⟨σ,H,I,h⟩
theorem C8:PS X (.Break pos) LF:=λ_ _ σ H _ I h=>wpAny_Break ⟨σ,H,I,h⟩
theorem uH:PS X (.Continue pos) Qr:=λ_ _ σ H _ I h=>wpAny_Continue ⟨σ,H,I,h⟩
theorem Inv.quiet(I:Inv X aa σ H s):interactive X.env=false:=by simp[interactive,I.ok.kind]
def Qs(te:TE):TS:=λD σ H=>te σ H λ_ H1=>D.nx σ H1
theorem GW(he:PE X e te)(hs:swapsWith e none pos.line X.env=pure false:=by rfl):PS X (.Expr e pos) (Qs te):=by
 intro aa s σ H D I h;exact wpAny_Expr_any (cJ (he aa s σ H _ I h) λv s1 ⟨x,H1,I1,r1,q1⟩=>⟨σ,H1,I1,q1⟩) I.quiet hs
def VX(te:TE):TS:=λD σ H=>te σ H D.rt
theorem LG(he:PE X e te):PS X (.Return (some e) pos) (VX te):=by
 intro aa s σ H D I h;exact wpAny_Return_some (cJ (he aa s σ H _ I h) λv s1 ⟨x,H1,I1,r1,q1⟩=>⟨x,σ,H1,I1,r1,q1⟩)
def Qt:TS:=λD _ H=>D.rt .aR H
theorem GX:PS X (.Return none pos) Qt:=λ_ _ σ H _ I h=>wpAny_Return_none ⟨.aR,σ,H,I,rfl,h⟩
noncomputable def VY(c:TT)(t u:TS):TS:=λD σ H=>c σ H λb H1=>if b=true then t D σ H1 else u D σ H1
theorem Qu(hc:PT X c tc)(ha:rO X a t)(hb:rO X b u):PS X (.If c a b pos) (VY tc t u):=by
 intro aa s σ H D I h;refine wpAny_If (cJ (hc aa s σ H _ I h) ?_);rintro d s1 ⟨H1,I1,q1⟩
 cases d with
 | true=>exact ha aa s1 σ H1 D I1 q1
 | false=>exact hb aa s1 σ H1 D I1 q1
def LH:TS:=λ_ _ _=>False
theorem C9:PS X st LH:=λ_ _ _ _ _ _ h=>h.elim
end
abbrev TG:=V->St->Hp->(St->Hp->Prop)->Prop
abbrev Ph:=List V->St->Hp->(St->Hp->Prop)->Prop
def PG(X:Cx)(nQ:Expr)(t:TG):Prop :=
 ∀(aa:List (Addr×Obj))(s:Shared)(σ:St)(H:Hp)(v:V)(u:Value)(Q:St->Hp->Prop),Inv X aa σ H s->RelV v u->t v σ H Q ->
  wpAny (model X.prog X.w) X.A (assign nQ X.env u) (λ_ s'=>∃cU H',Inv X aa cU H' s'/\Q cU H') X.xe s
noncomputable def Pj(X:Cx)(ts:List Expr)(t:Ph):Prop :=
 ∀(aa:List (Addr×Obj))(s:Shared)(σ:St)(H:Hp)(vs:List V)(us:List Value)(Q:St->Hp->Prop),Inv X aa σ H s->aS vs us->t vs σ H Q ->
  wpAny (model X.prog X.w) X.A (assignInOrder ((assignEach ts X.env).map (·.2)) us) (λ_ s'=>∃cU H',Inv X aa cU H' s'/\Q cU H') X.xe s
abbrev LI:=V->V->V->Hp->(Hp->Prop)->Prop
def GY(X:Cx)(t:LI):Prop :=
 ∀(aa:List (Addr×Obj))(s:Shared)(σ:St)(H:Hp)(o i v:V)(ov iv u:Value)(Q:Hp->Prop),Inv X aa σ H s->RelV o ov->RelV i iv->RelV v u->t o i v H Q ->
  wpAny (model X.prog X.w) X.A (setItem ov iv u) (λ_ s'=>∃H',Inv X aa σ H' s'/\Q H') X.xe s
section
variable {X:Cx} {pos:Pos}
def J5(i:Nat):TG:=λv σ H Q=>Q (σ.set i (some v)) H
theorem rQ{x:Str}(hN:X.N.Nodup)(hi:X.N[i]?=some x)(hx:Loc X.env.scope x)(hf:X.fn x=true\/X.env.scope.names.lookup x=some .local:=by first | exact .inl rfl | exact .inr rfl | assumption):PG X (.Name x pos) (J5 i):=by
 intro aa s σ H v u Q I r h;exact wpAny_assign_Name (C2 I hN hi hx r (λs' I'=>⟨_,H,I',h⟩) hf)
def Qv:Ph:=λvs σ H Q=>vs=[]/\Q σ H
noncomputable def J6(t:TG)(u:Ph):Ph:=λvs σ H Q=>∃v r,vs=v::r/\t v σ H λcU H'=>u r cU H' Q
theorem GZ:Pj X [] Qv:=by
 intro aa s σ H vs us Q I r h;obtain⟨e,h⟩:=h;subst e;cases r;exact assignInOrder_nil ⟨σ,H,I,h⟩
theorem C_(h1:PG X e t)(h2:Pj X es u)(hs:(assignEach (e::es) X.env).map (·.2)=assign e X.env::(assignEach es X.env).map (·.2):=by rfl):Pj X (e::es) (J6 t u):=by
 intro aa s σ H vs us Q I r h;obtain⟨v,vr,e1,h⟩:=h;subst e1
 cases r with
 | cons r rr =>
  rw[hs];refine assignInOrder_cons (cJ (h1 aa s σ H _ _ _ I r h) ?_);rintro _ s1 ⟨LJ,H1,I1,q1⟩;exact h2 aa s1 LJ H1 _ _ Q I1 rr q1
def VZ(K:PySem.W.Frag)(n:Nat)(t:Ph):TG:=λv σ H Q=>∃a xs,v=.ref a/\gE K H a xs/\xs.length=n/\t xs σ H Q
theorem LK(hc:X.calm=true)(h:Pj X es t)(hn:(assignEach es X.env).length=n:=by rfl)(eL:(assignEach es X.env).findIdx? (·.1)=none:=by rfl):PG X (.Tuple es k pos) (VZ X.K n t):=by
 intro aa s σ H v u Q I r hw;obtain⟨a,xs,e1,hq,hl,hw⟩:=hw;subst e1;cases r;obtain⟨aG,rv,ht,hz⟩:=I.tuple hq;refine assign_Tuple_tuple (I.ok.hd hc) ht (by simp[hn,<- hl,rv.length]) eL λh' hx=>?_;have I1:Inv X aa σ H {s with heap:=h'}:=I.kept (t':=s.toks) λb o e=>hx b o (cH (cv e)) e;exact h aa _ σ H xs _ Q I1 (by simpa using rv) hw
noncomputable def V0(to ti:TE)(t:LI):TG:=λv σ H Q=>to σ H λo H1=>ti σ H1 λi H2=>t o i v H2 λH3=>Q σ H3
theorem Dc (ho : PE X o to) (hi : PE X i ti) (hs : GY X t)
    (ha:∀v,assign (.Subscript o i pos) X.env v=(do
      let ov <- holding [v] (eval o X.env)
      let iv <- holding [v,ov] (eval i X.env)
      standAt pos
      holding [v,ov,iv] (setItem ov iv v)
      release [v,ov,iv] []):=by intro _;rfl):PG X (.Subscript o i pos) (V0 to ti t):=by
  intro aa s σ H v u Q I r h;rw[ha];refine ag (kj (cJ (ho aa s σ H _ I h) ?_));rintro ov s1 ⟨x,H1,I1,r1,q1⟩;refine ag (kj (cJ (hi aa s1 σ H1 _ I1 q1) ?_));rintro iv s2 ⟨y,H2,I2,r2,q2⟩;refine ag (wpAny_standAt (ag (kj (cJ (hs aa s2 σ H2 x y v ov iv u _ I2 r1 r2 r q2) ?_))));rintro _ s3 ⟨H3,I3,q3⟩;exact wpAny_release ⟨σ,H3,I3,q3⟩
noncomputable def Qw(te:TE)(g:TG):TS:=λD σ H=>te σ H λx H1=>g x σ H1 D.nx
theorem rR(he:PE X e te)(hg:PG X tg g)(hs:swapsWithSole [tg] e pos.line X.env=pure false:=by rfl)(hw:swappedStores [tg] e X.env=pure none:=by rfl)(h1:(assignEach [tg] X.env).map (·.2)=[assign tg X.env]:=by rfl):PS X (.Assign [tg] e pos) (Qw te g):=by
 intro aa s σ H D I h;refine wpAny_Assign_stores (cJ (he aa s σ H _ I h) ?_) hs hw;rintro v s1 ⟨x,H1,I1,r1,q1⟩;rw[h1];exact cJ (hg aa s1 σ H1 x v _ I1 r1 q1) λ_ s2 q=>q
end
section
variable {X:Cx} {pos:Pos}
noncomputable def LL(c:TT)(tb:TS):TS:=λD σ H=>∃W:Nat->St->Hp->Prop,(∃m,W m σ H)/\∀m σ H,W m σ H ->
 c σ H λb H1=>if b=true then ∃N:St->Hp->Prop,(∀cU H',N cU H'->∃m',m'<m/\W m' cU H')/\tb {D with nx:=N,ct:=N,bk:=D.nx} σ H1 else D.nx σ H1
theorem Dd(hp:PassesOwn (model X.prog X.w) X.A X.env X.xe)(hc:PT X c tc)(hb:rO X body tb):PS X (.While c body [] pos) (LL tc tb):=by
 intro aa s σ H D I h;obtain⟨W,⟨m0,w0⟩,xb⟩:=h;refine wpAny_While (codeAny_whileLoop (λn s'=>∃cU H',Inv X aa cU H' s'/\W n cU H') ?_ m0 ⟨σ,H,I,w0⟩);rintro n s1 ⟨LJ,H1,I1,w1⟩;refine wZ hp (cJ (hc aa s1 LJ H1 _ I1 (xb n LJ H1 w1)) ?_);rintro b s2 ⟨H2,I2,q2⟩
 cases b with
 | true =>
  obtain⟨N,hN,q2⟩:=q2;rw[aw rfl];refine wZ hp (cJ (hb aa s2 LJ H2 _ I2 q2) λf s3 q3=>?_)
  cases f with
  | next =>
   obtain⟨xf,H3,I3,n3⟩:=q3;obtain⟨m',hm,w3⟩:=hN xf H3 n3;exact⟨m',hm,xf,H3,I3,w3⟩
  | cont =>
   obtain⟨xf,H3,I3,n3⟩:=q3;obtain⟨m',hm,w3⟩:=hN xf H3 n3;exact⟨m',hm,xf,H3,I3,w3⟩
  | brk=>exact q3
  | ret v=>exact q3
 | false =>
  rw[az aT];exact wpAny_execs_nil ⟨LJ,H2,I2,q2⟩
end
structure It where
 go:Nat->Hp->Prop
 Pl:Nat->Hp->V->Hp->Prop
 stop:Nat->Hp->Prop
noncomputable def mJ(X:Cx)(aa:List (Addr×Obj))(H:Hp)(b:Addr):Prop :=
 H b=none/\b≠X.env.locals/\b∉X.fs/\(b∈X.ex\/X.ff.heap.objs.size<=b)/\(∀x c,X.env.cells.lookup x=some c->c≠b)/\∀p∈X.pn++aa,p.1≠b
theorem Inv.Bd(I:Inv X aa σ H s)(hb:s.heap.objs.size<=b)(hn:H' b=none):mJ X aa H' b:=by
 refine⟨hn,pY (gF I.lt hb),I.Qe hb,.inr (dr I.sz hb),λx c e z=>?_,λp hp z=>?_⟩
 ·obtain⟨v,q⟩:=I.cell x c e;exact absurd (gF q.lt (by rw[z];exact hb)) (ki _)
 ·exact absurd (gF (cv (I.pin p hp).1) (by rw[z];exact hb)) (ki _)
structure xg (P:Program) (w:World) (K:PySem.W.Frag) (tg:Expr) (J:It) (fp:List Addr) (it:Addr) (tn:Nat->Heap->Prop):Prop where
 mem:it∈fp
 obj:∀i h,tn i h->∀b∈fp,∃o,h.get? b=some o/\∀v,o.data≠.cell v
 keep:∀i h h',tn i h->(∀b∈fp,∀o,h.get? b=some o->h'.get? b=some o)->tn i h'
 item:∀(X:Cx),X.prog=P->X.w=w->X.K=K->X.calm=true->∀(i:Nat)(aa:List (Addr×Obj))(s:Shared)(σ:St)(H:Hp)(E:Value->Shared->Prop),Inv X aa σ H s->(∀b∈fp,mJ X aa H b)->tn i s.heap->J.go i H ->
  wpAny (model P w) X.A (pyNext (.ref it)) (λr s1=>∃u,r=some u /\
   wpAny (model P w) X.A (letOwnedTupleGo tg (.ref it) u) (λ_ s2=>∃x H',Inv X aa σ H' s2/\RelV x u/\J.Pl i H x H'/\tn (i+1) s2.heap/\∀b∈fp,H' b=none) E s1) E s
 done:∀(X:Cx),X.prog=P->X.w=w->X.K=K->X.calm=true->∀(i:Nat)(aa:List (Addr×Obj))(s:Shared)(σ:St)(H:Hp)(E:Value->Shared->Prop),Inv X aa σ H s->(∀b∈fp,mJ X aa H b)->tn i s.heap->J.stop i H ->
  wpAny (model P w) X.A (pyNext (.ref it)) (λr s1=>r=none/\Inv X aa σ H s1) E s
 self:∀(A:Around)(i:Nat)(s:Shared)(Q:Value->Shared->Prop)(E:Value->Shared->Prop),tn i s.heap->Q (.ref it) s->wpAny (model P w) A (pyIter (.ref it)) Q E s
abbrev TI:=St->Hp->(It->Hp->Prop)->Prop
def Ui(X:Cx)(aa:List (Addr×Obj))(σ:St)(tg:Expr)(R:It->Hp->Prop)(Uj:Value)(s2:Shared):Prop :=
 ∃(it:Addr) (fp:List Addr) (tn:Nat->Heap->Prop) (J:It) (H':Hp),Uj=.ref it/\Inv X aa σ H' s2/\xg X.prog X.w X.K tg J fp it tn/\tn 0 s2.heap/\(∀b∈fp,mJ X aa H' b)/\R J H'
def PI(X:Cx)(tg aQ:Expr)(wi:TI):Prop :=
 ∀(aa:List (Addr×Obj))(s:Shared)(σ:St)(H:Hp)(R:It->Hp->Prop),Inv X aa σ H s->wi σ H R ->
  wpAny (model X.prog X.w) X.A (eval aQ X.env) (λv s1=>wpAny (model X.prog X.w) X.A (pyIter v) (Ui X aa σ tg R) X.xe s1) X.xe s
theorem yZ(ho:s.heap.get? it=some o)(hc:o.cls=.type n)(hd:o.data=.fields vs) (hn:["enumerate","zip","dict_itemiterator","dict_reverseitemiterator","odict_iterator","itertools.zip_longest","itertools.pairwise"].contains n=false) (hQ:Q () s):wpAny M A (letOwnedTupleGo tg (.ref it) u) Q E s:=by
  unfold letOwnedTupleGo
  cases tg<;>first
    | exact aA hQ
    | (cases u <;> first
        | exact aA hQ
        | (refine ag (wpAny_load ho ?_)
           rw[hc,hd];show wpAny M A (if (["enumerate","zip","dict_itemiterator","dict_reverseitemiterator","odict_iterator","itertools.zip_longest","itertools.pairwise"].contains n&&vs[0]? == some (rawInt _))=true then _ else _) Q E s;rw[az (by intro h;rw[hn,Bool.false_and]at h;cases h)];exact aA hQ))
def V1(K:PySem.W.Frag)(a:Addr):It :=
 ⟨λi H=>∃xs x,fK K H a xs/\xs[i]?=some x,λi H x H'=>H'=H/\∀xs,fK K H a xs->xs[i]?=some x,λi H=>∃xs,fK K H a xs/\xs.length<=i⟩
def V2(K:PySem.W.Frag)(a:Addr):It :=
 ⟨λi H=>∃xs x,gE K H a xs/\xs[i]?=some x,λi H x H'=>H'=H/\∀xs,gE K H a xs->xs[i]?=some x,λi H=>∃xs,gE K H a xs/\xs.length<=i⟩
noncomputable def Qx(lo:Int)(n:Nat):It:=⟨λi _=>i<n,λi H x H'=>H'=H/\x=.int (lo+i),λi _=>n<=i⟩
theorem Be{P:Program}{w:World}{K:PySem.W.Frag}{tg:Expr}(a it:Addr):xg P w K tg (V1 K a) [it] it (λi h=>h.IsListIter it a i) where
 mem:=by simp
 obj:=λi h st b hb=>by
  have e:b=it:=by simpa using hb
  subst e;obtain⟨o,e,c,d⟩:=st;exact⟨o,e,λv z=>by rw[d]at z;cases z⟩
 keep:=λi h h' st k=>st.at λo e=>k it (by simp) o e
 item:=by
  intro X hP hw hK hc i aa s σ H E I hf st hg;subst hP hw hK;obtain⟨xs,x,hq,hx⟩:=hg;obtain⟨aG,rv,p,hz⟩:=I.list hq;obtain⟨u,hu,ru⟩:=rv.get hx;obtain⟨f0,f1,f2,f3,f4,f5⟩:=hf it (by simp);refine wpAny_pyNext_list_item st p.isList (x:=u) (by simpa using hu) λh' xh sb=>?_;have I1:Inv X aa σ H {s with heap:=h'}:=I.turned (t':=s.toks) (λb o hb e=>(sb.2 b hb).trans e) f0 f1 f3 f4 f5;obtain⟨o,e,c,d⟩:=id xh;exact⟨u,rfl,yZ (s:={s with heap:=h'}) e c d (by decide) ⟨x,H,I1,ru,⟨rfl,λys hy=>by rw[I.uG hy hq];exact hx⟩,xh,λb hb=>(hf b hb).1⟩⟩
 done:=by
  intro X hP hw hK hc i aa s σ H E I hf st hg;subst hP hw hK;obtain⟨xs,hq,hx⟩:=hg;obtain⟨aG,rv,p,hz⟩:=I.list hq;obtain⟨f0,f1,f2,f3,f4,f5⟩:=hf it (by simp);have hl:=rv.length;exact wpAny_pyNext_list_end (I.ok.hd hc) st p.isList (by simp;omega) λh' eb=>⟨rfl,I.turned (t':=s.toks) (λb o hb e=>eb b o hb e) f0 f1 f3 f4 f5⟩
 self:=λ_ _ _ _ _ st h=>wpAny_pyIter_listiter st h
theorem xi{P:Program}{w:World}{K:PySem.W.Frag}{tg:Expr}(a it:Addr):xg P w K tg (V2 K a) [it] it (λi h=>h.IsTupleIter it a i) where
 mem:=by simp
 obj:=λi h st b hb=>by
  have e:b=it:=by simpa using hb
  subst e;obtain⟨o,e,c,d⟩:=st;exact⟨o,e,λv z=>by rw[d]at z;cases z⟩
 keep:=λi h h' st k=>st.at λo e=>k it (by simp) o e
 item:=by
  intro X hP hw hK hc i aa s σ H E I hf st hg;subst hP hw hK;obtain⟨xs,x,hq,hx⟩:=hg;obtain⟨aG,rv,p,hz⟩:=I.tuple hq;obtain⟨u,hu,ru⟩:=rv.get hx;obtain⟨f0,f1,f2,f3,f4,f5⟩:=hf it (by simp);refine wpAny_pyNext_tuple_item st (show s.heap.IsTuple a aG.toArray from p) (x:=u) (by simpa using hu) λh' xh sb=>?_;have I1:Inv X aa σ H {s with heap:=h'}:=I.turned (t':=s.toks) (λb o hb e=>(sb.2 b hb).trans e) f0 f1 f3 f4 f5;obtain⟨o,e,c,d⟩:=id xh;exact⟨u,rfl,yZ (s:={s with heap:=h'}) e c d (by decide) ⟨x,H,I1,ru,⟨rfl,λys hy=>by rw[I.qv hy hq];exact hx⟩,xh,λb hb=>(hf b hb).1⟩⟩
 done:=by
  intro X hP hw hK hc i aa s σ H E I hf st hg;subst hP hw hK;obtain⟨xs,hq,hx⟩:=hg;obtain⟨aG,rv,p,hz⟩:=I.tuple hq;obtain⟨f0,f1,f2,f3,f4,f5⟩:=hf it (by simp);have hl:=rv.length;exact wpAny_pyNext_tuple_end (I.ok.hd hc) st (show s.heap.IsTuple a aG.toArray from p) (by simp;omega) λh' eb=>⟨rfl,I.turned (t':=s.toks) (λb o hb e=>eb b o hb e) f0 f1 f3 f4 f5⟩
 self:=λ_ _ _ _ _ st h=>wpAny_pyIter_tupleiter st h
theorem xj{P:Program}{w:World}{K:PySem.W.Frag}{tg:Expr}(it:Addr)(lo:Int)(n:Nat):xg P w K tg (Qx lo n) [it] it (λi h=>IsRangeIter h it (lo+(i:Nat)*1) ((n:Int)-(i:Nat)) 1) where
 mem:=by simp
 obj:=λi h st b hb=>by
  have e:b=it:=by simpa using hb
  subst e
  exact⟨_,st,λv z=>by
   have z':Data.fields _=Data.cell v:=z;cases z'⟩
 keep:=λi h h' st k=>k it (by simp) _ st
 item:=by
  intro X hP hw hK hc i aa s σ H E I hf st hg;subst hP hw hK;obtain⟨f0,f1,f2,f3,f4,f5⟩:=hf it (by simp);have W:=Walks.range (prog:=X.prog) (w:=X.w) (I.ok.hd hc) it lo 1 n;refine W.item i s _ _ hg st λv h' tk hv xh kk=>?_;obtain⟨t,rfl⟩:=hv;have I1:Inv X aa σ H {s with heap:=h',toks:=tk}:=I.turned (λb o hb e=>kk b o (by simpa using hb) e) f0 f1 f3 f4 f5;refine⟨_,rfl,yZ (s:={s with heap:=h',toks:=tk}) (n := "range_iterator") xh rfl rfl (by decide) ⟨.int (lo+i),H,I1,⟨t,?_⟩,⟨rfl,rfl⟩,xh,λb hb=>(hf b hb).1⟩⟩;rw[Int.mul_one]
 done:=by
  intro X hP hw hK hc i aa s σ H E I hf st hg;subst hP hw hK;obtain⟨f0,f1,f2,f3,f4,f5⟩:=hf it (by simp);exact wpAny_pyNext_range_end (I.ok.hd hc) st (by have:n<=i:=hg;omega) λh' eb=>⟨rfl,I.turned (t':=s.toks) (λb o hb e=>eb b o hb e) f0 f1 f3 f4 f5⟩
 self:=λ_ _ _ _ _ st h=>wpAny_pyIter_rangeiter st h
section
variable {X:Cx} {tg:Expr}
def Qy(K:PySem.W.Frag)(tl:TE):TI:=λσ H R=>tl σ H λx H1=>∃a,x=.ref a/\(∃xs,fK K H1 a xs)/\R (V1 K a) H1
def V3(K:PySem.W.Frag)(tl:TE):TI:=λσ H R=>tl σ H λx H1=>∃a,x=.ref a/\(∃xs,gE K H1 a xs)/\R (V2 K a) H1
theorem rS{l:Expr}{tl:TE}(hl:PE X l tl):PI X tg l (Qy X.K tl):=by
 intro aa s σ H R I h;refine cJ (hl aa s σ H _ I h) ?_;rintro v s1 ⟨x,H1,I1,r1,q1⟩;obtain⟨a,e,⟨xs,hq⟩,q⟩:=q1;subst e;cases r1;obtain⟨aG,rv,p,hz⟩:=I1.list hq;refine wpAny_pyIter_list p.isList ?_;refine⟨s1.heap.objs.size,[s1.heap.objs.size],_,_,H1,rfl,I1.kept (t':=s1.toks) λb o e=>bz _ e,Be a _,⟨_,dP _ rfl,rfl,rfl⟩,λb hb=>?_,q⟩;have e:b=s1.heap.objs.size:=by simpa using hb
 subst e;exact I1.Bd (aI _) (I1.bJ.fresh (aI _))
theorem LM{l:Expr}{tl:TE}(hl:PE X l tl):PI X tg l (V3 X.K tl):=by
 intro aa s σ H R I h;refine cJ (hl aa s σ H _ I h) ?_;rintro v s1 ⟨x,H1,I1,r1,q1⟩;obtain⟨a,e,⟨xs,hq⟩,q⟩:=q1;subst e;cases r1;obtain⟨aG,rv,p,hz⟩:=I1.tuple hq;refine wpAny_pyIter_tuple (show s1.heap.IsTuple a aG.toArray from p) ?_;refine⟨s1.heap.objs.size,[s1.heap.objs.size],_,_,H1,rfl,I1.kept (t':=s1.toks) λb o e=>bz _ e,xi a _,⟨_,dP _ rfl,rfl,rfl⟩,λb hb=>?_,q⟩;have e:b=s1.heap.objs.size:=by simpa using hb
 subst e;exact I1.Bd (aI _) (I1.bJ.fresh (aI _))
theorem uI{lo hi:Int}{tk:Nat}(I:Inv X aa σ H s)(h1:-(2 ^ 62)<=lo)(h2:lo<2 ^ 62)(h3:-(2 ^ 62)<=hi)(h4:hi<2 ^ 62)(q:R (Qx lo (hi-lo).toNat) H):wpAny (model X.prog X.w) X.A (pyIter (.ref s.heap.objs.size)) (Ui X aa σ tg R) E {s with heap:=s.heap.push {cls:=.type "range",data:=.fields #[.int lo t,.int hi u,.int 1 v]},toks:=tk}:=by
 refine wpAny_pyIter_range (IsRange.new ..) (small_one h1 h2 h3 h4) ?_;have I1:Inv X aa σ H {s with heap:=s.heap.push {cls:=.type "range",data:=.fields #[.int lo t,.int hi u,.int 1 v]},toks:=tk}:=I.kept λb o e=>bz _ e
 refine⟨(s.heap.push {cls:=.type "range",data:=.fields #[.int lo t,.int hi u,.int 1 v]}).objs.size,[(s.heap.push {cls:=.type "range",data:=.fields #[.int lo t,.int hi u,.int 1 v]}).objs.size],_,_,H,rfl,
  I1.kept (t':=tk) λb o e=>bz _ e,xj _ lo (hi-lo).toNat,?_,λb hb=>?_,q⟩
 ·have e1:lo+((0:Nat):Int)*1=lo:=by simp
  have e2:(((hi-lo).toNat:Nat):Int)-((0:Nat):Int)=Builtin.Range.rangeSize lo hi 1:=by rw[rangeSize_one];split<;>omega
  show IsRangeIter _ _ (lo+((0:Nat):Int)*1) ((((hi-lo).toNat:Nat):Int)-((0:Nat):Int)) 1;rw[e1,e2];exact dP _ rfl
 ·have e:b=(s.heap.push {cls:=.type "range",data:=.fields #[.int lo t,.int hi u,.int 1 v]}).objs.size:=by simpa using hb
  subst e;exact I1.Bd (aI _) (I1.bJ.fresh (aI _))
def Qz(ta:TA):TI:=λσ H R=>ta σ H λvs H1=>∃j:Int,vs=[.int j]/\-(2 ^ 62)<=j/\j<2 ^ 62/\R (Qx 0 j.toNat) H1
def QA(ta:TA):TI:=λσ H R=>ta σ H λvs H1=>∃i j:Int,vs=[.int i,.int j]/\(-(2 ^ 62)<=i/\i<2 ^ 62/\-(2 ^ 62)<=j/\j<2 ^ 62)/\R (Qx i (j-i).toNat) H1
theorem Bf{a:Expr}{ta:TA}{p pos:Pos} (hg:Gl X "range") (hm:X.mg "range" = none) (ha:PA X [a] ta) (hs:starEach [a] X.env=[(false,eval a X.env)]:=by rfl):PI X tg (.Call (.Name "range" p) [a] [] pos) (Qz ta):=by
 intro aa s σ H R I h;refine Call_ (ly I hg hm boot_range (Gv (cJ (ha pos aa s σ H _ I h) ?_) hs rfl));rintro us s1 ⟨vs,H1,I1,r1,q1⟩;obtain⟨j,e,q1,q2,q⟩:=q1;subst e
 cases r1 with
 | cons r rr =>
  cases rr;obtain⟨t,rfl⟩:=r;exact call_range_1 (uI I1 ∅ ∅ q1 q2 (by simpa using q))
theorem Bg{a b:Expr}{ta:TA}{p pos:Pos} (hg:Gl X "range") (hm:X.mg "range" = none) (ha:PA X [a,b] ta) (hs:starEach [a,b] X.env=[(false,eval a X.env),(false,eval b X.env)]:=by rfl) (y3:starEach [b] X.env=[(false,eval b X.env)]:=by rfl):PI X tg (.Call (.Name "range" p) [a,b] [] pos) (QA ta):=by
 intro aa s σ H R I h;refine Call_ (ly I hg hm boot_range (Gv (cJ (ha pos aa s σ H _ I h) ?_) (by rw[hs,y3]) (by rw[y3];rfl)));rintro us s1 ⟨vs,H1,I1,r1,q1⟩;obtain⟨i,j,e,⟨q1,q2,q3,q4⟩,q⟩:=q1;subst e
 cases r1 with
 | cons r rr =>
  cases rr with
  | cons r' rr =>
   cases rr;obtain⟨t,rfl⟩:=r;obtain⟨t',rfl⟩:=r';exact call_range_2 (uI I1 q1 q2 q3 q4 q)
noncomputable def V4(wi:TI)(g:TG)(tb:TS):TS:=λD σ H=>wi σ H λJ H1=>∃W:Nat->Nat->St->Hp->Prop,(∃m,W 0 m σ H1)/\∀i m σ H,W i m σ H ->
 (J.stop i H/\D.nx σ H)\/(J.go i H/\∃N:St->Hp->Prop,(∀cU H',N cU H'->∃m',m'<m/\W (i+1) m' cU H')/\∀x H',J.Pl i H x H'->g x σ H' λy4 H2=>tb {D with nx:=N,ct:=N,bk:=D.nx} y4 H2)
noncomputable def lz(fp:List Addr)(h:Heap):List (Addr×Obj):=fp.filterMap λb=>(h.get? b).map λo=>(b,o)
theorem gY(hb:b∈fp)(e:h.get? b=some o):(b,o)∈lz fp h:=List.mem_filterMap.mpr ⟨b,hb,by rw[e];rfl⟩
theorem Bh(hp:p∈lz fp h):p.1∈fp/\h.get? p.1=some p.2:=by
 obtain⟨b,hb,e⟩:=List.mem_filterMap.mp hp
 cases q:h.get? b with
 | none=>rw[q]at e;cases e
 | some o =>
  rw[q]at e;have e':(b,o)=p:=cg e;subst e';exact⟨hb,q⟩
theorem Inv.pinned(I:Inv X aa σ H s)(hf:∀b∈fp,mJ X aa H b)(ho:∀b∈fp,∃o,s.heap.get? b=some o/\∀v,o.data≠.cell v):Inv X (aa++lz fp s.heap) σ H s :=
 I.rN λp hp=>(cj.mp hp).elim (λz=>I.pin p (mG _ z)) λz=>by
  obtain⟨hb,e⟩:=Bh z;obtain⟨f0,f1,f2,_⟩:=hf p.1 hb;obtain⟨o,e',d⟩:=ho p.1 hb;rw[e]at e';cases e';exact⟨e,f0,f1,f2,d⟩
theorem Inv.iI(I:Inv X (aa++pl) σ H s):Inv X aa σ H s:=I.rN λp hp=>I.pin p (mG _ (GB _ hp))
theorem LN(hp:PassesOwn (model X.prog X.w) X.A X.env X.xe)(hc:X.calm=true)(hi:PI X tg aQ wi)(hg:PG X tg g)(hb:rO X body tb)(hs:∀x,foldedSetIterable aQ X.env x=pure x:=by intro _;rfl):PS X (.For tg aQ body [] pos) (V4 wi g tb):=by
 intro aa s σ H D I h;refine wpAny_For (cJ (hi aa s σ H _ I h) λv s1 h1=>cJ h1 λUj s2 h2=>?_) hs;obtain⟨it,fp,tn,J,H2,e,I2,T,Cs,f2,W,⟨m0,w0⟩,xb⟩:=h2;subst e;have LO:∀{H':Hp},(∀b∈fp,H' b=none)->∀b∈fp,mJ X aa H' b:=λhn b hb=>⟨hn b hb,(f2 b hb).2⟩;refine codeAny_forLoop_any (λn s'=>∃i cU H',Inv X aa cU H' s'/\tn i s'.heap/\(∀b∈fp,H' b=none)/\W i n cU H') ?_ m0 ⟨0,σ,H2,I2,Cs,λb hb=>(f2 b hb).1,w0⟩;rintro n s3 ⟨i,xf,H3,I3,Uk,kl,w3⟩;rcases xb i n xf H3 w3 with⟨stop,qn⟩|⟨go,N,hN,step⟩
 ·refine wZ hp (cJ (T.done X rfl rfl rfl hc i aa s3 xf H3 X.xe I3 (LO kl) Uk stop) ?_);rintro r s4 ⟨rfl,I4⟩;exact wpAny_execs_nil ⟨xf,H3,I4,qn⟩
 ·refine wZ hp (cJ (T.item X rfl rfl rfl hc i aa s3 xf H3 X.xe I3 (LO kl) Uk go) ?_);rintro r s4 ⟨u,rfl,h4⟩;refine wZ hp (cJ h4 ?_);rintro _ s5 ⟨x,H5,I5,r5,y5,Pm,mh⟩;have I5':=I5.pinned (LO mh) (T.obj _ _ Pm);refine wZ hp (cJ (hg _ s5 xf H5 x u _ I5' r5 (step x H5 y5)) ?_);rintro _ s6 ⟨σ6,H6,I6,q6⟩;refine wZ hp (cJ (hb _ s6 σ6 H6 _ I6 q6) λf s7 q7=>?_)
  have again:∀{De:St}{H7:Hp},Inv X (aa++lz fp s5.heap) De H7 s7->N De H7->∃m,m<n/\∃i cU H',Inv X aa cU H' s7/\tn i s7.heap/\(∀b∈fp,H' b=none)/\W i m cU H':=λ{De H7} I7 n7=>by
   obtain⟨m',hm,w7⟩:=hN De H7 n7;refine⟨m',hm,i+1,De,H7,I7.iI,T.keep _ _ _ Pm λb hb o e=>(I7.pin (b,o) (mG _ (mG _ (gY hb e)))).1,λb hb=>?_,w7⟩;obtain⟨o,e,d⟩:=T.obj _ _ Pm b hb;exact(I7.pin (b,o) (mG _ (mG _ (gY hb e)))).2.1
  cases f with
  | next=>obtain⟨De,H7,I7,n7⟩:=q7;exact again I7 n7
  | cont=>obtain⟨De,H7,I7,n7⟩:=q7;exact again I7 n7
  | brk=>obtain⟨De,H7,I7,q7⟩:=q7;exact⟨De,H7,I7.iI,q7⟩
  | ret v=>obtain⟨x7,De,H7,I7,r7,q7⟩:=q7;exact⟨x7,De,H7,I7.iI,r7,q7⟩
end
abbrev R2:=V->V->Hp->VK->Prop
def jv(X:Cx)(f:Value->Value->Sem Value)(r:R2):Prop :=
 ∀(aa:List (Addr×Obj))(s:Shared)(σ:St)(H:Hp)(x y:V)(v u:Value)(Q:VK),Inv X aa σ H s->RelV x v->RelV y u->r x y H Q ->
  wpAny (model X.prog X.w) X.A (f v u) (EP X aa σ Q) X.xe s
def V5(X:Cx)(f:Value->Sem Value)(r:V->Hp->VK->Prop):Prop :=
 ∀(aa:List (Addr×Obj))(s:Shared)(σ:St)(H:Hp)(x:V)(v:Value)(Q:VK),Inv X aa σ H s->RelV x v->r x H Q ->
  wpAny (model X.prog X.w) X.A (f v) (EP X aa σ Q) X.xe s
def dM(X:Cx)(f:Value)(r:List V->Hp->VK->Prop):Prop :=
 ∀(aa:List (Addr×Obj))(s:Shared)(σ:St)(H:Hp)(xs:List V)(us:List Value)(Q:VK),Inv X aa σ H s->aS xs us->r xs H Q ->
  wpAny (model X.prog X.w) X.A (call f us) (EP X aa σ Q) X.xe s
def V6(X:Cx)(r:V->Hp->(Bool->Hp->Prop)->Prop):Prop :=
 ∀(aa:List (Addr×Obj))(s:Shared)(σ:St)(H:Hp)(x:V)(v:Value)(Q:Bool->Hp->Prop),Inv X aa σ H s->RelV x v->r x H Q ->
  wpAny (model X.prog X.w) X.A (truthy v) (TP X aa σ Q) X.xe s
noncomputable def Ge(r:R2)(ta tb:TE):TE:=λσ H Q=>ta σ H λx H1=>tb σ H1 λy H2=>r x y H2 Q
noncomputable def tUn(r:V->Hp->VK->Prop)(ta:TE):TE:=λσ H Q=>ta σ H λx H1=>r x H1 Q
noncomputable def rI(C:Int->Int->Prop)(g:Int->Int->V):R2:=λx y H Q=>∃i j,x=.int i/\y=.int j/\C i j/\Q (g i j) H
noncomputable def J7(g:Int->Int->V):R2:=λx y H Q=>∃i j,x=.int i/\y=.int j/\Q (g i j) H
noncomputable def rU(g:Int->V):V->Hp->VK->Prop:=λx H Q=>∃i,x=.int i/\Q (g i) H
section
variable {X:Cx} {a b c:Expr} {ta tb tc:TE} {pos:Pos}
theorem LP(ha:PE X a ta)(hb:PE X b tb){aa:List (Addr×Obj)}{s:Shared}{σ:St}{H:Hp}{R:V->V->Hp->Prop}(I:Inv X aa σ H s)(h:ta σ H λx H1=>tb σ H1 λy H2=>R x y H2){Q:Value->Shared->Prop}{f:Value->Value->Sem Value}(hf:∀v u s2 x y H2,Inv X aa σ H2 s2->RelV x v->RelV y u->R x y H2->wpAny (model X.prog X.w) X.A (f v u) Q X.xe s2):wpAny (model X.prog X.w) X.A (eval a X.env) (λv bo=>wpAny (model X.prog X.w) X.A (eval b X.env) (λu Bc=>wpAny (model X.prog X.w) X.A (f v u) Q X.xe Bc) X.xe bo) X.xe s:=by
 refine cJ (ha aa s σ H _ I h) ?_;rintro v s1 ⟨x,H1,I1,r1,q1⟩;refine cJ (hb aa s1 σ H1 _ I1 q1) ?_;rintro u s2 ⟨y,H2,I2,r2,q2⟩;exact hf v u s2 x y H2 I2 r1 r2 q2
theorem QB{op:Operator}{r:R2}(ho:jv X (binaryOp op) r)(ha:PE X a ta)(hb:PE X b tb):PE X (.BinOp a op b pos) (Ge r ta tb):=by
 intro aa s σ H Q I h;exact wpAny_BinOp (LP ha hb I h λv u s2 x y H2 I2 rx ry q=>ho aa s2 σ H2 x y v u Q I2 rx ry q)
theorem J8(ho:V5 X (unaryOp op) r)(ha:PE X a ta):PE X (.UnaryOp op a pos) (tUn r ta):=by
 intro aa s σ H Q I h;exact UnaryOp_ (cJ (ha aa s σ H _ I h) λv s1 ⟨x,H1,I1,r1,q1⟩=>ho aa s1 σ H1 x v Q I1 r1 q1)
theorem Ul{f:Value->Value->Sem Value}{C:Int->Int->Prop}{g:Int->Int->Int}(rule:∀(i j:Int)(t u:Tok)(s:Shared)(Q:Value->Shared->Prop)(E:Value->Shared->Prop),C i j->Q (.int (g i j) s.toks) {s with toks:=s.toks+1}->wpAny (model X.prog X.w) X.A (f (.int i t) (.int j u)) Q E s):jv X f (rI C λi j=>.int (g i j)):=by
 intro aa s σ H x y v u Q I rx ry h;obtain⟨i,j,rfl,rfl,hc,q⟩:=h;obtain⟨t,rfl⟩:=rx;obtain⟨t',rfl⟩:=ry;exact rule i j t t' s _ _ hc ⟨.int (g i j),H,I.tok _,⟨_,rfl⟩,q⟩
theorem QC{f:Value->Value->Sem Value}{g:Int->Int->Int}(rule:∀(i j:Int)(t u:Tok)(s:Shared)(Q:Value->Shared->Prop)(E:Value->Shared->Prop),Q (.int (g i j) s.toks) {s with toks:=s.toks+1}->wpAny (model X.prog X.w) X.A (f (.int i t) (.int j u)) Q E s):jv X f (J7 λi j=>.int (g i j)):=by
 intro aa s σ H x y v u Q I rx ry h;obtain⟨i,j,rfl,rfl,q⟩:=h;obtain⟨t,rfl⟩:=rx;obtain⟨t',rfl⟩:=ry;exact rule i j t t' s _ _ ⟨.int (g i j),H,I.tok _,⟨_,rfl⟩,q⟩
theorem G0{f:Value->Value->Sem Value}{g:Int->Int->Bool}(rule:∀(i j:Int)(t u:Tok)(s:Shared)(Q:Value->Shared->Prop)(E:Value->Shared->Prop),Q (.bool (g i j)) s->wpAny (model X.prog X.w) X.A (f (.int i t) (.int j u)) Q E s):jv X f (J7 λi j=>.bl (g i j)):=by
 intro aa s σ H x y v u Q I rx ry h;obtain⟨i,j,rfl,rfl,q⟩:=h;obtain⟨t,rfl⟩:=rx;obtain⟨t',rfl⟩:=ry;exact rule i j t t' s _ _ ⟨.bl (g i j),H,I,rfl,q⟩
def V7(i j:Int):Prop:=0<j/\j<1073741824
def V8(i j:Int):Prop:=0<=j/\j<=1000000/\i.natAbs<2 ^ 64
noncomputable def LQ(i j:Int):Prop:=(-(2 ^ 64)<i/\i<2 ^ 64)\/(-(2 ^ 64)<j/\j<2 ^ 64)
theorem LQ.ok(h:LQ i j):IntMulOk i j:=by
 rcases h with⟨h1,h2⟩|⟨h1,h2⟩
 ·exact .of_left (intBits_le_64 h1 h2)
 ·exact .of_right (intBits_le_64 h1 h2)
theorem LR:jv X (binaryOp .Add) (J7 λi j=>.int (i+j)):=QC λ_ _ _ _ _ _ _ q=>add_int q
theorem LS:jv X (binaryOp .Sub) (J7 λi j=>.int (i-j)):=QC λ_ _ _ _ _ _ _ q=>sub_int q
theorem LU:jv X (binaryOp .Mult) (rI LQ λi j=>.int (i*j)):=Ul λ_ _ _ _ _ _ _ hc q=>mul_int q hc.ok
theorem G1:jv X (binaryOp .FloorDiv) (rI V7 λi j=>.int (i / j)):=Ul λi j _ _ _ _ _ hc q=>by
 have h1:(0:Int)<j:=hc.1;have h2:j<1073741824:=hc.2;exact floordiv_int ∅ (by rw[Int.fdiv_eq_ediv_of_nonneg i ∅];exact q) (.inl (PyProof.noPylong_small ∅))
theorem LV:jv X (binaryOp .Mod) (rI (λ_ j=>0<j) λi j=>.int (i % j)):=Ul λi j _ _ _ _ _ hc q=>by
 have h1:(0:Int)<j:=hc;exact mod_int' ∅ (by rw[Int.fmod_eq_emod_of_nonneg i ∅];exact q)
theorem LW:jv X (binaryOp .Pow) (rI V8 λi j=>.int (i ^ j.toNat)):=Ul λ_ _ _ _ _ _ _ hc q=>pow_int_small hc.1 hc.2.1 hc.2.2 q
theorem unI{f:Value->Sem Value}{g:Int->Int}(rule:∀(i:Int)(t:Tok)(s:Shared)(Q:Value->Shared->Prop)(E:Value->Shared->Prop),Q (.int (g i) s.toks) {s with toks:=s.toks+1}->wpAny (model X.prog X.w) X.A (f (.int i t)) Q E s):V5 X f (rU λi=>.int (g i)):=by
 intro aa s σ H x v Q I rx h;obtain⟨i,rfl,q⟩:=h;obtain⟨t,rfl⟩:=rx;exact rule i t s _ _ ⟨.int (g i),H,I.tok _,⟨_,rfl⟩,q⟩
theorem Df:V5 X (unaryOp .USub) (rU λi=>.int (-i)):=unI λ_ _ _ _ _ q=>neg_int q
end
section
variable {X:Cx} {a b c:Expr} {ta tb tc:TE} {pos:Pos}
theorem nR(I:Inv X aa σ H s)(q:Q (.bl k) H)(e:k=k'):EP X aa σ Q (.bool k') s:=by
 subst e;exact⟨.bl k,H,I,rfl,q⟩
theorem QD:jv X (compareOp .Lt) (J7 λi j=>.bl (decide (i<j))):=G0 λ_ _ _ _ _ _ _ q=>lt_int q
theorem QE:jv X (compareOp .LtE) (J7 λi j=>.bl (decide (i<=j))):=G0 λ_ _ _ _ _ _ _ q=>le_int q
theorem QF:jv X (compareOp .Gt) (J7 λi j=>.bl (decide (j<i))):=G0 λ_ _ _ _ _ _ _ q=>gt_int q
theorem QG:jv X (compareOp .GtE) (J7 λi j=>.bl (decide (j<=i))):=G0 λ_ _ _ _ _ _ _ q=>ge_int q
theorem Bj:jv X (compareOp .Lt) (λx y H Q=>∃i j,x=.str i/\y=.str j/\Q (.bl (decide (i.cps.toList<j.cps.toList))) H):=by
 intro aa s σ H x y v u Q I rx ry h;obtain⟨i,j,rfl,rfl,q⟩:=h;obtain⟨t,rfl⟩:=rx;obtain⟨t',rfl⟩:=ry;exact lt_str (nR I q rfl)
theorem LX:jv X (compareOp .Is) (λx y H Q=>y=.aR/\Q (.bl (decide (x=.aR))) H):=by
 intro aa s σ H x y v u Q I rx ry h;obtain⟨rfl,q⟩:=h;cases ry;refine is_none_gen (nR I q ?_)
 cases x<;>first
  | (cases rx;rfl)
  | (obtain⟨t,rfl⟩:=rx;rfl)
theorem G2:jv X (compareOp .IsNot) (λx y H Q=>y=.aR/\Q (.bl (!decide (x=.aR))) H):=by
 intro aa s σ H x y v u Q I rx ry h;obtain⟨rfl,q⟩:=h;cases ry;refine isnot_none_gen (nR I q ?_)
 cases x<;>first
  | (cases rx;rfl)
  | (obtain⟨t,rfl⟩:=rx;rfl)
theorem mP{op:CmpOp}{r:R2}(ho:jv X (compareOp op) r)(ha:PE X a ta)(hb:PE X b tb)(hm:behindInMarks op b=false):PE X (.Compare a [op] [b] pos) (Ge r ta tb):=by
 intro aa s σ H Q I h;exact wpAny_Compare1 (LP ha hb I h λv u s2 x y H2 I2 rx ry q=>ho aa s2 σ H2 x y v u Q I2 rx ry q) hm
noncomputable def iJ(t:TE):TT:=λσ H Q=>t σ H λx H'=>∃k,x=.bl k/\Q k H'
theorem mQ(ho:jv X (compareOp op) r)(ha:PE X a ta)(hb:PE X b tb)(hm:behindInMarks op b=false):PT X (.Compare a [op] [b] pos) (iJ (Ge r ta tb)):=by
 intro aa s σ H Q I h
 refine wpAny_isTrue_Compare1 (cJ (ha aa s σ H _ I h) λv s1 ⟨x,H1,I1,r1,q1⟩=>cJ (hb aa s1 σ H1 _ I1 q1) λu s2 ⟨y,H2,I2,r2,q2⟩ =>
  cJ (ho aa s2 σ H2 x y v u _ I2 r1 r2 q2) λc s3 ⟨z,H3,I3,r3,k,e,q3⟩=>?_) hm
 subst e;cases r3;exact ui ⟨H3,I3,q3⟩
noncomputable def xk(r r':R2)(ta tb tc:TE):TE:=λσ H Q=>ta σ H λx H1=>tb σ H1 λy H2=>r x y H2 λz H3=>∃k,z=.bl k /\
 (if k=true then tc σ H3 λw' H4=>r' y w' H4 Q else Q (.bl false) H3)
theorem Dg(ho:jv X (compareOp op) r)(yV:jv X (compareOp QH) r')(ha:PE X a ta)(hb:PE X b tb)(hc:PE X c tc)(hm:lastMarks [op,QH] [b,c]=false:=by with_unfolding_all rfl):PE X (.Compare a [op,QH] [b,c] pos) (xk r r' ta tb tc):=by
 intro aa s σ H Q I h
 refine Compare_chain (cJ (ha aa s σ H _ I h) λv s1 ⟨x,H1,I1,r1,q1⟩=>chain_link (cJ (hb aa s1 σ H1 _ I1 q1) λu s2 ⟨y,H2,I2,r2,q2⟩ =>
  cJ (ho aa s2 σ H2 x y v u _ I2 r1 r2 q2) λd s3 ⟨z,H3,I3,r3,k,e,q3⟩=>?_)) hm
 subst e;cases r3;refine ui ?_
 cases k with
 | false=>exact ite_ff ⟨.bl false,H3,I3,rfl,q3⟩
 | true=>exact ite_tt (chain_last (cJ (hc aa s3 σ H3 _ I3 q3) λw' s4 ⟨z',H4,I4,r4,q4⟩=>yV aa s4 σ H4 y z' u w' Q I4 r2 r4 q4))
theorem Dh(ho:jv X (compareOp op) r)(yV:jv X (compareOp QH) r')(ha:PE X a ta)(hb:PE X b tb)(hc:PE X c tc)(hm:lastMarks [op,QH] [b,c]=false:=by with_unfolding_all rfl):PT X (.Compare a [op,QH] [b,c] pos) (iJ (xk r r' ta tb tc)):=by
 intro aa s σ H Q I h
 refine isTrue_chain (cJ (ha aa s σ H _ I h) λv s1 ⟨x,H1,I1,r1,q1⟩=>test_link (cJ (hb aa s1 σ H1 _ I1 q1) λu s2 ⟨y,H2,I2,r2,q2⟩ =>
  cJ (ho aa s2 σ H2 x y v u _ I2 r1 r2 q2) λd s3 ⟨z,H3,I3,r3,k,e,q3⟩=>?_)) hm
 subst e;cases r3;refine ui ?_
 cases k with
 | false =>
  obtain⟨k',e',q'⟩:=q3;cases e';exact ite_ff ⟨H3,I3,q'⟩
 | true =>
  refine ite_tt (test_last (cJ (hc aa s3 σ H3 _ I3 q3) λw' s4 ⟨z',H4,I4,r4,q4⟩=>cJ (yV aa s4 σ H4 y z' u w' _ I4 r2 r4 q4) λd' s5 ⟨z2,H5,I5,r5,k2,e2,q5⟩=>?_));subst e2;cases r5;exact ui ⟨H5,I5,q5⟩
def Di(K:PySem.W.Frag)(x:V)(H:Hp)(k:Bool):Prop :=
 match x with
 | .aR=>k=false
 | .bl b=>k=b
 | .int i=>k=(i != 0)
 | .str y=>y.length<=sizeLine/\k=((y.length:Int) != 0)
 | .P9 y=>y.size<=sizeLine/\k=((y.size:Int) != 0)
 | .ref p=>(∃xs,fK K H p xs/\k=!xs.isEmpty)\/(∃xs,gE K H p xs/\k=!xs.isEmpty)\/∃ah,H p=some (.dK ah)/\k=!ah.isEmpty
 | _=>False
theorem xl{κ:Type}{ah:List (κ×V)}{vs:List (κ×Value)}(r:KV ah vs):(!vs.isEmpty)=!ah.isEmpty:=by
 cases r<;>rfl
theorem nT(r:aS xs aG):(!aG.toArray.isEmpty)=!xs.isEmpty:=by
 cases r<;>simp
theorem jS:(sizeLine:Nat)<2 ^ 63:=by rw[AY];decide
theorem LY:V6 X (λx H Q=>∃k,Di X.K x H k/\Q k H):=by
 intro aa s σ H x v Q I rx h;obtain⟨k,e,q⟩:=h;have hl:=jS;have hs:sizeLine=16777216:=AY
 cases x with
 | aR =>
  cases rx;have e':k=false:=e;subst e';exact truthy_none ⟨H,I,q⟩
 | bl b =>
  cases rx;have e':k=b:=e;subst e';exact ui ⟨H,I,q⟩
 | int i =>
  obtain⟨t,rfl⟩:=rx;have e':k=(i != 0):=e;subst e';exact PySem.P.truthy_int ⟨H,I,q⟩
 | str y =>
  obtain⟨t,rfl⟩:=rx;obtain⟨hy,e'⟩:y.length<=sizeLine/\k=((y.length:Int) != 0):=e;subst e';exact PySem.P.truthy_str ∅ ⟨H,I.tok _,q⟩
 | P9 y =>
  obtain⟨t,rfl⟩:=rx;obtain⟨hy,e'⟩:y.size<=sizeLine/\k=((y.size:Int) != 0):=e;subst e';exact PySem.W.truthy_bytes ∅ ⟨H,I.tok _,q⟩
 | ref p =>
  cases rx;have e':(∃xs,fK X.K H p xs/\k=!xs.isEmpty)\/(∃xs,gE X.K H p xs/\k=!xs.isEmpty)\/∃ah,H p=some (.dK ah)/\k=!ah.isEmpty:=e;rcases e' with⟨xs,hx,e'⟩|⟨xs,hx,e'⟩|⟨ah,hx,e'⟩
  ·subst e';obtain⟨aG,r,pl,hz⟩:=I.list hx;have aY:=r.length;exact wpAny_truthy_list pl.isList (by simp only[cG];omega) ⟨H,I.tok _,by rw[nT r];exact q⟩
  ·subst e';obtain⟨aG,r,pl,hz⟩:=I.tuple hx;have aY:=r.length;exact truthy_tuple pl (by simp only[cG];omega) ⟨H,I.tok _,by rw[nT r];exact q⟩
  ·subst e';obtain⟨hz,hS,vs,r,m⟩:ah.length<=sizeLine/\(p==sysModules)=false/\∃vs,KV ah vs/\s.heap.DictOf (bA X.prog X.w) p vs:=I.bJ p _ hx;have aY:ah.length=vs.length:=CS r;exact wpAny_truthy_dict hS m ∅ ⟨H,I.tok _,by rw[xl r];exact q⟩
 | _=>exact(show False from e).elim
theorem Dj(ha:PE X a ta)(he:∀nP,isTrue a X.env nP=(do let v <- nP;standAt a.pos;holding [v] (truthy v))):PT X a (λσ H Q=>ta σ H λx H'=>∃k,Di X.K x H' k/\Q k H'):=by
 intro aa s σ H Q I h;exact isTrue_plain (cJ (ha aa s σ H _ I h) λv s1 ⟨x,H1,I1,r1,q1⟩=>LY aa s1 σ H1 x v Q I1 r1 q1) (he _)
theorem vals1(r:aS [x] us):∃u,us=[u]/\RelV x u:=by
 cases r with
 | cons r1 r2=>cases r2;exact⟨_,rfl,r1⟩
theorem vals2(r:aS [x,y] us):∃u w',us=[u,w']/\RelV x u/\RelV y w':=by
 cases r with
 | cons r1 r2 =>
  cases r2 with
  | cons r3 r4=>cases r4;exact⟨_,_,rfl,r1,r3⟩
theorem Bk(hc:X.calm=true):dM X (.builtin "max") (λxs H Q=>∃i j,xs=[.int i,.int j]/\Q (.int (if j>i then j else i)) H):=by
 intro aa s σ H xs us Q I r h;obtain⟨i,j,rfl,q⟩:=h;obtain⟨u,w',rfl,⟨t,rfl⟩,⟨t',rfl⟩⟩:=vals2 r;refine max_two_ints (I.ok.hd hc) λh' tk k=>⟨_,H,I.kept k,?_,q⟩;by_cases hj:j>i
 ·rw[aw hj,aw hj];exact⟨_,rfl⟩
 ·rw[az hj,az hj];exact⟨_,rfl⟩
theorem Bl(hc:X.calm=true):dM X (.builtin "min") (λxs H Q=>∃i j,xs=[.int i,.int j]/\Q (.int (if j<i then j else i)) H):=by
 intro aa s σ H xs us Q I r h;obtain⟨i,j,rfl,q⟩:=h;obtain⟨u,w',rfl,⟨t,rfl⟩,⟨t',rfl⟩⟩:=vals2 r;refine min_two_ints (I.ok.hd hc) λh' tk k=>⟨_,H,I.kept k,?_,q⟩;by_cases hj:j<i
 ·rw[aw hj,aw hj];exact⟨_,rfl⟩
 ·rw[az hj,az hj];exact⟨_,rfl⟩
theorem qw:dM X (.type "int") (λxs H Q=>(∃i,xs=[.int i]/\Q (.int i) H)\/∃k,xs=[.bl k]/\Q (.int (if k then 1 else 0)) H):=by
 intro aa s σ H xs us Q I r h;rcases h with⟨i,rfl,q⟩|⟨k,rfl,q⟩
 ·obtain⟨u,rfl,t,rfl⟩:=vals1 r;exact call_int_int ⟨.int i,H,I,⟨_,rfl⟩,q⟩
 ·obtain⟨u,rfl,r1⟩:=vals1 r;cases r1;exact call_int_bool ⟨.int (if k then 1 else 0),H,I.tok _,⟨_,rfl⟩,q⟩
end
structure G3 (h:Heap) (x dx C:Addr) (mA:Str->Option Value):Prop where
 obj:h.get? x=some (PySem.W.instObj C dx)
 ns:h.Ns1 dx mA
 ne:dx≠x
theorem Bm{h:Heap}{dx:Addr}{mA:Str->Option Value}(n:h.Ns1 dx mA):∃od,h.get? dx=some od/\∀name,PySem.W.lookIn name od=some (mA name):=by
 obtain⟨o,es,ep,ho,hd,hk,_,hm⟩:=n;refine⟨o,ho,λname=>?_⟩;have e:=hm name;unfold nsFind findBy at e;rw[<- Array.find?_toList]at e;unfold PySem.W.lookIn;rw[hd];dsimp only;split
 ·rename_i y q
  rw[q]at e;exact lu some e
 ·rename_i q
  rw[q]at e
  have a:es.toList.any (·.refKey)=false:=by
   rw[Lg];intro y hy;obtain⟨z,t,LZ⟩:=hk y (Array.mem_toList_iff.mp hy);simp[DictEntry.refKey,LZ]
  have a':¬es.toList.any (·.refKey)=true:=by rw[a];exact aT
  rw[az a'];exact lu some e
theorem G3.look{mA:Str->Option Value}(I:G3 h x dx C mA):∃od,PySem.W.InstAt h x (PySem.W.instObj C dx) C (some od)/\∀name,PySem.W.lookIn name od=some (mA name) :=
 let ⟨od,ho,hl⟩:=Bm I.ns
 ⟨od,⟨I.obj,rfl,rfl,ho⟩,hl⟩
section
variable {prog:Program} {w:World} {A:Around} {E:Value->Shared->Prop} {s:Shared} {K:PySem.W.Frag} {x dx C f:Addr} {mA:Str->Option Value} {name:Str} {v:Value}
theorem rT(X:K.In s.heap)(I:G3 s.heap x dx C mA)(hg:PySem.W.plainGet K C name=true)(hh:PySem.W.hasDictIn K C=true)(ha:PySem.W.findIn K (.ref C) name=some none)(hv:mA name=some v)(QI:PySem.W.handedIn v=true)(h:Q v {s with toks:=s.toks+1}):wpAny (model prog w) A (getAttr (.ref x) name expr) Q E s:=by
 obtain⟨od,J,hl⟩:=I.look;exact PySem.W.get_value X J (PySem.W.plainGet_of hg).1 (PySem.W.findObj_own hh ha rfl (by rw[hl,hv])) QI h
end
theorem jR.some_of(r:jR (some v) o):∃u,o=some u/\RelV v u:=by
 cases o with
 | none=>exact(show False from r).elim
 | some u=>exact⟨u,rfl,r⟩
theorem jR.none_of(r:jR none o):o=none:=by
 cases o with
 | none=>rfl
 | some u=>exact(show False from r).elim
section
variable {P:Program} {w:World} {H H':Hp} {h h':Heap} {a C dx:Addr} {fs fs':List (Str×V)}
theorem G4(bJ:jy P w H h)(e:H a=some (.ins C dx fs)):∃mA,G3 h a dx C mA/\(∀f,jR (fs.lookup f) (mA f))/\PySem.Within mA (fs.map (·.1))/\fs.length<=1000/\H dx=some (.own a):=by
 obtain⟨d,z,ne,ob,mA,n,r,q⟩:=(show bO P w H h a (.ins C dx fs) from bJ a _ e);exact⟨mA,⟨ob,n,ne⟩,r,q,z,d⟩
end
structure V9 (K:PySem.W.Frag) (C:Addr):Prop where
 pg:PySem.W.plainGet K C Str.empty=true
 hd:PySem.W.hasDictIn K C=true
 po:PySem.W.plainOver K C=true
 sa:PySem.W.findIn K (.ref C) "__setattr__" = some (some (.builtin "object.__setattr__"))
theorem V9.get{K:PySem.W.Frag}{C:Addr}(c:V9 K C)(f:Str):PySem.W.plainGet K C f=true:=c.pg
section
variable {X:Cx} {o e value:Expr} {f:Str} {pos pos' tpos:Pos} {ta tv:TE}
noncomputable def QJ:V->V->Hp->VK->Prop:=λx y H Q=>∃i j,x=.int i/\y=.int j/\Q (.int (i-j)) H
end
section
variable {X:Cx} {aa:List (Addr×Obj)} {σ:St} {H:Hp} {s:Shared} {A:Around} {E:Value->Shared->Prop} {Q:Value->Shared->Prop} {c:Value} {b:Bool}
inductive lB (K:PySem.W.Frag) (H:Hp):V->Value->Prop where
  | aR:lB K H .aR (.type "NoneType")
  | bl (x:Bool):lB K H (.bl x) (.type "bool")
  | int (i:Int):lB K H (.int i) (.type "int")
  | str (x:Str):lB K H (.str x) (.type "str")
  | Pe (x:UInt64):lB K H (.Pe x) (.type "float")
  | lst {a:Addr} {xs:List V} (e:H a=some (.lst xs)):lB K H (.ref a) (.type "list")
  | eQ {a:Addr} {o:Obj} {xs:List V} (e:H a=some (.eQ o (.lst xs))):lB K H (.ref a) (.type "list")
  | tup {a:Addr} {xs:List V} (e:H a=some (.tup xs)):lB K H (.ref a) (.type "tuple")
  | dK {a:Addr} {ah:List (bH×V)} (e:H a=some (.dK ah)):lB K H (.ref a) (.type "dict")
  | dT {a:Addr} {ah:List (List bH×V)} (e:H a=some (.dT ah)):lB K H (.ref a) (.type "dict")
  | ins {a C dx : Addr} {fs : List (Str × V)} (e : H a = some (.ins C dx fs)) (cl : V9 K C) (ha : PySem.W.findIn K (.ref C) "__class__" = some (some (.builtin "object.__class__")))
      (hn:PySem.W.specialIn K (.builtin "object.__class__") "__get__" = some (some (.builtin "getset_descriptor.__get__"))) (YE:PySem.W.takesIn K (.builtin "object.__class__")=some true)
      (hm:PySem.W.mroIn K C (.type "object")=some true):lB K H (.ref a) (.ref C)
theorem Bn(I:Inv X aa σ H s)(rx:RelV x u)(ty:lB X.K H x t)(e:PySem.W.kitOne X.K t c=some b)(h:∀tk,Q (.bool b) {s with toks:=tk}):wpAny (model X.prog X.w) A (call (.builtin "isinstance") [u,c]) Q E s:=by
 cases ty with
 | aR=>cases (show u=Value.none from rx);exact nJ PySem.W.kitx_none I.uD True.intro e (λz=>nomatch z) h
 | bl y=>cases (show u=Value.bool y from rx);exact nJ PySem.W.kitx_bool I.uD True.intro e (λz=>nomatch z) h
 | int i=>obtain⟨t,q⟩:=(show ∃t,u=Value.int i t from rx);cases q;exact nJ PySem.W.kitx_int I.uD True.intro e (λz=>nomatch z) h
 | str y=>obtain⟨t,q⟩:=(show ∃t,u=Value.str y t from rx);cases q;exact nJ PySem.W.kitx_str I.uD True.intro e (λz=>nomatch z) h
 | Pe y=>obtain⟨t,q⟩:=(show ∃t,u=Value.float y t from rx);cases q;exact nJ PySem.W.kitx_float I.uD True.intro e (λz=>nomatch z) h
 | @lst a xs ea =>
  cases (show u=Value.ref a from rx);obtain⟨_,_,n,_,h1⟩:=(show bO X.prog X.w H s.heap a (.lst xs) from I.bJ a _ ea);exact nJ PySem.W.kitx_list I.uD ⟨_,h1,rfl⟩ e (λz=>nomatch z) h
 | @eQ a ob xs ea =>
  cases (show u=Value.ref a from rx);obtain⟨_,_,_,n,_,h1⟩:=(show bO X.prog X.w H s.heap a (.eQ ob (.lst xs)) from I.bJ a _ ea);exact nJ PySem.W.kitx_list I.uD ⟨_,h1,rfl⟩ e (λz=>nomatch z) h
 | @tup a xs ea =>
  cases (show u=Value.ref a from rx);obtain⟨_,_,_,p⟩:=(show bO X.prog X.w H s.heap a (.tup xs) from I.bJ a _ ea);obtain⟨o,h1,h2,_⟩:=p;exact nJ PySem.W.kitx_tuple I.uD ⟨o,h1,h2⟩ e (λz=>nomatch z) h
 | @dK a ah ea =>
  cases (show u=Value.ref a from rx);obtain⟨_,_,vs,_,p⟩:=(show bO X.prog X.w H s.heap a (.dK ah) from I.bJ a _ ea);obtain⟨o,es,ep,h1,h2,_⟩:=p;exact nJ PySem.W.kitx_dict I.uD ⟨o,h1,h2.1⟩ e (λz=>nomatch z) h
 | @dT a ah ea =>
  cases (show u=Value.ref a from rx);obtain⟨_,_,xs,_,o,es,ep,h1,h2,_⟩:=(show bO X.prog X.w H s.heap a (.dT ah) from I.bJ a _ ea);exact nJ PySem.W.kitx_dict I.uD ⟨o,h1,h2.1⟩ e (λz=>nomatch z) h
 | @ins a C dx fs ea cl ha hn YE hm =>
  cases (show u=Value.ref a from rx);obtain⟨mA,O,_⟩:=G4 I.bJ ea;obtain⟨od,J,_⟩:=O.look;exact nJ (PySem.W.kitx_own (cl.get _) cl.hd ha hn YE hm) I.uD J e (λz=>nomatch z) h
end
structure iK (k:Nat) (A:Around):Prop where
 hd:A.handled=none
 dp:A.depth+3*k+5<recursionLimit
 un:A.units+16*k+200<cLine
 gd:A.guards=some []
theorem iK.mono(r:iK k A)(h:j<=k):iK j A:=⟨r.hd,by have:=r.dp;omega,by have:=r.un;omega,r.gd⟩
theorem iK.deeper(r:iK (k+1) A)(env:Env):iK k (A.deeper env) :=
 ⟨r.hd,by have:=r.dp;show A.depth+1+3*k+5<_;omega,by have:=r.un;show A.units+3+16*k+200<_;omega,r.gd⟩
theorem iK.depth(r:iK k A):A.depth<recursionLimit:=by have:=r.dp;omega
def V_:TA:=λ_ H Q=>Q [] H
noncomputable def QK(ta:TE)(tr:TA):TA:=λσ H Q=>ta σ H λx H1=>tr σ H1 λxs H2=>Q (x::xs) H2
section
variable {X:Cx} {e:Expr} {es:List Expr} {te:TE} {t:TA} {pos:Pos}
theorem iL:PA X [] V_:=λ_ _ _ _ H Q I h=>Calls.spliced_nil ⟨[],H,I,.nil,h⟩
theorem eS(ha:PE X e te)(hr:PA X es t)(hs:starEach (e::es) X.env=(false,eval e X.env)::starEach es X.env:=by rfl):PA X (e::es) (QK te t):=by
 intro pos aa s σ H Q I h;rw[hs];show wpAny _ _ (spliced ((false,eval e X.env)::backTo pos (starEach es X.env))) _ _ s;refine Calls.spliced_cons (cJ (ha aa s σ H _ I h) ?_);rintro u s1 ⟨x,H1,I1,r1,q1⟩;exact cJ (hr pos aa s1 σ H1 _ I1 q1) λus s2 ⟨xs,H2,I2,r2,q2⟩=>⟨x::xs,H2,I2,.cons r1 r2,q2⟩
def Wa(t:TA):TE:=λσ H Q=>t σ H λxs H1=>xs.length<=sizeLine/\∀p,H1 p=none->Q (.ref p) (upd H1 p (.tup xs))
def Wb(t:TA):TE:=λσ H Q=>t σ H λxs H1=>xs.length<=sizeLine/\∀p,H1 p=none->Q (.ref p) (upd H1 p (.lst xs))
theorem L1 {x1} (h:PA X es t):PE X (.Tuple es x1 pos) (Wa t):=by
 intro aa s σ H Q I hq;refine wpAny_Tuple_spliced (cJ (h pos aa s σ H _ I hq) λus s1 ⟨xs,H1,I1,r,z,q⟩=>⟨by rw[<- r.length];exact z,?_⟩);have hf:H1 s1.heap.objs.size=none:=I1.bJ.fresh (aI _);refine⟨.ref s1.heap.objs.size,upd H1 s1.heap.objs.size (.tup xs),I1.laid (t':=s1.toks) (λb u e=>bz _ e) (aI _) ?_,rfl,q _ hf⟩;exact⟨z,us,r,⟨_,dP _ rfl,rfl,_,rfl⟩⟩
theorem L3(h:PA X es t):PE X (.List es pos) (Wb t):=by
 intro aa s σ H Q I hq;refine wpAny_List_spliced (cJ (h pos aa s σ H _ I hq) λus s1 ⟨xs,H1,I1,r,z,q⟩=>⟨by rw[<- r.length];exact z,?_⟩);have hf:H1 s1.heap.objs.size=none:=I1.bJ.fresh (aI _);refine⟨.ref s1.heap.objs.size,upd H1 s1.heap.objs.size (.lst xs),I1.laid (t':=s1.toks) (λb u e=>bz _ e) (aI _) ?_,rfl,q _ hf⟩;exact⟨z,us,0,r,dP _ rfl⟩
end
abbrev Sp:=List V->Hp->VK->XK->Prop
abbrev Dk:=List Env->Hp->Shared->XK->Value->Shared->Prop
structure G5 (P:Program) (w:World) (K:PySem.W.Frag) (mg:Str->Option Value) (base:Heap) (A:Around) (outer:List Env) (s:Shared) (H:Hp):Prop where
 frames:A.frames=some outer
 mod:Mod K mg base
 bs:∀b o,base.get? b=some o->s.heap.get? b=some o/\H b=none
 J1:base.objs.size<=s.heap.objs.size
 nO:s.heap.FunFrames base outer
 Pg:∀b∈CZ outer,H b=none
 bJ:jy P w H s.heap
 bare:AllBare s.gens
def CE(outer:List Env)(P:Program)(w:World)(H:Hp)(s:Shared)(Q:VK)(u:Value)(s':Shared):Prop :=
 ∃v H',s'.os=s.os/\AllBare s'.gens/\Un (CZ outer) [] H H' s.heap s'.heap/\jy P w H' s'.heap/\RelV v u/\Q v H'
def CR(CX:Dk)(outer:List Env)(P:Program)(w:World)(H:Hp)(s:Shared)(Q:VK)(E:XK)(r:Result)(s':Shared):Prop :=
 match r with
 | .ok (.ret u)=>CE outer P w H s Q u s'
 | .ok _=>False
 | .error e=>CX outer H s E e s'
structure iM (P:Program) (w:World) (K:PySem.W.Frag) (mg:Str->Option Value) (base:Heap) (CX:Dk) (k:Nat) (f:Addr) (fd:FuncData) (ps:List Str) (sp:Sp):Prop where
 len:∀vs H Q E,sp vs H Q E->vs.length=ps.length
 run:∀(A:Around)(outer:List Env)(s:Shared)(H:Hp)(args:Args)(us:List Value)(vs:List V)(Q:VK)(E:XK),iK k A->G5 P w K mg base A outer s H->BindsTo s fd args (ps.zip us)->aS vs us->sp vs H Q E ->
  codeAny (model P w) A (.call (.ref f) args) (CR CX outer P w H s Q E) s
theorem iM.mono{P:Program}{w:World}{K:PySem.W.Frag}{mg:Str->Option Value}{base:Heap}{CX:Dk}{j k:Nat}{f:Addr}{fd:FuncData}{ps:List Str}{sp:Sp}(F:iM P w K mg base CX j f fd ps sp)(h:j<=k):iM P w K mg base CX k f fd ps sp:=⟨F.len,λA outer s H args us vs Q E hr=>F.run A outer s H args us vs Q E (hr.mono h)⟩
section
variable {X:Cx} {aa:List (Addr×Obj)} {σ:St} {H:Hp} {s s':Shared}
theorem Inv.Wc(I:Inv X aa σ H s):G5 X.prog X.w X.K X.mg X.base X.A X.stack s H :=
 ⟨I.ok.frames,I.ok.mod,I.bs,dr I.ok.J1 I.sz,I.stack,I.yW,I.bJ,I.bare⟩
theorem Inv.after(I:Inv X aa σ H s)(h:CE X.stack X.prog X.w H s Q u s'):EP X aa σ Q u s':=by
 obtain⟨v,H',os,bare,un,bJ,r,q⟩:=h;obtain⟨hh,g,d,t,os'⟩:=s';obtain rfl:os'=s.os:=os;exact⟨v,H',I.call (h':=hh) (g':=g) (d':=d) (t':=t) (ch:=[]) un bJ bare (λb z=>absurd z (by simp)),r,q⟩
end
noncomputable def QL(sp:Sp)(J9:List V)(E:XK)(t:TA):TE:=λσ H Q=>t σ H λvs H1=>sp (vs++J9) H1 Q E
noncomputable def Binds(K:PySem.W.Frag)(fd:FuncData)(ps:List Str)(ds:List Value):Prop :=
 ∀(s:Shared)(us:List Value),K.In s.heap->(us++ds).length=ps.length->BindsTo s fd ⟨us,[]⟩ (ps.zip (us++ds))
theorem Binds.all{K:PySem.W.Frag}{fd:FuncData}{ps:List Str}(h:∀us:List Value,us.length=ps.length->bindArgs fd ⟨us,[]⟩=pure (ps.zip us)):Binds K fd ps []:=λs us _ hl=>by
 rw[lq]at hl⊢;exact .of_eq (h us hl)
noncomputable def xm(CX:Dk)(X:Cx)(E:XK):Prop:=∀(aa:List (Addr×Obj))(σ:St)(H:Hp)(s:Shared)(e:Value)(s':Shared),Inv X aa σ H s->CX X.stack H s E e s'->X.xe e s'
section
variable {X:Cx} {CX:Dk} {k:Nat} {f C:Addr} {fd:FuncData} {ps:List Str} {sp:Sp} {J9:List V} {ds:List Value} {E:XK} {x m:Str} {p pos rV:Pos} {e o:Expr} {es:List Expr} {ta:TE} {t:TA}
theorem L4(F:iM X.prog X.w X.K X.mg X.base CX k f fd ps sp)(hr:iK k X.A)(hb:Binds X.K fd ps ds)(hd:aS J9 ds)(hx:xm CX X E)(I:Inv X aa σ H s)(r:aS vs us)(h:sp (vs++J9) H Q E):wpAny (model X.prog X.w) X.A (call (.ref f) us) (EP X aa σ Q) X.xe s:=by
 have r2:aS (vs++J9) (us++ds):=r.append hd;have hl:(us++ds).length=ps.length:=by rw[<- r2.length];exact F.len _ _ _ _ h
 refine wpAny_call (CU (F.run X.A X.stack s H ⟨us,[]⟩ (us++ds) (vs++J9) Q E hr I.Wc (hb s us I.uD hl) r2 h) λr s' hq=>?_)
 cases r with
 | error e=>exact hx aa σ H s e s' I hq
 | ok fl =>
  cases fl with
  | ret u=>exact I.after hq
  | next=>exact False.elim hq
  | brk=>exact False.elim hq
  | cont=>exact False.elim hq
theorem G6(F:iM X.prog X.w X.K X.mg X.base CX k f fd ps sp)(hr:iK k X.A)(hg:Gl X x)(hm:X.mg x=some (.ref f))(hk:PySem.W.keepIn X.K (.ref f)=true)(hb:Binds X.K fd ps ds)(hd:aS J9 ds)(hx:xm CX X E)(ha:PA X (e::es) t) (L5:(x==("__debug__" : Str))=false:=by decide) (he:starEach (e::es) X.env=(false,eval e X.env)::starEach es X.env:=by rfl) (rW:(backTo pos (starEach es X.env)).any (·.1)=false:=by rfl):PE X (.Call (.Name x p) (e::es) [] pos) (QL sp J9 E t):=by
 intro aa s σ H Q I h;refine wpAny_Call_Name_kw (yY I hg hm ?_ L5);refine PySem.W.callWith_K (h₀:=X.base) I.ok.mod.Qd hk (cJ (ha pos aa s σ H _ I h) λus s1 ⟨vs,H1,I1,r,q⟩=>⟨I1.uD,?_⟩) he rW;exact L4 F hr hb hd hx I1 r q
end
structure km (N P:List Str) (sc:Scope):Prop where
 kind:sc.kind=.function
 co:sc.isCoroutine=false
 gen:sc.isGenerator=false
 nd:N.Nodup
 pre:N.take P.length=P
 par:∀x∈P,sc.names.lookup x=some .local\/sc.names.lookup x=some .cell
 Dl:∀y∈sc.names,y.2≠.free
theorem qx{kindOf:Str->Option NameKind}{x:Str}:∀{uJ:List (Str×Value)}{m:Str->Option Value},(∀v,(x,v)∉uJ)->bindL kindOf uJ m x=m x
 | [],_,_=>rfl
 | (n,v)::r,m,h=>by
  unfold bindL;rw[qx λw hw=>h w (dq _ hw)];split
  ·have:x≠n:=by rintro rfl;exact h v dC
   simp[this]
  ·rfl
theorem qy{kindOf:Str->Option NameKind}{x:Str}:∀{uJ:List (Str×Value)}{m:Str->Option Value},(∀v,(x,v)∉uJ)->bindC kindOf uJ m x=m x
 | [],_,_=>rfl
 | (n,v)::r,m,h=>by
  unfold bindC;rw[qy λw hw=>h w (dq _ hw)];split
  ·rfl
  ·have:x≠n:=by rintro rfl;exact h v dC
   simp[this]
theorem qz{kindOf:Str->Option NameKind}{x:Str}{v:Value}:∀{P:List Str}{vs:List Value}{i:Nat}{m:Str->Option Value},P.Nodup->P[i]?=some x->vs[i]?=some v->kindOf x=some .local->bindL kindOf (P.zip vs) m x=some v
 | [],_,_,_,_,h,_,_=>by simp at h
 | _::_,[],_,_,_,_,h,_=>by simp at h
 | p::P,w::vs,0,m,nd,h1,h2,hk=>by
  simp at h1 h2;subst h1;subst h2;show bindL kindOf ((p,w)::P.zip vs) m p=_;unfold bindL;rw[qx λv hv=>(rG.mp nd).1 (List.of_mem_zip hv).1,aw hk];simp
 | p::P,w::vs,i+1,m,nd,h1,h2,hk=>by
  show bindL kindOf ((p,w)::P.zip vs) m x=_;unfold bindL;exact qz (i:=i) (rG.mp nd).2 (by simpa using h1) (by simpa using h2) hk
theorem qA{kindOf:Str->Option NameKind}{x:Str}{v:Value}:∀{P:List Str}{vs:List Value}{i:Nat}{m:Str->Option Value},P.Nodup->P[i]?=some x->vs[i]?=some v->kindOf x≠some .local->bindC kindOf (P.zip vs) m x=some v
 | [],_,_,_,_,h,_,_=>by simp at h
 | _::_,[],_,_,_,_,h,_=>by simp at h
 | p::P,w::vs,0,m,nd,h1,h2,hk=>by
  simp at h1 h2;subst h1;subst h2;show bindC kindOf ((p,w)::P.zip vs) m p=_;unfold bindC;rw[qy λv hv=>(rG.mp nd).1 (List.of_mem_zip hv).1,az hk];simp
 | p::P,w::vs,i+1,m,nd,h1,h2,hk=>by
  show bindC kindOf ((p,w)::P.zip vs) m x=_;unfold bindC;exact qA (i:=i) (rG.mp nd).2 (by simpa using h1) (by simpa using h2) hk
noncomputable def start(N:List Str)(vs:List V):St:=vs.map some++List.replicate (N.length-vs.length) none
noncomputable def xn(CX:Dk)(P:Program)(w:World)(K:PySem.W.Frag)(mg:Str->Option Value)(base:Heap)(N:List Str)(qual:Str)(scope:Scope)(f:Addr)(cd:Value)(A:Around)(outer:List Env)(s:Shared)(H:Hp)(E:XK):Cx where
 prog:=P
 w:=w
 K:=K
 mg:=mg
 base:=base
 A:=A.deeper (envOfC qual scope s.heap.objs.size f cd)
 N:=N
 ff:=s
 uC:=H
 env:=envOfC qual scope s.heap.objs.size f cd
 outer:=outer
 stack:=envOfC qual scope s.heap.objs.size f cd::outer
 ex:=[]
 calm:=true
 fn:=λ_=>true
 pn:=[]
 xe:=λe s'=>wpAny (model P w) (A.deeper (envOfC qual scope s.heap.objs.size f cd)) (leaving (envOfC qual scope s.heap.objs.size f cd) e) (λ_ QM=>CX outer H s E e QM) (λe' QM=>CX outer H s E e' QM) s'
theorem uK{sc:Scope}{n:Nat}{x:Str}(h:sc.names.lookup x=some .cell):∃c,(cellsFrom n sc.names []).lookup x=some c:=by
 have q:=PySem.W.cellsFrom_some sc.names n [] (.inl h);exact uh.mp q
theorem Bo{CX:Dk}{P:Program}{w:World}{K:PySem.W.Frag}{mg:Str->Option Value}{base:Heap}{N ps:List Str}{qual:Str}{scope:Scope}{f:Addr}{cd:Value}{A:Around}{outer:List Env}{s s1:Shared}{H:Hp}{E:XK}{us:List Value}{vs:List V}(S:km N ps scope)(hd:A.handled=none)(e0:G5 P w K mg base A outer s H)(hl:vs.length=ps.length)(r:aS vs us)(x:InCallC s s.heap.objs.size (bindL (envOfC qual scope s.heap.objs.size f cd).kindOf (ps.zip us) λ_=>none) (cellsFrom (s.heap.objs.size+1) scope.names []) (bindC (envOfC qual scope s.heap.objs.size f cd).kindOf (ps.zip us) λ_=>none) s1):Inv (xn CX P w K mg base N qual scope f cd A outer s H E) [] (start N vs) H s1:=by
 have rW:ps.length<=N.length:=by have:=lu List.length S.pre;rw[gW]at this;omega
 obtain⟨h1,tk,rfl,hk⟩:=x.done;have QN:∀b:Addr,b∉(xn CX P w K mg base N qual scope f cd A outer s H E).ex:=λb z=>absurd (show b∈([]:List Addr) from z) (by simp)
 refine⟨⟨e0.mod,S.kind,rfl,rfl,aI _,λy z c h1 h2=>?_,λy hy=>?_,λy c _ h=>?_,λ_=>hd,Around.frames_deeper e0.frames,.inr ⟨rfl,rfl⟩,λb z=>absurd z (QN b),e0.bs,e0.J1,λb _ _=>QN b,λb z=>absurd z (QN b),e0.nO,e0.Pg⟩,
  rfl,e0.bare,Un.kept hk,⟨_,x.toInCall.ns,λi y v h1 h2 h3=>?_⟩,λy c h=>⟨_,x.cell y c h⟩,e0.bJ.fresh (aI _),λy c h=>?_,λp hp=>absurd (show p∈([]:List (Addr×Obj)) from hp) (by simp),e0.bJ.kept hk,?_⟩
 ·exact name_of_addr x.apart (nG h1) (nG h2)
 ·have hy:scope.names.lookup y=some .cell\/scope.names.lookup y=some .free:=hy;rcases hy with hy | hy
  ·exact uK hy
  ·exact absurd rfl (S.Dl _ (nG hy))
 ·exact nM (x.above y c (nG h))
 ·have hi:i<vs.length:=by
   unfold start at h2;by_cases hi:i<vs.length
   ·exact hi
   ·rw[mD (by simpa using hi)]at h2;rw[List.getElem?_replicate]at h2;split at h2<;>cases h2
  have ha:vs[i]?=some v:=by
   unfold start at h2;rw[jn (by simpa using hi),bj]at h2
   cases e:vs[i]? with
   | none=>rw[e]at h2;cases h2
   | some a=>rw[e]at h2;cases h2;rfl
  obtain⟨u,hu,rv⟩:=r.get ha
  have hp:ps[i]?=some y:=by
   rw[<- S.pre,List.getElem?_take_of_lt ∅];exact h1
  have YF:ps.Nodup:=by rw[<- S.pre];exact S.nd.sublist (Lh _ _)
  refine⟨u,rv,?_⟩;rcases S.par y (dw hp)with k | k
  ·exact .inl ⟨k,qz YF hp hu k⟩
  ·obtain⟨c,e⟩:=uK (n:=s.heap.objs.size+1) k;refine .inr ⟨.inl k,c,e,?_⟩;have q:=x.cell y c e;rw[qA YF hp hu (by show scope.names.lookup y≠_;rw[k];decide)]at q;exact q
 ·exact e0.bJ.fresh (nM (x.above y c (nG h)))
 ·unfold start;show _=N.length;rw[cC,aB,K_];omega
theorem QO {CX : Dk} {P : Program} {w : World} {K : PySem.W.Frag} {mg : Str -> Option Value} {base : Heap} {k : Nat} {f : Addr} {name qual : Str} {params : Arguments} {body : List Stmt} {scope : Scope} {dV kV doc pm pN ct oc : Value} {an od : Option Addr}
    {J_:Array (Option Value)} {N ps:List Str} {sp:Sp} (lk:K.lookup f=some ⟨oc,od,.func (PySem.W.fnOf name qual params body scope dV kV doc pm an pN ct),J_⟩) (Gd:PySem.W.codeIn K pN qual=true) (S:km N ps scope)
    (len:∀vs H Q E,sp vs H Q E->vs.length=ps.length)
    (Dm:∀(A:Around)(outer:List Env)(s:Shared)(H:Hp)(vs:List V)(Q:VK)(E:XK),iK k (A.deeper (envOfC qual scope s.heap.objs.size f pN))->sp vs H Q E ->
      ∃t,rO (xn CX P w K mg base N qual scope f pN A outer s H E) body t/\t {nx:=λ_ H'=>Q .aR H',rt:=Q} (start N vs) H) :
    iM P w K mg base CX (k+1) f (PySem.W.fnOf name qual params body scope dV kV doc pm an pN ct) ps sp:=by
  refine⟨len,λA outer s H args us vs Q E hr e0 hb r Gf=>?_⟩;have hl:=len _ _ _ _ Gf;have KX:K.In s.heap:=e0.mod.Qd.keeps λb o e=>(e0.bs b o e).1;have lim:s.heap.NoLimit:=e0.mod.nolimit.keeps λb o e=>(e0.bs b o e).1
  have Dp:∀y∈ps.zip us,scope.names.lookup y.1=some .local\/(scope.names.lookup y.1=some .cell/\((cellsFrom (s.heap.objs.size+1) scope.names []).lookup y.1).isSome=true):=λ⟨n,v⟩ hy=>by
    rcases S.par n (List.of_mem_zip hy).1 with q | q
    · exact .inl q
    · exact .inr ⟨q,PySem.W.cellsFrom_some _ _ _ (.inl q)⟩
  refine codeAny_call_function hr.depth (KX _ _ lk) rfl S.co S.gen rfl (PySem.W.codeRec_of KX Gd) (hb _ _ _ _ ?_);refine wpAny_newFunctionEnv_cells S.kind Dp λenv he s1 x=>?_;subst he;refine⟨lim.keeps x.toInCall.keep,codeAny_func ?_⟩;obtain⟨t,ht,hq⟩:=Dm A outer s H vs Q E (hr.deeper _) Gf;have I:Inv (xn CX P w K mg base N qual scope f pN A outer s H E) [] (start N vs) H s1:=Bo S hr.hd e0 hl r x;refine p4 (ht [] s1 (start N vs) H _ I hq) (λfl s' hs=>?_) λe s' hs=>hs
  have fin:∀{cU:St}{H':Hp}{v:V}{u:Value},Inv (xn CX P w K mg base N qual scope f pN A outer s H E) [] cU H' s'->RelV v u->Q v H'->CE outer P w H s Q u s' :=
    λ{cU H' v u} J rv q=>⟨v,H',J.os,J.bare,J.base,J.bJ,rv,q⟩
  cases fl with
  | ret u =>
    obtain⟨v,cU,H',J,rv,q⟩:=hs;exact fin J rv q
  | next =>
    obtain⟨cU,H',J,q⟩:=hs;exact fin (v:=V.aR) (u:=Value.none) J rfl q
  | brk =>
    obtain⟨_,_,_,q⟩:=hs;exact False.elim q
  | cont =>
    obtain⟨_,_,_,q⟩:=hs;exact False.elim q
section
variable {X:Cx} {x:Str} {p pos:Pos} {e:Expr} {es:List Expr} {t:TA} {id T:String} {r:List V->Hp->VK->Prop}
noncomputable def Wd(r:List V->Hp->VK->Prop)(t:TA):TE:=λσ H Q=>t σ H λvs H1=>r vs H1 Q
theorem fE(hc:dM X (.builtin id) r)(hg:Gl X x)(hm:X.mg x=none)(hv:bootBuiltins x=some (.builtin id))(ha:PA X (e::es) t) (hn:x≠ "__name__" := by decide) (L5:(x==("__debug__" : Str))=false:=by decide) (he:starEach (e::es) X.env=(false,eval e X.env)::starEach es X.env:=by rfl) (rW:(backTo pos (starEach es X.env)).any (·.1)=false:=by rfl):PE X (.Call (.Name x p) (e::es) [] pos) (Wd r t):=by
 intro aa s σ H Q I h;refine wpAny_Call_Name_kw (ly I hg hm hv ?_ hn L5);exact PyProof.Rows.callWith_builtin1 (cJ (ha pos aa s σ H _ I h) λus s1 ⟨vs,H1,I1,r1,q1⟩=>hc aa s1 σ H1 vs us Q I1 r1 q1) he rW
theorem gG(hc:dM X (.type T) r)(hg:Gl X x)(hm:X.mg x=none)(hv:bootBuiltins x=some (.type T))(ha:PA X (e::es) t) (hn:x≠ "__name__" := by decide) (L5:(x==("__debug__" : Str))=false:=by decide) (he:starEach (e::es) X.env=(false,eval e X.env)::starEach es X.env:=by rfl) (rW:(backTo pos (starEach es X.env)).any (·.1)=false:=by rfl):PE X (.Call (.Name x p) (e::es) [] pos) (Wd r t):=by
 intro aa s σ H Q I h;refine wpAny_Call_Name_kw (ly I hg hm hv ?_ hn L5);exact Gv (cJ (ha pos aa s σ H _ I h) λus s1 ⟨vs,H1,I1,r1,q1⟩=>hc aa s1 σ H1 vs us Q I1 r1 q1) he rW
end
section
variable {κ:Type} [DecidableEq κ]
noncomputable def kn(ah:List (κ×V))(k:κ):Option V:=(ah.find? λkv=>decide (kv.1=k)).map (·.2)
noncomputable def eB(ah:List (κ×V))(k:κ)(v:V):List (κ×V) :=
 if (ah.any λkv=>decide (kv.1=k))=true then ah.map (λkv=>if kv.1=k then (kv.1,v) else kv) else ah++[(k,v)]
theorem ko{p:κ×V}{r:List (κ×V)}{k:κ}(e:p.1=k):kn (p::r) k=some p.2:=by simp[kn,gX,e]
theorem iN{p:κ×V}{r:List (κ×V)}{k:κ}(e:¬p.1=k):kn (p::r) k=kn r k:=by simp[kn,gX,e]
theorem uL(k:κ):∀ah:List (κ×V),(ah.any λkv=>decide (kv.1=k))=(kn ah k).isSome
 | []=>rfl
 | p::r=>by
  rw[CT];by_cases e:p.1=k
  ·simp only[ko e,gk e,Bool.true_or,Option.isSome_some]
  ·rw[iN e,eJ e,Bool.false_or];exact uL k r
theorem iO(ah:List (κ×V))(k:κ)(v:V):(eB ah k v).length<=ah.length+1:=by
 unfold eB;split
 ·rw[aB];omega
 ·rw[cC,jt,w4];omega
theorem jR.gH(r:jR o u):o.isSome=u.isSome:=by
 cases o with
 | none=>cases u with
  | none=>rfl
  | some _=>exact(show False from r).elim
 | some _=>cases u with
  | none=>exact(show False from r).elim
  | some _=>rfl
theorem KV.val{ah:List (κ×V)}{vs:List (κ×Value)}(r:KV ah vs)(k:κ):jR (kn ah k) (valueAt vs k):=by
 unfold KV at r
 induction r with
 | nil=>exact True.intro
 | @cons p q ps qs h t ih =>
  obtain⟨h1,h2⟩:=h;by_cases e:p.1=k
  ·have e':q.1=k:=h1.symm.trans e;have b:valueAt (q::qs) k=some q.2:=by simp[valueAt,gX,e']
   rw[ko e,b];exact h2
  ·have e':¬q.1=k:=λz=>e (h1.trans z);have b:valueAt (q::qs) k=valueAt qs k:=by simp[valueAt,gX,e']
   rw[iN e,b];exact ih
theorem KV.any(r:KV ah vs)(k:κ):(ah.any λkv=>decide (kv.1=k))=vs.any λkv=>decide (kv.1=k):=by
 unfold KV at r
 induction r with
 | nil=>rfl
 | cons h t ih=>rw[CT,CT,ih,h.1]
theorem KV.L6(r:KV ah vs)(k:κ)(ry:RelV y u):KV (ah.map λkv=>if kv.1=k then (kv.1,y) else kv) (vs.map λkv=>if kv.1=k then (kv.1,u) else kv):=by
 unfold KV at r⊢
 induction r with
 | nil=>exact .nil
 | @cons p q ps qs h t ih =>
  rw[fO,fO];refine .cons ?_ ih;obtain⟨h1,h2⟩:=h;by_cases e:p.1=k
  ·rw[aw e,aw (h1.symm.trans e)];exact⟨h1,ry⟩
  ·rw[az e,az (λz=>e (h1.trans z))];exact⟨h1,h2⟩
theorem KV.put(r:KV ah vs)(k:κ)(ry:RelV y u):KV (eB ah k y) (stored vs k u):=by
 unfold eB stored;rw[r.any k];by_cases e:(vs.any λkv=>decide (kv.1=k))=true
 ·rw[aw e,aw e];exact r.L6 k ry
 ·rw[az e,az e];exact Paired.snoc r ⟨rfl,ry⟩
theorem KV.length(r:KV ah vs):ah.length=vs.length:=CS r
end
theorem qB(r:RelV (kV k) u):(bA P w).is k u=true:=by
 cases k with
 | inl i=>obtain⟨t,e⟩:=(show ∃t,u=Value.int i t from r);subst e;exact uy P w i t
 | inr x=>obtain⟨t,e⟩:=(show ∃t,u=Value.str x t from r);subst e;exact uA P w x t
theorem qC:∀{ks:List bH}{us:List Value},aS (ks.map kV) us->ItemsAre (bA P w) ks us
 | [],_,r=>by rw[pZ]at r;cases r;exact .nil
 | k::ks,_,r=>by
  rw[fO]at r
  cases r with
  | cons h t=>exact .cons (qB h) (qC t)
abbrev KT(H:Hp):List (List bH×V)->List (List bH×Addr×Value)->Prop:=Paired λp q=>p.1=q.1/\H q.2.1=some (.tup (p.1.map kV))/\RelV p.2 q.2.2
theorem KT.val{H:Hp}{ah:List (List bH×V)}{xs:List (List bH×Addr×Value)}(r:KT H ah xs)(k:List bH):jR (kn ah k) ((atKey xs k).map (·.2)):=by
 induction r with
 | nil=>exact True.intro
 | @cons p q ps qs h t ih =>
  obtain⟨h1,_,h2⟩:=h;by_cases e:p.1=k
  ·have e':q.1=k:=h1.symm.trans e;have b:atKey (q::qs) k=some q.2:=by simp[atKey,gX,e']
   rw[ko e,b];exact h2
  ·have e':¬q.1=k:=λz=>e (h1.trans z);have b:atKey (q::qs) k=atKey qs k:=by simp[atKey,gX,e']
   rw[iN e,b];exact ih
theorem KT.L6(r:KT H ah xs)(k:List bH)(ry:RelV y u):KT H (ah.map λkv=>if kv.1=k then (kv.1,y) else kv) (xs.map (putAt k u)):=by
 induction r with
 | nil=>exact .nil
 | @cons p q ps qs h t ih =>
  rw[fO,fO];refine .cons ?_ ih;obtain⟨h1,h2,h3⟩:=h;unfold putAt;by_cases e:p.1=k
  ·rw[aw e,aw (h1.symm.trans e)];exact⟨h1,h2,ry⟩
  ·rw[az e,az (λz=>e (h1.trans z))];exact⟨h1,h2,h3⟩
theorem KT.put(r:KT H ah xs)(k:List bH)(hb:H b=some (.tup (k.map kV)))(ry:RelV y u):KT H (eB ah k y) (storedH xs k b u):=by
 have e:(ah.any λkv=>decide (kv.1=k))=(atKey xs k).isSome:=by
  rw[uL,(r.val k).gH,wV]
 unfold eB storedH;rw[e];by_cases q:(atKey xs k).isSome=true
 ·rw[aw q,aw q];exact r.L6 k ry
 ·rw[az q,az q];exact Paired.snoc r ⟨rfl,hb,ry⟩
theorem KT.keeps(r:KT H ah xs)(ht:∀b ys,H b=some (.tup ys)->H' b=some (.tup ys)):KT H' ah xs :=
 Paired.Lr r λ_ _ z=>⟨z.1,ht _ _ z.2.1,z.2.2⟩
section
variable {P:Program} {w:World} {H:Hp} {h:Heap} {a:Addr}
theorem Ka(ok:jy P w H h)(e:Rd H a u):bO P w H h a u:=e.ok ok
theorem uM(ok:jy P w H h)(e:Rd H a (.dK ah)):ah.length<=sizeLine/\(a==sysModules)=false/\∃vs,KV ah vs/\h.DictOf (bA P w) a vs :=
 show bO P w H h a (.dK ah) from Ka ok e
theorem uN(ok:jy P w H h)(e:H a=some (.dK ah)):ah.length<=sizeLine/\(a==sysModules)=false/\∃vs,KV ah vs/\h.DictOf (bA P w) a vs:=uM ok (.inl e)
theorem nV(ok:jy P w H h)(e:H a=some (.tup (ks.map kV))):(tupleKind (bA P w)).is h ks a:=by
 obtain⟨_,aG,r,o,h1,h2,n,h3⟩:=(show bO P w H h a (.tup (ks.map kV)) from ok a _ e);exact⟨o,aG.toArray,n,h1,h2,h3,by simpa using qC r⟩
theorem uO(ok:jy P w H h)(e:Rd H a (.dT ah)):ah.length<=sizeLine/\(a==sysModules)=false/\∃xs,KT H ah xs/\h.DictOfH (tupleKind (bA P w)) a xs:=by
 obtain⟨z,y,xs,r,o,es,ep,h1,h2,h3,h4,h5⟩:=(show bO P w H h a (.dT ah) from Ka ok e);refine⟨z,y,xs,r,o,es,ep,h1,h2,h3,h4,λx hx=>?_,h5⟩
 have all:∀{l:List (List bH×V)}{m:List (List bH×Addr×Value)},KT H l m->∀x∈m,(tupleKind (bA P w)).is h x.1 x.2.1:=by
  intro l m q
  induction q with
  | nil=>intro x hx;exact nomatch hx
  | @cons p q ps qs hq t ih =>
   intro x hx;rcases bU.mp hx with e | hx
   ·subst e;exact nV ok (by rw[<- hq.1];exact hq.2.1)
   ·exact ih x hx
 exact all r x hx
theorem QP(ok:jy P w H h)(e:H a=some (.dT ah)):ah.length<=sizeLine/\(a==sysModules)=false/\∃xs,KT H ah xs/\h.DictOfH (tupleKind (bA P w)) a xs:=uO ok (.inl e)
end
def jT(H:Hp)(a:Addr)(y:V)(r:Option V):Prop :=
 (∃ah k,Rd H a (.dK ah)/\y=kV k/\r=kn ah k)\/∃ah k b,Rd H a (.dT ah)/\y=.ref b/\H b=some (.tup (k.map kV))/\r=kn ah k
def xo(H:Hp)(a:Addr)(y v:V)(H':Hp):Prop :=
 (∃ah k,H a=some (.dK ah)/\y=kV k/\ah.length<sizeLine/\H'=upd H a (.dK (eB ah k v))) \/
 ∃ah k b,H a=some (.dT ah)/\y=.ref b/\H b=some (.tup (k.map kV))/\ah.length<sizeLine/\H'=upd H a (.dT (eB ah k v))
theorem jT.k{H:Hp}{a:Addr}{ah:List (bH×V)}{k:bH}(e:H a=some (.dK ah)):jT H a (kV k) (kn ah k):=.inl ⟨ah,k,.inl e,rfl,rfl⟩
theorem xo.k{H:Hp}{a:Addr}{ah:List (bH×V)}{k:bH}{v:V}(e:H a=some (.dK ah))(hl:ah.length<sizeLine):xo H a (kV k) v (upd H a (.dK (eB ah k v))):=.inl ⟨ah,k,e,rfl,hl,rfl⟩
theorem xo.t{k:List bH}{v:V}(e:H a=some (.dT ah))(eb:H b=some (.tup (k.map kV)))(hl:ah.length<sizeLine):xo H a (.ref b) v (upd H a (.dT (eB ah k v))):=.inr ⟨ah,k,b,e,rfl,eb,hl,rfl⟩
section
variable {X:Cx} {aa:List (Addr×Obj)} {σ:St} {H:Hp} {s:Shared} {a:Addr} {y v:V} {u r:Value} {o:Option V} {A:Around} {E:Value->Shared->Prop}
theorem Inv.big(I:Inv X aa σ H s):sysModules<s.heap.objs.size:=by
 have h:mainGlobals<s.heap.objs.size:=(I.mod.glob.keeps I.bk).lt;exact CV (by decide) h
theorem lC(hu:A.units+1<cLine)(I:Inv X aa σ H s)(g:jT H a y (some v))(ry:RelV y u)(h:∀w' s',Inv X aa σ H s'->RelV v w'->Q w' s'):wpAny (model X.prog X.w) A (getItem (.ref a) u) Q E s:=by
 rcases g with⟨ah,k,e,ey,l⟩|⟨ah,k,b,e,ey,eb,l⟩
 ·subst ey;obtain⟨z,hd,vs,nW,dd⟩:=uM I.bJ e;obtain⟨w',hw,xp⟩:=jR.some_of (v:=v) (o:=valueAt vs k) (by rw[l];exact nW.val k);exact wpAny_getItem_of (qB ry) dd.mapOf hw (h w' _ (I.tok _) xp)
 ·subst ey;cases (show u=Value.ref b from ry);obtain⟨z,hd,xs,nW,dd⟩:=uO I.bJ e;obtain⟨w',hw,xp⟩:=jR.some_of (v:=v) (o:=(atKey xs k).map (·.2)) (by rw[l];exact nW.val k);obtain⟨p,hp,hp2⟩:=Option.map_eq_some_iff.mp hw;refine wpAny_getItem_heap (GD hu) (nV I.bJ eb) dd hp ?_;rw[hp2];exact h w' _ (I.tok _) xp
theorem QQ(hu:A.units+1<cLine)(I:Inv X aa σ H s)(g:jT H a y o)(ry:RelV y u)(h:∀s',Inv X aa σ H s'->Q (.bool o.isSome) s'):wpAny (model X.prog X.w) A (compareOp .In u (.ref a)) Q E s:=by
 rcases g with⟨ah,k,e,ey,l⟩|⟨ah,k,b,e,ey,eb,l⟩
 ·subst ey;obtain⟨z,hd,vs,nW,dd⟩:=uM I.bJ e;refine wpAny_in_of (qB ry) hd dd.mapOf ?_;rw[<- (nW.val k).gH,<- l];exact h _ (I.tok _)
 ·subst ey;cases (show u=Value.ref b from ry);obtain⟨z,hd,xs,nW,dd⟩:=uO I.bJ e;refine wpAny_in_heap (GD hu) (nV I.bJ eb) hd dd ?_;have q:=(nW.val k).gH;rw[wV]at q;rw[<- q,<- l];exact h _ (I.tok _)
theorem y6(hu:A.units+1<cLine)(I:Inv X aa σ H s)(g:jT H a y o)(ry:RelV y u)(h:∀s',Inv X aa σ H s'->Q (.bool (!o.isSome)) s'):wpAny (model X.prog X.w) A (compareOp .NotIn u (.ref a)) Q E s:=by
 rcases g with⟨ah,k,e,ey,l⟩|⟨ah,k,b,e,ey,eb,l⟩
 ·subst ey;obtain⟨z,hd,vs,nW,dd⟩:=uM I.bJ e;refine wpAny_notIn_of (qB ry) hd dd.mapOf ?_;rw[<- (nW.val k).gH,<- l];exact h _ (I.tok _)
 ·subst ey;cases (show u=Value.ref b from ry);obtain⟨z,hd,xs,nW,dd⟩:=uO I.bJ e;refine wpAny_notIn_heap (GD hu) (nV I.bJ eb) hd dd ?_;have q:=(nW.val k).gH;rw[wV]at q;rw[<- q,<- l];exact h _ (I.tok _)
theorem rX(I:Inv X aa σ H s)(mu:Qb (H a))(hs:Heap.SameBut a s.heap h')(he:∃q,h'.get? a=some q)(new:bO X.prog X.w (upd H a ob) h' a ob):Inv X aa σ (upd H a ob) {s with heap:=h',toks:=t'} :=
 I.write (x:=a) (e:=a) mu (.inl rfl) (λb q hb z=>(hs.2 b hb).trans z) he new
theorem Dq(z:ah.length<=sizeLine)(hd:(a==sysModules)=false)(nW:KV ah vs)(dd:h'.DictOf (bA P w) a vs):bO P w H' h' a (.dK ah):=⟨z,hd,vs,nW,dd⟩
theorem qD{H':Hp}{Q:Unit->Shared->Prop}(hu:A.units+1<cLine)(I:Inv X aa σ H s)(g:xo H a y v H')(ry:RelV y u)(rv:RelV v r)(h:∀s',Inv X aa σ H' s'->Q () s'):wpAny (model X.prog X.w) A (setItem (.ref a) u r) Q E s:=by
 rcases g with⟨ah,k,e,ey,l,eH⟩|⟨ah,k,b,e,ey,eb,l,eH⟩
 ·subst ey eH;obtain⟨z,hd,vs,nW,dd⟩:=uN I.bJ e;have hz:vs.length<=sizeLine:=by rw[<- nW.length];exact z
  have hl:(eB ah k v).length<=sizeLine:=by have:=iO ah k v;omega
  refine wpAny_setItem_pairs (hsz:=hz) (qB ry) dd λh' L7 hs=>h _ ?_;have he:∃q,h'.get? a=some q:=let ⟨q,_,_,hq,_⟩:=L7;⟨q,hq⟩
  exact rX I (by rw[e];exact True.intro) hs he (Dq hl hd (nW.put k rv) L7)
 ·subst ey eH;cases (show u=Value.ref b from ry);obtain⟨z,hd,xs,nW,dd⟩:=QP I.bJ e;have hz:xs.length<=sizeLine:=by rw[<- CS nW];exact z
  have hl:(eB ah k v).length<=sizeLine:=by have:=iO ah k v;omega
  refine wpAny_setItem_heap (hsz:=hz) (GD hu) (nV I.bJ eb) dd λh' L7 hs=>h _ ?_;obtain⟨q,es,ep,hq,h2,h3,h4,_,h5⟩:=L7;refine rX I (by rw[e];exact True.intro) hs ⟨q,hq⟩ ⟨hl,hd,_,(nW.put k eb rv).keeps λc ys ec=>?_,q,es,ep,hq,h2,h3,h4,h5⟩;rw[aC (P_ ec e (λz=>nomatch z))];exact ec
end
theorem iP{X:Cx}{aa:List (Addr×Obj)}{σ:St}{H:Hp}{s:Shared}{a:Addr}{y:V}{o:Option V}(I:Inv X aa σ H s)(g:jT H a y o):s.TypeIs (.ref a) "dict" := by
 rcases g with⟨ah,k,e,_,_⟩|⟨ah,k,b,e,_,_,_⟩
 ·obtain⟨_,_,vs,_,dd⟩:=uM I.bJ e;exact dd.typeIs
 ·obtain⟨_,_,xs,_,dd⟩:=uO I.bJ e;exact dd.typeIs
theorem uP{P:Program}{w:World}{H:Hp}(h:Heap)(hb:sysModules<h.objs.size):bO P w H (h.push {cls:=.type "dict",data:=.dict #[]}) h.objs.size (.dK []) :=
 ⟨lr _,pV.mpr (dh (cH hb)),[],.nil,Heap.DictOf.new h⟩
theorem Dr{P:Program}{w:World}{H:Hp}(h:Heap)(hb:sysModules<h.objs.size):bO P w H (h.push {cls:=.type "dict",data:=.dict #[]}) h.objs.size (.dT []) :=
 ⟨lr _,pV.mpr (dh (cH hb)),[],.nil,_,#[],0,dP _ rfl,⟨rfl,rfl,rfl⟩,rfl,rfl,uo⟩
def L8:TE:=λ_ H Q=>∀p,H p=none->Q (.ref p) (upd H p (.dK []))
def L9:TE:=λ_ H Q=>∀p,H p=none->Q (.ref p) (upd H p (.dT []))
section
variable {X:Cx} {pos:Pos}
theorem Ds:PE X (.Dict [] [] pos) L8:=λaa s σ H Q I h =>
 wpAny_Dict_empty ⟨.ref s.heap.objs.size,_,I.laid (a:=s.heap.objs.size) (o:=.dK []) (t':=s.toks) (λ_ _ q=>bz _ q) (aI _) (uP s.heap I.big),rfl,h _ (I.bJ.fresh (aI _))⟩
theorem Dt:PE X (.Dict [] [] pos) L9:=λaa s σ H Q I h =>
 wpAny_Dict_empty ⟨.ref s.heap.objs.size,_,I.laid (a:=s.heap.objs.size) (o:=.dT []) (t':=s.toks) (λ_ _ q=>bz _ q) (aI _) (Dr s.heap I.big),rfl,h _ (I.bJ.fresh (aI _))⟩
end
noncomputable def gZ:List (TE×TE)->St->Hp->(List (V×V)->Hp->Prop)->Prop
 | [],_,H,Q=>Q [] H
 | (tk,tv)::r,σ,H,Q=>tk σ H λx H1=>tv σ H1 λy H2=>gZ r σ H2 λps H3=>Q ((x,y)::ps) H3
abbrev VV:List (V×V)->List (Value×Value)->Prop:=Paired λp q=>RelV p.1 q.1/\RelV p.2 q.2
def Pn(X:Cx)(pos:Pos)(keys:List (Option Expr))(values:List Expr)(p9:List (TE×TE)):Prop :=
 ∀(aa:List (Addr×Obj))(s:Shared)(σ:St)(H:Hp)(Q:List (V×V)->Hp->Prop),Inv X aa σ H s->gZ p9 σ H Q ->
  wpAny (model X.prog X.w) X.A (evalPairs (pairTrees keys values X.env pos)) (λvs s'=>∃ps H',Inv X aa σ H' s'/\VV ps vs/\Q ps H') X.xe s
theorem G7:Pn X pos [] [] []:=λaa s σ H Q I h=>pairTrees_nil_walk ⟨[],H,I,.nil,h⟩
theorem Du(hk:PE X k tk)(hv:PE X v tv)(hr:Pn X pos ks vs p9):Pn X pos (some k::ks) (v::vs) ((tk,tv)::p9):=λaa s σ H Q I h =>
 pairTrees_cons_walk (cJ (hk aa s σ H _ I h) λu s1 ⟨x,H1,I1,rx,q1⟩=>cJ (hv aa s1 σ H1 _ I1 q1) λw2 s2 ⟨y,H2,I2,ry,q2⟩ =>
  cJ (hr aa s2 σ H2 _ I2 q2) λws s3 ⟨ps,H3,I3,nW,q3⟩=>⟨(x,y)::ps,H3,I3,.cons ⟨rx,ry⟩ nW,q3⟩)
def gm(ah more:List (bH×V)):List (bH×V):=more.foldl (λacc kv=>eB acc kv.1 kv.2) ah
theorem KV.merge:∀{more:List (bH×V)}{rs:List (bH×Value)}{ah:List (bH×V)}{vs:List (bH×Value)},KV more rs->KV ah vs->KV (gm ah more) (merged vs rs):=by
 intro more rs ah vs r;unfold KV at r
 induction r generalizing ah vs with
 | nil=>intro q;exact q
 | @cons p q ps qs h t ih =>
  intro r0
  have e:KV (eB ah p.1 p.2) (stored vs q.1 q.2):=by
   have:=r0.put p.1 h.2;rw[<- h.1];exact this
  exact ih e
theorem jA:∀(more ah:List (bH×V)),(gm ah more).length<=ah.length+more.length
 | [],ah=>by show ah.length<=ah.length+0;omega
 | p::r,ah=>by
  have h1:=jA r (eB ah p.1 p.2);have h2:=iO ah p.1 p.2;show(gm (eB ah p.1 p.2) r).length<=_;rw[jt];omega
theorem nX:∀{ah:List (bH×V)}{ws:List (Value×Value)},VV (ah.map λkv=>(kV kv.1,kv.2)) ws->∃rs,Carries (bA P w) ws rs/\KV ah rs
 | [],_,r=>by rw[pZ]at r;cases r;exact⟨[],True.intro,.nil⟩
 | p::ah,_,r=>by
  rw[fO]at r
  cases r with
  | @cons a b as bs h t =>
   obtain⟨rs,c,q⟩:=nX (P:=P) (w:=w) t;obtain⟨b1,b2⟩:=b;exact⟨(p.1,b2)::rs,⟨qB h.1,rfl,c⟩,.cons ⟨rfl,h.2⟩ q⟩
def QR(p9:List (TE×TE)):TE:=λσ H Q=>∀p,H p=none->gZ p9 σ (upd H p (.dK [])) λps H2=>H2 p=some (.dK [])/\∃ah:List (bH×V),ps=ah.map (λkv=>(kV kv.1,kv.2))/\ah.length<=15/\Q (.ref p) (upd H2 p (.dK (gm [] ah)))
theorem G8(h:Pn X pos keys values p9)(xq:keys.all (·.isSome)=true)(hl:keys.length=values.length)(h0:keys≠[])(QS:keys.length<=15):PE X (.Dict keys values pos) (QR p9):=by
 intro aa s σ H Q I q;have hn:=I.bJ.fresh (aI s.heap.objs.size);have I1:=I.laid (a:=s.heap.objs.size) (o:=.dK []) (h':=s.heap.push {cls:=.type "dict",data:=.dict #[]}) (t':=s.toks) (λ_ _ q=>bz _ q) (aI _) (uP s.heap I.big);refine wpAny_Dict_walk (knd:=bA X.prog X.w) xq hl h0 QS (cJ (h aa _ σ _ _ I1 (q _ hn)) ?_);rintro ws s2 ⟨ps,H2,I2,nW,e,ah,rfl,lk,q2⟩;obtain⟨rs,c,rk⟩:=nX (P:=X.prog) (w:=X.w) nW;obtain⟨z,hd,vs0,r0,dd⟩:=uN I2.bJ e;cases r0;refine⟨rs,c,dd,λh' L7 hs=>⟨.ref s.heap.objs.size,_,?_,rfl,q2⟩⟩
 have hz:(gm [] ah).length<=sizeLine:=by
  have h1:=jA ah [];rw[w4]at h1;rw[AY];omega
 have he:∃q,h'.get? s.heap.objs.size=some q:=let ⟨q,_,_,hq,_⟩:=L7;⟨q,hq⟩
 exact rX I2 (by rw[e];exact True.intro) hs he (Dq hz hd (rk.merge .nil) L7)
structure M1 (X:Cx) (o:Expr) (m:Str) (rV:Pos) (e:Expr) (fg:Pos):Prop where
 base:attributeBase o m X.env (eval o X.env)=eval o X.env
 Um:((backTo fg (starEach [e] X.env)).all (λx=>!x.1)&&(backToKw fg (keywordEach [] X.env)).all (λx=>x.1.isSome)
  && decide (([e]:List Expr).length+([]:List Keyword).length+(if ([]:List Keyword).isEmpty then 0 else 1)<30))=true
 line:(rV.endLine==fg.line)=true
 trees:backTo fg (starEach [e] X.env)=[(false,eval e X.env)]
structure M2 (X:Cx) (o:Expr) (m:Str) (rV:Pos) (e f:Expr) (fg:Pos):Prop where
 base:attributeBase o m X.env (eval o X.env)=eval o X.env
 Um:((backTo fg (starEach [e,f] X.env)).all (λx=>!x.1)&&(backToKw fg (keywordEach [] X.env)).all (λx=>x.1.isSome)
  && decide (([e,f]:List Expr).length+([]:List Keyword).length+(if ([]:List Keyword).isEmpty then 0 else 1)<30))=true
 line:(rV.endLine==fg.line)=true
 trees:backTo fg (starEach [e,f] X.env)=[(false,eval e X.env),(false,eval f X.env)]
end L2
namespace HT
open PySem PyProof.Rows
section
open PySem.SeqAt
open PySem.AutoSeq1 (wpAny_loadPart')
open PySem.MeetsSeq PySem.MeetsSeq2 PySem.MeetsSeq3
end
section
variable {prog:Program} {w:World} {A:Around} {E:Value->Shared->Prop} {s:Shared}
theorem G9(ht:IsTup s.heap t vs.toArray)(hb:IsTup s.heap b ws.toArray)(hv:vs≠[])(h1:ws=[]->Q (.ref t) s) (h2:ws≠[]->Q (.ref s.heap.objs.size) {s with heap:=s.heap.push {cls:=.type "tuple",data:=.seq (vs++ws).toArray}}) (hsz:vs.length+ws.length<=sizeLine):wpAny (model prog w) A (binaryOp .Add (.ref t) (.ref b)) Q E s:=by
 obtain⟨⟨cls,dd,data,sl⟩,ho,hc,n,hd⟩:=id ht;obtain⟨⟨We,Uo,data2,Up⟩,y8,Ct,n2,hd2⟩:=id hb;simp only at hc hd Ct hd2;subst hc hd Ct hd2;have e:vs.toArray++ws.toArray=(vs++ws).toArray:=by simp
 by_cases hw:ws=[]
 ·exact concat_meets ⟨_,ho,rfl⟩ ⟨_,y8,rfl⟩ noFill_tuple_add seq_tuple_add K7 K5 (K3 _ _)
   (tuple_addW1 t b vs.toArray ws.toArray n n2 dd Uo sl Up (by simpa using hv) (by simp[hw])) ⟨ho,y8,h1 hw⟩
 ·refine concat_meets ⟨_,ho,rfl⟩ ⟨_,y8,rfl⟩ noFill_tuple_add seq_tuple_add K7 K5 (K3 _ _)
   (tuple_addW2 t b vs.toArray ws.toArray n n2 dd Uo sl Up (by simpa using hv) (by simpa using hw) (by rw[cG,cG];exact hsz)) ⟨ho,y8,?_⟩
  rw[e];exact h2 hw
noncomputable def eG(n d:Nat):Option Int->Nat
 | none=>d
 | some v=>if v<0 then (v+(n:Int)).toNat else min v.toNat n
theorem L_(n d:Nat)(hd:d<=n)(o:Option Int):eG n d o<=n:=by
 cases o with
 | none=>exact hd
 | some v =>
  show(if v<0 then (v+(n:Int)).toNat else min v.toNat n)<=n;by_cases hv:v<0
  ·rw[aw hv];omega
  ·rw[az hv];exact Nat.min_le_right _ _
theorem y9(v:Int)(n d:Nat):(if v<0 then max (v+(n:Int)) 0 else min v (n:Int))=((eG n d (some v):Nat):Int):=by
 show(if v<0 then max (v+(n:Int)) 0 else min v (n:Int))=(((if v<0 then (v+(n:Int)).toNat else min v.toNat n):Nat):Int);by_cases hv:v<0
 ·simp only[aw hv];omega
 ·simp only[az hv];omega
theorem xr(lo hi:Option Int)(n:Nat):Builtin.Slice.sliceAdjust lo hi 1 (n:Int)=(((eG n 0 lo:Nat):Int),((eG n n hi:Nat):Int)):=by
 have h1:¬((1:Int)<0):=∅;unfold Builtin.Slice.sliceAdjust;simp only[h1,nN];refine Prod.ext ?_ ?_
 ·cases lo with
  | none=>rfl
  | some v=>exact y9 v n 0
 ·cases hi with
  | none=>rfl
  | some v=>exact y9 v n n
theorem xt(i j:Nat):Builtin.Slice.slicePlaces (i:Int) (j:Int) 1=j-i:=by
 unfold Builtin.Slice.slicePlaces;have h1:(1:Int)>0:=∅;simp only[h1,eP,Int.ediv_one];split<;>omega
theorem nY(p:IsPart v o)(h:Q o s):wpAny (model prog w) A (Builtin.Slice.slicePartIndex v) Q E s:=by
 cases p with
 | none=>exact slicePart_none h
 | int i t=>exact slicePart_int h
theorem lD{lo hi:Option Int}{n:Nat}(hs:s.heap.IsSliceOf sl vl vu .none)(pl:IsPart vl lo)(pu:IsPart vu hi)(h:Q (((eG n 0 lo:Nat):Int),1,eG n n hi-eG n 0 lo) s):wpAny (model prog w) A (Builtin.Slice.sliceApplied (.ref sl) (pure (n:Int))) Q E s:=by
 obtain⟨os,Dv,QT,G_⟩:=id hs;unfold Builtin.Slice.sliceApplied Builtin.Slice.sliceFields;refine ag (ag (iF Dv G_ (x:=vl) rfl (ag (iF Dv G_ (x:=vu) rfl (ag (iF Dv G_ (x:=.none) rfl (aA ?_)))))));refine ag (slicePart_none ?_);show wpAny _ _ (if ((1:Int)==0)=true then _ else _) _ _ s;rw[az (by decide)];refine ag (nY pl (ag (nY pu (ag (aA ?_)))));show wpAny _ _ (match Builtin.Slice.sliceAdjust lo hi 1 (n:Int)with | (lo,hi)=>pure (lo,(1:Int),Builtin.Slice.slicePlaces lo hi 1)) _ _ s;rw[xr lo hi n];show wpAny _ _ (pure (((eG n 0 lo:Nat):Int),(1:Int),Builtin.Slice.slicePlaces ((eG n 0 lo:Nat):Int) ((eG n n hi:Nat):Int) 1)) _ _ s;rw[xt];exact aA h
theorem Dw(xs:Array Value)(i k:Nat):((List.range k).filterMap λ(m:Nat)=>xs[((i:Int)+(m:Int)*1).toNat]?).toArray=((xs.toList.drop i).take k).toArray:=by
 have e:(λ(m:Nat)=>xs[((i:Int)+(m:Int)*1).toNat]?)=λm=>xs[i+m]?:=by
  funext m;have:((i:Int)+(m:Int)*1).toNat=i+m:=∅;rw[this]
 rw[e];have:=pick_run xs i k;rw[List.filterMap_map]at this;have e2:((λx=>xs[x]?)∘λx=>i+x)=λm=>xs[i+m]?:=rfl;rw[e2]at this;rw[this]
theorem kr{lo hi:Option Int}(ht:IsTup s.heap t items)(hs:s.heap.IsSliceOf sl vl vu .none)(pl:IsPart vl lo)(pu:IsPart vu hi)(hw:¬(eG items.size 0 lo=0/\eG items.size items.size hi=items.size)) (h:Q (.ref s.heap.objs.size) {s with heap:=s.heap.push {cls:=.type "tuple",data:=.seq ((items.toList.drop (eG items.size 0 lo)).take (eG items.size items.size hi-eG items.size 0 lo)).toArray}}) (hsz:items.size<=sizeLine):wpAny (model prog w) A (getItem (.ref t) (.ref sl)) Q E s:=by
 have y_:sizeOk (.seq ((items.toList.drop (eG items.size 0 lo)).take (eG items.size items.size hi-eG items.size 0 lo)).toArray):=by
  show((items.toList.drop (eG items.size 0 lo)).take (eG items.size items.size hi-eG items.size 0 lo)).toArray.size<=sizeLine;rw[cG,gW,GK,nF];omega
 have hj:eG items.size items.size hi<=items.size:=L_ _ _ (aI _) hi;obtain⟨os,Dv,QT,G_⟩:=id hs;have Wf:s.TypeIs (.ref sl) "slice" := ⟨os,Dv,QT⟩;unfold getItem
 try with_reducible refine kj ?_
 first | refine ag (aA ?_) | skip
 refine ag (wpAny_sequenceKey ht.typeIs (by decide) ?_)
 refine ag (mF (name:=Str.ofString "__getitem__") ht.typeIs AE
  (iE AE ht.typeIs entry_tuple_getitem ?_ (args_tuple_getitem _ _)))
 show wpAny _ _ (Builtin.Tuple.tupleItemsOf (.ref t) >>= _) _ _ s;refine ag (tupleItemsOf_ ht ?_);refine ag (w_ Wf ?_);rw[aw (by decide)];refine ag (lD hs pl pu ?_)
 have Po:¬((((eG items.size 0 lo:Nat):Int)==0&&(1:Int)==1&&(eG items.size items.size hi-eG items.size 0 lo)==items.size)=true):=by
  intro q;rw[aU,aU]at q;have q1:((eG items.size 0 lo:Nat):Int)=0:=eq_of_beq q.1.1;have q2:eG items.size items.size hi-eG items.size 0 lo=items.size:=eq_of_beq q.2;exact hw ⟨∅,∅⟩
 show wpAny _ _ (if (((eG items.size 0 lo:Nat):Int)==0&&(1:Int)==1&&(eG items.size items.size hi-eG items.size 0 lo)==items.size)=true then _ else _) _ _ s;rw[az Po,Dw]
 first
  | exact ag (m:=Builtin.Tuple.tupleExact _) (fC (aA ⟨_,rfl,aA h⟩) y_)
  | exact ag (m:=Builtin.Tuple.tupleExact _) (fC (ag (aA (aA ⟨_,rfl,aA h⟩))) y_)
  | exact ag (ag (m:=Builtin.Tuple.tupleExact _) (fC (aA (aA ⟨_,rfl,aA h⟩)) y_))
  | exact ag (ag (m:=Builtin.Tuple.tupleExact _) (fC (aA ⟨_,rfl,aA h⟩) y_))
end
end HT
namespace L2
open PySem PySem.Spec PyProof.Rows
abbrev TO:=St->Hp->(Option Int->Hp->Prop)->Prop
noncomputable def PO(X:Cx)(e:Option Expr)(t:TO):Prop :=
 ∀(aa:List (Addr×Obj))(s:Shared)(σ:St)(H:Hp)(Q:Option Int->Hp->Prop),Inv X aa σ H s->t σ H Q ->
  wpAny (model X.prog X.w) X.A (evalPart e X.env) (λu s'=>∃o H',Inv X aa σ H' s'/\IsPart u o/\Q o H') X.xe s
def Ha:TO:=λ_ H Q=>Q none H
noncomputable def QU(t:TE):TO:=λσ H Q=>t σ H λx H1=>∃i,x=.int i/\Q (some i) H1
section
variable {X:Cx} {e:Expr} {te:TE} {lo hi:Option Expr} {tl th:TO} {pos p2:Pos}
theorem Hb:PO X none Ha:=by
 intro aa s σ H Q I h;rw[evalPart_none];exact aA ⟨none,H,I,.none,h⟩
theorem Hc(h:PE X e te):PO X (some e) (QU te):=by
 intro aa s σ H Q I hw;rw[evalPart_some];refine cJ (h aa s σ H _ I hw) ?_;rintro u s1 ⟨x,H1,I1,r1,q1⟩;obtain⟨i,rfl,q⟩:=q1;obtain⟨t,rfl⟩:=r1;exact⟨some i,H1,I1,.int i t,q⟩
def Uq(X:Cx)(r:V->Option Int->Option Int->Hp->VK->Prop):Prop :=
 ∀(aa:List (Addr×Obj))(s:Shared)(σ:St)(H:Hp)(x:V)(v vl vu:Value)(lo hi:Option Int)(sl:Addr)(Q:VK),Inv X aa σ H s->RelV x v->s.heap.IsSliceOf sl vl vu .none->IsPart vl lo->IsPart vu hi->r x lo hi H Q ->
  ∃T id,typeLookup (.type T) "__getitem__" = pure (some (.builtin id))/\s.TypeIs v T/\wpAny (model X.prog X.w) X.A (getItem v (.ref sl)) (EP X aa σ Q) X.xe s
noncomputable def tSl(r:V->Option Int->Option Int->Hp->VK->Prop)(te:TE)(tl th:TO):TE:=λσ H Q=>te σ H λx H1=>tl σ H1 λl H2=>th σ H2 λu H3=>r x l u H3 Q
theorem Dx(hr:Uq X r)(he:PE X e te)(hl:PO X lo tl)(hu:PO X hi th):PE X (.Subscript e (.Slice lo hi none p2) pos) (tSl r te tl th):=by
 intro aa s σ H Q I h;refine Subscript_ (cJ (he aa s σ H _ I h) ?_);rintro v s1 ⟨x,H1,I1,r1,q1⟩;refine wpAny_Slice (cJ (hl aa s1 σ H1 _ I1 q1) λvl s2 ⟨l,H2,I2,pl,q2⟩=>cJ (hu aa s2 σ H2 _ I2 q2) λvu s3 ⟨u,H3,I3,pu,q3⟩=>?_);rw[evalPart_none];refine aA ?_;have I4:Inv X aa σ H3 {s3 with heap:=s3.heap.push {cls:=.type "slice",data:=.fields #[vl,vu,.none]}}:=I3.kept (t':=s3.toks) λb ob q=>bz _ q;obtain⟨T,id,hT,ht,hg⟩:=hr aa {s3 with heap:=s3.heap.push {cls:=.type "slice",data:=.fields #[vl,vu,.none]}} σ H3 x v vl vu l u s3.heap.objs.size Q I4 r1 (Heap.IsSliceOf.new ..) pl pu q3;show wpAny (model X.prog X.w) X.A (subscriptTail e (.Slice lo hi none p2) v (.ref s3.heap.objs.size)) (EP X aa σ Q) X.xe {s3 with heap:=s3.heap.push {cls:=.type "slice",data:=.fields #[vl,vu,.none]}};exact tail_any (ops:=[.ref s3.heap.objs.size,v]) ht hT hg (by with_unfolding_all rfl)
def uQ(xs:List V)(lo hi:Option Int):List V:=(xs.drop (HT.eG xs.length 0 lo)).take (HT.eG xs.length xs.length hi-HT.eG xs.length 0 lo)
theorem mi(xs:List V)(lo hi:Option Int):(uQ xs lo hi).length<=xs.length:=by
 unfold uQ;rw[gW,GK];omega
def Wg(K:PySem.W.Frag):V->Option Int->Option Int->Hp->VK->Prop:=λx lo hi H Q=>∃a xs,x=.ref a/\gE K H a xs /\
 ¬(HT.eG xs.length 0 lo=0/\HT.eG xs.length xs.length hi=xs.length)/\∀p,H p=none->Q (.ref p) (upd H p (.tup (uQ xs lo hi)))
theorem Ma:Uq X (Wg X.K):=by
 intro aa s σ H x v vl vu lo hi sl Q I rx hs pl pu h;obtain⟨a,xs,rfl,hx,hw,q⟩:=h;cases rx;obtain⟨aG,r,ht,hz⟩:=I.tuple hx;have aY:aG.toArray.size=xs.length:=by rw[cG];exact r.length.symm
 refine⟨"tuple",_,AE.lookup,ht.typeIs,?_⟩;refine HT.kr ht hs pl pu (by rw[aY];exact hw) ?_ (by rw[aY];exact hz);rw[aY];refine⟨.ref s.heap.objs.size,_,I.laid (t':=s.toks) (o:=.tup (uQ xs lo hi)) (λb ob q=>bz _ q) (aI _) ?_,rfl,q _ (I.bJ.fresh (aI _))⟩;exact⟨dr (mi xs lo hi) hz,_,(r.drop (HT.eG xs.length 0 lo)).take (HT.eG xs.length xs.length hi-HT.eG xs.length 0 lo),IsTup.new _ _⟩
def QV(K:PySem.W.Frag):R2:=λx y H Q=>∃a b xs ys,x=.ref a/\y=.ref b/\gE K H a xs/\gE K H b ys/\xs≠[]/\xs.length+ys.length<=sizeLine /\
 (ys=[]->Q (.ref a) H)/\(ys≠[]->∀p,H p=none->Q (.ref p) (upd H p (.tup (xs++ys))))
theorem aS.rY(r:aS xs us):us=[]↔xs=[]:=by
 cases r with
 | nil=>simp
 | cons _ _=>simp
theorem Hd:jv X (binaryOp .Add) (QV X.K):=by
 intro aa s σ H x y v u Q I rx ry h;obtain⟨a,b,xs,ys,rfl,rfl,ha,hb,hx,hz,q1,q2⟩:=h;cases rx;cases ry;obtain⟨aG,r1,p1,_⟩:=I.tuple ha;obtain⟨jU,r2,p2,_⟩:=I.tuple hb;refine HT.G9 p1 p2 (λz=>hx (r1.rY.mp z)) (λz=>⟨.ref a,H,I,rfl,q1 (r2.rY.mp z)⟩) (λz=>?_) (by rw[<- r1.length,<- r2.length];exact hz);refine⟨.ref s.heap.objs.size,_,I.laid (t':=s.toks) (o:=.tup (xs++ys)) (λb ob q=>bz _ q) (aI _) ?_,rfl,q2 (λw=>z (r2.rY.mpr w)) _ (I.bJ.fresh (aI _))⟩;exact⟨by rw[cC];exact hz,_,r1.append r2,IsTup.new _ _⟩
end
noncomputable def Dy(n:Nat)(i:Int):Option Nat:=if 0<=i then (if i<n then some i.toNat else none) else if -(n:Int)<=i then some (i+n).toNat else none
def zc{α:Type}(xs:List α)(i:Int):Option α:=(Dy xs.length i).bind λj=>xs[j]?
theorem zd(h:Dy n i=some j):seqIndex? i n=some j/\j<n/\-(n:Int)<=i/\i<n:=by
 unfold Dy at h;by_cases h0:0<=i
 ·rw[aw h0]at h;by_cases h1:i<n
  ·rw[aw h1]at h;have e:i.toNat=j:=cg h;exact⟨by rw[seqIndex_of h0 h1,e],∅,∅,h1⟩
  ·rw[az h1]at h;cases h
 ·rw[az h0]at h;by_cases h1:-(n:Int)<=i
  ·rw[aw h1]at h;have e:(i+n).toNat=j:=cg h;exact⟨by rw[seqIndex_neg ∅ h1,e],∅,h1,∅⟩
  ·rw[az h1]at h;cases h
theorem rZ{α:Type}{xs:List α}{i:Int}{v:α}(h:zc xs i=some v):∃j,seqIndex? i xs.length=some j/\xs[j]?=some v/\j<xs.length/\-(xs.length:Int)<=i/\i<xs.length:=by
 unfold zc at h
 cases e:Dy xs.length i with
 | none=>rw[e]at h;cases h
 | some j =>
  rw[e]at h;obtain⟨h1,h2,h3,h4⟩:=zd e;exact⟨j,h1,h,h2,h3,h4⟩
noncomputable def ze(b:Expr):Prop:=∀o i,subscripted b false o i=operate [o,i] (getItem o i)
def Pp(X:Cx)(r:R2):Prop :=
 ∀(value jB:Expr)(aa:List (Addr×Obj))(s:Shared)(σ:St)(H:Hp)(x y:V)(v u:Value)(Q:VK),Inv X aa σ H s->RelV x v->RelV y u->r x y H Q ->
  subscripted jB false v u=operate [v,u] (getItem v u)->wpAny (model X.prog X.w) X.A (subscriptTail value jB v u) (EP X aa σ Q) X.xe s
def Kb(X:Cx)(id:String)(r:V->List V->Hp->VK->Prop):Prop :=
 ∀(aa:List (Addr×Obj))(s:Shared)(σ:St)(H:Hp)(x:V)(xs:List V)(v:Value)(us:List Value)(Q:VK),Inv X aa σ H s->RelV x v->aS xs us->r x xs H Q ->
  wpAny (model X.prog X.w) X.A (call (.builtin id) (v::us)) (EP X aa σ Q) X.xe s
section
variable {X:Cx} {a b:Expr} {ta tb:TE} {pos:Pos}
theorem Kc{r:R2}(hr:Pp X r)(ha:PE X a ta)(hb:PE X b tb)(hs:ze b):PE X (.Subscript a b pos) (Ge r ta tb):=by
 intro aa s σ H Q I h;exact Subscript_ (LP ha hb I h λv u s2 x y H2 I2 rx ry q=>hr a b aa s2 σ H2 x y v u Q I2 rx ry q (hs _ _))
def Wh(K:PySem.W.Frag):R2:=λx y H Q=>∃p xs i v,x=.ref p/\y=.int i/\fK K H p xs/\zc xs i=some v/\Q v H
def Wi(K:PySem.W.Frag):R2:=λx y H Q=>∃p xs i v,x=.ref p/\y=.int i/\gE K H p xs/\zc xs i=some v/\Q v H
def Wj:R2:=λx y H Q=>∃z i c,x=.str z/\y=.int i/\z.length<=sizeLine/\zc z.cps.toList i=some c/\Q (.str ⟨#[c]⟩) H
theorem He:Pp X (Wh X.K):=by
 intro value jB aa s σ H x y v u Q I rx ry h hs;obtain⟨p,xs,i,z,rfl,rfl,hq,he,q⟩:=h;cases rx;obtain⟨t,rfl⟩:=ry;obtain⟨aG,r,pl,hz⟩:=I.list hq;obtain⟨j,h1,h2,h3,h4,h5⟩:=rZ he;obtain⟨w,ew,xp⟩:=r.get h2;have hl:=r.length;have hn:=jS;have fin:EP X aa σ Q w s:=⟨z,H,I,xp,q⟩;by_cases h0:0<=i
 ·have hj:i.toNat=j:=by
   rw[seqIndex_of h0 h5]at h1;exact cg h1
  exact item_listR pl.isList h0 ∅ (by rw[hj];simpa using ew) fin hs
 ·have hj:(i+(aG.toArray.size:Int)).toNat=j:=by
   rw[seqIndex_neg ∅ h4]at h1;rw[cG,<- hl];exact cg h1
  exact subscriptTail_builtinR (x:=w) pl.isList.typeIs slot_list_getitem.lookup
   (wpAny_getItem_list_neg (Q:=λr s'=>r=w/\EP X aa σ Q r s') pl.isList ∅ (by rw[cG]<;>omega) ∅ (by rw[hj];simpa using ew) ⟨rfl,fin⟩) hs
theorem Mb:Pp X (Wi X.K):=by
 intro value jB aa s σ H x y v u Q I rx ry h hs;obtain⟨p,xs,i,z,rfl,rfl,hq,he,q⟩:=h;cases rx;obtain⟨t,rfl⟩:=ry;obtain⟨aG,r,pl,hz⟩:=I.tuple hq;obtain⟨j,h1,h2,h3,h4,h5⟩:=rZ he;obtain⟨w,ew,xp⟩:=r.get h2;have hl:=r.length;have hn:=jS;have fin:EP X aa σ Q w s:=⟨z,H,I,xp,q⟩
 exact subscriptTail_builtinR (x:=w) pl.typeIs slot_tuple_getitem.lookup
  (getItem_tuple (j:=j) (Q:=λr s'=>r=w/\EP X aa σ Q r s') pl ∅ ∅ (by rw[cG,<- hl];exact h1) (by simpa using ew) ⟨rfl,fin⟩) hs
theorem Mc:Pp X Wj:=by
 intro value jB aa s σ H x y v u Q I rx ry h hs;obtain⟨z,i,c,rfl,rfl,hz,he,q⟩:=h;obtain⟨t,rfl⟩:=rx;obtain⟨t',rfl⟩:=ry;obtain⟨j,h1,h2,h3,h4,h5⟩:=rZ he;have hl:z.cps.toList.length=z.length:=by simp[Str.length]
 rw[hl]at h1 h4 h5;have hn:=jS
 exact tail_any (typeIs_str s z t) slot_str_getitem.lookup (getItem_str (c:=c) (by
  have e1:decide (i < -(2 ^ 63:Int))=false:=eJ ∅;have e2:decide (i ≥ 2 ^ 63)=false:=eJ ∅;rw[e1,e2,Bool.or_false]) (by rw[h1];simpa using h2) ⟨.str ⟨#[c]⟩,H,I.tok _,⟨_,rfl⟩,q⟩) hs
theorem xu(aG:List Value)(n j:Nat)(u:Value):Obj.mapSeq (·.setIfInBounds j u) {cls:=.type "list",data:=.seq aG.toArray n}={cls:=.type "list",data:=.seq (aG.set j u).toArray n}:=by
 simp[Obj.mapSeq]
theorem Inv.lst(I:Inv X aa σ H s)(h:H p=some (.lst xs)):∃(aG:List Value) (n:Nat),aS xs aG/\s.heap.get? p=some {cls:=.type "list",data:=.seq aG.toArray n}/\xs.length<=sizeLine:=by
 obtain⟨z,aG,n,r,e⟩:=I.bJ p _ h;exact⟨aG,n,r,e,z⟩
theorem Inv.Md{xs ys:List V}{aG its':List Value}{n n':Nat}(I:Inv X aa σ H s)(h:H p=some (.lst xs)) (ho:s.heap.get? p=some {cls:=.type "list",data:=.seq aG.toArray n}) (hf:f {cls:=.type "list",data:=.seq aG.toArray n}={cls:=.type "list",data:=.seq its'.toArray n'}) (r:aS ys its') (hz:ys.length<=sizeLine) (t:Nat):Inv X aa σ (upd H p (.lst ys)) {s with heap:=s.heap.update p f,toks:=t}:=by
 have e:(s.heap.update p f).get? p=some {cls:=.type "list",data:=.seq its'.toArray n'}:=by
  rw[pT f ho (by rw[hf]<;>rfl),hf]
 refine I.write (x:=p) (e:=p) (by rw[h];trivial) (.inl rfl) (λb u hb q=>(Heap.get?_update_other _ _ (dh hb)).trans q) ⟨_,e⟩ ?_;exact⟨hz,its',n',r,e⟩
def QW:V->V->V->Hp->(Hp->Prop)->Prop:=λo i v H Q=>∃p xs k j,o=.ref p/\i=.int k/\H p=some (.lst xs)/\Dy xs.length k=some j/\Q (upd H p (.lst (xs.set j v)))
theorem Dz:GY X QW:=by
 intro aa s σ H o i v ov iv u Q I ro ri rv h;obtain⟨p,xs,k,j,rfl,rfl,hp,hj,q⟩:=h;cases ro;obtain⟨t,rfl⟩:=ri;obtain⟨aG,n,r,ho,hz⟩:=I.lst hp;obtain⟨h1,h2,h3,h4⟩:=zd hj;have hl:=r.length;have hn:=jS
 have I':Inv X aa σ (upd H p (.lst (xs.set j v))) {s with heap:=s.heap.update p (Obj.mapSeq (·.setIfInBounds j u))} :=
  I.Md hp ho (xu aG n j u) (r.set rv j) (by rw[kh];exact hz) s.toks
 by_cases h0:0<=k
 ·have hk:k.toNat=j:=by
   rw[seqIndex_of h0 h4]at h1;exact cg h1
  exact PySem.W.ki_setAt ho h0 ∅ (by rw[cG,<- hl];exact h4) (by rw[hk];exact⟨_,I',q⟩)
 ·have hk:(k+(aG.toArray.size:Int)).toNat=j:=by
   rw[seqIndex_neg ∅ h3]at h1;rw[cG,<- hl];exact cg h1
  exact PySem.W.ki_setBack ho ∅ (by rw[cG,<- hl];exact h3) ∅ (by rw[hk];exact⟨_,I',q⟩)
theorem r_(lo hi:Option Int)(n:Nat):(sliceBounds lo hi none n).1=((HT.eG n 0 lo:Nat):Int)/\(sliceBounds lo hi none n).2.1=((HT.eG n n hi:Nat):Int)/\(sliceBounds lo hi none n).2.2=1:=by
 refine⟨?_,?_,rfl⟩
 ·cases lo with
  | none=>simp[sliceBounds,HT.eG]
  | some i =>
   simp only[sliceBounds,HT.eG,Option.getD_none,show(1:Int)>0 by decide,eP];by_cases h:i<0
   ·simp only[h,eP]<;>omega
   ·simp only[h,nN]<;>omega
 ·cases hi with
  | none=>simp[sliceBounds,HT.eG]
  | some i =>
   simp only[sliceBounds,HT.eG,Option.getD_none,show(1:Int)>0 by decide,eP];by_cases h:i<0
   ·simp only[h,eP]<;>omega
   ·simp only[h,nN]<;>omega
theorem p_(aG:List Value)(lo hi:Option Int):slicePick aG.toArray lo hi none=((aG.drop (HT.eG aG.length 0 lo)).take (HT.eG aG.length aG.length hi-HT.eG aG.length 0 lo)).toArray:=by
 obtain⟨h1,h2,h3⟩:=r_ lo hi aG.toArray.size;unfold slicePick;rw[h1,h2,h3];simp only[sliceRange_one,pick_run,cG]<;>rfl
def Wk(K:PySem.W.Frag):V->Option Int->Option Int->Hp->VK->Prop:=λx lo hi H Q=>∃a xs,x=.ref a/\fK K H a xs/\∀p,H p=none->Q (.ref p) (upd H p (.lst (uQ xs lo hi)))
theorem Hf:Uq X (Wk X.K):=by
 intro aa s σ H x v vl vu lo hi sl Q I rx hs pl pu h;obtain⟨a,xs,rfl,hx,q⟩:=h;cases rx;obtain⟨aG,r,ht,hz⟩:=I.list hx;have aY:=r.length;refine⟨"list",_,slot_list_getitem.lookup,ht.isList.typeIs,?_⟩;refine wpAny_getItem_list_slice ht.isList hs pl pu .none (by simp) ?_ (by rw[cG]<;>omega);rw[p_,<- aY];refine⟨.ref s.heap.objs.size,_,I.laid (t':=s.toks) (o:=.lst (uQ xs lo hi)) (λb ob q=>bz _ q) (aI _) ?_,rfl,q _ (I.bJ.fresh (aI _))⟩;exact⟨dr (mi xs lo hi) hz,_,0,(r.drop (HT.eG xs.length 0 lo)).take (HT.eG xs.length xs.length hi-HT.eG xs.length 0 lo),dP _ rfl⟩
theorem se:dM X (.builtin "len") (λxs H Q=>∃p ys,xs=[.ref p]/\(fK X.K H p ys\/gE X.K H p ys)/\Q (.int ys.length) H):=by
 intro aa s σ H xs us Q I r h;obtain⟨p,ys,rfl,hq,q⟩:=h;obtain⟨u,rfl,rx⟩:=vals1 r;cases rx;have hn:=jS;rcases hq with hq | hq
 ·obtain⟨aG,r',pl,hz⟩:=I.list hq;have aY:=r'.length;exact Calls.call_len_list pl.isList (by simp only[cG]<;>omega) ⟨.int ys.length,H,I.tok _,⟨s.toks+1,by rw[cG,aY]⟩,q⟩
 ·obtain⟨aG,r',pl,hz⟩:=I.tuple hq;have aY:=r'.length;exact len_tuple pl (by simp only[cG]<;>omega) ⟨.int ys.length,H,I.tok _,⟨s.toks+1,by rw[cG,aY]⟩,q⟩
theorem sf:dM X (.builtin "len") (λxs H Q=>∃z,xs=[.str z]/\z.length<=sizeLine/\Q (.int z.length) H):=by
 intro aa s σ H xs us Q I r h;obtain⟨z,rfl,hz,q⟩:=h;obtain⟨u,rfl,t,rfl⟩:=vals1 r;have hn:=jS;exact len_str ∅ ⟨.int z.length,H,I.tok _,⟨_,rfl⟩,q⟩
theorem sg:dM X (.type "list") (λxs H Q=>∃p ys,xs=[.ref p]/\(fK X.K H p ys\/gE X.K H p ys)/\∀l,H l=none->Q (.ref l) (upd H l (.lst ys))):=by
  intro aa s σ H xs us Q I r h;obtain⟨p,ys,rfl,hq,q⟩:=h;obtain⟨u,rfl,rx⟩:=vals1 r;cases rx
  have fin : ∀ (aG : List Value), aS ys aG -> ys.length <= sizeLine -> ∀ (h' : Heap) (c' : Nat), (∀ b o', s.heap.get? b = some o' -> h'.get? b = some o') ->
      h'.get? s.heap.objs.size=some {cls:=.type "list",dict:=none,data:=.seq aG.toArray c',slots:=#[]}->EP X aa σ Q (.ref s.heap.objs.size) {s with heap:=h'}:=λaG r' hz h' c' kp e =>
    ⟨.ref s.heap.objs.size,_,I.laid (t':=s.toks) kp (aI _) (show bO X.prog X.w _ h' _ (.lst ys) from ⟨hz,aG,c',r',e⟩),rfl,q _ (I.bJ.fresh (aI _))⟩
  rcases hq with hq | hq
  · obtain⟨aG,r',pl,hz⟩:=I.list hq;have aY:=r'.length;obtain⟨o,ho,hc,n,hd⟩:=pl.isList;exact call_list_seq p (.inl rfl) ho hc hd (λh' c' kp e=>fin aG r' hz h' c' kp e) (by simp only[cG]<;>omega)
  · obtain⟨aG,r',pl,hz⟩:=I.tuple hq;have aY:=r'.length;obtain⟨o,ho,hc,n,hd⟩:=pl;exact call_list_seq p (.inr rfl) ho hc hd (λh' c' kp e=>fin aG r' hz h' c' kp e) (by simp only[cG]<;>omega)
theorem jC:dM X (.type "tuple") (λxs H Q=>∃p ys,xs=[.ref p]/\((fK X.K H p ys/\∀l,H l=none->Q (.ref l) (upd H l (.tup ys)))\/(gE X.K H p ys/\Q (.ref p) H))):=by
 intro aa s σ H xs us Q I r h;obtain⟨p,ys,rfl,h⟩:=h;obtain⟨u,rfl,rx⟩:=vals1 r;cases rx;rcases h with⟨hq,q⟩|⟨hq,q⟩
 ·obtain⟨aG,r',pl,hz⟩:=I.list hq;have aY:=r'.length;refine call_tuple_list pl.isList (λh' kp=>?_) (by simp only[cG]<;>omega);have I1:Inv X aa σ H {s with heap:=h'}:=I.kept (t':=s.toks) kp
  have I2:Inv X aa σ (upd H h'.objs.size (.tup ys)) {s with heap:=h'.push {cls:=.type "tuple",data:=.seq aG.toArray}} :=
   I1.laid (t':=s.toks) (λb o e=>bz _ e) (aI _) (show bO X.prog X.w _ _ _ (.tup ys) from ⟨hz,aG,r',IsTup.new _ _⟩)
  exact⟨.ref h'.objs.size,_,I2,rfl,q _ (I1.bJ.fresh (aI _))⟩
 ·obtain⟨aG,r',pl,hz⟩:=I.tuple hq;exact call_tuple_same pl ⟨.ref p,H,I,rfl,q⟩
def Wl(K:PySem.W.Frag)(T:String)(x:V)(H:Hp):Prop:=match x with
  | .str _=>T = "str"
  | .int _=>T = "int"
  | .ref p => (T = "list" /\ ∃ xs, fK K H p xs) \/ (T = "tuple" /\ ∃ o, K.lookup p = some o /\ o.cls = .type "tuple" /\ o.dict = none) \/
      (T = "dict" /\ ((∃ah,H p=some (.dK ah))\/∃ah,H p=some (.dT ah)))\/(T = "set" /\ ∃S n,H p=some (.set S n))
  | _=>False
theorem DA(I:Inv X aa σ H s)(r:RelV x v)(ty:Wl X.K T x H):s.TypeIs v T/\∀a,v=.ref a->∃ob,s.heap.get? a=some ob/\ob.dict=none:=by
 cases x with
 | str z =>
  obtain⟨t,rfl⟩:=r;cases (show T = "str" from ty);exact⟨typeIs_str s z t,λ_ e=>nomatch e⟩
 | int i =>
  obtain⟨t,rfl⟩:=r;cases (show T = "int" from ty);exact⟨typeIs_int s i t,λ_ e=>nomatch e⟩
 | ref p =>
  cases r;rcases ty with⟨rfl,xs,hq⟩|⟨rfl,o,hk,hc,hd⟩|⟨rfl,hk⟩|⟨rfl,S,n,hk⟩
  ·obtain⟨aG,_,pl,_⟩:=I.list hq;refine⟨pl.isList.typeIs,λa e=>?_⟩;cases e;obtain⟨o,n,e,c,hd,_⟩:=pl;exact⟨o,e,hd⟩
  ·refine⟨⟨o,I.uD p o hk,hc⟩,λa e=>?_⟩;cases e;exact⟨o,I.uD _ o hk,hd⟩
  ·have z:∃o,s.heap.get? p=some o/\o.ExactDict:=by
    rcases hk with⟨ah,hk⟩|⟨ah,hk⟩
    ·obtain⟨_,_,_,_,o,_,_,e,ex,_⟩:=I.bJ p _ hk;exact⟨o,e,ex⟩
    ·obtain⟨_,_,_,_,o,_,_,e,ex,_⟩:=I.bJ p _ hk;exact⟨o,e,ex⟩
   obtain⟨o,e,ex⟩:=z;refine⟨⟨o,e,ex.1⟩,λa e2=>?_⟩;cases e2;exact⟨o,e,ex.2.1⟩
  ·obtain⟨o,_,_,_,e,ex,_⟩:=I.bJ p _ hk;refine⟨⟨o,e,ex.1⟩,λa e2=>?_⟩;cases e2;exact⟨o,e,ex.2.1⟩
 | _=>exact False.elim ty
def QX(K:PySem.W.Frag)(T:String)(r:V->List V->Hp->VK->Prop)(to:TE):TE:=λσ H Q=>to σ H λx H1=>Wl K T x H1/\r x [] H1 Q
def YG(K:PySem.W.Frag)(T:String)(r:V->List V->Hp->VK->Prop)(to:TE)(t:TA):TE:=λσ H Q=>to σ H λx H1=>Wl K T x H1/\t σ H1 λxs H2=>r x xs H2 Q
variable {o e:Expr} {es:List Expr} {to:TE} {t:TA} {name:Str} {rV fg:Pos} {T id:String} {r:V->List V->Hp->VK->Prop}
theorem nZ(pa:PlainAttrs T)(slot:Slot T name id) (Wm:typeOf (.builtin id)=pure (.type "method_descriptor")) (hm:Kb X id r) (ho:PE X o to) (uR:attributeBase o name X.env (eval o X.env)=eval o X.env:=by rfl) (uS:(rV.endLine==fg.line)=true:=by rfl):PE X (.Call (.Attribute o name rV) [] [] fg) (QX X.K T r to):=by
 intro aa s σ H Q I h;refine wpAny_Call_method0_late uR uS (cJ (ho aa s σ H _ I h) ?_);rintro v s1 ⟨x,H1,I1,r1,ty,q1⟩;obtain⟨h1,h2⟩:=DA I1 r1 ty;exact⟨T,id,pa,slot,Wm,h1,h2,K8 rfl (PySem.evalArgs_none (hm aa s1 σ H1 x [] v [] Q I1 r1 .nil q1))⟩
theorem uT (pa : PlainAttrs T) (slot : Slot T name id) (Wm : typeOf (.builtin id) = pure (.type "method_descriptor")) (hm : Kb X id r) (ho : PE X o to) (ha : PA X (e :: es) t)
    (uR:attributeBase o name X.env (eval o X.env)=eval o X.env:=by rfl)
    (qc:((backTo fg (starEach (e::es) X.env)).all (λx=>!x.1)&&(backToKw fg (keywordEach [] X.env)).all (λx=>x.1.isSome)
      && decide ((e::es).length+([]:List Keyword).length+(if ([]:List Keyword).isEmpty then 0 else 1)<30))=true:=by rfl)
    (uS:(rV.endLine==fg.line)=true:=by rfl) (hs:starEach (e::es) X.env=(false,eval e X.env)::starEach es X.env:=by rfl) (Mf:(backTo fg (starEach es X.env)).any (·.1)=false:=by rfl) :
    PE X (.Call (.Attribute o name rV) (e::es) [] fg) (YG X.K T r to t):=by
  intro aa s σ H Q I h;refine wpAny_Call_method_late uR qc uS rfl (cJ (ho aa s σ H _ I h) ?_);rintro v s1 ⟨x,H1,I1,r1,ty,q1⟩;obtain⟨h1,h2⟩:=DA I1 r1 ty;refine⟨T,id,pa,slot,Wm,h1,h2,?_⟩;have hA:=ha fg aa s1 σ H1 _ I1 q1;rw[hs]at hA⊢;refine K8 (by show(false||(backTo fg (starEach es X.env)).any (·.1))=false;rw[Mf]<;>rfl) (Calls.evalArgs_plain ?_);exact cJ hA λus s2 ⟨vs,H2,I2,r2,q2⟩=>hm aa s2 σ H2 x vs v us Q I2 r1 r2 q2
end
def QY(X:Cx)(id:String)(r:V->List V->Hp->VK->Prop):Prop :=
 ∀(aa:List (Addr×Obj))(s:Shared)(σ:St)(H:Hp)(x:V)(xs:List V)(v:Value)(us:List Value)(Q:VK),Inv X aa σ H s->RelV x v->aS xs us->r x xs H Q ->
  wpAny (model X.prog X.w) X.A (call (.builtin id) (v::us)) (EP X aa σ Q) X.xe s
theorem aS.one(h:aS [x] us):∃u,us=[u]/\RelV x u:=by
 cases h with
 | cons r t=>cases t;exact⟨_,rfl,r⟩
theorem aS.two(h:aS [x,y] us):∃u v,us=[u,v]/\RelV x u/\RelV y v:=by
 cases h with
 | cons r t=>obtain⟨v,rfl,q⟩:=aS.one t;exact⟨_,v,rfl,r,q⟩
theorem aS.zero:∀{us:List Value},aS [] us->us=[]
 | _,.nil=>rfl
theorem aS.dropLast(h:aS xs us):aS xs.dropLast us.dropLast:=by
 induction h with
 | nil=>exact .nil
 | cons r t ih =>
  cases t with
  | nil=>exact .nil
  | cons q t'=>exact .cons r ih
theorem aS.reverse(h:aS xs us):aS xs.reverse us.reverse:=by
 induction h with
 | nil=>exact .nil
 | cons r t ih=>rw[Li,Li];exact aS.append ih (.cons r .nil)
theorem aS.rep(h:aS xs us):∀k:Nat,aS (List.replicate k xs).flatten (List.replicate k us).flatten
 | 0=>.nil
 | k+1=>by
  rw[AH,AH,CJ,CJ];exact aS.append h (aS.rep h k)
theorem xv{α:Type}(l:List α):l.eraseIdx (l.length-1)=l.dropLast:=by
 induction l with
 | nil=>rfl
 | cons a r ih =>
  cases r with
  | nil=>rfl
  | cons b r =>
   have e:(a::b::r).length-1=((b::r).length-1)+1:=by
    have h1:(a::b::r).length=r.length+2:=rfl;have h2:(b::r).length=r.length+1:=rfl;omega
   rw[e,List.eraseIdx_cons_succ,ih]
   all_goals rfl
theorem foldl_rep(aG:List Value):∀(k:Nat)(acc:List Value),List.foldl (λx1 x2=>x1++x2) acc.toArray (List.replicate k aG.toArray)=(acc++(List.replicate k aG).flatten).toArray
 | 0,acc=>by simp
 | k+1,acc=>by
  have e:acc.toArray++aG.toArray=(acc++aG).toArray:=by simp
  have e2:(acc++aG)++(List.replicate k aG).flatten=acc++(List.replicate (k+1) aG).flatten:=by
   rw[AH,CJ,rC]
  rw[<- e2,<- foldl_rep aG k (acc++aG),<- e,AH,List.foldl_cons]
section
variable {X:Cx} {aa:List (Addr×Obj)} {σ:St} {H:Hp} {s:Shared} {l b:Addr} {xs ys zs:List V}
theorem Inv.Bp{aG its':List Value}{n:Nat}{t':Nat}(I:Inv X aa σ H s)(hH:H l=some (.lst xs)) (e:s.heap.get? l=some {cls:=.type "list",data:=.seq aG.toArray n}) (hf:f aG.toArray=its'.toArray) (hv:aS ys its') (hz:ys.length<=sizeLine):Inv X aa σ (upd H l (.lst ys)) {s with heap:=s.heap.update l (Obj.mapSeq f),toks:=t'}:=by
 have q:=PySem.IsL.update e f;rw[hf]at q;refine I.write (x:=l) (e:=l) (by rw[hH];exact trivial) (.inl rfl) (λb' u hb hu=>(Heap.get?_update_other s.heap (Obj.mapSeq f) (dh hb)).trans hu) ⟨_,q⟩ ?_;exact⟨hz,its',_,hv,q⟩
theorem Inv.QZ(I:Inv X aa σ H s)(hv:aS ys aG)(hz:ys.length<=sizeLine):Inv X aa σ (upd H s.heap.objs.size (.lst ys)) {s with heap:=s.heap.push {cls:=.type "list",data:=.seq aG.toArray},toks:=t'} :=
 I.laid (λ_ _ q=>bz _ q) (aI _) ⟨hz,aG,0,hv,dP _ rfl⟩
theorem Inv.fresh(I:Inv X aa σ H s):H s.heap.objs.size=none:=I.bJ.fresh (aI _)
theorem Inv.qe(I:Inv X aa σ H s)(hH:H l=some (.lst xs)):xs.length<=sizeLine/\∃(aG:List Value) (n:Nat),aS xs aG/\xs.length=aG.length/\s.heap.get? l=some {cls:=.type "list",data:=.seq aG.toArray n}:=by
 obtain⟨z,aG,n,r,e⟩:=I.bJ l _ hH;exact⟨z,aG,n,r,r.length,e⟩
theorem n_(h:n<=sizeLine):Builtin.List.listTooLong n=false:=by
 unfold Builtin.List.listTooLong;exact eJ ∅
end
section
variable {X:Cx}
def Hg:V->List V->Hp->VK->Prop:=λx vs H Q=>∃l xs y,x=.ref l/\vs=[y]/\H l=some (.lst xs)/\xs.length<sizeLine/\Q .aR (upd H l (.lst (xs++[y])))
theorem qE:QY X "list.append" Hg:=by
 intro aa s σ H x vs v us Q I rx rv h;obtain⟨l,xs,y,rfl,rfl,hH,hz,q⟩:=h;cases rx;obtain⟨u,rfl,ru⟩:=rv.one;obtain⟨z,aG,n,r,hl,e⟩:=I.qe hH;refine uw F.slot_list_append ⟨_,e,rfl⟩ F.entry_list_append (F.args_list_append_2 _ _) (PySem.list_append l aG.toArray n u (by rw[cG];omega)) ⟨e,?_⟩;refine⟨.aR,_,I.Bp (its':=aG++[u]) hH e (by simp) (r.append (.cons ru .nil)) ?_,rfl,q⟩;rw[cC,List.length_singleton];omega
def Hh:V->List V->Hp->VK->Prop:=λx vs H Q=>∃l b xs zs,x=.ref l/\vs=[.ref b]/\H l=some (.lst xs)/\H b=some (.lst zs)/\xs.length+zs.length<=sizeLine/\Q .aR (upd H l (.lst (xs++zs)))
theorem Bq:QY X "list.extend" Hh:=by
 intro aa s σ H x vs v us Q I rx rv h;obtain⟨l,b,xs,zs,rfl,rfl,hH,hB,hz,q⟩:=h;cases rx;obtain⟨u,rfl,ru⟩:=rv.one;cases ru;obtain⟨z,aG,n,r,hl,e⟩:=I.qe hH;obtain⟨z2,jU,n2,r2,Cu,e2⟩:=I.qe hB;have hsz:aG.toArray.size+jU.toArray.size<=sizeLine:=by rw[cG,cG];omega
 have uU:¬(!aG.toArray.isEmpty&&Builtin.List.listTooLong (aG.toArray.size+jU.toArray.size))=true:=by
  rw[n_ hsz,Bool.and_false];exact aT
 refine uw GF ⟨_,e,rfl⟩ F.entry_list_extend (F.args_list_extend_2 _ _)
  (AutoSeq1.list_extend_list_list_0 l aG.toArray n b jU.toArray n2 uU (by rw[cG];omega) ∅) ⟨e,e2,?_⟩
 refine⟨.aR,_,I.Bp (its':=aG++jU) hH e (by simp) (r.append r2) ?_,rfl,q⟩;rw[cC];omega
def Wn:V->List V->Hp->VK->Prop:=λx vs H Q=>∃l xs y,x=.ref l/\vs=[]/\H l=some (.lst xs)/\xs[xs.length-1]?=some y/\Q y (upd H l (.lst xs.dropLast))
theorem Mg:QY X "list.pop" Wn:=by
 intro aa s σ H x vs v us Q I rx rv h;obtain⟨l,xs,y,rfl,rfl,hH,hy,q⟩:=h;cases rx;have Wo:=rv.zero;subst Wo;obtain⟨z,aG,n,r,hl,e⟩:=I.qe hH;obtain⟨u,hu,ru⟩:=r.get hy
 have hy':aG.toArray[aG.toArray.size-1]?=some u:=by
  show aG.toArray[aG.length-1]?=some u;rw[<- nz,<- hl];exact hu
 refine uw F.slot_list_pop ⟨_,e,rfl⟩ F.entry_list_pop (F.args_list_pop_1 _) (MeetsSeq.list_pop_last l aG.toArray n u hy' (by rw[cG];omega)) ⟨e,?_⟩;refine⟨y,_,I.Bp (its':=aG.dropLast) hH e ?_ r.dropLast ?_,ru,q⟩
 ·show aG.toArray.eraseIdxIfInBounds (aG.toArray.size-1)=aG.dropLast.toArray;rw[cG,List.eraseIdxIfInBounds_toArray,xv]
 ·rw[List.length_dropLast];omega
def DB:V->List V->Hp->VK->Prop:=λx vs H Q=>∃l xs,x=.ref l/\vs=[]/\H l=some (.lst xs)/\Q .aR (upd H l (.lst xs.reverse))
theorem xx:QY X "list.reverse" DB:=by
 intro aa s σ H x vs v us Q I rx rv h;obtain⟨l,xs,rfl,rfl,hH,q⟩:=h;cases rx;have Wo:=rv.zero;subst Wo;obtain⟨z,aG,n,r,hl,e⟩:=I.qe hH;refine uw F.slot_list_reverse ⟨_,e,rfl⟩ F.entry_list_reverse (F.args_list_reverse_1 _) (AutoSeq1.list_reverse_list_0 l aG.toArray n (by rw[cG];omega)) ⟨e,?_⟩;refine⟨.aR,_,I.Bp (its':=aG.reverse) hH e (by simp) r.reverse ?_,rfl,q⟩;rw[List.length_reverse];omega
def Wq:R2:=λx y H Q=>∃l b xs zs,x=.ref l/\y=.ref b/\H l=some (.lst xs)/\H b=some (.lst zs)/\xs.length+zs.length<=sizeLine/\∀p,H p=none->Q (.ref p) (upd H p (.lst (xs++zs)))
theorem Mh:jv X (binaryOp .Add) Wq:=by
 intro aa s σ H x y v u Q I rx ry h;obtain⟨l,b,xs,zs,rfl,rfl,hH,hB,hz,q⟩:=h;cases rx;cases ry;obtain⟨z,aG,n,r,hl,e⟩:=I.qe hH;obtain⟨z2,jU,n2,r2,Cu,e2⟩:=I.qe hB;refine PySem.P.add_list e e2 ?_ (by rw[cG,cG];omega);have ea:aG.toArray++jU.toArray=(aG++jU).toArray:=by simp
 rw[ea];exact⟨.ref _,_,I.QZ (t':=s.toks) (r.append r2) (by rw[cC];omega),rfl,q _ I.fresh⟩
def Wr:R2:=λx y H Q=>∃l k xs,x=.ref l/\y=.int k/\H l=some (.lst xs)/\-(2 ^ 63)<=k/\k<2 ^ 63/\xs.length*k.toNat<=sizeLine /\
 ∀p,H p=none->Q (.ref p) (upd H p (.lst (List.replicate k.toNat xs).flatten))
theorem Hi{α:Type}(xs:List α)(k:Nat):(List.replicate k xs).flatten.length=k*xs.length:=by
 induction k with
 | zero=>simp
 | succ k ih=>rw[AH,CJ,cC,ih,Nat.succ_mul,Nat.add_comm]
theorem Mi:jv X (binaryOp .Mult) Wr:=by
 intro aa s σ H x y v u Q I rx ry h;obtain⟨l,k,xs,rfl,rfl,hH,h1,h2,hz,q⟩:=h;cases rx;obtain⟨t,rfl⟩:=ry;obtain⟨z,aG,n,r,hl,e⟩:=I.qe hH;have aY:aG.toArray.size*k.toNat<=sizeLine:=by rw[cG,<- hl];exact hz
 have DC:¬aG.toArray.size*k.toNat>(2 ^ 63-1) / 8:=by
  have:(sizeLine:Nat)<=(2 ^ 63-1) / 8:=by decide
  omega
 have Ws:¬(!Builtin.List.listFitsIndex k)=true:=by
  rw[fitsIndex_both h1 h2];exact aT
 have uU:¬Builtin.List.listTooLong (aG.toArray.size*k.toNat)=true:=by
  rw[n_ aY];exact aT
 have ix:List.foldl (λx1 x2=>x1++x2) #[] (List.replicate (if aG.toArray.isEmpty=true then 0 else k.toNat) aG.toArray)=(List.replicate k.toNat aG).flatten.toArray:=by
  have f0:∀m:Nat,List.foldl (λx1 x2=>x1++x2) #[] (List.replicate m aG.toArray)=(List.replicate m aG).flatten.toArray:=λm=>by
   have:=foldl_rep aG m [];rw[List.nil_append]at this;exact this
  rw[f0]
  cases aG with
  | nil=>simp
  | cons a r'=>rw[az (by simp)]
 refine wpAny_binaryOp_repeat_ref (T := "list") (U := "int") (by decide) ⟨_,e,rfl⟩ (λs'=>typeIs_int s' k t) noFill_list_mul F.fills_int_mul F.slot_int_rmul repeat_list F.slot_int_index.lookup
  (uw F.slot_int_rmul (typeIs_int s k t) F.entry_int_rmul (F.args_int_rmul_2 _ _) (int___rmul___int_list k t l aG.toArray n)
   ⟨e,rfl,⟨_,e,rfl⟩,uw F.slot_list_mul ⟨_,e,rfl⟩ F.entry_list_mul (F.args_list_mul_2 _ _) (AutoListH.list___mul___list_int_3 l aG.toArray n k t Ws DC uU) ⟨e,?_⟩⟩)
 rw[ix];exact⟨.ref _,_,I.QZ (t':=s.toks) (r.rep k.toNat) (by rw[Hi,Nat.mul_comm];exact hz),rfl,q _ I.fresh⟩
end
end L2
namespace YH
open PySem PySem.W PySem.Calls PyProof.Rows
theorem mK:∀(ns:List Int)(vs:List Value),WellAll P h vs (ns.map WData.int)->IntsAre vs ns:=by
 intro ns
 induction ns with
 | nil =>
  intro vs w;rw[pZ]at w;cases w;exact .nil
 | cons n ns ih =>
  intro vs w;rw[fO]at w
  cases w with
  | cons a b =>
   cases a;exact .cons _ _ (ih _ b)
theorem Br{l:OpenLaw}{n:Nat}(hn:l.most=some n){P:Params}{h:Heap}{args:List WData}{vals:List Value}(Hj:l.row.toRowW.claim.pre args=true)(Hk:WellAll P h vals args):∃a vs ns,vals=[Value.ref a]/\args=[WData.list (ns.map WData.int)]/\h.get? a=some {cls:=.type "list",data:=.seq vs.toArray}/\IntsAre vs ns/\ns.length<=n:=by
 have hsh:WShape.hasAll [] args [.list .int]=true:=(pre_splitW Hj).1;have hc:l.pre.holds [] {args:=args}=true:=(pre_splitW Hj).2;obtain⟨d,r,rfl,h1,h2⟩:=hasAllW_cons hsh;obtain rfl:=hasAllW_nil h2;obtain⟨xs,rfl,h3⟩:=hasW_list h1;obtain⟨ns,rfl⟩:=items_int h3
 have aY:ns.length<=n:=by
  unfold OpenLaw.pre at hc
  have h4:(WTm.not (.lt (.lit (.int (n:Int))) (.len (.arg 0)))).holds [] {args:=[.list (ns.map .int)]}=true:=by
   have h4:=(holds_andW hc).1;rw[hn]at h4;exact h4
  have h5:=condW_of h4 (w_not (w_lt w_lit (w_len_list (w_arg rfl))));rw[aB]at h5;refine Nat.le_of_not_lt λq=>?_;have q':(n:Int)<((ns.length:Nat):Int):=∅
  first
   | (rw[gk q']at h5;exact absurd h5 (by decide))
   | (simp at h5;omega)
 cases Hk with
 | cons w1 w2 =>
  cases w2
  cases w1 with
  | list ho xq=>exact⟨_,_,ns,rfl,rfl,ho,mK ns _ xq,aY⟩
theorem Bs(l:OpenLaw)(args:List WData):l.row.toRowW.claim.post args (.bool true) args=true :=
 postW_of (r:=l.row.toRowW) (X:=(true==true))
  (show WShape.has [] (.bool true) .bool=true by first | rfl | decide | simp[WShape.has,WShape.arms,WShape.armsAll])
  (show(WTm.eq .res (.lit (.bool true))).value [] {args:=args,res:=some (.bool true),after:=args}=some (.bool (true==true)) from w_eq_bool (w_res rfl) w_lit) rfl
theorem uV {l : OpenLaw} {n : Nat} {q : Program} {loose : List Str} {XP : (Str -> Option Value) -> Heap -> Prop} {YP : World -> Heap -> Prop} {d : DefRec}
    (hn:l.most=some n) (Kd:d.params.defaults=[])
    (call:∀(w:World)(ff bo:Shared)(mg mb:Str->Option Value)(fa:Addr)(o:Obj)(pm cd doc:Value)(a:Addr)(vs:List Value)(ns:List Int),
      Ground q loose [] XP w ff mg mb bo.heap->YP w bo.heap ->
      bo.heap.get? fa=some o->o.data=.func (docDef d.name d.params d.body d.scope pm cd doc)->bo.heap.CodeRec cd d.name->mg d.name=some (.ref fa) ->
      bo.heap.get? a=some {cls:=.type "list",data:=.seq vs.toArray}->IntsAre vs ns->ns.length<=n->bo.gens=#[] ->
      codeAny (model l.prog w) callerA (.call (.ref fa) ⟨[.ref a],[]⟩) (λr s'=>r=.ok (.ret (.bool true))/\OldK bo.heap s'.heap/\s'.os=bo.os/\AllBare s'.gens) bo) :
    WalkO q loose XP YP l.row.toRowW d [] (λf vs=>PySem.call f vs):=by
  intro w ff bo mg mb G Y fa o pm cd doc dV kV ho hd Gd hD Q0 hg args vals as Hj hlay Hl Hk Hm;obtain rfl:dV=.none:=Dflts.none hD Kd;obtain rfl:kV=.none:=Dflts.noKw hD;obtain⟨a,vs,ns,rfl,rfl,Mj,hints,aY⟩:=Br hn Hj Hk;refine enter_call (CU (call w ff bo mg mb fa o pm cd doc a vs ns G Y ho (fd_plain hd) Gd Q0 Mj hints aY hg) λr s' hq=>?_);obtain⟨rfl,h2,h3,h4⟩:=hq;exact⟨.inl ⟨.bool true,.bool true,[],rfl,λ_=>rfl,.bool true,Bs l _,λ_=>⟨List.Pairwise.nil,λ_ hm=>(nomatch hm)⟩⟩,h2,h3,h4⟩
end YH
namespace L2
open PySem PySem.Spec PyProof.Rows
theorem qF:∀{vs:List Value}{ns:List Int},IntsAre vs ns->aS (ns.map V.int) vs
 | _,_,.nil=>.nil
 | _,_,.cons n t h=>.cons ⟨t,rfl⟩ (qF h)
noncomputable def Hn(H:Hp):Prop:=∀b,H b=none\/∃o xs,H b=some (.eQ o (.lst xs))
theorem DD{P:Program}{w:World}{K:PySem.W.Frag}{mg mb:Str->Option Value}{CX:Dk}{k:Nat}{fa a:Addr}{fd:FuncData}{x:Str}{sp:Sp}{bo:Shared}{vs:List Value}{ns:List Int}(KX:K.In bo.heap)(lE:bo.heap.Ns mainGlobals mg)(hb:bo.heap.Ns builtinsNs mb) (Ke:∀x:Str,x≠ "__name__" -> mb x=bootBuiltins x) (Wt:bo.heap.NoLimit) (hg:bo.gens=#[]) (ha:bo.heap.get? a=some {cls:=.type "list",data:=.seq vs.toArray}) (hi:IntsAre vs ns) (hl:ns.length<=sizeLine) (hr:iK k callerA) (F:∀base:Heap,K.In base->base.Ns mainGlobals mg->iM P w K mg base CX k fa fd [x] sp) (Q1:∀(s:Shared)(u:Value),BindsTo s fd ⟨[u],[]⟩ [(x,u)]) (Gf:∀H:Hp,Hn H->fK K H a (ns.map V.int)->sp [.ref a] H (λv _=>v=.bl true) λ_ _ _=>False) (Wu:∀H e s',CX [] H bo (λ_ _ _=>False) e s'->False):codeAny (model P w) callerA (.call (.ref fa) ⟨[.ref a],[]⟩) (λr s'=>r=.ok (.ret (.bool true))/\OldK bo.heap s'.heap/\s'.os=bo.os/\AllBare s'.gens) bo:=by
  have rv:=qF hi;have Wv:=hi.length
  have core : ∀ H : Hp, Hn H -> fK K H a (ns.map V.int) -> jy P w H bo.heap -> (∀ b, H b ≠ none -> b = a) -> (H a ≠ none -> K.lookup a = none) ->
      codeAny (model P w) callerA (.call (.ref fa) ⟨[.ref a],[]⟩) (λr s'=>r=.ok (.ret (.bool true))/\OldK bo.heap s'.heap/\s'.os=bo.os/\AllBare s'.gens) bo:=by
    intro H hO hS bJ hA hK;have ku:∀{b:Addr}{o:Obj},bo.heap.get? b=some o->H b=none->(rM bo.heap H).get? b=some o:=λe n=>CY e n
    have QN:∀{b:Addr}{o:Obj}{es:Array DictEntry}{ep:Nat},bo.heap.get? b=some o->o.data=.dict es ep->H b=none:=λ{b o es ep} e d=>by
      cases q:H b with
      | none=>rfl
      | some u =>
        have e':b=a:=hA b (by rw[q];simp);subst e';rw[ha]at e;cases e;have d':Data.seq vs.toArray _=Data.dict es ep:=d;cases d'
    have Ur:∀{b:Addr}{m:Str->Option Value},bo.heap.Ns b m->(rM bo.heap H).Ns b m:=λ{b m} ⟨o,es,ep,e,d,r⟩=>⟨o,es,ep,ku e (QN e d),d,r⟩
    have YI:K.In (rM bo.heap H):=λb o e=>ku (KX b o e) (by
      cases q:H b with
      | none=>rfl
      | some u =>
        have e':b=a:=hA b (by rw[q];simp);subst e';rw[hK (by rw[q];simp)]at e;cases e)
    have hM:Mod K mg (rM bo.heap H):=⟨YI,Ur lE,⟨mb,Ur hb,Ke⟩,let ⟨mc,h1,h2⟩:=Wt;⟨mc,Ur h1,h2⟩⟩;have e0:G5 P w K mg (rM bo.heap H) callerA [] bo H:=⟨rfl,hM,λb o e=>GO e,rJ (A_ _ _),trivial,λb hb=>absurd (show b∈([]:List Addr) from hb) (by simp),bJ,.of_eq hg⟩;refine CU ((F _ YI (Ur lE)).run callerA [] bo H ⟨[.ref a],[]⟩ [.ref a] [.ref a] _ _ hr e0 (Q1 bo (.ref a)) (.cons rfl .nil) (Gf H hO hS)) λr s' h=>?_
    cases r with
    | error e=>exact(Wu H e s' h).elim
    | ok fl =>
      cases fl with
      | next=>exact False.elim h
      | brk=>exact False.elim h
      | cont=>exact False.elim h
      | ret u =>
        obtain⟨v,H',os,bare,un,Ww,r',q⟩:=h;have q':v=.bl true:=q;subst q';obtain rfl:u=Value.bool true:=r';refine⟨rfl,OldK.of_keep λb o e=>?_,os,bare⟩
        cases q:H b with
        | none=>exact un.keep b o e q (by intro z;exact absurd (show b∈([]:List Addr) from z) (by simp)) (by simp)
        | some u =>
          rcases hO b with z | ⟨ob,xs,z⟩
          · rw[q]at z;cases z
          · have z2:=un.rL b ob _ z;obtain⟨e1,_⟩:=bJ b _ z;obtain⟨e2,_⟩:=Ww b _ z2;rw[e]at e1;cases e1;exact e2
  cases hk:K.lookup a with
  | some o =>
    have e:=KX a o hk;rw[ha]at e;cases e;refine core (λ_=>none) (λ_=>.inl rfl) (.inr ⟨_,vs.toArray,_,hk,rfl,rfl,rfl,by rw[cG,Wv];exact hl,by simpa using rv⟩) (λb u z=>by have z':(none:Option HO)=some u:=z;cases z') (λb z=>absurd rfl z) λz=>absurd rfl z
  | none =>
    refine core (λb=>if b=a then some (.eQ {cls:=.type "list",data:=.seq vs.toArray} (.lst (ns.map V.int))) else none) (λb=>?_) (.inl (.inr ⟨{cls:=.type "list",data:=.seq vs.toArray},aw rfl⟩)) (λb u z=>?_) (λb z=>?_) λ_=>hk
    · by_cases hb:b=a
      · exact .inr ⟨_,_,aw hb⟩
      · exact .inl (az hb)
    · by_cases hb:b=a
      · have z':=(aw hb).symm.trans z;cases z';subst hb;exact⟨ha,by rw[aB];exact hl,vs,_,rv,ha⟩
      · have z':=(az hb).symm.trans z;cases z'
    · by_cases hb:b=a
      · exact hb
      · exact absurd (az hb) z
theorem Ho {l : PySem.W.OpenLaw} {n k : Nat} {q : Program} {loose : List Str} {XP : (Str -> Option Value) -> Heap -> Prop} {YP : World -> Heap -> Prop} {d : DefRec} {K : Params -> PySem.W.Frag} {CX : World -> Dk} {sp : World -> Sp} {x : Str}
    (hn:l.most=some n) (zf:n<=sizeLine) (Kd:d.params.defaults=[]) (hr:iK k callerA)
    (hY:∀(w:World)(h:Heap),YP w h->(K w.params).In h)
    (F:∀(w:World)(mg:Str->Option Value)(fa:Addr)(h:Heap),(K w.params).In h->h.Ns mainGlobals mg->mg d.name=some (.ref fa) ->
      ∃fd:FuncData,(∀(s:Shared)(u:Value),BindsTo s fd ⟨[u],[]⟩ [(x,u)]) /\
        ∀base:Heap,(K w.params).In base->base.Ns mainGlobals mg->iM l.prog w (K w.params) mg base (CX w) k fa fd [x] (sp w))
    (Gf:∀(w:World)(H:Hp)(a:Addr)(ns:List Int),ns.length<=n->Hn H->fK (K w.params) H a (ns.map V.int)->sp w [.ref a] H (λv _=>v=.bl true) λ_ _ _=>False)
    (Wu:∀(w:World)(H:Hp)(s:Shared)(e:Value)(s':Shared),CX w [] H s (λ_ _ _=>False) e s'->False) :
    PySem.W.WalkO q loose XP YP l.row.toRowW d [] (λf vs=>PySem.call f vs):=by
  refine YH.uV hn Kd λw ff bo mg mb fa o pm cd doc a vs ns G Y ho hd Gd Q0 Mj hints aY hg=>?_;have KX:=hY w _ Y;obtain⟨fd,hb,hF⟩:=F w mg fa _ KX G.T.g Q0;exact DD KX G.T.g G.T.b G.T.builtins G.T.nolimit hg Mj hints (dr aY zf) hr hF hb (λH hO hS=>Gf w H a ns aY hO hS) λH e s'=>Wu w H bo e s'
noncomputable def mR(s:Stmt):Arguments:=match s with
 | .FunctionDef _ a _ _ _ _ _ _ _ _=>a
 | _=>{posonlyargs:=[],args:=[],vararg:=none,kwonlyargs:=[],kw_defaults:=[],kwarg:=none,defaults:=[]}
noncomputable def fh(s:Stmt):List Stmt:=match s with
 | .FunctionDef _ _ b _ _ _ _ _ _ _=>b
 | _=>[]
noncomputable def bP(s:Stmt):Scope:=match s with
 | .FunctionDef _ _ _ _ _ _ sc _ _ _=>sc
 | _=>{kind:=.function,names:=[],isGenerator:=false,isCoroutine:=false}
abbrev Bt:Dk:=λ_ _ _ _ _ _=>False
abbrev E0:XK:=λ_ _ _=>False
theorem Q2:xm Bt X E0:=λ_ _ _ _ _ _ _ h=>h.elim
structure Us (K:PySem.W.Frag) (x qual:Str) (st:Stmt) (f:Addr) (fd:FuncData):Prop where
 ex:∃(oc:Value) (od:Option Addr) (kV doc pm:Value) (an:Option Addr) (pN ct:Value) (J_:Array (Option Value)),
  fd=PySem.W.fnOf x qual (mR st) (fh st) (bP st) .none kV doc pm an pN ct/\K.lookup f=some ⟨oc,od,.func fd,J_⟩/\PySem.W.codeIn K pN qual=true
 kp:PySem.W.keepIn K (.ref f)=true
section
variable {P:Program} {w:World} {K:PySem.W.Frag} {mg:Str->Option Value} {base:Heap}
theorem Us.ok {x qual : Str} {st : Stmt} {f : Addr} {fd : FuncData} {N ps : List Str} {k : Nat} {sp : Sp} (F : Us K x qual st f fd) (S : km N ps (bP st)) (len : ∀ vs H Q E, sp vs H Q E -> vs.length = ps.length)
    (Dm:∀(pN:Value)(A:Around)(outer:List Env)(s:Shared)(H:Hp)(vs:List V)(Q:VK)(E:XK),iK k (A.deeper (envOfC qual (bP st) s.heap.objs.size f pN))->sp vs H Q E ->
      ∃t,rO (xn Bt P w K mg base N qual (bP st) f pN A outer s H E).Qp (fh st) t/\t {nx:=λ_ H'=>Q .aR H',rt:=Q} (start N vs) H):iM P w K mg base Bt (k+1) f fd ps sp:=by
  obtain⟨oc,od,kV,doc,pm,an,pN,ct,J_,rfl,lk,Gd⟩:=F.ex;refine QO lk Gd S len λA outer s H vs Q E hr Gf=>?_;obtain⟨t,h,q⟩:=Dm pN A outer s H vs Q E hr Gf;exact⟨t,h.Qp,q⟩
theorem Mk{x qual:Str}{st:Stmt}{f:Addr}{oc:Value}{od an:Option Addr}{J_:Array (Option Value)}{kV doc pm pN ct:Value}(l:K.lookup f=some ⟨oc,od,.func (PySem.W.fnOf x qual (mR st) (fh st) (bP st) .none kV doc pm an pN ct),J_⟩)(c:PySem.W.codeIn K pN qual=true)(k:PySem.W.keepIn K (.ref f)=true):Us K x qual st f (PySem.W.fnOf x qual (mR st) (fh st) (bP st) .none kV doc pm an pN ct):=⟨⟨oc,od,kV,doc,pm,an,pN,ct,J_,rfl,l,c⟩,k⟩
end
section
variable {X:Cx}
theorem pv(i:Nat){x:Str}{pos:Pos}(hN:X.N[i]?=some x:=by rfl)(hv:Ud X.env.scope x:=by first | exact Or.inl rfl | exact Or.inr (Or.inl rfl) | exact Or.inr (Or.inr rfl)) (hd:(x==("__debug__" : Str))=false:=by decide) (Gd:(x==("__classdict__" : Str))=false:=by decide):PE X (.Name x pos) (Qk i):=C3 hN hv hd Gd
end
end L2
end
section
namespace L2
open PySem PySem.Spec PyProof.Rows
section
variable {prog:Program} {w:World} {A:Around} {R:Result->Shared->Prop} {s:Shared}
theorem sh (I : Nat -> Shared -> Prop)
    (xb:∀n s,I n s->wpAny (model prog w) A (pyNext it) (λr bo=>match r with
      | none=>R (.ok .next) bo
      | some v => wpAny (model prog w) A (letOwnedTupleGo nQ it v) (fun _ Kg => wpAny (model prog w) A (assign nQ env v) (fun _ Bc =>
          wpAny (model prog w) A (forIn ifs true λc r=>if r=true then do let ok <- isTrue c env (eval c env);pure (ForInStep.yield ok) else pure (ForInStep.yield r)) (λok DE =>
            if ok=true then wpAny (model prog w) A (eval elt env) (λx Bu =>
              wpAny (model prog w) A (call (.builtin "list.append") [acc,x]) (λ_ DF=>∃m,m<n/\I m DF) (λ_ _=>False) Bu) (λ_ _=>False) DE
            else ∃m,m<n/\I m DE) (λ_ _=>False) Bc) (λ_ _=>False) Kg) (λ_ _=>False) bo) (λ_ _=>False) s)
    (n:Nat) (h:I n s):codeAny (model prog w) A (.compLoop (.ListComp elt [⟨nQ,aQ,ifs,0⟩] scope pos) 0 it acc env) R s:=by
  refine codeAny_loop rfl I (λn s hI=>?_) n h;show wpAny _ A ((compTurn (.ListComp elt [⟨nQ,aQ,ifs,0⟩] scope pos) 0 it acc env).onRaise (λx=>do noteFrame x env;theTreesLotGoes x)) _ _ s;refine wpAny_noted ?_;rw[compTurn_list];refine ag (wpAny_standAt (ag (p4 (xb n s hI) (λr bo Hq=>?_) λ_ _ h'=>h'.elim)))
  cases r with
  | none=>exact aA Hq
  | some v =>
    refine ag (p4 Hq (λ_ Kg Q3=>?_) λ_ _ h'=>h'.elim);refine ag (p4 Q3 (λ_ Bc Wx=>ag (p4 Wx (λok DE Q4=>?_) λ_ _ h'=>h'.elim)) λ_ _ h'=>h'.elim)
    cases ok with
    | false=>exact aA ⟨rfl,Q4⟩
    | true =>
      exact ag (ag (p4 Q4 (λx Bu Wy=>ag (p4 Wy (λ_ DF Wz=>aA (aA ⟨rfl,Wz⟩)) λ_ _ h'=>h'.elim)) λ_ _ h'=>h'.elim))
end
theorem dc{x:Str}:∀(names:List (Str×NameKind))(n:Nat)(acc:List (Str×Addr)),(x,NameKind.cell)∉names->(cellsFrom n names acc).lookup x=acc.lookup x
 | [],_,_,_=>rfl
 | (y,k)::r,n,acc,h=>by
  unfold cellsFrom;split
  ·rename_i hk
   have hk:k=.cell:=eq_of_beq hk;subst hk;rw[dc r (n+1) _ (λz=>h (dq _ z)),iq];have:(x==y)=false:=pV.mpr λz=>h (by subst z;exact dC);rw[this]
  ·exact dc r n acc λz=>h (dq _ z)
theorem gn{x:Str}  : ∀(names:List (Str×NameKind))(n:Nat)(acc:List (Str×Addr)),(x,NameKind.cell)∈names->(cellsFrom n names acc).lookup x=some c->n<=c
 | [],_,_,h,_=>by cases h
 | (y,k)::r,n,acc,h,e=>by
  unfold cellsFrom at e;split at e
  ·by_cases hr:(x,NameKind.cell)∈r
   ·exact CK (gn r (n+1) _ hr e)
   ·rw[dc r (n+1) _ hr,iq]at e
    have:x=y:=by
     rcases bU.mp h with z | z
     ·exact(Prod.mk.inj z).1
     ·exact absurd z hr
    subst this;simp at e;exact rJ e
  ·rename_i hk
   rcases bU.mp h with z | z
   ·exact absurd (by rw[<- (Prod.mk.inj z).2];rfl) hk
   ·exact gn r n acc z e
theorem gp{x:Str}:∀(names:List (Str×NameKind))(n:Nat)(acc:List (Str×Addr)),(x,NameKind.cell)∈names->∃c,(cellsFrom n names acc).lookup x=some c
 | [],_,_,h=>by cases h
 | (y,k)::r,n,acc,h=>by
  unfold cellsFrom;split
  ·by_cases hr:(x,NameKind.cell)∈r
   ·exact gp r (n+1) _ hr
   ·rw[dc r (n+1) _ hr,iq]
    have:x=y:=by
     rcases bU.mp h with z | z
     ·exact(Prod.mk.inj z).1
     ·exact absurd z hr
    subst this;simp
  ·rename_i hk
   rcases bU.mp h with z | z
   ·exact absurd (by rw[<- (Prod.mk.inj z).2];rfl) hk
   ·exact gp r n acc z
theorem gq:∀(names:List (Str×NameKind))(n:Nat)(acc:List (Str×Addr)),(∀x c,acc.lookup x=some c->c<n)->(∀x y c,acc.lookup x=some c->acc.lookup y=some c->x=y)->∀x y c,(cellsFrom n names acc).lookup x=some c->(cellsFrom n names acc).lookup y=some c->x=y
 | [],_,_,_,h=>h
 | (z,k)::r,n,acc,hb,h=>by
  unfold cellsFrom;split
  ·refine gq r (n+1) _ (λx c e=>?_) (λx y c e1 e2=>?_)
   ·rw[iq]at e;split at e
    ·cases e;exact ju _
    ·exact jq (hb x c e)
   ·rw[iq]at e1 e2;split at e1
    ·rename_i hx
     cases e1;split at e2
     ·rename_i hy
      rw[eq_of_beq hx,eq_of_beq hy]
     ·exact absurd (hb y _ e2) (ki _)
    ·split at e2
     ·cases e2;exact absurd (hb x _ e1) (ki _)
     ·exact h x y c e1 e2
  ·exact gq r n acc hb h
theorem fF{x:Str}  : ∀(names:List (Str×NameKind))(h:Heap)(acc:List (Str×Addr)),(cellsFrom h.objs.size names acc).lookup x=some c->acc.lookup x=some c\/(h.objs.size<=c/\(pushCells h names).IsCell c none)
 | [],_,_,e=>.inl e
 | (z,k)::r,h,acc,e=>by
  unfold cellsFrom at e;unfold pushCells;split at e
  ·rename_i hk
   rw[aw hk];have e':(cellsFrom (h.push {cls:=.type "cell",data:=.cell none}).objs.size r ((z,h.objs.size)::acc)).lookup x=some c:=by rw[nK];exact e
   rcases fF r (h.push {cls:=.type "cell",data:=.cell none}) _ e' with q | ⟨q1,q2⟩
   ·rw[iq]at q;split at q
    ·cases q;exact .inr ⟨aI _,_,pushCells_keeps _ _ _ _ (dP _ rfl),rfl⟩
    ·exact .inl q
   ·rw[nK]at q1;exact .inr ⟨CK q1,q2⟩
  ·rename_i hk
   rw[az hk];exact fF r h acc e
theorem si {cl : List (Str × Addr)} {qual : Str} 
    (hQ:Q {scope:=scope,locals:=s.heap.objs.size,globals:=globals,cells:=cellsFrom (s.heap.objs.size+1) scope.names cl,qual:=qual,func:=none,code:=outer.code,frame:=outer.frame,builtins:=outer.builtins}
      {s with heap:=pushCells (s.heap.push {cls:=.type "dict",data:=.dict #[]}) scope.names}) :
    wpAny M A (newFunctionEnv scope globals cl [] qual none .none (some outer)) Q E s:=by
  simp only[newFunctionEnv,Option.isSome_some,eP];refine ag (wpAny_alloc ?_);refine ag (wpAny_layCells _ (λname kind cells=>by cases hkc:kind==NameKind.cell<;>simp[hkc]) _ _ _ _ ?_);rw[show({s with heap:=s.heap.push {cls:=.type "dict",data:=.dict #[]}}:Shared).heap.objs.size=s.heap.objs.size+1 from nK ..];rw[List.forIn_nil];exact ag (aA (aA hQ))
noncomputable def Cx.block(X:Cx)(scope:Scope)(cl:List (Str×Addr))(C:Addr)(N':List Str)(s:Shared)(H:Hp)(fp:List Addr)(pn:List (Addr×Obj)):Cx :=
 {X with N:=N',ff:=s,uC:=H,env:=compEnvC scope (cellsFrom (C+1) scope.names cl) C X.env,outer:=X.stack,ex:=fp,fn:=λx=>scope.names.lookup x==some .cell,pn:=pn,xe:=λ_ _=>False}
structure Ml (X:Cx) (scope:Scope) (cl:List (Str×Addr)):Prop where
 is:closureFor scope X.env=pure cl
 sub:∀x c,cl.lookup x=some c->X.env.cells.lookup x=some c
 has:∀x,scope.names.lookup x=some .free->∃c,cl.lookup x=some c
theorem eC {env : Env} : ∀ {names : List (Str × NameKind)} {x : Str} {k : NameKind}, names.lookup x = some k ->
    (names.map λ(n,k)=>if (k==NameKind.free&&env.scope.kind == .function&&env.kindOf n==some .cell) then (n,NameKind.cell) else (n,k)).lookup x =
      some (if (k==NameKind.free&&env.scope.kind == .function&&env.kindOf x==some .cell) then .cell else k)
  | [],_,_,h=>by simp at h
  | (n,k')::r,x,k,h=>by
    have ih:=@eC env r x k;show List.lookup x ((if (k'==NameKind.free&&env.scope.kind == .function&&env.kindOf n==some .cell)=true then (n,NameKind.cell) else (n,k'))::_)=_
    cases hx:x==n with
    | true =>
      simp only[iq,hx]at h;cases h;have e:x=n:=by simpa using hx
      subst e;split<;>simp[iq]
    | false =>
      simp only[iq,hx]at h;by_cases hc:(k'==NameKind.free&&env.scope.kind == .function&&env.kindOf n==some .cell)=true
      · rw[aw hc];simp only[iq,hx];exact ih h
      · rw[az hc];simp only[iq,hx];exact ih h
theorem jV {env : Env} : ∀ {names : List (Str × NameKind)} {x : Str} {k : NameKind},
    (names.map λ(n,k)=>if (k==NameKind.free&&env.scope.kind == .function&&env.kindOf n==some .cell) then (n,NameKind.cell) else (n,k)).lookup x=some k ->
      ∃k',names.lookup x=some k'/\k=(if (k'==NameKind.free&&env.scope.kind == .function&&env.kindOf x==some .cell) then .cell else k')
  | names,x,k,h=>by
    cases q:names.lookup x with
    | some k' =>
      have:=eC (env:=env) q;rw[this]at h;exact⟨k',rfl,(cg h).symm⟩
    | none =>
      exfalso
      induction names with
      | nil=>simp at h
      | cons a r ih =>
        obtain⟨n,k'⟩:=a
        cases hx:x==n with
        | true=>simp[iq,hx]at q
        | false =>
          simp only[iq,hx]at q;have h':List.lookup x ((if (k'==NameKind.free&&env.scope.kind == .function&&env.kindOf n==some .cell)=true then (n,NameKind.cell) else (n,k'))::(r.map λ(n,k)=>if (k==NameKind.free&&env.scope.kind == .function&&env.kindOf n==some .cell) then (n,NameKind.cell) else (n,k)))=some k:=h;by_cases hc:(k'==NameKind.free&&env.scope.kind == .function&&env.kindOf n==some .cell)=true
          · rw[aw hc]at h';simp only[iq,hx]at h';exact ih h' q
          · rw[az hc]at h';simp only[iq,hx]at h';exact ih h' q
noncomputable def kz(dB:List (Option Nat))(σ:St):St:=dB.map λo=>o.bind λj=>(σ[j]?).join
structure DG (X:Cx) (scope:Scope) (N':List Str) (dB:List (Option Nat)):Prop where
 len:dB.length=N'.length
 out:∀(i j:Nat)(x:Str),dB[i]?=some (some j)->N'[i]?=some x->X.N[j]?=some x/\scope.names.lookup x=some .free/\(X.env.kindOf x=some .cell\/X.env.kindOf x=some .free)
section
variable {X:Cx} {aa:List (Addr×Obj)} {σ:St} {H:Hp} {s:Shared} {scope:Scope} {cl:List (Str×Addr)} {N':List Str} {dB:List (Option Nat)} {fp:List Addr}
theorem uW{h1:Heap}(I:Inv X aa σ H s)(Dp:scope.kind=.function)(yX:∀y∈scope.names,y.2=.cell->scope.names.lookup y.1=some .cell)(cs:Ml X scope cl)(co:DG X scope N' dB)(hf:∀b∈fp,mJ X aa H b)(ho:∀b∈fp,b<s.heap.objs.size)(lE:h1.Ns s.heap.objs.size (λ_=>none))(hk:∀b u,s.heap.get? b=some u->h1.get? b=some u)(ix:∀x c,(cellsFrom (s.heap.objs.size+1) scope.names cl).lookup x=some c->cl.lookup x=some c\/(s.heap.objs.size+1<=c/\h1.IsCell c none))(tk:Nat):Inv (X.block scope cl s.heap.objs.size N' s H fp []) [] (kz dB σ) H {s with heap:=h1,toks:=tk}:=by
 have I1:Inv X aa σ H {s with heap:=h1,toks:=tk}:=I.kept hk
 have Lv:∀x c,cl.lookup x=some c->c<s.heap.objs.size:=λx c e=>by
  obtain⟨v,q⟩:=I.cell x c (cs.sub x c e);exact q.lt
 have fr:H s.heap.objs.size=none:=I.bJ.fresh (aI _)
 have same:∀x,scope.names.lookup x=some .free->(cellsFrom (s.heap.objs.size+1) scope.names cl).lookup x=cl.lookup x:=λx hx =>
  dc _ _ _ λz=>by have:=yX _ z rfl;rw[hx]at this;cases this
 refine⟨⟨I.ok.mod,Dp,I.ok.glob,I.ok.blt,aI _,gq _ _ _ (λx c e=>jq (Lv x c e)) (λx y c a b=>I.ok.inj x y c (cs.sub _ _ a) (cs.sub _ _ b)),λx hx=>?_,λx c z e=>?_,I.ok.hd,I.ok.frames,.inl rfl,λb hb=>⟨?_,λx c e=>?_⟩,λb o e=>I.bs b o e,
  dr I.ok.J1 I.sz,λb o e hb=>?_,λb hb zg=>?_,I.stack,I.yW⟩,rfl,I.bare,Un.kept hk,⟨_,lE,λi x v e1 e2 e3=>?_⟩,λx c e=>?_,fr,λx c e=>?_,λp hp=>?_,I.bJ.kept hk,?_⟩
 ·have hx:(relabel scope X.env).names.lookup x=some .cell\/(relabel scope X.env).names.lookup x=some .free:=hx
  have i_:∃k',scope.names.lookup x=some k'/\(k'=.free\/k'=.cell):=by
   have go:∀k,(k=.cell\/k=.free)->(relabel scope X.env).names.lookup x=some k->∃k',scope.names.lookup x=some k'/\(k'=.free\/k'=.cell):=by
    intro k hk hx;obtain⟨k',e,ek⟩:=jV hx;refine⟨k',e,?_⟩;by_cases z:k'=.free
    ·exact .inl z
    ·rw[az (by cases k'<;>first | exact absurd rfl z | simp)]at ek;subst ek;rcases hk with hk | hk
     ·exact .inr hk
     ·exact .inl hk
   rcases hx with hx | hx
   ·exact go _ (.inl rfl) hx
   ·exact go _ (.inr rfl) hx
  obtain⟨k',e,Hr⟩:=i_;show ∃c,(cellsFrom (s.heap.objs.size+1) scope.names cl).lookup x=some c;rcases Hr with z | z
  ·subst z;rw[same x e];exact cs.has x e
  ·subst z;exact gp _ _ _ (nG e)
 ·have z:(scope.names.lookup x==some .cell)=true:=z;have z:scope.names.lookup x=some .cell:=eq_of_beq z;exact CK (gn _ _ _ (nG z) e)
 ·exact cH (ho b hb)
 ·rcases ix x c e with q | ⟨q,_⟩
  ·exact(hf b hb).2.2.2.2.1 x c (cs.sub x c q)
  ·have Ut:=ho b hb;intro z;rw[z]at q;exact absurd Ut (Nat.not_lt_of_le (CK q))
 ·rcases(hf b hb).2.2.2.1 with z | z
  ·exact I.ok.C0 b o e z
  ·have h1:=cv e;have h2:=I.ok.J1;exact absurd (gF h1 (dr h2 z)) (ki _)
 ·rcases bU.mp (I.xa b zg)with z | z
  ·exact(hf b hb).2.1 z
  ·exact(hf b hb).2.2.1 z
 ·have e1:N'[i]?=some x:=e1;unfold kz at e2;rw[bj]at e2
  cases q:dB[i]? with
  | none=>rw[q]at e2;cases e2
  | some oj =>
   rw[q]at e2
   cases oj with
   | none=>cases e2
   | some j =>
    have Q5:(σ[j]?).join=some v:=cg e2
    have WB:σ[j]?=some (some v):=by
     cases r:σ[j]? with
     | none=>rw[r]at Q5;cases Q5
     | some ov=>rw[r]at Q5;cases ov with
      | none=>cases Q5
      | some z=>cases Q5;rfl
    obtain⟨o1,o2,o3⟩:=co.out i j x q e1;obtain⟨m,hn,hl⟩:=I1.loc;obtain⟨u,r,l⟩:=hl j x v o1 WB (o3.elim (λz=>.inr (.inl z)) λz=>.inr (.inr z));refine⟨u,r,.inr ⟨?_,?_⟩⟩
    ·show(relabel scope X.env).names.lookup x=some .cell\/(relabel scope X.env).names.lookup x=some .free;rw[show(relabel scope X.env).names.lookup x=_ from eC o2];split
     ·exact .inl rfl
     ·exact .inr rfl
    ·obtain⟨c,hc⟩:=cs.has x o2;have Bb:=cs.sub x c hc;rcases l with⟨Hr,hm⟩|⟨_,c2,Ct,Mm⟩
     ·exfalso;rw[Hr]at o3;rcases o3 with o3 | o3<;>cases o3
     ·rw[Bb]at Ct;cases Ct;exact⟨c,(same x o2).trans hc,Mm⟩
 ·rcases ix x c e with q | ⟨_,q⟩
  ·exact I1.cell x c (cs.sub x c q)
  ·exact⟨none,q⟩
 ·rcases ix x c e with q | ⟨q,_⟩
  ·exact I1.jz x c (cs.sub x c q)
  ·exact I.bJ.fresh (CK q)
 ·exact absurd (show p∈([]:List (Addr×Obj)) from hp) (by simp)
 ·show(kz dB σ).length=N'.length;unfold kz;rw[aB];exact co.len
end
noncomputable def WC:Option TT->TT
 | none=>λ_ H Q=>Q true H
 | some t=>t
def xy(dB:List (Option Nat))(g:TG)(tc:Option TT)(te:TE)(σ:St)(J:It)(H1:Hp)(Q:V->Hp->Prop):Prop :=
 ∀D,H1 D=none->∃W:Nat->Nat->St->Hp->List V->Prop,(∃m,W 0 m (kz dB σ) (upd H1 D (.lst [])) []) /\
  ∀i m τ H ys,W i m τ H ys->H D=some (.lst ys)/\((J.stop i H/\Q (.ref D) H) \/
   (J.go i H/\ys.length<sizeLine/\∀x H',J.Pl i H x H'->g x τ H' λGg H2=>WC tc Gg H2 λb H3 =>
    if b=true then te Gg H3 λv H4=>H4 D=some (.lst ys)/\∃m',m'<m/\W (i+1) m' Gg (upd H4 D (.lst (ys++[v]))) (ys++[v])
    else ∃m',m'<m/\W (i+1) m' Gg H3 ys))
def zh(dB:List (Option Nat))(wi:TI)(g:TG)(tc:Option TT)(te:TE):TE:=λσ H Q=>wi σ H λJ H1=>xy dB g tc te σ J H1 Q
def Q6(X:Cx)(scope:Scope)(N':List Str)(cl:List (Str×Addr))(ifs:List Expr):Option TT->Prop
 | none=>ifs=[]
 | some t=>∃c,ifs=[c]/\∀C s H fp,PT (X.block scope cl C N' s H fp []) c t
structure lG (X:Cx) (scope:Scope) (N':List Str) (dB:List (Option Nat)) (cl:List (Str×Addr)) (tg elt:Expr) (ifs:List Expr) (g:TG) (tc:Option TT) (te:TE):Prop where
 kind:scope.kind=.function
 Mn:∀y∈scope.names,y.2=.cell->scope.names.lookup y.1=some .cell
 names:∀y∈scope.names,y.2=.local->scope.names.lookup y.1=some .local
 Mo:Ml X scope cl
 WD:DG X scope N' dB
 tg:∀C s H fp,PG (X.block scope cl C N' s H fp []) tg g
 ifs:Q6 X scope N' cl ifs tc
 elt:∀C s H fp,PE (X.block scope cl C N' s H fp []) elt te
section
variable {X:Cx} {scope:Scope} {N':List Str} {dB:List (Option Nat)} {cl:List (Str×Addr)} {tg elt aQ:Expr} {ifs:List Expr} {g:TG} {tc:Option TT} {te:TE} {pos:Pos}
theorem uX {aa : List (Addr × Obj)} {s2 : Shared} {σ : St} {H2 : Hp} {it : Addr} {fp : List Addr} {tn : Nat -> Heap -> Prop} {J : It} {E : Value -> Shared -> Prop} {Q : V -> Hp -> Prop} {RR : Value -> Addr -> Result -> Shared -> Prop}
    (hc:X.calm=true) (ck:lG X scope N' dB cl tg elt ifs g tc te) (I2:Inv X aa σ H2 s2) (T:xg X.prog X.w X.K tg J fp it tn) (Cs:tn 0 s2.heap) (f2:∀b∈fp,mJ X aa H2 b) (h:xy dB g tc te σ J H2 Q)
    (hRR:∀(D C:Addr)(H':Hp)(s':Shared)(m:Str->Option Value),Inv X aa σ H' s'->s'.heap.Ns C m->H' C=none->X.ff.heap.objs.size<=C->C≠X.env.locals->C∉X.fs->(∀x c,X.env.cells.lookup x=some c->c≠C)->(∀p∈X.pn++aa,p.1≠C)->Q (.ref D) H'->RR (.ref D) C (.ok .next) s') :
    wpAny (model X.prog X.w) X.A (newList []) (λacc DE=>wpAny (model X.prog X.w) X.A (newFunctionEnv scope X.env.globals cl [] X.env.qual none .none (some X.env)) (λQ7 Bu =>
      codeAny (model X.prog X.w) X.A (.compStart (.ListComp elt [⟨tg,aQ,ifs,0⟩] scope pos) 0 (.ref it) acc {Q7 with scope:=relabel scope X.env}) (RR acc Q7.locals) Bu) E DE) E s2:=by
  refine fC ?_;generalize hH:s2.heap.push {cls:=.type "list",dict:=none,data:=.seq ([]:List Value).toArray}=hh;have hD:H2 s2.heap.objs.size=none:=I2.bJ.fresh (aI _);have k3:∀b u,s2.heap.get? b=some u->hh.get? b=some u:=λb u e=>by rw[<- hH];exact bz _ e
  have I3:Inv X aa σ (upd H2 s2.heap.objs.size (.lst [])) {s2 with heap:=hh} :=
    I2.laid (t':=s2.toks) k3 (aI _) ⟨lr _,[],0,.nil,by rw[<- hH];exact dP _ rfl⟩
  have f3:∀b∈fp,mJ X aa (upd H2 s2.heap.objs.size (.lst [])) b:=λb hb=>by
    obtain⟨o,e,_⟩:=T.obj _ _ Cs b hb;exact⟨by rw[aC (cH (cv e))];exact(f2 b hb).1,(f2 b hb).2⟩
  have b3:∀b∈fp,b<hh.objs.size:=λb hb=>by
    obtain⟨o,e,_⟩:=T.obj _ _ Cs b hb;exact cv (k3 b o e)
  have Uk:tn 0 hh:=T.keep _ _ _ Cs λb hb o e=>k3 b o e;obtain⟨W,⟨m0,w0⟩,xb⟩:=h s2.heap.objs.size hD;refine si (s:={s2 with heap:=hh}) ?_;have k4:∀b u,hh.get? b=some u->(pushCells (hh.push {cls:=.type "dict",data:=.dict #[]}) scope.names).get? b=some u:=λb u e=>pushCells_keeps _ _ b u (bz _ e);have Q8:(pushCells (hh.push {cls:=.type "dict",data:=.dict #[]}) scope.names).Ns hh.objs.size (λ_=>none):=(Heap.Ns.new hh (.type "dict")).keeps (pushCells_keeps _ _)
  have ix:∀x c,(cellsFrom (hh.objs.size+1) scope.names cl).lookup x=some c->cl.lookup x=some c\/(hh.objs.size+1<=c/\(pushCells (hh.push {cls:=.type "dict",data:=.dict #[]}) scope.names).IsCell c none):=λx c e=>by
    have:=fF (x:=x) (c:=c) scope.names (hh.push {cls:=.type "dict",data:=.dict #[]}) cl (by rw[nK];exact e);rw[nK]at this;exact this
  generalize hh1:pushCells (hh.push {cls:=.type "dict",data:=.dict #[]}) scope.names=Hq at k4 Q8 ix;have Uu:tn 0 Hq:=T.keep _ _ _ Uk λb hb o e=>k4 b o e;have I4:=uW (tk:=s2.toks) I3 ck.kind ck.Mn ck.Mo ck.WD f3 b3 Q8 k4 ix;generalize hX:X.block scope cl hh.objs.size N' {s2 with heap:=hh} (upd H2 s2.heap.objs.size (.lst [])) fp []=X' at I4;have qG:X'.prog=X.prog:=by rw[<- hX];rfl
  have xw:X'.w=X.w:=by rw[<- hX];rfl
  have xK:X'.K=X.K:=by rw[<- hX];rfl
  have xA:X'.A=X.A:=by rw[<- hX];rfl
  have xc:X'.calm=true:=by rw[<- hX];exact hc
  have Hs:X'.env=compEnvC scope (cellsFrom (hh.objs.size+1) scope.names cl) hh.objs.size X.env:=by rw[<- hX];rfl
  have Uv:X'.xe=λ_ _=>False:=by rw[<- hX];rfl
  have WE:∀{H':Hp},(∀b∈fp,H' b=none)->∀b∈fp,mJ X' [] H' b:=λ{H'} hn b hb=>by
    have z:=I4.ok.VM b (by rw[<- hX];exact hb);exact⟨hn b hb,z.1,I4.ok.C1 b (by rw[<- hX];exact hb),.inl (by rw[<- hX];exact hb),z.2,λp hp=>absurd (show p∈([]:List (Addr×Obj)) by rw[<- hX]at hp;exact hp) (by simp)⟩
  have YJ:=ck.tg hh.objs.size {s2 with heap:=hh} (upd H2 s2.heap.objs.size (.lst [])) fp;have Q9:=ck.ifs;have Q_:=ck.elt hh.objs.size {s2 with heap:=hh} (upd H2 s2.heap.objs.size (.lst [])) fp;rw[hX]at YJ Q_
  have loop : ∀ s4 : Shared, Inv X' [] (kz dB σ) (upd H2 s2.heap.objs.size (.lst [])) s4 -> tn 0 s4.heap ->
      codeAny (model X.prog X.w) X.A (.compLoop (.ListComp elt [⟨tg,aQ,ifs,0⟩] scope pos) 0 (.ref it) (.ref s2.heap.objs.size) (compEnvC scope (cellsFrom (hh.objs.size+1) scope.names cl) hh.objs.size X.env)) (RR (.ref s2.heap.objs.size) hh.objs.size) s4:=by
    intro s4 I4 Uu;refine sh (λn s'=>∃i τ H' ys,Inv X' [] τ H' s'/\tn i s'.heap/\(∀b∈fp,H' b=none)/\W i n τ H' ys) ?_ m0 ⟨0,_,_,[],I4,Uu,λb hb=>(f3 b hb).1,w0⟩;rintro n s5 ⟨i,τ,H5,ys,I5,Pm,mh,w5⟩;obtain⟨Cv,stop | ⟨go,hz,step⟩⟩:=xb i n τ H5 ys w5
    · have td:=T.done X' qG xw xK xc i [] s5 τ H5 (λ_ _=>False) I5 (WE mh) Pm stop.1;rw[xA]at td;refine cJ td ?_;rintro r s6 ⟨rfl,I6⟩;have base:=I6.base;have os:=I6.os;have bJ:=I6.bJ;have uF:=I6.free;obtain⟨m,hm,_⟩:=I6.loc;rw[Hs]at uF hm;rw[<- hX]at base os bJ;refine hRR _ _ H5 s6 m (I3.J2 (ch:=fp) os base bJ I6.bare λb hb=>⟨(f3 b hb).2.2.2.1,(f3 b hb).2.1,(f3 b hb).2.2.2.2.1,(f3 b hb).2.2.2.2.2⟩) hm uF I3.sz (pY I3.lt) (I3.Qe (aI _)) (λx c e z=>?_) (λp hp z=>?_) stop.2
      · obtain⟨v,q⟩:=I3.cell x c e;exact absurd q.lt (by rw[z];exact ki _)
      · exact absurd (cv (I3.pin p hp).1) (by rw[z];exact ki _)
    · have ti:=T.item X' qG xw xK xc i [] s5 τ H5 (λ_ _=>False) I5 (WE mh) Pm go;rw[xA]at ti;refine cJ ti ?_;rintro r s6 ⟨u,rfl,h6⟩;refine cJ h6 ?_;rintro _ s7 ⟨x,H7,I7,r7,y7,WG,Ht⟩;have I7':=I7.pinned (WE Ht) (T.obj _ _ WG);have ga:=YJ _ s7 τ H7 x u _ I7' r7 (step x H7 y7);rw[qG,xw,xA,Uv,Hs]at ga;refine cJ ga ?_;rintro _ s8 ⟨Kh,H8,I8,q8⟩
      have fin:∀{Uw:St}{H9:Hp}{s9:Shared}{WH:List V},Inv X' ([]++lz fp s7.heap) Uw H9 s9->(∃m',m'<n/\W (i+1) m' Uw H9 WH)->∃m',m'<n/\∃i τ H' ys,Inv X' [] τ H' s9/\tn i s9.heap/\(∀b∈fp,H' b=none)/\W i m' τ H' ys:=λ{Uw H9 s9 WH} I9 w9=>by
        obtain⟨m',hm,w9⟩:=w9;refine⟨m',hm,i+1,Uw,H9,WH,I9.iI,T.keep _ _ _ WG λb hb o e=>(I9.pin (b,o) (mG _ (mG _ (gY hb e)))).1,λb hb=>?_,w9⟩;obtain⟨o,e,d⟩:=T.obj _ _ WG b hb;exact(I9.pin (b,o) (mG _ (mG _ (gY hb e)))).2.1
      have fc:∀b s9,TP X' ([]++lz fp s7.heap) Kh (λb H3 =>
        if b=true then te Kh H3 λv H4=>H4 s2.heap.objs.size=some (.lst ys)/\∃m',m'<n/\W (i+1) m' Kh (upd H4 s2.heap.objs.size (.lst (ys++[v]))) (ys++[v])
        else ∃ m', m' < n /\ W (i + 1) m' Kh H3 ys) b s9 -> (if b = true then wpAny (model X.prog X.w) X.A (eval elt (compEnvC scope (cellsFrom (hh.objs.size + 1) scope.names cl) hh.objs.size X.env)) (fun x Bu =>
              wpAny (model X.prog X.w) X.A (call (.builtin "list.append") [.ref s2.heap.objs.size,x]) (λ_ DF=>∃m,m<n/\∃i τ H' ys,Inv X' [] τ H' DF/\tn i DF.heap/\(∀b∈fp,H' b=none)/\W i m τ H' ys) (λ_ _=>False) Bu) (λ_ _=>False) s9
            else ∃m,m<n/\∃i τ H' ys,Inv X' [] τ H' s9/\tn i s9.heap/\(∀b∈fp,H' b=none)/\W i m τ H' ys):=by
        rintro b s9 ⟨H9,I9,q9⟩
        cases b with
        | false=>rw[az (by simp)]at q9⊢;exact fin I9 q9
        | true =>
          rw[aw rfl]at q9⊢;have ge:=Q_ _ s9 Kh H9 _ I9 q9;rw[qG,xw,xA,Uv,Hs]at ge;refine cJ ge ?_;rintro v Ux ⟨y,H10,I10,r10,YK,w10⟩;have ap:=qE (X:=X') _ Ux Kh H10 (.ref s2.heap.objs.size) [y] (.ref s2.heap.objs.size) [v] (λ_ H'=>∃m',m'<n/\W (i+1) m' Kh H' (ys++[y])) I10 rfl (.cons r10 .nil) ⟨_,ys,y,rfl,rfl,YK,hz,w10⟩;rw[qG,xw,xA,Uv]at ap;exact cJ ap λ_ WI ⟨_,H11,I11,_,w11⟩=>fin I11 w11
      cases tc with
      | none =>
        have ei:ifs=[]:=Q9;subst ei;exact wpAny_tests_nil (fc true s8 ⟨H8,I8,q8⟩)
      | some t =>
        obtain⟨c,ei,pt⟩:=Q9;subst ei;have pt:=pt hh.objs.size {s2 with heap:=hh} (upd H2 s2.heap.objs.size (.lst [])) fp;rw[hX]at pt;refine wpAny_tests_one ?_;have gt:=pt _ s8 Kh H8 _ I8 q8;rw[qG,xw,xA,Uv,Hs]at gt;exact cJ gt λb s9 q=>fc b s9 q
  have Ki:=loop _ I4 Uu;exact codeAny_compStart_list Ki (T.self _ 0 _ _ _ Uu Ki)
end
section
variable {X:Cx} {scope:Scope} {N':List Str} {dB:List (Option Nat)} {cl:List (Str×Addr)} {tg elt aQ:Expr} {ifs:List Expr} {g:TG} {tc:Option TT} {te:TE} {wi:TI} {pos:Pos}
theorem Hu(hc:X.calm=true)(hi:PI X tg aQ wi)(ck:lG X scope N' dB cl tg elt ifs g tc te)(hs:∀x,foldedSetIterable aQ X.env x=pure x:=by intro _;rfl):PE X (.ListComp elt [⟨tg,aQ,ifs,0⟩] scope pos) (zh dB wi g tc te):=by
 intro aa s σ H Q I h;rw[eval_ListComp];refine wpAny_comprehension_free (use:=none) rfl hs ck.Mo.is ck.kind ck.names (cJ (hi aa s σ H _ I h) λv s1 h1=>cJ h1 λUj s2 h2=>?_);obtain⟨it,fp,tn,J,H2,e,I2,T,Cs,f2,hC⟩:=h2;subst e;refine uX (Q:=Q) (RR:=λacc C=>compPost (model X.prog X.w) X.A X.xe none (EP X aa σ Q) acc C) hc ck I2 T Cs f2 hC ?_;intro D C H' s' m I' hm WJ Kj Uy Mp zi Mq q;refine⟨m,hm,λh' WK=>?_⟩;exact⟨.ref D,H',I'.turned (t':=s'.toks) (λb o hb e=>WK.extBut b o hb e) WJ (dh (dh Uy)) (.inr Kj) zi Mq,rfl,q⟩
theorem Hv{y:Str}(hc:X.calm=true)(hN:X.N.Nodup)(hy:X.N[i]?=some y)(hk:X.env.kindOf y=some .local)(Ra:swapsWith (.ListComp elt [⟨tg,aQ,ifs,0⟩] scope pos) (some (.Name y py)) WL.line X.env=pure true)(hi:PI X tg aQ wi)(ck:lG X scope N' dB cl tg elt ifs g tc te)(hs:∀x,foldedSetIterable aQ X.env x=pure x:=by intro _;rfl):PS X (.Assign [.Name y py] (.ListComp elt [⟨tg,aQ,ifs,0⟩] scope pos) WL) (λD σ H=>zh dB wi g tc te σ H λv H'=>D.nx (σ.set i (some v)) H'):=by
 intro aa s σ H D I h;rw[exec_Assign_Name_used _ _ _ _ Ra];refine ag (wpAny_standAt (ag ?_));show wpAny _ X.A (do let _ <- comprehension (.ListComp elt [⟨tg,aQ,ifs,0⟩] scope pos) scope X.env _ (newList []) false (eval aQ X.env) (some (assign (.Name y py) X.env))) _ _ s;refine ag (p4 (wpAny_comprehension_free (use:=some (assign (.Name y py) X.env)) (Q:=λ_ s'=>SP X aa D .next s') rfl hs ck.Mo.is ck.kind ck.names (cJ (hi aa s σ H _ I h) λv s1 h1=>cJ h1 λUj s2 h2=>?_)) (λ_ s' hq=>aA (aA hq)) λ_ _ e=>e);obtain⟨it,fp,tn,J,H2,e,I2,T,Cs,f2,hC⟩:=h2;subst e;refine uX (Q:=λv H'=>D.nx (σ.set i (some v)) H') (RR:=λacc C=>compPost (model X.prog X.w) X.A X.xe (some (assign (.Name y py) X.env)) (λ_ s'=>SP X aa D .next s') acc C) hc ck I2 T Cs f2 hC ?_;intro D' C H' s' m I' hm WJ Kj Uy Mp zi Mq q;show wpAny _ X.A (assign (.Name y py) X.env (.ref D')) _ _ s';obtain⟨o,es,ep,ho,hd,Rb⟩:=hm
 have Ip:Inv X (aa++[(C,o)]) σ H' s':=I'.rN λp hp=>(cj.mp hp).elim (λz=>I'.pin p (mG _ z)) λz=>by
  have e:p=(C,o):=by simpa using z
  subst e;exact⟨ho,WJ,Uy,Mp,λv z=>by rw[hd]at z;cases z⟩
 have st:=rQ (pos:=py) hN hy (.inl hk) (.inr hk) _ s' σ H' (.ref D') (.ref D') (λcU H'=>D.nx cU H') Ip rfl q;refine cJ st ?_;rintro _ QM ⟨WM,H'',YL,q''⟩;have pc:=YL.pin (C,o) (by simp);refine⟨m,⟨o,es,ep,pc.1,hd,Rb⟩,λh' WK=>?_⟩;exact⟨WM,H'',YL.iI.turned (t':=QM.toks) (λb o hb e=>WK.extBut b o hb e) pc.2.1 Uy (.inr Kj) zi Mq,q''⟩
end
end L2
end
section
namespace L2
open PySem PySem.Spec PyProof.Rows
section
variable {prog:Program} {w:World} {A:Around} {E:Value->Shared->Prop} {s:Shared}
noncomputable def zj(prog:Program)(w:World)(A:Around)(s:Shared)(it:Addr)(x:Value)(after:Heap->Prop):Prop :=
 ∀(Q:Value->Shared->Prop)(E:Value->Shared->Prop),(∀h',after h'->Heap.SameBut it s.heap h'->Q x {s with heap:=h'})->wpAny (model prog w) A (Builtin.SmallTypes.nextOf (.ref it)) Q E s
noncomputable def DH(prog:Program)(w:World)(A:Around)(s:Shared)(it:Addr):Prop :=
 ∀(Q:Value->Shared->Prop)(E:Value->Shared->Prop),(∀h' e,Heap.ExtBut it s.heap h'->(∃o,h'.get? e=some o/\o.cls=.type "StopIteration")->E (.ref e) {s with heap:=h'}) ->
  wpAny (model prog w) A (Builtin.SmallTypes.nextOf (.ref it)) Q E s
theorem xB(hit:s.heap.IsListIter it l i)(hl:s.heap.IsList l items)(hx:items[i]?=some x):zj prog w A s it x (λh=>h.IsListIter it l (i+1)):=λQ E hq=>wpAny_nextOf_list_item hit hl hx hq
theorem xC(hh:A.handled=none)(hit:s.heap.IsListIter it l i)(hl:s.heap.IsList l items)(hx:items[i]?=none):DH prog w A s it:=λQ E hq=>wpAny_nextOf_list_end hh hit hl hx hq
theorem Bv(hit:s.heap.IsTupleIter it t i)(ht:s.heap.IsTuple t items)(hx:items[i]?=some x):zj prog w A s it x (λh=>h.IsTupleIter it t (i+1)):=by
 intro Q E hq;obtain⟨o,e1,e2,e3⟩:=id hit;obtain⟨ot,t1,_,nt,t2⟩:=ht;unfold Builtin.SmallTypes.nextOf;refine ag (mF (name:=Str.ofString "__next__") hit.typeIs Gw ?_);refine iE Gw hit.typeIs F.entry_tuple_iterator_next ?_ (F.args_tuple_iterator_next_1 _);show wpAny _ _ (field (.ref it) 0 >>= _) _ _ s;refine ag (iF e1 e3 (x:=.ref t) rfl ?_);show wpAny _ _ (if (Value.ref t==Value.none)=true then _ else _) _ _ s;rw[az (by intro z;cases z)];refine ag (iF e1 e3 (x:=.int i 0) rfl (ag (wpAny_seqItems t1 t2 ?_)));simp only[jr,hx];refine ag (pX e1 e3 (by simp) (aA ⟨x,rfl,aA (hq _ ⟨_,pT _ e1 (AG (mH e3 _)),(CL ..).trans e2,?_⟩ (kg ..))⟩));rw[mH e3];simp[rawInt]
theorem Bw(hh:A.handled=none)(hit:s.heap.IsTupleIter it t i)(ht:s.heap.IsTuple t items)(hx:items[i]?=none):DH prog w A s it:=by
 intro Q E hq;obtain⟨o,e1,e2,e3⟩:=id hit;obtain⟨ot,t1,_,nt,t2⟩:=ht;unfold Builtin.SmallTypes.nextOf;refine ag (mF (name:=Str.ofString "__next__") hit.typeIs Gw ?_);refine iE Gw hit.typeIs F.entry_tuple_iterator_next ?_ (F.args_tuple_iterator_next_1 _);show wpAny _ _ (field (.ref it) 0 >>= _) _ _ s;refine ag (iF e1 e3 (x:=.ref t) rfl ?_);show wpAny _ _ (if (Value.ref t==Value.none)=true then _ else _) _ _ s;rw[az (by intro z;cases z)];refine ag (iF e1 e3 (x:=.int i 0) rfl (ag (wpAny_seqItems t1 t2 ?_)));simp only[jr,hx];refine ag (rK (ag (pX e1 e3 (by simp) ?_)));show wpAny _ _ (newExc (.type "StopIteration") [] >>= _) _ _ _;refine ag ?_;simp only[newExc,newTuple];refine ag (fC ?_ (by size_fits));refine ag (m:=firstArgMember _ _) (wpAny_of_eq (a:=Value.none) (by first | rfl | (simp only[firstArgMember];rfl)) (fC ?_ (by size_fits)));simp only[raiseNew];refine ag (wpAny_handled ?_)
 first | rw[show A.in1.handled=none from hh] | rw[hh]
 exact ag (aA (wpAny_throw (hq _ _ (((kg ..).extBut.push _).push _) ⟨_,dP _ rfl,rfl⟩)))
theorem Bx {e it : Addr} {i : Nat} {x pO : Value} {st : Heap -> Prop} {Q : Option Value -> Shared -> Prop} (he : IsEnum s.heap e it i pO) (mj : e ≠ it) (lg : it < s.heap.objs.size) (hn : zj prog w A.in1 s it x st)
    (uY:∀h h',st h->(∀o,h.get? it=some o->h'.get? it=some o)->st h')
    (hQ:∀h',IsEnumOut h' e it ((i:Int)+1) x s.heap.objs.size->st h'->h'.get? s.heap.objs.size=some {cls:=.type "tuple",data:=.seq #[.int i s.toks,x]} ->
      (∀b o,b≠e->b≠it->s.heap.get? b=some o->h'.get? b=some o)->Q (some (.ref s.heap.objs.size)) {s with heap:=h',toks:=s.toks+1}) :
    wpAny (model prog w) A (pyNext (.ref e)) Q E s:=by
  have hT:s.TypeIs (.ref e) "enumerate" := ⟨_,he,rfl⟩;unfold pyNext
  refine ag (uq (mF (name:=Str.ofString "__next__") hT GA
    (iE GA hT F.entry_enumerate_next ?_ (F.args_enumerate_next_1 _))))
  obtain⟨hp,g,d,tk,os⟩:=s;show wpAny _ _ (field (.ref e) 2 >>= _) _ _ _;refine ag (iF he rfl (x:=.ref it) rfl (ag (hn _ _ λk1 Rc Rf=>?_)));have Rf:Heap.SameBut it hp k1:=Rf;have a1:IsEnum k1 e it i pO:=(Rf.2 e mj).trans he;refine ag (iF (s:=⟨k1,g,d,tk,os⟩) a1 rfl (x:=rawInt i) rfl ?_);refine ag (iF (s:=⟨k1,g,d,tk,os⟩) a1 rfl (x:=.none) rfl ?_);refine ag (wpAny_mkInt (s:=⟨k1,g,d,tk,os⟩) ?_);refine ag (CG (s:=⟨k1,g,d,tk+1,os⟩) a1 (by simp) λk2 a2 Uz=>?_);have Uz:Heap.SameBut e k1 k2:=Uz;have a2:IsEnum k2 e it ((i:Int)+1) pO:=a2;refine ag (CG (s:=⟨k2,g,d,tk+1,os⟩) a2 (by simp) λk3 a3 UA=>?_);have UA:Heap.SameBut e k2 k3:=UA;have a3:IsEnum k3 e it ((i:Int)+1) pO:=a3;refine ag (wpAny_newTuple (s:=⟨k3,g,d,tk+1,os⟩) ?_);have sz:k3.objs.size=hp.objs.size:=by rw[UA.1,Uz.1,Rf.1]
  have el:e<hp.objs.size:=cv he;have tne:hp.objs.size≠e:=pY el;generalize Pq:k3.push {cls:=.type "tuple",data:=.seq #[.int i tk,x]}=k4;have a4:IsEnum k4 e it ((i:Int)+1) pO:=by rw[<- Pq];exact bz _ a3
  have t4:k4.get? hp.objs.size=some {cls:=.type "tuple",data:=.seq #[.int i tk,x]}:=by rw[<- Pq,<- sz];exact dP _ rfl
  have up:∀b o,b≠e->k1.get? b=some o->k4.get? b=some o:=λb o hb q=>by rw[<- Pq];exact bz _ (UA.extBut b o hb (Uz.extBut b o hb q))
  dsimp only;rw[sz];refine ag ?_;unfold Builtin.SmallTypes.ownedTupleIsFree;refine ag (iF (s:=⟨k4,g,d,tk+1,os⟩) a4 rfl (x:=.none) rfl (aA ?_));simp only[eP];refine ag (rK (ag (iF (s:=⟨k4,g,d,tk+1,os⟩) a4 rfl (x:=pO) rfl ?_)));refine ag (CG (s:=⟨k4,g,d,tk+1,os⟩) a4 (by simp) λk5 a5 WN=>?_);have WN:Heap.SameBut e k4 k5:=WN;have a5:IsEnum k5 e it ((i:Int)+1) x:=a5;refine ag ?_;unfold Builtin.SmallTypes.ownedTupleHandOut;refine ag (CG (s:=⟨k5,g,d,tk+1,os⟩) a5 (by simp) λk6 a6 WO=>?_);have WO:Heap.SameBut e k5 k6:=WO;have a6:IsEnumOut k6 e it ((i:Int)+1) x hp.objs.size:=a6;refine CG (s:=⟨k6,g,d,tk+1,os⟩) a6 (by simp) λk7 a7 WQ=>?_;have WQ:Heap.SameBut e k6 k7:=WQ;have a7:IsEnumOut k7 e it ((i:Int)+1) x hp.objs.size:=a7;have WR:∀b o,b≠e->k4.get? b=some o->k7.get? b=some o:=λb o hb q=>WQ.extBut b o hb (WO.extBut b o hb (WN.extBut b o hb q));refine ag (wpAny_letGo (aA ⟨_,rfl,aA (hQ k7 a7 ?_ (WR _ _ tne t4) ?_)⟩))
  · exact uY k1 k7 Rc λo q=>WR _ _ (dh mj) (up _ _ (dh mj) q)
  · intro b o Ut By q;exact WR b o Ut (up b o Ut (Rf.extBut b o By q))
theorem uZ(he:IsEnum s.heap e it i pO)(hn:DH prog w A.in1 s it)(hQ:∀h',Heap.ExtBut it s.heap h'->Q none {s with heap:=h'}):wpAny (model prog w) A (pyNext (.ref e)) Q E s:=by
 have hT:s.TypeIs (.ref e) "enumerate" := ⟨_,he,rfl⟩;unfold pyNext
 refine ag (uq (mF (name:=Str.ofString "__next__") hT GA
  (iE GA hT F.entry_enumerate_next ?_ (F.args_enumerate_next_1 _))))
 show wpAny _ _ (field (.ref e) 2 >>= _) _ _ _;refine ag (iF he rfl (x:=.ref it) rfl (ag (hn _ _ λk x hk hx=>?_)));obtain⟨o,ho,hc⟩:=hx;exact ag (GL (T := "StopIteration") (b:=true) ⟨o,ho,hc⟩ isSubtype_stop (aA (hQ _ hk)))
end
theorem u3{h:Heap}{o:Obj}{b:Addr}(hb:b≠h.objs.size):(h.push o).get? b=h.get? b:=Heap.get?_push_ne h b o hb
theorem Inv.Hw{t':Nat}{ch:List Addr}(I:Inv X aa σ H s)(k:∀b o,b∉ch->s.heap.get? b=some o->h'.get? b=some o)(hf:∀b∈ch,mJ X aa H b):Inv X aa σ H {s with heap:=h',toks:=t'}:=by
 have Qh:∀b u,H b=some u->b∉ch:=λb u e z=>by rw[(hf b z).1]at e;cases e
 refine I.step (g':=s.gens) (d':=s.drawn) (ch:=ch) (λb hb=>⟨(hf b hb).2.2.2.1,(hf b hb).2.1,(hf b hb).2.2.2.2.1,(hf b hb).2.2.2.2.2⟩) (λb o _ _ hc e _=>k b o hc e) (λb o _ _ hc e _=>⟨o.slots,k b o hc e⟩) (λ_ _ _ _ n=>n)
  (λb o hc e=>⟨o,k b o hc e⟩) (λ_ _ e=>e) (λ_ _ _ e=>e) (λb ps e=>⟨#[],by rw[e];simp⟩) (λm hm=>?_) (λb u e=>?_) I.bare
 ·obtain⟨o,es,ep,ho,r⟩:=hm;exact⟨o,es,ep,k _ o (λz=>(hf _ z).2.1 rfl) ho,r⟩
 ·refine(I.bJ b u e).AZ (λc v hc q=>k c v ?_ q) (λ_ q=>q) λ_ _ q=>q;rcases hc with z | z
  ·rw[z];exact Qh b u e
  ·exact Qh c _ z
def Pr(K:PySem.W.Frag)(H:Hp)(l:Bool)(a:Addr)(xs:List V):Prop:=if l=true then fK K H a xs else gE K H a xs
def UB(K:PySem.W.Frag)(l:Bool)(a:Addr):It :=
 ⟨λi H=>∃xs x,Pr K H l a xs/\xs[i]?=some x,λi H x H'=>∃p y,x=.ref p/\H p=none/\H'=upd H p (.tup [.int i,y])/\∀xs,Pr K H l a xs->xs[i]?=some y,λi H=>∃xs,Pr K H l a xs/\xs.length<=i⟩
noncomputable def sj(l:Bool)(h:Heap)(it a:Addr)(i:Nat):Prop:=if l=true then h.IsListIter it a i else h.IsTupleIter it a i
theorem sj.at(x:sj l h it a i)(e:∀o,h.get? it=some o->h'.get? it=some o):sj l h' it a i:=by
 cases l with
 | true=>exact Heap.IsListIter.at (show h.IsListIter it a i from x) e
 | false=>exact Heap.IsTupleIter.at (show h.IsTupleIter it a i from x) e
theorem sj.obj(x:sj l h it a i):∃o,h.get? it=some o/\o.data=.fields #[.ref a,.int i 0]:=by
 cases l with
 | true=>obtain⟨o,e,_,d⟩:=(show h.IsListIter it a i from x);exact⟨o,e,d⟩
 | false=>obtain⟨o,e,_,d⟩:=(show h.IsTupleIter it a i from x);exact⟨o,e,d⟩
theorem Bz{P:Program}{w:World}{K:PySem.W.Frag}{Hx:List Expr}{k:Nat}{tp:Pos}(l:Bool)(a e it:Addr)(mj:e≠it):xg P w K (.Tuple Hx k tp) (UB K l a) [e,it] e (λi h=>(∃pO,IsEnum h e it i pO)/\sj l h it a i) where
  mem:=by simp
  obj:=λi h st b hb=>by
    obtain⟨⟨pO,h1⟩,h2⟩:=st;have hb:b=e\/b=it:=by simpa using hb
    rcases hb with rfl | rfl
    · exact⟨_,h1,λv z=>by have z':Data.fields _=Data.cell v:=z;cases z'⟩
    · obtain⟨o,q,d⟩:=h2.obj;exact⟨o,q,λv z=>by rw[d]at z;cases z⟩
  keep:=λi h h' st k=>by
    obtain⟨⟨pO,h1⟩,h2⟩:=st;exact⟨⟨pO,k e (by simp) _ h1⟩,h2.at λo q=>k it (by simp) o q⟩
  item:=by
    intro X hP hw hK hc i aa s σ H E I hf st hg;subst hP hw hK;obtain⟨⟨pO,h1⟩,h2⟩:=st;obtain⟨xs,x,hq,hx⟩:=hg;have YM:=hf e (by simp);have Kk:=hf it (by simp);obtain⟨oi,qi,di⟩:=h2.obj
    have main : ∀ (u : Value), RelV x u -> zj X.prog X.w X.A.in1 s it u (fun h => sj l h it a (i + 1)) -> (∀ ys, Pr X.K H l a ys -> ys[i]? = some x) ->
        wpAny (model X.prog X.w) X.A (pyNext (.ref e)) (λr s1=>∃u,r=some u /\
          wpAny (model X.prog X.w) X.A (letOwnedTupleGo (.Tuple Hx k tp) (.ref e) u) (λ_ s2=>∃x H',Inv X aa σ H' s2/\RelV x u/\(UB X.K l a).Pl i H x H'/\((∃pO,IsEnum s2.heap e it ((i+1:Nat):Int) pO)/\sj l s2.heap it a (i+1))/\∀b∈[e,it],H' b=none) E s1) E s:=by
      intro u ru hn xq;refine Bx h1 mj (cv qi) hn (λh h' st hk=>st.at hk) λh' o1 o2 o3 o4=>⟨_,rfl,?_⟩;refine wpAny_letOwnedTupleGo_enum (s:={s with heap:=h',toks:=s.toks+1}) o1 λYN p1 p2=>?_;have p2:Heap.SameBut e h' YN:=p2;have fr:H s.heap.objs.size=none:=I.bJ.fresh (aI _)
      have I1:Inv X aa σ (upd H s.heap.objs.size (.tup [.int i,x])) {s with heap:=s.heap.push {cls:=.type "tuple",data:=.seq #[.int i s.toks,u]},toks:=s.toks+1} :=
        I.laid (λb o q=>bz _ q) (aI _) ⟨by show 2<=sizeLine;decide,[.int i s.toks,u],.cons ⟨_,rfl⟩ (.cons ru .nil),⟨_,dP _ rfl,rfl,0,rfl⟩⟩
      have ne1:e≠s.heap.objs.size:=cH (cv h1);have ne2:it≠s.heap.objs.size:=cH (cv qi)
      have YO:∀b∈[e,it],mJ X aa (upd H s.heap.objs.size (.tup [.int i,x])) b:=λb hb=>by
        have zg:b=e\/b=it:=by simpa using hb
        rcases zg with z | z
        · subst z;exact⟨by rw[aC ne1];exact YM.1,YM.2⟩
        · subst z;exact⟨by rw[aC ne2];exact Kk.1,Kk.2⟩
      have I2:=I1.Hw (h':=YN) (t':=s.toks+1) (ch:=[e,it]) (λb o hb q=>by
        have zg:b≠e/\b≠it:=by simpa using hb
        refine p2.extBut b o zg.1 ?_;by_cases hz:b=s.heap.objs.size
        · subst hz;have q':(s.heap.push {cls:=.type "tuple",data:=.seq #[.int i s.toks,u]}).get? s.heap.objs.size=some _:=dP _ rfl;rw[q']at q;cases q;exact o3
        · have q2 : s.heap.get? b = some o := by
            have lg:=cv q;rw[nK]at lg
            cases hs:s.heap.get? b with
            | some o'=>rw[bz _ hs]at q;exact q
            | none=>exact absurd q (by rw[u3 hz,hs];intro z;cases z)
          exact o4 b o zg.1 zg.2 q2) YO
      refine⟨.ref s.heap.objs.size,_,I2,rfl,⟨s.heap.objs.size,x,rfl,fr,rfl,xq⟩,⟨⟨_,p1⟩,o2.at λo q=>p2.extBut _ _ (dh mj) q⟩,λb hb=>(YO b hb).1⟩
    cases l with
    | true =>
      have hq:fK X.K H a xs:=hq;obtain⟨aG,rv,p,hz⟩:=I.list hq;obtain⟨u,hu,ru⟩:=rv.get hx;exact main u ru (xB (show s.heap.IsListIter it a i from h2) p.isList (by simpa using hu)) λys hy=>by rw[I.uG (show fK X.K H a ys from hy) hq];exact hx
    | false =>
      have hq:gE X.K H a xs:=hq;obtain⟨aG,rv,p,hz⟩:=I.tuple hq;obtain⟨u,hu,ru⟩:=rv.get hx;exact main u ru (Bv (show s.heap.IsTupleIter it a i from h2) (show s.heap.IsTuple a aG.toArray from p) (by simpa using hu)) λys hy=>by rw[I.qv (show gE X.K H a ys from hy) hq];exact hx
  done:=by
    intro X hP hw hK hc i aa s σ H E I hf st hg;subst hP hw hK;obtain⟨⟨pO,h1⟩,h2⟩:=st;obtain⟨xs,hq,hx⟩:=hg;have Kk:=hf it (by simp);have hh:X.A.in1.handled=none:=I.ok.hd hc;have fin:∀h',Heap.ExtBut it s.heap h'->(none:Option Value)=none/\Inv X aa σ H {s with heap:=h'}:=λh' eb=>⟨rfl,I.turned (t':=s.toks) (λb o hb q=>eb b o hb q) Kk.1 Kk.2.1 Kk.2.2.2.1 Kk.2.2.2.2.1 Kk.2.2.2.2.2⟩
    cases l with
    | true =>
      obtain⟨aG,rv,p,hz⟩:=I.list (show fK X.K H a xs from hq);have hl:=rv.length;exact uZ h1 (xC hh (show s.heap.IsListIter it a i from h2) p.isList (by simp;omega)) λh' eb=>fin h' eb
    | false =>
      obtain⟨aG,rv,p,hz⟩:=I.tuple (show gE X.K H a xs from hq);have hl:=rv.length;exact uZ h1 (Bw hh (show s.heap.IsTupleIter it a i from h2) (show s.heap.IsTuple a aG.toArray from p) (by simp;omega)) λh' eb=>fin h' eb
  self:=λA i s Q E st h=>by
    obtain⟨⟨pO,h1⟩,_⟩:=st;exact wpAny_pyIter_enum h1 h
theorem oe (t : Addr) (items : Array Value) :
    Meets (Builtin.«enumerate.__new__» ⟨[.type "enumerate",.ref t],[]⟩) (λ_ R s=>s.heap.IsTuple t items /\
      R (.ok (.ret (.ref (s.heap.push {cls:=.type "tuple_iterator",data:=.fields #[.ref t,.int 0 0]}).objs.size)))
        {s with heap:=(s.heap.push {cls:=.type "tuple_iterator",data:=.fields #[.ref t,.int 0 0]}).push {cls:=.type "enumerate",data:=.fields #[.none,.bool false,.ref s.heap.objs.size,rawInt 0,.none,.none]}}) :=
  .of_wp λprog w A R s h=>by
    obtain⟨hp,g,d,tk,os⟩:=s;obtain⟨hT,h⟩:=h;have hsub:=sub_enumerate;have hT:Heap.IsTuple (Shared.heap ⟨hp,g,d,tk,os⟩) t items:=hT
    wp_walk
    refine wpAny_stack_any λst=>aA ?_;split
    · rename_i c _ _ _ _ _
      cases (c==Value.type "enumerate")<;>(wp_walk using wpAny_pyIter_tuple hT;exact⟨_,rfl,h⟩)
    · wp_walk using wpAny_pyIter_tuple hT
      exact⟨_,rfl,h⟩
section
variable {prog:Program} {w:World} {A:Around} {E:Value->Shared->Prop} {s:Shared}
theorem BA(hs:if l=true then s.heap.IsList a items else s.heap.IsTuple a items)(h:∀h',IsEnum h' (s.heap.objs.size+1) s.heap.objs.size 0 .none->sj l h' s.heap.objs.size a 0->(∀b o,s.heap.get? b=some o->h'.get? b=some o)->Q (.ref (s.heap.objs.size+1)) {s with heap:=h'}):wpAny (model prog w) A (call (.type "enumerate") [.ref a]) Q E s:=by
 cases l with
 | true=>exact call_enumerate_list (show s.heap.IsList a items from hs) λh' h1 h2 _ h4=>h h' h1 h2 h4
 | false =>
  have hs:s.heap.IsTuple a items:=hs;refine callType_new F.called_enumerate (by decide) (F.typeCall_enumerate_1 _) (F.newCall_enumerate_1 _) (λobj=>F.args_object_init_2 obj _) F.entry_enumerate_new (oe a items) ⟨hs,?_⟩;have hz:(s.heap.push {cls:=.type "tuple_iterator",data:=.fields #[.ref a,.int 0 0]}).objs.size=s.heap.objs.size+1:=nK ..;show _/\_;have he:=dP (s.heap.push {cls:=.type "tuple_iterator",data:=.fields #[.ref a,.int 0 0]}) (o:={cls:=.type "enumerate",data:=.fields #[.none,.bool false,.ref s.heap.objs.size,rawInt 0,.none,.none]}) rfl;rw[hz]at he⊢;exact⟨⟨_,he,rfl⟩,h _ he ⟨_,bz _ (dP _ rfl),rfl,rfl⟩ λb o x=>bz _ (bz _ x)⟩
end
section
variable {X:Cx}
def Rg(K:PySem.W.Frag)(ta:TA):TI:=λσ H R=>ta σ H λvs H1=>∃(l:Bool) (a:Addr),vs=[.ref a]/\(∃xs,Pr K H1 l a xs)/\R (UB K l a) H1
theorem Hy{a:Expr}{ta:TA}{p pos tp:Pos}{Hx:List Expr}{k:Nat} (hg:Gl X "enumerate") (hm:X.mg "enumerate" = none) (ha:PA X [a] ta) (hs:starEach [a] X.env=[(false,eval a X.env)]):PI X (.Tuple Hx k tp) (.Call (.Name "enumerate" p) [a] [] pos) (Rg X.K ta):=by
 intro aa s σ H R I h;refine Call_ (ly I hg hm boot_enumerate (Gv (cJ (ha pos aa s σ H _ I h) ?_) hs rfl));rintro us s1 ⟨vs,H1,I1,r1,q1⟩;obtain⟨l,b,rfl,⟨xs,hq⟩,q⟩:=q1;obtain⟨u,rfl,ru⟩:=vals1 r1;cases ru
 have hit:∃aG:Array Value,if l=true then s1.heap.IsList b aG else s1.heap.IsTuple b aG:=by
  cases l with
  | true=>obtain⟨aG,_,p,_⟩:=I1.list (show fK X.K H1 b xs from hq);exact⟨aG.toArray,p.isList⟩
  | false=>obtain⟨aG,_,p,_⟩:=I1.tuple (show gE X.K H1 b xs from hq);exact⟨aG.toArray,p⟩
 obtain⟨aG,hit⟩:=hit;refine BA hit λh' e1 e2 e3=>?_;refine wpAny_pyIter_enum (s:={s1 with heap:=h'}) e1 ?_;have I2:Inv X aa σ H1 {s1 with heap:=h'}:=I1.kept (t':=s1.toks) e3;refine⟨s1.heap.objs.size+1,[s1.heap.objs.size+1,s1.heap.objs.size],_,_,H1,rfl,I2,Bz l b _ _ (Nat.succ_ne_self _),⟨⟨_,e1⟩,e2⟩,λc hc=>?_,q⟩;have Bb:c=s1.heap.objs.size+1\/c=s1.heap.objs.size:=by simpa using hc
 rcases Bb with z | z
 ·subst z;exact I1.Bd (uu _) (I1.bJ.fresh (uu _))
 ·subst z;exact I1.Bd (aI _) (I1.bJ.fresh (aI _))
end
end L2
end
section
namespace L2
open PySem PySem.Spec PyProof.Rows
end L2
end
section
namespace L2
open PySem PySem.Spec PyProof.Rows
section
variable {X:Cx}
theorem WS(h:c∈[n+4,n+2,n+3,n,n+1]):n<=c:=by
 simp only[bU,lj,fP]at h;omega
end
end L2
end
section
namespace L2
open PySem PySem.Spec PyProof.Rows
open AutoSeq1 (wpAny_loadPart')
end L2
end
section
namespace L2
open PySem PySem.Spec PyProof.Rows
theorem jD:entryFor table "dict.update.loop" = some Builtin.«dict.update.loop»:=entryFor_of_tree (nofun)
theorem eT:plainId "dict.update.loop" = true:=⋯
theorem sk:typeLookup (.type "list") "keys" = pure none:=by rw[typeLookup_type,La];kernel_rfl
section
variable {prog:Program} {w:World} {A:Around} {E:Value->Shared->Prop} {s:Shared}
theorem jW(hx:s.heap.get? a=some o) (hc:o.cls=.type "list") (u4:o.data=.seq xs k) (hd:o.dict=none) (hA:A.handled=none) (h:∀h' tk,(∀b o,s.heap.get? b=some o->h'.get? b=some o)->Q none {s with heap:=h',toks:=tk}):wpAny (model prog w) A (getAttr? (.ref a) "keys") Q E s:=by
 obtain⟨c,u5,dat,sl⟩:=o;simp only at hc u4 hd;subst hc u4 hd;obtain⟨hp,g,d,tk,os⟩:=s;have hT:∀UC,(⟨hp,g,d,UC,os⟩:Shared).TypeIs (.ref a) "list" := λ_=>⟨_,hx,rfl⟩;have f1:=sub_AttributeError;have f3:=K4.lookup;have f4:=K4.bind (.ref a);have f5:=am_list_getattr_none;unfold getAttr? getAttrBy? getAttrBy
 repeat (any_goals (first | assumption | exact hT _ | ((with_reducible show wpAny _ _ (call (Value.builtin "list.__getattribute__") _ _) _ _ _);refine uw K4 (hT _) am_entry_list_getattribute (F.args_list_getattribute_2 _ _) (meets_getattribute_miss_list a xs k sl "keys" _ sk ⋯ ⋯) ⟨hx,hA,λh' UC e YQ=>?_⟩) | wp_step))
 obtain⟨t',u',he⟩:=YQ.there;show wpAny _ _ (getattributeRaised _ _ _ _ _ _ _) _ _ _;unfold getattributeRaised
 repeat (any_goals (first | assumption | wp_step))
 exact h _ _ YQ.of.keeps
noncomputable def ml(kv:Nat->bH×Value):Nat->List (bH×Value)
 | 0=>[]
 | n+1=>stored (ml kv n) (kv n).1 (kv n).2
theorem lH(kv:Nat->bH×Value):∀n,(ml kv n).length<=n
 | 0=>aI _
 | n+1=>dr (stored_length_le _ _ _) (Nat.succ_le_succ (lH kv n))
theorem Hz {R : Result -> Shared -> Prop} {I : Addr} {fp wr : List Addr} {n : Nat} {P : Nat -> Value -> Prop} {St : Nat -> Heap -> Prop} (W : Walks prog w A.in1 I fp wr n P St) (d : Addr) (Kd : d ∉ fp) (hn : n <= sizeLine)
    (kv:Nat->bH×Value) (h0:Heap) (BB:∀i v,P i v->∃a uk,v=.ref a/\a∉wr/\a≠d/\iG (kv i).1 uk=true/\IsTup h0 a #[uk,(kv i).2]) :
    ∀(k i:Nat)(s:Shared)(j:Int)(t:Tok),n-i=k->i<=n->St i s.heap->(∀b o,b∉wr->b≠d->h0.get? b=some o->s.heap.get? b=some o)->s.heap.DictOf (bA prog w) d (ml kv i) ->
      (∀h' tk,(∀b o,b∉wr->b≠d->s.heap.get? b=some o->h'.get? b=some o)->h'.DictOf (bA prog w) d (ml kv n)->R (.ok (.ret .none)) {s with heap:=h',toks:=tk}) ->
      codeAny (model prog w) A (.builtin "dict.update.loop" ⟨[.ref d,.ref I,.int j t,.none],[]⟩) R s:=by
  have YR:d∉wr:=λh=>Kd (W.sub _ h);intro k
  induction k with
  | zero =>
    intro i s j t hk hi eL uY hd hR;have u6:i=n:=∅;subst u6;refine um jD ?_;rw[wN eT _];show wpAny _ A.in1 (pyNext (.ref I) >>= _) _ _ s;refine ag (W.done s _ _ eL λh' tk hm=>?_);show wpAny _ A.in1 (Builtin.Dict.addKeywords d [] >>= _) _ _ _;refine ag (aA (aA (hR h' tk (λb o hb _ e=>hm b o hb e) ?_)));obtain⟨o,es,ep,ho,fc⟩:=hd;exact⟨o,es,ep,hm d _ YR ho,fc⟩
  | succ k ih =>
    intro i s j t hk hi eL uY hd hR;have lg:i<n:=∅;refine um jD ?_;rw[wN eT _];show wpAny _ A.in1 (pyNext (.ref I) >>= _) _ _ s;refine ag (W.item i s _ _ lg eL λv h' tk hP WT hm=>?_);obtain⟨a,uk,rfl,YS,had,LZ,o,ho,hc,q,u4⟩:=BB i v hP;have yV:h'.get? a=some o:=hm _ _ YS (uY _ _ YS had ho)
    have Qf:h'.DictOf (bA prog w) d (ml kv i):=by
      obtain⟨o,es,ep,ho,fc⟩:=hd;exact⟨o,es,ep,hm d _ YR ho,fc⟩
    have hT:∀UC,Shared.TypeIs {s with heap:=h',toks:=UC} (.ref a) "tuple" := λ_=>⟨o,yV,hc⟩;refine ag (kj (ag (wpAny_tryCatch ?_)));unfold Builtin.Dict.pairItems;refine ag (w_ (hT _) ?_);have hz:(Value.type "tuple" == Value.type "list" || Value.type "tuple" == Value.type "tuple")=true:=⋯;rw[aw hz];refine ag (wpAny_seqItems (s:={s with heap:=h',toks:=tk}) yV u4 (aA ?_));show wpAny _ A.in1 (holding [uk,(kv i).2] (dictSet d uk (kv i).2)) _ _ _;refine kj (wpAny_dictSet_pairs (knd:=bA prog w) (k:=(kv i).1) LZ Qf (λh2 hd2 y3=>?_) (dr (lH kv i) ∅));refine aA ⟨w8 eT _,ih (i+1) _ _ _ ∅ lg (W.frame _ _ _ WT λb hb o e=>?_) (λb o hb su e=>?_) hd2 λh3 tk3 WU Pt=>?_⟩
    · show h2.get? b=some o;rw[y3.2 b (λz=>Kd (by rw[<- z];exact hb))];exact e
    · show h2.get? b=some o;rw[y3.2 b su];exact hm _ _ hb (uY _ _ hb su e)
    · refine hR h3 tk3 (λb o hb su e=>WU b o hb su ?_) Pt;show h2.get? b=some o;rw[y3.2 b su];exact hm _ _ hb e
theorem HA{aG:List Value}(hA:A.handled=none)(hl:PlainL s.heap l aG.toArray)(hn:aG.length<=sizeLine)(kv:Nat->bH×Value)(BB:∀i v,aG[i]?=some v->∃a uk,v=.ref a/\iG (kv i).1 uk=true/\IsTup s.heap a #[uk,(kv i).2])(h:∀h' tk,(∀b o,s.heap.get? b=some o->h'.get? b=some o)->h'.DictOf (bA prog w) s.heap.objs.size (ml kv aG.length)->Q (.ref s.heap.objs.size) {s with heap:=h',toks:=tk}):wpAny (model prog w) A (call (.type "dict") [.ref l]) Q E s:=by
 refine callType_codes (Q₁:=λobj bo=>obj=.ref s.heap.objs.size/\bo={s with heap:=s.heap.push {cls:=.type "dict",data:=.dict #[]}}) F.kt_called_dict (F.kt_typeCall_dict_1 _) F.entry_dict_init (kt_code_dict_new _ ⟨rfl,rfl⟩) ?_;rintro obj bo ⟨rfl,rfl⟩;have ix:(s.heap.push {cls:=.type "dict",data:=.dict #[]}).DictOf (bA prog w) s.heap.objs.size []:=Heap.DictOf.new s.heap;obtain⟨o,m,ho,hc,sv,u4⟩:=hl;have DI:(s.heap.push {cls:=.type "dict",data:=.dict #[]}).get? l=some o:=bz _ ho;have hT:Shared.TypeIs {s with heap:=s.heap.push {cls:=.type "dict",data:=.dict #[]}} (.ref l) "list" := ⟨o,DI,hc⟩;have lg:=cv ho;refine⟨ix.typeIs,F.args_dict_init_2 _ _,?_⟩;unfold Builtin.«dict.__init__»;refine ag ?_;unfold Builtin.Dict.selfAndRest;refine ag (wpAny_notOrdered_dict ix.typeIs ?_);show wpAny _ _ (pure (s.heap.objs.size,[Value.ref l])) _ _ _;refine aA ?_;show wpAny _ _ (Builtin.Dict.updateFrom "dict.__init__" s.heap.objs.size (.ref l) [] .none) _ _ _;unfold Builtin.Dict.updateFrom;refine ag (w_ hT ?_);rw[aw ⋯];refine ag (jW (s:={s with heap:=s.heap.push {cls:=.type "dict",data:=.dict #[]}}) DI hc u4 sv (by simp[hA]) λh1 tk1 k1=>?_);rw[aw (show(none:Option Value).isNone=true from rfl)];have y8:h1.get? l=some o:=k1 _ _ DI
 have hle:s.heap.objs.size<h1.objs.size:=by
  obtain⟨o',es,ep,he,_⟩:=ix;exact cv (k1 _ _ he)
 refine ag (rK (ag (wpAny_pyIter_list (s:={s with heap:=h1,toks:=tk1}) ⟨o,y8,hc,m,u4⟩ ?_)));have WV:=cv y8;have u6:l≠h1.objs.size:=cH WV;have WW:=Walks.list (prog:=prog) (w:=w) (A:=A.in1.in1) (by simp[hA]) h1.objs.size l u6 aG.toArray;simp only[cG,Lc]at WW;refine aA ⟨w8 eT _,?_⟩;have kp:∀b u,s.heap.get? b=some u->(h1.push {cls:=.type "list_iterator",data:=.fields #[.ref l,.int 0 0]}).get? b=some u:=λb u e=>bz _ (k1 _ _ (bz _ e));refine Hz WW s.heap.objs.size ?_ hn kv s.heap ?_ (aG.length-0) 0 _ _ _ rfl (lr _) ⟨⟨_,dP _ rfl,rfl,rfl⟩,⟨o,bz _ y8,hc,m,u4⟩⟩ (λb o' _ _ e=>kp b o' e) ?_ ?_
 ·simp only[bU,rE,fP,not_or];exact⟨cH hle,λz=>absurd lg (by rw[z];exact ki _)⟩
 ·intro i v hv;obtain⟨a,uk,e,hk,ht⟩:=BB i v hv;have u7:=ht.lt;refine⟨a,uk,e,?_,cH u7,hk,ht⟩;simp only[bU,rE,fP];exact cH (CV u7 hle)
 ·obtain⟨o',es,ep,he,fc⟩:=ix;exact⟨o',es,ep,bz _ (k1 _ _ he),fc⟩
 ·intro h' tk hk hd;refine⟨rfl,h h' tk (λb u e=>?_) hd⟩;have hb:=cv e;exact hk b u (by simp only[bU,rE,fP];exact cH (CV hb hle)) (cH hb) (kp b u e)
end
end L2
end
section
namespace L2
open PySem PySem.Spec PyProof.Rows
end L2
end
section
namespace L2
open PySem PySem.Spec PyProof.Rows
theorem BC(a b:Int):Builtin.Range.rangeSize a b (-1)=if b<a then a-b else 0:=by
 unfold Builtin.Range.rangeSize;rw[az (by decide),show -(-1:Int)=1 from rfl,Int.ediv_one];by_cases h:b<a
 ·rw[aw h,aw h];omega
 ·rw[az h,az h]
theorem small_down(h1:-(2 ^ 62)<=a)(h2:a<2 ^ 62)(h3:-(2 ^ 62)<=b)(h4:b<2 ^ 62):Builtin.Range.small a b (-1)=true:=by
 unfold Builtin.Range.small;rw[BC];simp only[Builtin.Range.rangeFitsLong,aU,AU,rD,jP,show ¬(-1:Int)>0 by decide,nN];split<;>omega
end L2
end
section
namespace L2
open PySem PySem.Spec PyProof.Rows
section
variable {X:Cx}
theorem DJ:jv X (compareOp .Is) (λx y H Q=>∃b c,x=.bl b/\y=.bl c/\Q (.bl (b==c)) H):=by
 intro aa s σ H x y v u Q I rx ry h;obtain⟨b,c,rfl,rfl,q⟩:=h;cases rx;cases ry;refine wpAny_is_plain rfl (nR I q ?_);cases b<;>cases c<;>rfl
theorem zk:jv X (compareOp .IsNot) (λx y H Q=>∃b c,x=.bl b/\y=.bl c/\Q (.bl (!(b==c))) H):=by
 intro aa s σ H x y v u Q I rx ry h;obtain⟨b,c,rfl,rfl,q⟩:=h;cases rx;cases ry;refine wpAny_isNot_plain rfl (nR I q ?_);cases b<;>cases c<;>rfl
theorem HB:∀{is:List Int}{aG:List Value},aS (is.map V.int) aG->PySem.W.kf_ints aG=true
 | [],_,.nil=>rfl
 | i::is,_,.cons r t=>by
  obtain⟨_,rfl⟩:=r;exact(HB (is:=is) t:PySem.W.kf_ints _=true)
end
end L2
end
section
namespace L2
open PySem PySem.Spec PyProof.Rows
theorem zl{α β:Type}{R:α->β->Prop}:∀{l:List α}{m:List β}{i:Nat}{x:α},Paired R l m->l[i]?=some x->∃y,m[i]?=some y/\R x y
 | _,_,0,_,.cons r _,e=>by cases e;exact⟨_,rfl,r⟩
 | _,_,i+1,_,.cons _ t,e=>zl (i:=i) t e
theorem u9{α β:Type}{R S:α->β->Prop}(f:∀a b,R a b->S a b):∀{l:List α}{m:List β},Paired R l m->Paired S l m
 | _,_,.nil=>.nil
 | _,_,.cons r t=>.cons (f _ _ r) (u9 f t)
theorem u_{α β:Type}{R:α->β->Prop}:∀{l:List α}{m:List β},Paired R l m->l.length=m.length
 | _,_,.nil=>rfl
 | _,_,.cons _ t=>by simp[u_ t]
section
variable {X:Cx} {tg:Expr}
theorem Inv.freeze{aa:List (Addr×Obj)}{σ:St}{H:Hp}{s:Shared}{a:Addr}{ah:List (List bH×V)}(I:Inv X aa σ H s)(e:H a=some (.dT ah)):∃o,Inv X aa σ (upd H a (.eQ o (.dT ah))) s:=by
 obtain⟨hz,hs,xs,pr,o,es,ep,h1,h2,h3,h4,h5⟩:=(show bO X.prog X.w H s.heap a (.dT ah) from I.bJ a _ e);refine⟨o,I.write (x:=a) (e:=a) (h':=s.heap) (t':=s.toks) (by rw[e];exact trivial) (.inl rfl) (λb u _ q=>q) ⟨o,h1⟩ ?_⟩;refine⟨h1,hz,hs,xs,?_,o,es,ep,h1,h2,h3,h4,h5⟩;have nt:∀{b:Addr}{ys:List V},H b=some (.tup ys)->b≠a:=λq z=>by subst z;rw[e]at q;cases q
 exact u9 (λp q r=>⟨r.1,by rw[aC (nt r.2.1)];exact r.2.1,r.2.2⟩) pr
end
end L2
end
section
namespace L2
open PySem PySem.Spec PyProof.Rows
end L2
end
section
namespace L2
open PySem PySem.Spec PyProof.Rows
section
variable {prog:Program} {w:World} {A:Around} {E:Value->Shared->Prop} {s:Shared} {it d v:Addr} {i ep:Nat} {od:Obj} {es:Array DictEntry}
theorem xD (nm : (d == sysModules) = false) : MeetsIn prog w (Builtin.«dict.values» ⟨[.ref d], []⟩) (fun _ R s => (∃ od, s.heap.get? d = some od /\ od.ExactDict) /\
      R (.ok (.ret (.ref s.heap.objs.size))) {s with heap:=s.heap.push {cls:=.type "dict_values",data:=.fields #[.ref d]}}) :=
  .of_wp <| by
    rintro A R s ⟨⟨od,g,x⟩,h⟩;refine ag ?_;unfold Builtin.Dict.noArgs;refine ag (wpAny_notOrdered_dict ⟨od,g,x.1⟩ ?_);show wpAny _ _ (pure d) _ _ s;refine aA ?_;show wpAny _ _ (Builtin.Dict.showsAll d >>= _) _ _ s;unfold Builtin.Dict.showsAll;rw[az (by rw[nm];exact aT)];refine ag (aA ?_);exact ag (fC (aA ⟨_,rfl,h⟩))
theorem BD(hv:s.heap.IsValuesView v d)(g:s.heap.get? d=some od)(dt:od.data=.dict es ep) (q:Q (.ref s.heap.objs.size) {s with heap:=s.heap.push {cls:=.type "dict_valueiterator",data:=.fields #[.ref d,.int 0 0,.int es.size 0,.int ep 0]}}):wpAny (model prog w) A (pyIter (.ref v)) Q E s:=by
 obtain⟨ov,hov,hcv,hdv⟩:=id hv;refine wpAny_pyIter_slot hv.typeIs F.slot_dict_values_iter (iE F.slot_dict_values_iter hv.typeIs F.entry_dict_values_iter ?_ (F.args_dict_values_iter_1 _));unfold Builtin.«dict_values.__iter__»;refine ag (aA ?_);refine ag ?_;unfold Builtin.Dict_items.dictOf;refine ag (iF hov hdv (x:=.ref d) rfl (aA ?_));refine ag ?_;unfold Builtin.Dict_items.newIterator;refine ag (wpAny_dictEntries g dt (ag (wpAny_dictEpoch g dt ?_)));simp only[show Builtin.Dict_items.ownsTuple "dict_valueiterator" = false by decide,CH,nN];exact fC (aA ⟨_,rfl,"dict_valueiterator",_,⟨_,dP _ rfl,rfl⟩,CB.lookup,by simpa[rawInt]using q⟩)
theorem BE(hi:s.heap.IsValIter it d i es.size ep)(g:s.heap.get? d=some od)(dt:od.data=.dict es ep)(he:es[i]?=some e)(q:∀h,h.IsValIter it d (i+1) es.size ep->Heap.SameBut it s.heap h->Q (some e.val) {s with heap:=h}):wpAny (model prog w) A (pyNext (.ref it)) Q E s:=by
 obtain⟨o,ho,hc,hd⟩:=id hi;unfold pyNext;refine ag (uq (mF (name:=Str.ofString "__next__") hi.typeIs CB (iE CB hi.typeIs F.entry_dict_valueiterator_next ?_ (F.args_dict_valueiterator_next_1 _))));refine ag (aA (ag (ag ?_)))
 first | refine ag (Gu hi.typeIs (aA ?_)) | refine ag (Gz hi.typeIs (aA ?_))
 refine ag (AV ho hd ?_);simp only[show Builtin.Dict_items.ownsTuple "dict_valueiterator" = false by decide,CH,nN];show wpAny _ _ (if (Value.ref d==Value.none)=true then _ else _) _ _ s;rw[az (show ¬((Value.ref d==Value.none)=true) from aT)];refine ag (aA (ag (wpAny_dictEntries g dt ?_)));rw[az (by simp)];refine ag (aA (ag (wpAny_dictEpoch g dt ?_)));rw[az (by simp)];refine aA ?_;simp only[show ¬((i:Int)<0) from by omega,nN,jr,he];refine ag ?_
 first | refine ag (Gu hi.typeIs (aA ?_)) | refine ag (Gz hi.typeIs (aA ?_))
 refine ag (Ld hi.typeIs ?_);refine ag (pX (i:=1) ho hd (by simp) ?_)
 have WX:(s.heap.update it (Obj.mapFields (·.setIfInBounds 1 (rawInt ((i:Int)+1))))).IsValIter it d (i+1) es.size ep :=
  ⟨_,pT _ ho (AG (mH hd _)),(CL ..).trans hc,by rw[mH hd];simp[rawInt]⟩
 refine ag (kj (ag (Ld (s:={s with heap:=s.heap.update it (Obj.mapFields (·.setIfInBounds 1 (rawInt ((i:Int)+1))))}) WX.typeIs ?_)));refine ag (Ld (s:={s with heap:=s.heap.update it (Obj.mapFields (·.setIfInBounds 1 (rawInt ((i:Int)+1))))}) WX.typeIs ?_);exact aA (aA ⟨_,rfl,aA (q _ WX (kg ..))⟩)
theorem DK(hh:A.handled=none)(hi:s.heap.IsValIter it d i es.size ep)(g:s.heap.get? d=some od)(dt:od.data=.dict es ep)(he:es.size<=i)(q:∀h,Heap.ExtBut it s.heap h->Q none {s with heap:=h}):wpAny (model prog w) A (pyNext (.ref it)) Q E s:=by
 obtain⟨o,ho,hc,hd⟩:=id hi;unfold pyNext;refine ag (uq (mF (name:=Str.ofString "__next__") hi.typeIs CB (iE CB hi.typeIs F.entry_dict_valueiterator_next ?_ (F.args_dict_valueiterator_next_1 _))));refine ag (aA (ag (ag ?_)))
 first | refine ag (Gu hi.typeIs (aA ?_)) | refine ag (Gz hi.typeIs (aA ?_))
 refine ag (AV ho hd ?_);simp only[show Builtin.Dict_items.ownsTuple "dict_valueiterator" = false by decide,CH,nN];show wpAny _ _ (if (Value.ref d==Value.none)=true then _ else _) _ _ s;rw[az (show ¬((Value.ref d==Value.none)=true) from aT)];refine ag (aA (ag (wpAny_dictEntries g dt ?_)));rw[az (by simp)];refine ag (aA (ag (wpAny_dictEpoch g dt ?_)));rw[az (by simp)];refine aA ?_;simp only[show ¬((i:Int)<0) from by omega,nN,jr,Array.getElem?_eq_none he];refine ag ?_
 first | refine ag (Gu hi.typeIs (aA ?_)) | refine ag (Gz hi.typeIs (aA ?_))
 refine ag (pX (i:=0) ho hd (by simp) (ag ?_));simp only[newExc,newTuple];refine ag (fC ?_ (by size_fits));refine ag (m:=firstArgMember _ _) (wpAny_of_eq (a:=Value.none) (by first | rfl | (simp only[firstArgMember];rfl)) (fC ?_ (by size_fits)));simp only[raiseNew];refine ag (wpAny_handled ?_);rw[show A.in1.handled=none from hh];refine ag (aA (wpAny_throw (ag ?_)));refine GL (T := "StopIteration") (b:=true) ⟨_,dP _ rfl,rfl⟩ isSubtype_stop ?_;exact aA (q _ (((kg ..).extBut.push _).push _))
end
noncomputable def Pu(a:Addr)(o:Obj)(ah:List (List bH×V)):It:=⟨λi H=>H a=some (.eQ o (.dT ah))/\i<ah.length,λi H x H'=>H'=H/\∃k,ah[i]?=some (k,x),λi H=>H a=some (.eQ o (.dT ah))/\ah.length<=i⟩
theorem BF{P:Program}{w:World}{K:PySem.W.Frag}{tg:Expr}(it a:Addr)(o:Obj)(ah:List (List bH×V))(es:Array DictEntry)(ep:Nat)(dt:o.data=.dict es ep)(hl:es.size=ah.length):xg P w K tg (Pu a o ah) [it] it (λi h=>h.IsValIter it a i es.size ep) where
 mem:=by simp
 obj:=λi h st b hb=>by
  obtain rfl:b=it:=by simpa using hb
  obtain⟨ob,e,_,d⟩:=st;exact⟨ob,e,λv z=>by rw[d]at z;cases z⟩
 keep:=λi h h' st k=>by
  obtain⟨ob,e,r⟩:=st;exact⟨ob,k it (by simp) _ e,r⟩
 item:=by
  intro X hP hw hK hc i aa s σ H E I hf st hg;subst hP hw hK;obtain⟨f0,f1,f2,f3,f4,f5⟩:=hf it (by simp);obtain⟨g1,g2⟩:=hg;obtain⟨ho,hz,hs,xs,pr,o2,es2,ep2,h1,h2,h3,h4,h5⟩:=(show bO X.prog X.w H s.heap a (.eQ o (.dT ah)) from I.bJ a _ g1);obtain rfl:o2=o:=cg (h1.symm.trans ho);rw[dt]at h3;cases h3;obtain⟨p,hp⟩:∃p,ah[i]?=some p:=⟨_,bx g2⟩;obtain⟨y,hy,r1,r2,r3⟩:=zl pr hp;have hey:es[i]?=some (entryOfKey (tupleKind (bA X.prog X.w)) y):=by rw[<- nz,h4,bj,hy];rfl
  refine BE st ho dt hey λh' xh sb=>?_;have I1:Inv X aa σ H {s with heap:=h'}:=I.turned (t':=s.toks) (λb ob hb e=>(sb.2 b hb).trans e) f0 f1 f3 f4 f5;obtain⟨ob,e,c,d⟩:=id xh;exact⟨_,rfl,yZ (s:={s with heap:=h'}) e c d (by decide) ⟨p.2,H,I1,r3,⟨rfl,p.1,hp⟩,xh,λb hb=>(hf b hb).1⟩⟩
 done:=by
  intro X hP hw hK hc i aa s σ H E I hf st hg;subst hP hw hK;obtain⟨f0,f1,f2,f3,f4,f5⟩:=hf it (by simp);obtain⟨g1,g2⟩:=hg;obtain⟨ho,_⟩:=(show bO X.prog X.w H s.heap a (.eQ o (.dT ah)) from I.bJ a _ g1);exact DK (I.ok.hd hc) st ho dt ∅ λh' eb=>⟨rfl,I.turned (t':=s.toks) (λb o hb e=>eb b o hb e) f0 f1 f3 f4 f5⟩
 self:=λ_ _ _ _ _ st h=>wpAny_pyIter_valiter st h
section
variable {X:Cx} {tg:Expr}
def Rh(te:TE):TI:=λσ H R=>te σ H λv H1=>∃a ah,v=.ref a/\((H1 a=some (.dT ah)/\∀o,R (Pu a o ah) (upd H1 a (.eQ o (.dT ah))))\/∃o,H1 a=some (.eQ o (.dT ah))/\R (Pu a o ah) H1)
theorem HC{aa:List (Addr×Obj)}{σ:St}{H:Hp}{s:Shared}{R:It->Hp->Prop}{a:Addr}{o:Obj}{ah:List (List bH×V)}(I:Inv X aa σ H s)(e:H a=some (.eQ o (.dT ah)))(q:R (Pu a o ah) H):wpAny (model X.prog X.w) X.A (call (.builtin "dict.values") [.ref a]) (λv s1=>wpAny (model X.prog X.w) X.A (pyIter v) (Ui X aa σ tg R) X.xe s1) X.xe s:=by
 obtain⟨ho,hz,hs,xs,pr,o2,es,ep,h1,h2,h3,h4,h5⟩:=(show bO X.prog X.w H s.heap a (.eQ o (.dT ah)) from I.bJ a _ e);obtain rfl:o2=o:=cg (h1.symm.trans ho);have hl:es.size=ah.length:=by rw[u_ pr,<- nF,h4,aB]
 refine call_meetsIn PySem.F.slot_dict_values ⟨_,ho,h2.1⟩ PySem.F.entry_dict_values (PySem.F.args_dict_values_1 _) (xD hs) ⟨⟨_,ho,h2⟩,?_⟩;have I1:=I.kept (t':=s.toks) (h':=s.heap.push {cls:=.type "dict_values",data:=.fields #[.ref a]}) λb o e=>bz _ e;have WY:(s.heap.push {cls:=.type "dict_values",data:=.fields #[.ref a]}).objs.size=s.heap.objs.size+1:=by simp
 refine BD (s:={s with heap:=s.heap.push {cls:=.type "dict_values",data:=.fields #[.ref a]}}) ⟨_,dP _ rfl,rfl,rfl⟩ (bz _ ho) h3 ?_;refine⟨_,[_],_,_,H,rfl,I1.kept (t':=s.toks) λb o e=>bz _ e,BF _ a o2 ah es ep h3 hl,⟨_,dP _ rfl,rfl,rfl⟩,λb hb=>?_,q⟩;obtain rfl:=gj.mp hb;exact I1.Bd (aI _) (I1.bJ.fresh (aI _))
theorem HD{o:Expr}{ap cp:Pos}{te:TE}(he:PE X o te) (uR:attributeBase o "values" X.env (eval o X.env)=eval o X.env) (uS:(ap.endLine==cp.line)=true):PI X tg (.Call (.Attribute o "values" ap) [] [] cp) (Rh te):=by
 intro aa s σ H R I h;refine wpAny_Call_method0_late uR uS (cJ (he aa s σ H _ I h) ?_);rintro v s1 ⟨x,H1,I1,r1,a,ah,ex,q⟩;subst ex;cases r1
 have i_:∀{H2:Hp}{o:Obj},Inv X aa σ H2 s1->H2 a=some (.eQ o (.dT ah))->R (Pu a o ah) H2->MethodOn X.prog X.w X.A "values" cp (.ref a) [] (λv s1=>wpAny (model X.prog X.w) X.A (pyIter v) (Ui X aa σ tg R) X.xe s1) X.xe s1:=λ{H2 o} I2 e2 q2=>by
  obtain⟨ho,hz,hs,xs,pr,o2,es,ep,h1,h2,h3,h4,h5⟩:=(show bO X.prog X.w H2 s1.heap a (.eQ o (.dT ah)) from I2.bJ a _ e2);refine⟨"dict","dict.values",PySem.F.plainAttrs_dict,PySem.F.slot_dict_values,PySem.F.type_dict_values,⟨_,h1,h2.1⟩,λb hb=>?_,K8 rfl (PySem.evalArgs_none (HC I2 e2 q2))⟩;cases hb;exact⟨_,h1,h2.2.1⟩
 rcases q with⟨e,q⟩|⟨o,e,q⟩
 ·obtain⟨o,I2⟩:=I1.freeze e;exact i_ I2 bt (q o)
 ·exact i_ I1 e q
noncomputable def insI(i:Int):List Int->List Int
 | []=>[i]
 | j::js=>if i<=j then i::j::js else j::insI i js
def fi:List Int->List Int
 | []=>[]
 | i::is=>insI i (fi is)
theorem og:∀{is:List Int},(insI i is).Perm (i::is)
 | []=>List.Perm.refl _
 | j::js=>by
  unfold insI;split
  ·exact List.Perm.refl _
  ·exact((og (i:=i) (is:=js)).cons j).trans (List.Perm.swap i j js)
theorem dS:∀{is:List Int},(fi is).Perm is
 | []=>List.Perm.refl _
 | i::is=>og.trans ((dS (is:=is)).cons i)
theorem oh:∀{is:List Int},is.Pairwise (·<=·)->(insI i is).Pairwise (·<=·)
 | [],_=>List.pairwise_singleton _ _
 | j::js,h=>by
  unfold insI;rw[rB]at h;split
  ·rename_i Ri
   refine rB.mpr ⟨λx hx=>?_,rB.mpr h⟩;rcases bU.mp hx with rfl | hx
   ·exact Ri
   ·have:=h.1 x hx;omega
  ·rename_i Ri
   refine rB.mpr ⟨λx hx=>?_,oh h.2⟩;rcases bU.mp (og.mem_iff.mp hx)with rfl | hx
   ·omega
   ·exact h.1 x hx
theorem fG:∀{is:List Int},(fi is).Pairwise (·<=·)
 | []=>.nil
 | i::is=>oh (fG (is:=is))
theorem g8:∀{a b:List Int},a.Perm b->a.Pairwise (·<=·)->b.Pairwise (·<=·)->a=b
 | [],b,p,_,_=>(List.Perm.nil_eq p)
 | x::a,[],p,_,_=>absurd p.length_eq (by simp)
 | x::a,y::b,p,ha,hb=>by
  rw[rB]at ha hb
  have h1:x=y:=by
   rcases bU.mp (p.mem_iff.mp dC)with e | e
   ·exact e
   ·rcases bU.mp (p.mem_iff.mpr dC)with e2 | e2
    ·exact e2.symm
    ·have:=ha.1 y e2;have:=hb.1 x e;omega
  subst h1;rw[g8 (List.Perm.cons_inv p) ha.2 hb.2]
theorem om:∀{is:List Int}{aG:List Value},aS (is.map V.int) aG->IntsAre aG is
 | [],_,.nil=>.nil
 | i::is,_,.cons r t=>by
  obtain⟨u,rfl⟩:=r;exact .cons _ _ (om t)
theorem oo:∀{is:List Int}{aG:List Value},IntsAre aG is->aS (is.map V.int) aG
 | _,_,.nil=>.nil
 | _,_,.cons _ _ t=>.cons ⟨_,rfl⟩ (oo t)
theorem vc:dM X (.builtin "sorted") (λxs H Q=>∃p is,xs=[.ref p]/\fK X.K H p (is.map V.int)/\is.length<64/\∀l,H l=none->Q (.ref l) (upd H l (.lst ((fi is).map V.int)))):=by
 intro aa s σ H xs us Q I r h;obtain⟨p,is,rfl,hq,Rj,q⟩:=h;obtain⟨u,rfl,rx⟩:=vals1 r;cases rx;obtain⟨aG,r',pl,hz⟩:=I.list hq;have aY:=r'.length;rw[aB]at aY;refine sorted_ints pl.isList (om r') ∅ λout WZ a1 a2 a3=>?_;obtain⟨c',e⟩:=sortedAll_at s.heap aG out;have hs:WZ=fi is:=g8 (a2.trans dS.symm) a3 fG;subst hs;refine⟨.ref (s.heap.objs.size+1),_,I.laid (t':=s.toks) (λb o e=>sortedAll_old e) (uu _) (show bO X.prog X.w _ _ _ (.lst ((fi is).map V.int)) from ⟨?_,out.toList,c',oo a1,by simpa using e⟩),rfl,q _ (I.bJ.fresh (uu _))⟩;rw[aB,dS.length_eq];exact dr (nM Rj) (by decide)
end
end L2
end
section
namespace L2
open PySem PySem.Spec PyProof.Rows
def BG(xs:Array Nat):Prop:=xs.toList.Pairwise (· < ·)
structure Tb (t:SetTable):Prop where
 YT:BG t.place
 W0:t.dummies=#[]
theorem BG.lt(h:BG xs){i j x y:Nat}(hi:xs[i]?=some x)(hj:xs[j]?=some y)(l:i<j):x<y:=by
 have a:xs.toList[i]?=some x:=by rw[nz];exact hi
 have b:xs.toList[j]?=some y:=by rw[nz];exact hj
 obtain⟨h1,e1⟩:=bq.mp a;obtain⟨h2,e2⟩:=bq.mp b;rw[<- e1,<- e2];exact Gx.mp h i j h1 h2 l
theorem oq(r:BG xs)(j:Nat):∀(f lo hi:Nat),hi-lo<=f->lo<=hi->hi<=xs.size->(∀i x,i<lo->xs[i]?=some x->x<j)->(∀i x,hi<=i->xs[i]?=some x->j<=x)->(SetTable.below.go xs j f lo hi<=xs.size/\(∀i x,i<SetTable.below.go xs j f lo hi->xs[i]?=some x->x<j)/\∀i x,SetTable.below.go xs j f lo hi<=i->xs[i]?=some x->j<=x)
 | 0,lo,hi,hf,hl,hs,a,b=>by
  have:lo=hi:=∅;subst this;exact⟨hs,a,b⟩
 | f+1,lo,hi,hf,hl,hs,a,b=>by
  unfold SetTable.below.go;split
  ·rename_i lt
   dsimp only;have hm:(lo+hi) / 2<xs.size:=∅;have hx:xs[(lo+hi) / 2]?=some xs[(lo+hi) / 2]:=mE hm;have hd:xs.getD ((lo+hi) / 2) j=xs[(lo+hi) / 2]:=by simp[Array.getD,hm]
   by_cases c:xs.getD ((lo+hi) / 2) j<j
   ·simp only[aw c];rw[hd]at c;refine oq r j f ((lo+hi) / 2+1) hi ∅ ∅ hs (λi x h e=>?_) b;rcases ir i ((lo+hi) / 2)with q | q
    ·exact CV (r.lt e hx q) c
    ·have:i=(lo+hi) / 2:=∅;subst this;rw[hx]at e;cases e;exact c
   ·simp only[az c];rw[hd]at c;refine oq r j f lo ((lo+hi) / 2) ∅ ∅ ∅ a λi x h e=>?_;rcases ir ((lo+hi) / 2) i with q | q
    ·exact nM (Lf (Nat.not_lt.mp c) (r.lt hx e q))
    ·have:i=(lo+hi) / 2:=∅;subst this;rw[hx]at e;cases e;exact Nat.not_lt.mp c
  ·rename_i lt
   have:lo=hi:=∅;subst this;exact⟨hs,a,b⟩
theorem vd(r:BG xs)(j:Nat):SetTable.below xs j<=xs.size/\(∀i x,i<SetTable.below xs j->xs[i]?=some x->x<j)/\∀i x,SetTable.below xs j<=i->xs[i]?=some x->j<=x :=
 oq r j xs.size 0 xs.size ∅ (lr _) (aI _) (λi x h=>absurd h (Nat.not_lt_zero _)) λi x h e=>absurd (Array.getElem?_eq_some_iff.mp e).1 ∅
theorem BG.insert(r:BG xs){j:Nat}(n:xs[SetTable.below xs j]?≠some j):BG (SetTable.insertAt xs (SetTable.below xs j) j):=by
 obtain⟨h1,h2,h3⟩:=vd r j;unfold BG;rw[SetTable.toList_insertAt]
 have ta:∀x∈xs.toList.take (SetTable.below xs j),x<j:=λx hx=>by
  obtain⟨i,hi,e⟩:=rn.mp hx;rw[gW]at hi;rw[List.getElem_take]at e;exact h2 i x ∅ (by rw[<- nz,bx ∅,e])
 have tb:∀x∈xs.toList.drop (SetTable.below xs j),j<x:=λx hx=>by
  obtain⟨i,hi,e⟩:=rn.mp hx;rw[GK]at hi;rw[List.getElem_drop]at e;have ex:xs[SetTable.below xs j+i]?=some x:=by rw[<- nz,bx ∅,e]
  have le:=h3 _ x (Nat.le_add_right _ _) ex;rcases ir j x with q | q
  ·exact q
  ·have:x=j:=∅;subst this
   cases i with
   | zero=>exact absurd ex n
   | succ i =>
    have hb:SetTable.below xs x<xs.size:=by have:=(Array.getElem?_eq_some_iff.mp ex).1;omega
    have eb:=mE hb;exact absurd (r.lt eb ex ∅) (by have:=h3 _ _ (aI _) eb;omega)
 refine List.pairwise_append.mpr ⟨List.Pairwise.sublist (Lh _ _) r,rB.mpr ⟨tb,List.Pairwise.sublist (List.drop_sublist _ _) r⟩,λa ha b hb=>?_⟩;rcases bU.mp hb with rfl | hb
 ·exact ta a ha
 ·exact CV (ta a ha) (tb b hb)
theorem Tb.slot(h:Tb t)  : t.slot j=.empty/\t.place[SetTable.below t.place j]?≠some j\/∃i,t.slot j=.live i:=by
 have hz:SetTable.has t.dummies j=false:=by
  rw[h.W0];unfold SetTable.has;simp
 unfold SetTable.slot;dsimp only;split
 ·exact .inr ⟨_,rfl⟩
 ·rename_i c
  rw[hz];exact .inl ⟨rfl,λe=>c (by rw[e];exact beq_self_eq_true _)⟩
theorem ve(ti:Tb t)  : ∀(f:Nat)(p:SetTable.Probe),p.dummy=none->SetTable.probe.go t (λ_=>h+1) h f p=some (.empty j d)->d=none/\t.place[SetTable.below t.place j]?≠some j
 | 0,p,hp,e=>by unfold SetTable.probe.go at e;cases e
 | f+1,p,hp,e=>by
  unfold SetTable.probe.go at e
  have adv:(t.advance p).dummy=none:=by
   unfold SetTable.advance;split
   ·exact hp
   ·exact hp
  rcases ti.slot (j:=p.j)with⟨z,q⟩|⟨i,z⟩
  ·rw[z]at e;dsimp only at e;cases e;exact⟨hp,q⟩
  ·rw[z]at e;dsimp only at e;have hb:(h+1==h)=false:=by rw[pV];omega
   rw[hb]at e;exact ve ti f _ adv e
theorem Tb.free(ti:Tb t)(e:t.freeSlot h=some (sl,b)):t.place[SetTable.below t.place sl]?≠some sl:=by
 unfold SetTable.freeSlot at e;split at e
 ·rename_i j d q
  obtain⟨rfl,n⟩:=ve ti _ _ rfl q;cases e;exact n
 ·cases e
theorem BH(n:Nat):BG (Array.range n):=by
 unfold BG;rw[Array.toList_range];exact List.pairwise_lt_range
theorem kA(t:SetTable)(n:Nat):Tb (t.standIn n):=⟨BH n,rfl⟩
theorem Mr(ti:Tb t)(es:Array (Int×Value))(h:Int)(x:Value):Tb (layNew t es h x).2.1/\(layNew t es h x).2.1.led=t.led:=by
 unfold layNew;split
 ·rename_i sl b e
  dsimp only;have hz:SetTable.has t.dummies sl=false:=by rw[ti.W0];unfold SetTable.has;simp
  have tp:Tb (t.put sl).1/\(t.put sl).1.led=t.led:=by
   unfold SetTable.put;dsimp only;refine⟨⟨ti.YT.insert (ti.free e),?_⟩,rfl⟩;dsimp only;rw[hz];exact ti.W0
  unfold SetTable.orStandIn;split
  ·exact tp
  ·exact⟨kA _ _,tp.2⟩
 ·exact⟨kA _ _,rfl⟩
theorem DL(t:SetTable)(es:Array (Int×Value))(n:Nat):Tb (relayAll t es n).2.1/\(relayAll t es n).2.1.led=t.led:=by
 unfold relayAll;split
 ·rename_i t' order e
  dsimp only;split
  ·unfold SetTable.relaid SetTable.laid at e
   cases q:SetTable.layClean (SetTable.sizeAbove n-1) (es.map (·.1))with
   | none=>rw[q]at e;cases e
   | some ow =>
    rw[q]at e;cases e;refine⟨⟨?_,rfl⟩,rfl⟩;unfold BG;dsimp only;rw[List.map_filterMap];refine List.Pairwise.filterMap _ (λa a' lt b hb b' zg=>?_) List.pairwise_lt_range
    cases qa:ow.getD a none with
    | none=>rw[qa]at hb;cases hb
    | some _ =>
     cases qb:ow.getD a' none with
     | none=>rw[qb]at zg;cases zg
     | some _ =>
      rw[qa]at hb;rw[qb]at zg;cases hb;cases zg;exact lt
  ·exact⟨kA _ _,rfl⟩
 ·exact⟨kA _ _,rfl⟩
noncomputable def eM(prog:Program)(w:World)(h:Heap)(a:Addr)(led:Bool)(L:List Int):Prop :=
 ∃o es ep t,h.get? a=some o/\o.ExactSet/\o.data=.set es ep t/\ElemsOf (intKind prog w) es.toList/\(∀k,k∈L↔∃e∈es.toList,(intKind prog w).is k e.2=true)/\es.size<scanBound/\t.fits es.size=true/\es.size=L.length/\Tb t/\t.led=led
noncomputable def gI(L:List Int)(k:Int):List Int:=if k∈L then L else L++[k]
section
variable {prog:Program} {w:World} {A:Around} {E:Value->Shared->Prop} {s:Shared} {a:Addr} {led:Bool} {L:List Int}
theorem zm{h:Heap}{o:Obj}{es iw:Array (Int×Value)}{ep:Nat}{t t':SetTable}(ho:h.get? a=some o)(sx:o.ExactSet)(hd:o.data=.set es ep t)(x1:ElemsOf (intKind prog w) iw.toList)(x2:∀k,k∈L↔∃e∈iw.toList,(intKind prog w).is k e.2=true)(x3:iw.size<scanBound)(x4:t'.fits iw.size=true)(x5:iw.size=L.length)(x6:Tb t')(x7:t'.led=led):∃o',(h.update a (Obj.putSet iw t')).get? a=some o'/\o'.ExactSet/\o'.data=.set iw (ep+1) t'/\eM prog w (h.update a (Obj.putSet iw t')) a led L:=by
 have hg:=pT (Obj.putSet iw t') ho (by rw[putSet_of iw t' hd];rfl);rw[putSet_of iw t' hd]at hg;exact⟨_,hg,sx,rfl,_,iw,ep+1,t',hg,sx,rfl,x1,x2,x3,x4,x5,x6,x7⟩
theorem vf{g:Bool->Sem Unit}(hg:∀(b:Bool)(bo:Shared)(Q:Unit->Shared->Prop),Q () bo->wpAny (model prog w) A (g b) Q E bo){o:Obj}{es iw:Array (Int×Value)}{ep:Nat}{t t':SetTable}{wd:Bool}{R:Option Bool->Shared->Prop}(ho:s.heap.get? a=some o)(sx:o.ExactSet)(hd:o.data=.set es ep t)(x1:ElemsOf (intKind prog w) iw.toList)(x2:∀k,k∈L↔∃e∈iw.toList,(intKind prog w).is k e.2=true)(x3:iw.size<scanBound)(x4:t'.fits iw.size=true)(x5:iw.size=L.length)(x6:Tb t')(x7:t'.led=led)(h:∀h',Heap.SameBut a s.heap h'->eM prog w h' a led L->R (some true) {s with heap:=h'}):wpAny (model prog w) A (storeSet a iw t' >>= λ_=>if (!wd&&t'.tooFull)=true then (g (relayAll t' iw (SetTable.grown iw.size)).2.2 >>= λ_=>storeSet a (relayAll t' iw (SetTable.grown iw.size)).1 (relayAll t' iw (SetTable.grown iw.size)).2.1 >>= λ_=>pure (some true)) else pure (some true)) R E s:=by
 obtain⟨o1,e1,z1,d1,i1⟩:=zm (prog:=prog) (w:=w) ho sx hd x1 x2 x3 x4 x5 x6 x7;refine ag (wpAny_storeSet_of ho hd ?_ (GH x3));have b1:=kg s.heap a (Obj.putSet iw t');split
 ·have p:=relayAll_perm t' iw (SetTable.grown iw.size);have sz:(relayAll t' iw (SetTable.grown iw.size)).1.size=iw.size:=by rw[<- nF,p.length_eq,nF]
  have ti:=DL t' iw (SetTable.grown iw.size);obtain⟨_,_,_,_,i2⟩:=zm (prog:=prog) (w:=w) (L:=L) (led:=led) e1 z1 d1 (x1.perm p) (λk=>(x2 k).trans ⟨λ⟨e,he,q⟩=>⟨e,p.mem_iff.mpr he,q⟩,λ⟨e,he,q⟩=>⟨e,p.mem_iff.mp he,q⟩⟩) (by rw[sz];exact x3) (relayAll_fits _ _ _) (by rw[sz];exact x5) ti.1 (ti.2.trans x7);refine ag (hg _ _ _ (ag (wpAny_storeSet_of e1 d1 (aA (h _ (b1.trans (kg _ a _)) i2)) (GH (by rw[sz];exact x3)))))
 ·exact aA (h _ b1 i1)
theorem HE{k:Int}{u:Tok}{Q:Bool->Shared->Prop}(hS:eM prog w s.heap a led L)(hr:L.length+1<scanBound)(h:∀b h',Heap.SameBut a s.heap h'->eM prog w h' a led (gI L k)->Q b {s with heap:=h'}):wpAny (model prog w) A (setAddHashed a (.int k u) ((intKind prog w).hash k)) Q E s:=by
 obtain⟨o,es,ep,t,ho,sx,hd,x1,x2,x3,x4,x5,x6,x7⟩:=id hS;have hk:(intKind prog w).is k (.int k u)=true:=intKind_is _ _ _ _;unfold setAddHashed setAddHashedIn;refine kj (ag (AK ho hd x4 ?_));dsimp only;rw[byScan_of (knd:=intKind prog w) rfl x3 x1,aw rfl];unfold setAddByScan;refine ag (ag (rK (ag (wpAny_setScan_of (knd:=intKind prog w) hk ho hd x4 x1 ?_))))
 cases q:es.toList.findIdx? (λe=>(intKind prog w).is k e.2)with
 | some j =>
  obtain⟨hj,pj,_⟩:=P8.mp q;have Qd:k∈L:=(x2 k).mpr ⟨_,rF hj,pj⟩;dsimp only;refine aA (aA ?_);have:=h false s.heap (Heap.SameBut.refl a s.heap) (by unfold gI;rw[aw Qd];exact hS);exact this
 | none =>
  have W2:k∉L:=λz=>by
   obtain⟨e,he,p⟩:=(x2 k).mp z;have:=List.findIdx?_eq_none_iff.mp q e he;rw[p]at this;cases this
  dsimp only;have pm:=layNew_perm t es ((intKind prog w).hash k) (.int k u);have ft:=layNew_fits t es ((intKind prog w).hash k) (.int k u);have ti:=Mr x6 es ((intKind prog w).hash k) (.int k u);generalize layNew t es ((intKind prog w).hash k) (.int k u)=N at pm ft ti⊢;obtain⟨Rk,t1,wd,gv⟩:=N;dsimp only at pm ft ti⊢;rw[Array.toList_push]at pm;have y1:ElemsOf (intKind prog w) Rk.toList:=(x1.push hk rfl).perm pm;have sz:Rk.size=es.size+1:=by rw[<- nF,pm.length_eq,cC,nF];rfl
  have y2:∀k',k'∈L++[k]↔∃e∈Rk.toList,(intKind prog w).is k' e.2=true:=λk'=>by
   rw[cj,gj,x2 k'];constructor
   ·rintro(⟨e,he,p⟩ | rfl)
    ·exact⟨e,pm.mem_iff.mpr (GB _ he),p⟩
    ·exact⟨_,pm.mem_iff.mpr (mG _ (gj.mpr rfl)),hk⟩
   ·rintro⟨e,he,p⟩;rcases cj.mp (pm.mem_iff.mp he)with he | he
    ·exact .inl ⟨e,he,p⟩
    ·rw[gj]at he;subst he;exact .inr ((intKind prog w).inj _ k' k p hk)
  have fin:∀h',Heap.SameBut a s.heap h'->eM prog w h' a led (L++[k])->Q true {s with heap:=h'}:=λh' b i=>h true h' b (by unfold gI;rw[az W2];exact i)
  have gw:∀(b:Bool)(bo:Shared)(Q':Unit->Shared->Prop),Q' () bo->wpAny (model prog w) A (match b with | true=>rule "set.scan.the-table-gave-way" | false=>pure ()) Q' E bo:=λb bo Q' z=>by
   cases b
   ·exact aA z
   ·exact rK z
  have y5:Rk.size=(L++[k]).length:=by rw[sz,x5,cC];rfl
  refine ag (gw _ _ _ ?_);split
  ·rw[hashByValue_scannable 8 (x:=.int k u) rfl];refine ag (aA ?_);show wpAny _ _ (storeSet a Rk t1 >>= _) _ _ _;exact vf (L:=L++[k]) (led:=led) (λb bo Q' z=>by cases b<;>first | exact aA z | exact rK z) ho sx hd y1 y2 ∅ ft y5 ti.1 (ti.2.trans x7) λh' b i=>aA (fin h' b i)
  ·refine ag (aA ?_);exact vf (L:=L++[k]) (led:=led) (λb bo Q' z=>by cases b<;>first | exact aA z | exact rK z) ho sx hd y1 y2 ∅ ft y5 ti.1 (ti.2.trans x7) λh' b i=>aA (fin h' b i)
end
end L2
end
section
namespace L2
open PySem PySem.Spec PyProof.Rows
def vg(val:Nat->Int):Nat->Nat->List Int->List Int
 | 0,_,L=>L
 | k+1,i,L=>vg val k (i+1) (gI L (val i))
theorem eM.keep(x:eM prog w h a led L)(k:∀o,h.get? a=some o->h'.get? a=some o):eM prog w h' a led L:=by
 obtain⟨o,es,ep,t,ho,r⟩:=x;exact⟨o,es,ep,t,k o ho,r⟩
theorem DM(L:List Int)(k:Int):(gI L k).length<=L.length+1:=by
 unfold gI;split
 ·exact uu _
 ·rw[cC];exact aI _
section
variable {prog:Program} {w:World} {A:Around} {R:Result->Shared->Prop} {I S:Addr} {fp wr:List Addr} {G:Array GenState->Array GenState->Prop} {n:Nat} {P:Nat->Value->Prop} {St:Nat->Shared->Prop} {led:Bool}
theorem vh (W : WalksS prog w A.in1 I fp wr G n P St) (nS : S ∉ fp) (val : Nat -> Int) (BB : ∀ i v, P i v -> ∃ t, v = .int (val i) t) (hb : n + 1 < scanBound) : ∀ (k i : Nat) (s : Shared) (L : List Int), i + k = n -> St i s -> eM prog w s.heap S led L -> L.length <= i ->
      (∀s',Moved (S::wr) G s s'->eM prog w s'.heap S led (vg val k i L)->R (.ok (.ret .none)) s')->codeAny (model prog w) A (.builtin "set.update.loop" ⟨[.ref S,.ref I],[]⟩) R s
  | 0,i,s,L,e,st,x,hl,fin=>by
    have e:i=n:=e;subst e;refine um F.entry_set_update_loop ?_;rw[wN F.plain_set_update_loop _];show wpAny _ A.in1 (pyNext (.ref I) >>= _) _ _ s;refine ag (W.done s _ _ st λs1 mv=>?_);show wpAny _ A.in1 (ret Value.none) _ _ s1;exact aA (fin s1 (mv.mono λb q=>dq _ q) (x.keep λo q=>mv.heap S o (λz=>nS (W.sub _ z)) q))
  | k+1,i,s,L,e,st,x,hl,fin=>by
    refine um F.entry_set_update_loop ?_;rw[wN F.plain_set_update_loop _];show wpAny _ A.in1 (pyNext (.ref I) >>= _) _ _ s;refine ag (W.item i s _ _ ∅ st λv s1 pv Rc mv=>?_);obtain⟨t,rfl⟩:=BB i v pv;have x1:eM prog w s1.heap S led L:=x.keep λo q=>mv.heap S o (λz=>nS (W.sub _ z)) q;show wpAny _ A.in1 (holding [Value.int (val i) t] (setAdd S (.int (val i) t)) >>= _) _ _ s1;refine ag (kj ?_);unfold setAdd;refine kj (ag ((intKind prog w).pyHash (k:=val i) (intKind_is _ _ _ _) ?_));refine HE (s:={s1 with toks:=s1.toks+1}) x1 ∅ λb h' sb x2=>?_;refine aA ⟨w8 F.plain_set_update_loop _,vh W nS val BB hb k (i+1) _ (gI L (val i)) ∅ (W.frame _ s1 _ _ Rc (uu _) λc hc o q=>?_) x2 (dr (DM _ _) (Nat.succ_le_succ hl)) λs2 mv2 x3=>?_⟩
    · rw[sb.2 c λz=>nS (z▸hc)];exact q
    · refine fin s2 (Moved.trans W.gtrans ((mv.mono λb q=>dq _ q).then_heap (uu _) λc o hc q=>?_) mv2) x3;rw[sb.2 c λz=>hc (z▸dC)];exact q
end
section
variable {prog:Program} {w:World} {A:Around} {E:Value->Shared->Prop} {s:Shared}
abbrev d6(led:Bool):Obj:={cls:=.type "set",dict:=none,data:=.set #[] 0 (.fresh 0 0 led)}
theorem HF(b:Value){Q:Value->Shared->Prop} (h:Q (.ref s.heap.objs.size) {s with heap:=s.heap.push (d6 (!w.params.followText "set-order"))}):codeAny (model prog w) A (.call (.builtin "set.__new__") ⟨[.type "set",b],[]⟩) (wants Q E) s:=by
 refine codeAny_of_tree ?_;show wpAny _ A.in1 (checkBuiltinCall "set.__new__" ⟨[.type "set",b],[]⟩ >>= λ_=>again (.builtin "set.__new__" ⟨[.type "set",b],[]⟩)) _ _ s;refine ag (wpAny_of_eq (F.newCall_set_1 b) (aA ⟨w8 F.plain_set_new _,um F.entry_set_new ?_⟩));rw[wN F.plain_set_new _];unfold Builtin.«set.__new__» Builtin.Frozenset.newClass;have z:=sub_set_self;obtain⟨hp,g,d,tk,os⟩:=s;dsimp only
 wp_walk
 refine AR (aA ?_);dsimp only;simp only[newObj];exact ag (wpAny_alloc (aA (aA h)))
theorem BI(g:h.get? a=some (d6 led)):eM prog w h a led [] :=
 ⟨_,#[],0,_,g,⟨rfl,rfl,rfl⟩,rfl,λe he=>by simp at he,λk=>by simp,by decide,rfl,rfl,⟨List.Pairwise.nil,rfl⟩,rfl⟩
theorem DN(hh:A.handled=none)(hl:s.heap.IsList l items)(hi:IntsAre items.toList ns)(hb:items.size+1<scanBound)(h:∀h' tk,eM prog w h' s.heap.objs.size led (vg (λi=>ns.getD i 0) items.size 0 [])->(∀b o,s.heap.get? b=some o->h'.get? b=some o)->Q .none {s with heap:=h',toks:=tk}):codeAny (model prog w) A (.call (.builtin "set.__init__") ⟨[.ref s.heap.objs.size,.ref l],[]⟩) (wants Q E) {s with heap:=s.heap.push (d6 led)}:=by
 have gS:(s.heap.push (d6 led)).get? s.heap.objs.size=some (d6 led):=dP _ rfl;have hT:Shared.TypeIs {s with heap:=s.heap.push (d6 led)} (.ref s.heap.objs.size) "set" := ⟨_,gS,rfl⟩;refine codeAny_call_builtin ur.init.plain F.entry_set_init (check_set_init_1 hT ?_);obtain⟨⟨oc,od,odt,J_⟩,ho,hc,nl,hd⟩:=id hl;simp only at hc hd;subst hc;subst hd;have DI:=bz (d6 led) ho;have BJ:(s.heap.push (d6 led)).IsList l items:=⟨_,DI,rfl,nl,rfl⟩;have z1:=F.sub_list_set;have z2:=F.sub_list_frozenset;have z3:(Value.type "list" == Value.type "dict")=false:=by decide
 unfold Builtin.«set.__init__» noKeywords Builtin.Frozenset.updateFrom;generalize hp:pyIter=PI
 wp_walk
 subst hp;refine wpAny_pyIter_list BJ (ag (wpAny_runValue ?_));have lt:l<s.heap.objs.size:=cv ho;have e2:(s.heap.push (d6 led)).objs.size=s.heap.objs.size+1:=nK _ _;refine vh (led:=led) (S:=s.heap.objs.size) (I:=(s.heap.push (d6 led)).objs.size) (Walks.list (prog:=prog) (w:=w) (by simp[hh]) (s.heap.push (d6 led)).objs.size l (by rw[e2];exact cH (jq lt)) items).toS (by rw[e2];simp only[bU,rE,fP,not_or];exact⟨cH (ju _),pY lt⟩) (λi=>ns.getD i 0) (λi v q=>IntsAre.int_at hi i v (by rw[nz];exact q)) hb items.size 0 _ [] (Nat.zero_add _) ⟨⟨_,dP _ rfl,rfl,rfl⟩,BJ.push _⟩ (BI (bz _ gS)) (aI _) λs1 mv x=>?_;obtain⟨h1,g1,d1,t1,o1⟩:=s1;have q1:g1=s.gens:=mv.gens;have q2:d1=s.drawn:=mv.drawn;have q3:o1=s.os:=mv.os;subst q1 q2 q3;show wpAny _ _ _ _ _ _;refine aA ?_;show wpAny _ _ (ret Value.none) _ _ _;refine aA (h h1 t1 x λb o q=>mv.heap b o ?_ (bz _ (bz _ q)));have q4:b<s.heap.objs.size:=cv q;rw[e2];simp only[bU,rE,fP,not_or];exact⟨cH q4,cH (jq q4)⟩
theorem DO(hh:A.handled=none)(hl:s.heap.IsList l items)(hi:IntsAre items.toList ns)(hb:items.size+1<scanBound) (h:∀h' tk,eM prog w h' s.heap.objs.size (!w.params.followText "set-order") (vg (λi=>ns.getD i 0) items.size 0 [])->(∀b o,s.heap.get? b=some o->h'.get? b=some o)->Q (.ref s.heap.objs.size) {s with heap:=h',toks:=tk}):wpAny (model prog w) A (call (.type "set") [.ref l]) Q E s:=by
 obtain⟨c,tl,f1⟩:=ur.mro;have f2:=ur.made;have f3:=ur.sub;have f4:=ur.notType;have f5:=ur.canCreate;have f6:=F.typeCall_set_1 (.ref l);refine wpAny_call (codeAny_of_tree ?_);show wpAny _ _ (callAny (.type "set") _) _ _ _;refine aA ⟨Code.quiet_builtin _ ⋯,um F.entry_type_call ?_⟩;rw[Around.under_plain (weight_type_call_type "set" [.ref l] []) rfl]
 repeat (any_goals (first | assumption | wp_step))
 refine CU (HF (.ref l) (E:=E) (Q:=λv bo=>v=.ref s.heap.objs.size/\bo={s with heap:=s.heap.push (d6 (!w.params.followText "set-order"))}) ⟨rfl,rfl⟩) λr bo hr=>?_
 cases r with
 | error e=>exact hr
 | ok fl =>
  cases fl with
  | ret v =>
   obtain⟨rfl,rfl⟩:=hr;have gS:(s.heap.push (d6 (!w.params.followText "set-order"))).get? s.heap.objs.size=some (d6 (!w.params.followText "set-order")):=dP _ rfl;have hT:Shared.TypeIs {s with heap:=s.heap.push (d6 (!w.params.followText "set-order"))} (.ref s.heap.objs.size) "set" := ⟨_,gS,rfl⟩;have f7:=ur.init.lookup;have f8:=ur.init.bind (.ref s.heap.objs.size)
   repeat (any_goals (first | assumption | wp_step))
   refine CU (DN (A:=A.in1) (E:=E) (led:=!w.params.followText "set-order") (Q:=λv bo=>v=.none/\∃h' tk,bo={s with heap:=h',toks:=tk}/\eM prog w h' s.heap.objs.size (!w.params.followText "set-order") (vg (λi=>ns.getD i 0) items.size 0 [])/\∀b o,s.heap.get? b=some o->h'.get? b=some o) (by simp[hh]) hl hi hb λh' tk x k=>⟨rfl,h',tk,rfl,x,k⟩) λr bo hr=>?_
   cases r with
   | error e=>exact hr
   | ok fl =>
    cases fl with
    | ret v =>
     obtain⟨rfl,h',tk,rfl,x,k⟩:=hr
     repeat (any_goals (first | assumption | wp_step))
     exact h h' tk x k
    | _=>exact hr.elim
  | _=>exact hr.elim
end
end L2
end
section
namespace L2
open PySem PySem.Spec PyProof.Rows
theorem zo:Manifest.owners.lookup (String.ofList "rotareti_tes".toList.reverse)=some Manifest.sig_set_iterator:=nofun
theorem dU:Slot "set_iterator" "__next__" "set_iterator.__next__" :=
 .of (owner := "set_iterator") (n := "__next__") (by rw[typeLookup_type,La];kernel_rfl) ⋯ ⋯ ⋯
  (by first | exact .inl ⋯ | exact .inr ⋯) (by rw[isSubtype_type];kernel_rfl)
theorem mS:entryFor table "set_iterator.__next__" = some Builtin.«set_iterator.__next__»:=entryFor_of_tree (nofun)
theorem kB(a:Value):argsOk "set_iterator.__next__" ⟨[a],[]⟩:=by
 unfold argsOk;rw[signature?_of (id := "set_iterator.__next__") (n := "__txen__".toList) (o := "rotareti_tes".toList) (nofun) zo];kernel_rfl
theorem BK:entryFor table "set.__iter__" = some Builtin.«frozenset.__iter__»:=entryFor_alias (id' := "frozenset.__iter__") (nofun) rfl ⋯ (nofun)
noncomputable def zp(h:Heap)(it:Addr)(f:Value)(i:Nat)(a:Addr)(n ep:Nat):Prop:=∃o,h.get? it=some o/\o.cls=.type "set_iterator" /\ o.data=.fields #[f,.int i 0,.ref a,.int n 0,.int ep 0]
section
variable {prog:Program} {w:World} {A:Around} {E:Value->Shared->Prop} {s:Shared} {a it:Addr}
theorem zp.ty{f:Value}{i n ep:Nat}(x:zp s.heap it f i a n ep):s.TypeIs (.ref it) "set_iterator" := by
 obtain⟨o,ho,hc,_⟩:=x;exact⟨o,ho,hc⟩
theorem sy(hn:0<n)(h:∀i d,i<n->Q i {s with drawn:=d}):wpAny (model prog w) A (choose ee n) Q E s :=
 λΓ p hΓ=>⟨pY hn,h _ _ (Nat.mod_lt _ hn)⟩
theorem jX{α:Type}:∀{l:List α}{i:Nat}(h:i<l.length),(l[i]::l.eraseIdx i).Perm l
 | x::l,0,h=>.refl _
 | x::l,i+1,h=>(List.Perm.swap _ _ _).trans (.cons x (jX (l:=l) (i:=i) (Nat.lt_of_succ_lt_succ h)))
theorem kC{α:Type}:∀(n:Nat)(xs:List α)(s:Shared)(Q:List α->Shared->Prop),xs.length=n->(∀ys d,ys.Perm xs->Q ys {s with drawn:=d})->wpAny (model prog w) A (drawOrder n xs) Q E s
 | 0,[],s,Q,e,h=>by unfold drawOrder;exact aA (h [] s.drawn .nil)
 | 0,_::_,s,Q,e,h=>by cases e
 | n+1,[],s,Q,e,h=>by cases e
 | n+1,x::xs,s,Q,e,h=>by
  unfold drawOrder;refine ag (sy (by simp) λi d hi=>?_);rw[bx hi];refine ag (kC n _ _ _ ?_ λys d' p=>?_)
  ·rw[List.length_eraseIdx,aw hi];rw[e];rfl
  ·exact aA (h _ d' ((List.Perm.cons _ p).trans (jX hi)))
noncomputable def BL(prog:Program)(w:World)(a:Addr)(o:Obj)(ep:Nat)(sl:Nat->Nat)(vs:List Value):Prop :=
 ∀(A:Around)(E:Value->Shared->Prop)(s:Shared)(Q:Option (Value×Nat)->Shared->Prop)(i:Nat),s.heap.get? a=some o->i<=vs.length->Q (vs[i]?.map λx=>(x,sl (i+1))) s->wpAny (model prog w) A (setNext a (sl i) i ep) Q E s
theorem zq{α:Type}(nx:Nat->Nat):∀(f k:Nat)(l:List α)(out:Array α),l.length=f->∃ys,ys.Perm l/\(pickOrder.go nx f k l out).toList=out.toList++ys
 | 0,k,l,out,e=>by
  obtain rfl:=K6.mp e;unfold pickOrder.go;exact⟨[],.nil,by simp⟩
 | f+1,k,l,out,e=>by
  unfold pickOrder.go;have hl:nx k % l.length<l.length:=Nat.mod_lt _ ∅;rw[bx hl];obtain⟨ys,p,q⟩:=zq nx f (k+1) (l.eraseIdx (nx k % l.length)) (out.push l[nx k % l.length]) (by rw[List.length_eraseIdx,aw hl];omega);refine⟨l[nx k % l.length]::ys,(List.Perm.cons _ p).trans (jX hl),?_⟩;dsimp only;rw[q];simp
theorem BM{α:Type}(nx:Nat->Nat)(es:Array α):(pickOrder nx es).toList.Perm es.toList:=by
 unfold pickOrder;obtain⟨ys,p,q⟩:=zq nx es.size 0 es.toList #[] (by simp);rw[q];simpa using p
theorem BN{o:Obj}{es:Array (Int×Value)}{ep:Nat}{t:SetTable}(hd:o.data=.set es ep t)(hf:t.fits es.size=true) (hT:w.params.followText "set-order" = true):∃vs,vs.Perm (es.toList.map (·.2))/\BL prog w a o ep (λ_=>0) vs:=by
 refine⟨_,(BM (w.params.setOrder a ep) es).map (·.2),λA E s Q i ho hi q=>?_⟩;unfold setNext;refine ag (AK ho hd hf ?_);dsimp only;unfold setsByText;refine ag (ag (AR (aA ?_)));rw[show(Setting.params ⟨(model prog w).prog,(model prog w).w.params⟩).followText "set-order" = true from hT,aw rfl];rw[az (by simp)];unfold setWalk;refine ag (ag (AK ho hd hf ?_));unfold setsByText;refine ag (ag (AR (aA ?_)));rw[show(Setting.params ⟨(model prog w).prog,(model prog w).w.params⟩).followText "set-order" = true from hT,aw rfl];refine ag (AR (aA (aA ?_)))
 have e:((pickOrder (w.params.setOrder a ep) es)[i]?.map λe=>(e.2,0))=((pickOrder (w.params.setOrder a ep) es).toList.map (·.2))[i]?.map λx=>(x,0):=by
  rw[bj,nz];cases (pickOrder (w.params.setOrder a ep) es)[i]? <;> rfl
 show Q ((pickOrder (w.params.setOrder a ep) es)[i]?.map λe=>(e.2,0)) s;rw[e];exact q
noncomputable def slotAt(xs:Array Nat):Nat->Nat
 | 0=>0
 | i+1=>xs.getD i 0+1
theorem DP(r:BG xs)(hi:i<=xs.size):SetTable.below xs (slotAt xs i)=i:=by
 obtain⟨h1,h2,h3⟩:=vd r (slotAt xs i)
 have lo:∀k x,k<i->xs[k]?=some x->x<slotAt xs i:=λk x hk e=>by
  cases i with
  | zero=>exact absurd hk (Nat.not_lt_zero _)
  | succ i =>
   have q:xs[i]?=some xs[i]:=mE hi;show x<xs.getD i 0+1;rw[show xs.getD i 0=xs[i] by simp[Array.getD,show i<xs.size from hi]];rcases ir k i with z | z
   ·exact jq (r.lt e q z)
   ·obtain rfl:k=i:=∅;rw[q]at e;cases e;exact ju _
 have up:∀k x,i<=k->xs[k]?=some x->slotAt xs i<=x:=λk x hk e=>by
  cases i with
  | zero=>exact lr _
  | succ i =>
   have q:xs[i]?=some xs[i]:=mE hi;show xs.getD i 0+1<=x;rw[show xs.getD i 0=xs[i] by simp[Array.getD,show i<xs.size from hi]];exact r.lt q e hk
 rcases GI (SetTable.below xs (slotAt xs i)) i with z | z | z
 ·have q:=mE (xs:=xs) (i:=SetTable.below xs (slotAt xs i)) ∅;have:=lo _ _ z q;have:=h3 _ _ (aI _) q;omega
 ·exact z
 ·have q:=mE (xs:=xs) (i:=i) ∅;have:=h2 _ _ z q;have:=up _ _ (aI _) q;omega
theorem BO{o:Obj}{es:Array (Int×Value)}{ep:Nat}{t:SetTable}(hd:o.data=.set es ep t)(hf:t.fits es.size=true) (hT:w.params.followText "set-order" = false) (hl:t.led=true) (ti:Tb t) (hp:(!t.plain&&decide (es.size>1))=false):BL prog w a o ep (slotAt t.place) (es.toList.map (·.2)):=by
 intro A E s Q i ho hi q
 have sz:t.place.size=es.size:=by
  unfold SetTable.fits at hf;simp only[aU,jP]at hf;exact hf.1
 unfold setNext;refine ag (AK ho hd hf ?_);dsimp only;unfold setsByText;refine ag (ag (AR (aA ?_)));rw[show(Setting.params ⟨(model prog w).prog,(model prog w).w.params⟩).followText "set-order" = false from hT,az aT]
 rw[az (λz=>by
  have z:(!t.plain&&decide (es.size>1))=true:=z;rw[hp]at z;cases z)]
 show wpAny _ _ ((if (!t.led && !es.isEmpty)=true then (unsupported "set:maker-not-led" : Sem Unit) else pure ()) >>= _) _ _ _;rw[hl,az (by simp)];refine ag (aA (aA ?_));rw[aB,nF]at hi;rw[DP ti.YT ∅];rw[bj,nz]at q;rcases ir i es.size with z | z
 ·rw[mE z]at q⊢;rw[mE (xs:=t.place) (i:=i) ∅];have e:slotAt t.place (i+1)=t.place[i]+1:=by show t.place.getD i 0+1=_;simp[Array.getD,show i<t.place.size by omega]
  rw[e]at q;exact q
 ·rw[Array.getElem?_eq_none z]at q⊢;exact q
theorem DQ(hd:o.data=.set es ep t)(hf:t.fits es.size=true)(rd:BL prog w a o ep sl vs)(st:zp s.heap it (.int (sl i) 0) i a es.size ep)(ho:s.heap.get? a=some o)(hx:vs[i]?=some x)(q:∀h,zp h it (.int (sl (i+1)) 0) (i+1) a es.size ep->Heap.SameBut it s.heap h->Q (some x) {s with heap:=h}):wpAny (model prog w) A (pyNext (.ref it)) Q E s:=by
 obtain⟨oi,zt,hc,sv⟩:=id st;unfold pyNext;refine ag (uq (mF (name:=Str.ofString "__next__") st.ty dU (iE dU st.ty mS ?_ (kB _))));unfold Builtin.«set_iterator.__next__»;refine ag (aA ?_);refine ag (AV zt sv ?_);dsimp only;refine ag (CF ho hd hf ?_);rw[az (by simp)];simp only[jr];refine ag (rd _ _ _ _ i ho (nM (bq.mp hx).1) ?_);rw[hx];dsimp only[Option.map];refine ag (pX (i:=0) zt sv (by simp) ?_);have g1:=pT (Obj.mapFields (·.setIfInBounds 0 (rawInt (sl (i+1))))) zt (AG (mH sv _));have d1:=mH sv (·.setIfInBounds 0 (rawInt (sl (i+1))));refine ag (pX (i:=1) g1 d1 (by simp) ?_);have g2:=pT (Obj.mapFields (·.setIfInBounds 1 (rawInt ((i:Int)+1)))) g1 (AG (mH d1 _));exact aA ⟨_,rfl,aA (q _ ⟨_,g2,(CL ..).trans ((CL ..).trans hc),by rw[mH d1];simp[rawInt]⟩ ((kg ..).trans (kg ..)))⟩
theorem zu (hh : A.handled = none) (q : ∀ h, (∀ b o, s.heap.get? b = some o -> h.get? b = some o) -> Q none { s with heap := h }) :
    wpAny (model prog w) A.in1 (newExc (.type "StopIteration") [] >>= λe=>raiseNew e) (λ(fin:Fin) s'=>∃v,fin=Fin.done (Flow.ret v)/\wpAny (model prog w) A (pure (some v)) Q E s')
      (λe s'=>wpAny (model prog w) A (isInstance e (.type "StopIteration") >>= λb=>if b=true then pure none else throw e) Q E s') s:=by
  refine ag ?_;simp only[newExc,newTuple];refine ag (fC ?_ (by size_fits));refine ag (m:=firstArgMember _ _) (wpAny_of_eq (a:=Value.none) (by first | rfl | (simp only[firstArgMember];rfl)) (fC ?_ (by size_fits)));simp only[raiseNew];refine ag (wpAny_handled ?_);rw[show A.in1.handled=none from hh];refine ag (aA (wpAny_throw (ag ?_)));refine GL (T := "StopIteration") (b:=true) ⟨_,dP _ rfl,rfl⟩ isSubtype_stop ?_;exact aA (q _ λb o e=>bz _ (bz _ e))
theorem HG(hh:A.handled=none)(hd:o.data=.set es ep t)(hf:t.fits es.size=true)(rd:BL prog w a o ep sl vs)(st:zp s.heap it (.int (sl i) 0) i a es.size ep)(ho:s.heap.get? a=some o)(hx:i=vs.length)(q:∀h,Heap.ExtBut it s.heap h->Q none {s with heap:=h}):wpAny (model prog w) A (pyNext (.ref it)) Q E s:=by
 obtain⟨oi,zt,hc,sv⟩:=id st;unfold pyNext;refine ag (uq (mF (name:=Str.ofString "__next__") st.ty dU (iE dU st.ty mS ?_ (kB _))));unfold Builtin.«set_iterator.__next__»;refine ag (aA (ag (AV zt sv ?_)));dsimp only;refine ag (CF ho hd hf ?_);rw[az (by simp)];simp only[jr];refine ag (rd _ _ _ _ i ho (rJ hx) ?_);rw[jo (rJ hx.symm)];dsimp only[Option.map];refine ag (pX (i:=2) zt sv (by simp) ?_);exact zu hh λh k=>q h λb o2 hb e=>k b o2 (((kg s.heap it _).2 b hb).trans e)
theorem DR{ep i p:Nat}{ps:List Nat}(hd:o.data=.set es ep t)(hf:t.fits es.size=true)(st:zp s.heap it (.ref tp) i a es.size ep)(ho:s.heap.get? a=some o)(ht:∃ot n,s.heap.get? tp=some ot/\ot.data=.seq (ps.map λ(p:Nat)=>rawInt p).toArray n)(hp:ps[i]?=some p)(he:es[p]?=some e)(q:∀h,zp h it (.ref tp) (i+1) a es.size ep->Heap.SameBut it s.heap h->Q (some e.2) {s with heap:=h}):wpAny (model prog w) A (pyNext (.ref it)) Q E s:=by
 obtain⟨oi,zt,hc,sv⟩:=id st;obtain⟨ot,nt,W3,W4⟩:=ht;unfold pyNext;refine ag (uq (mF (name:=Str.ofString "__next__") st.ty dU (iE dU st.ty mS ?_ (kB _))));unfold Builtin.«set_iterator.__next__»;refine ag (aA (ag (AV zt sv ?_)));dsimp only;refine ag (CF ho hd hf ?_);rw[az (by simp)];unfold seqItems?;refine ag (ag (wpAny_load W3 ?_));rw[W4];refine aA ?_;dsimp only;simp only[jr,Lc,bj,hp,Option.map,rawInt];unfold setNextDrawn;refine ag (ag (AK ho hd hf ?_));dsimp only;rw[az (by simp)];simp only[jr,he];refine aA (ag (pX (i:=1) zt sv (by simp) ?_));have g2:=pT (Obj.mapFields (·.setIfInBounds 1 (.int ((i:Int)+1) 0))) zt (AG (mH sv _));exact aA ⟨_,rfl,aA (q _ ⟨_,g2,(CL ..).trans hc,by rw[mH sv];simp⟩ (kg ..))⟩
theorem HH{ep i:Nat}{ps:List Nat}(hh:A.handled=none)(hd:o.data=.set es ep t)(hf:t.fits es.size=true)(st:zp s.heap it (.ref tp) i a es.size ep)(ho:s.heap.get? a=some o)(ht:∃ot n,s.heap.get? tp=some ot/\ot.data=.seq (ps.map λ(p:Nat)=>rawInt p).toArray n)(hp:i=ps.length)(q:∀h,Heap.ExtBut it s.heap h->Q none {s with heap:=h}):wpAny (model prog w) A (pyNext (.ref it)) Q E s:=by
 obtain⟨oi,zt,hc,sv⟩:=id st;obtain⟨ot,nt,W3,W4⟩:=ht;unfold pyNext;refine ag (uq (mF (name:=Str.ofString "__next__") st.ty dU (iE dU st.ty mS ?_ (kB _))));unfold Builtin.«set_iterator.__next__»;refine ag (aA (ag (AV zt sv ?_)));dsimp only;refine ag (CF ho hd hf ?_);rw[az (by simp)];unfold seqItems?;refine ag (ag (wpAny_load W3 ?_));rw[W4];refine aA ?_;dsimp only;simp only[jr,Lc,bj,jo (rJ hp.symm),Option.map];refine ag (pX (i:=0) zt sv (by simp) ?_);have g1:=pT (Obj.mapFields (·.setIfInBounds 0 (rawInt 0))) zt (AG (mH sv _));have d1:=mH sv (·.setIfInBounds 0 (rawInt 0));refine ag (pX (i:=2) g1 d1 (by simp) ?_);exact zu hh λh k=>q h λb o2 hb e=>k b o2 (((kg _ it _).2 b hb).trans (((kg s.heap it _).2 b hb).trans e))
end
end L2
end
section
namespace L2
open PySem PySem.Spec PyProof.Rows
theorem qH:Slot "set_iterator" "__iter__" "set_iterator.__iter__" :=
 .of (owner := "set_iterator") (n := "__iter__") (by rw[typeLookup_type,La];kernel_rfl) ⋯ ⋯ ⋯
  (by first | exact .inl ⋯ | exact .inr ⋯) (by rw[isSubtype_type];kernel_rfl)
theorem DS:entryFor table "set_iterator.__iter__" = some Builtin.«dict_keyiterator.__iter__»:=entryFor_alias (id' := "dict_keyiterator.__iter__") (nofun) rfl ⋯ (nofun)
theorem BP(a:Value):argsOk "set_iterator.__iter__" ⟨[a],[]⟩:=by
 unfold argsOk;rw[signature?_of (id := "set_iterator.__iter__") (n := "__reti__".toList) (o := "rotareti_tes".toList) (nofun) zo];kernel_rfl
section
variable {prog:Program} {w:World} {A:Around} {E:Value->Shared->Prop} {s:Shared} {a it:Addr} {o:Obj} {es:Array (Int×Value)} {ep:Nat} {t:SetTable}
theorem Rl(st:zp s.heap it f i a n ep)(h:Q (.ref it) s):wpAny (model prog w) A (pyIter (.ref it)) Q E s:=by
 refine wpAny_pyIter_slot st.ty qH (iE qH st.ty DS ?_ (BP _));show wpAny _ _ (ret (.ref it)) _ _ s;exact aA ⟨_,rfl,"set_iterator",_,st.ty,dU.lookup,h⟩
theorem zp.keep(x:zp h it f i a n ep)(k:∀o,h.get? it=some o->h'.get? it=some o):zp h' it f i a n ep:=by
 obtain⟨o,e,r⟩:=x;exact⟨o,k o e,r⟩
theorem BQ(hh:A.handled=none)(ne:a≠it)(hd:o.data=.set es ep t)(hf:t.fits es.size=true)(rd:BL prog w a o ep sl vs):WalksS prog w A it [it,a] [it] (λx y=>y=x) vs.length (λi v=>vs[i]?=some v) (λi s=>zp s.heap it (.int (sl i) 0) i a es.size ep/\s.heap.get? a=some o) where
 sub:=λb hb=>by simp at hb;simp[hb]
 grefl:=λ_=>rfl
 gtrans:=λ_ _ _ p q=>q.trans p
 frame:=λi s h' tk st _ k=>⟨st.1.keep λo e=>k it (by simp) o e,k a (by simp) _ st.2⟩
 item:=λi s Q E hi st q=>by
  refine DQ hd hf rd st.1 st.2 (bx hi) λh xh sb=>q _ _ (bx hi) ⟨xh,(sb.2 a ne).trans st.2⟩ ⟨λb o hb e=>(sb.2 b (by simpa using hb)).trans e,rfl,rfl,rfl,aI _⟩
 done:=λs Q E st q=>HG hh hd hf rd st.1 st.2 rfl λh eb=>q _ ⟨λb o hb e=>eb b o (by simpa using hb) e,rfl,rfl,rfl,aI _⟩
 self:=λi s Q E st q=>Rl st.1 q
theorem xE{ps:List Nat}{vs:List Value}(hh:A.handled=none)(ne:a≠it)(nt:tp≠it)(hd:o.data=.set es ep t)(hf:t.fits es.size=true)(hv:∀(i p:Nat),ps[i]?=some p->∃u,es[p]?=some u/\vs[i]?=some u.2)(hl:vs.length=ps.length):WalksS prog w A it [it,a,tp] [it] (λx y=>y=x) vs.length (λi v=>vs[i]?=some v) (λi s=>zp s.heap it (.ref tp) i a es.size ep/\s.heap.get? a=some o/\∃ot n,s.heap.get? tp=some ot/\ot.data=.seq (ps.map λ(p:Nat)=>rawInt p).toArray n) where
 sub:=λb hb=>by simp at hb;simp[hb]
 grefl:=λ_=>rfl
 gtrans:=λ_ _ _ p q=>q.trans p
 frame:=λi s h' tk st _ k=>⟨st.1.keep λo e=>k it (by simp) o e,k a (by simp) _ st.2.1,by obtain⟨ot,n,e,d⟩:=st.2.2;exact⟨ot,n,k tp (by simp) _ e,d⟩⟩
 item:=λi s Q E hi st q=>by
  obtain⟨Rc,Cs,ot,n,e,d⟩:=st;have hp:ps[i]?=some ps[i]:=bx ∅;obtain⟨u,he,ev⟩:=hv i _ hp;exact DR hd hf Rc Cs ⟨ot,n,e,d⟩ hp he λh xh sb=>q _ _ ev ⟨xh,(sb.2 a ne).trans Cs,ot,n,(sb.2 tp nt).trans e,d⟩ ⟨λb o hb e=>(sb.2 b (by simpa using hb)).trans e,rfl,rfl,rfl,aI _⟩
 done:=λs Q E st q=>HH hh hd hf st.1 st.2.1 st.2.2 hl λh eb=>q _ ⟨λb o hb e=>eb b o (by simpa using hb) e,rfl,rfl,rfl,aI _⟩
 self:=λi s Q E st q=>Rl st.1 q
abbrev xF(f:Value)(a:Addr)(n ep:Nat):Obj:={cls:=.type "set_iterator",data:=.fields #[f,.int 0 0,.ref a,.int n 0,.int ep 0]}
theorem DT{Q:Value->Shared->Prop}(ho:s.heap.get? a=some o)(sx:o.ExactSet)(hd:o.data=.set es ep t)(hf:t.fits es.size=true)(ti:Tb t) (hl:t.led=!w.params.followText "set-order") (hb:es.size<scanBound) (q1:∀sl vs,sl 0=0->vs.Perm (es.toList.map (·.2))->BL prog w a o ep sl vs->Q (.ref s.heap.objs.size) {s with heap:=s.heap.push (xF (.int 0 0) a es.size ep)}) (q2:∀(ps:List Nat) d,ps.Perm (List.range es.size)->Q (.ref (s.heap.objs.size+1)) {s with heap:=(s.heap.push {cls:=.type "tuple",data:=.seq (ps.map λ(p:Nat)=>rawInt p).toArray}).push (xF (.ref s.heap.objs.size) a es.size ep),drawn:=d}):wpAny (model prog w) A (pyIter (.ref a)) Q E s:=by
 have hT:s.TypeIs (.ref a) "set" := ⟨o,ho,sx.1⟩;refine wpAny_pyIter_slot hT PySem.F.slot_set_iter (iE PySem.F.slot_set_iter hT BK ?_ (PySem.F.args_set_iter_1 _));unfold Builtin.«frozenset.__iter__» Builtin.Frozenset.slot0;refine ag (ag (aA (aA ?_)));unfold Builtin.Frozenset.sizeOf;refine ag (ag (CF ho hd hf (aA ?_)));unfold setDrawn;refine ag (ag (AK ho hd hf ?_));unfold setsByText;dsimp only;refine ag (ag (AR (aA (aA ?_))));have nx:=dU.lookup;by_cases Ms:w.params.followText "set-order" = true
 ·rw[show(Setting.params ⟨(model prog w).prog,(model prog w).w.params⟩).followText "set-order" = true from Ms];rw[az (by simp)];refine ag (aA (ag (wpAny_setEpoch_of ho hd hf ?_)));obtain⟨vs,p,rd⟩:=BN (prog:=prog) (a:=a) hd hf Ms;simp only[newFields];exact ag (fC (aA ⟨_,rfl,"set_iterator",_,⟨_,dP _ rfl,rfl⟩,nx,q1 _ vs rfl p rd⟩))
 ·replace Ms:w.params.followText "set-order" = false:=Bool.eq_false_iff.mpr Ms
  rw[show(Setting.params ⟨(model prog w).prog,(model prog w).w.params⟩).followText "set-order" = false from Ms];by_cases hp:(!t.plain&&decide (es.size>1))=true
  ·show wpAny _ _ (if (!t.plain&&decide (es.size>1))=true then _ else _) _ _ _;rw[aw hp];refine ag (kC _ _ _ _ (mI ..) λps d p=>?_);simp only[newFields,newTuple];refine ag (fC ?_ ?_)
   ·refine ag (wpAny_setEpoch_of (bz _ ho) hd hf ?_);refine ag (fC (aA ⟨_,rfl,"set_iterator",_,⟨_,dP _ rfl,rfl⟩,nx,?_⟩));have:=q2 ps d p;rw[<- nK s.heap {cls:=.type "tuple",data:=.seq (ps.map λ(p:Nat)=>rawInt p).toArray}]at this;exact this
   ·have hz:=GH hb;have e:=p.length_eq;rw[mI]at e;show(ps.map λ(p:Nat)=>rawInt p).toArray.size<=sizeLine;rw[cG,aB,e];exact hz
  ·show wpAny _ _ (if (!t.plain&&decide (es.size>1))=true then _ else _) _ _ _;rw[az hp];refine ag (aA (ag (wpAny_setEpoch_of ho hd hf ?_)));simp only[newFields];exact ag (fC (aA ⟨_,rfl,"set_iterator",_,⟨_,dP _ rfl,rfl⟩,nx,q1 _ _ rfl (.refl _) (BO hd hf Ms (by rw[hl,Ms];rfl) ti (Bool.eq_false_iff.mpr hp))⟩))
theorem vj:∀(vs:List Value),(∀v∈vs,∃k t,v=.int k t)->∃ns,IntsAre vs ns/\ns.length=vs.length/\∀k,k∈ns↔∃t,Value.int k t∈vs
 | [],_=>⟨[],.nil,rfl,λk=>by simp⟩
 | v::vs,h=>by
  obtain⟨k,t,rfl⟩:=h v (by simp);obtain⟨ns,r,l,m⟩:=vj vs λu hu=>h u (dq _ hu);refine⟨k::ns,.cons k t r,by simp[l],λj=>?_⟩;rw[bU,m j];constructor
  ·rintro(rfl | ⟨u,z⟩)
   ·exact⟨t,by simp⟩
   ·exact⟨u,dq _ z⟩
  ·rintro⟨u,z⟩;rcases bU.mp z with z | z
   ·cases z;exact .inl rfl
   ·exact .inr ⟨u,z⟩
theorem ints_set{L:List Int}{vs:List Value}(x1:ElemsOf (intKind prog w) es.toList)(x2:∀k,k∈L↔∃e∈es.toList,(intKind prog w).is k e.2=true)(x5:es.size=L.length)(p:vs.Perm (es.toList.map (·.2))):∃ns,IntsAre vs ns/\ns.length=L.length/\∀k,k∈ns↔k∈L:=by
 have shape:∀k v,(intKind prog w).is k v=true->∃t,v=.int k t:=λk v h=>Value.isInt_shape h
 obtain⟨ns,r,l,m⟩:=vj vs λv hv=>by
  obtain⟨e,he,rfl⟩:=dg.mp (p.mem_iff.mp hv);obtain⟨⟨k,hk,_⟩,_⟩:=x1 e he;exact⟨k,shape k _ hk⟩
 refine⟨ns,r,by rw[l,p.length_eq,aB,nF,x5],λk=>?_⟩;rw[m k,x2 k];constructor
 ·rintro⟨t,z⟩;obtain⟨e,he,q⟩:=dg.mp (p.mem_iff.mp z);exact⟨e,he,by rw[q];exact intKind_is _ _ _ _⟩
 ·rintro⟨e,he,q⟩;obtain⟨t,z⟩:=shape k _ q;exact⟨t,p.mem_iff.mpr (dg.mpr ⟨e,he,z⟩)⟩
theorem vk(ho:s.heap.get? a=some o)(sx:o.ExactSet)(q:Q false s):wpAny (model prog w) A (Builtin.List.listLengthHint (.ref a)) Q E s:=by
 have hT:s.TypeIs (.ref a) "set" := ⟨o,ho,sx.1⟩;unfold Builtin.List.listLengthHint;refine ag (wpAny_specialOf hT PySem.F.slot_set_len.lookup ?_);generalize YU:("set.__len__" : String)=id0
 wp_delta
 rw[show splitId id0=some ("set","__len__") from by subst YU;decide +kernel];subst YU;refine ag (GL (b:=true) hT (by rw[isSubtype_type];kernel_rfl) ?_);refine ag (w_ hT ?_);exact aA q
theorem vm{l:Addr}{Q:Unit->Shared->Prop} (hl:s.heap.get? l=some {cls:=.type "list",data:=.seq ([]:List Value).toArray}) (q:∀h' c,Heap.SameBut l s.heap h'->h'.get? l=some {cls:=.type "list",dict:=none,data:=.seq #[] c,slots:=#[]}->Q () {s with heap:=h'}):wpAny (model prog w) A (Builtin.List.listTouch (.ref l)) Q E s:=by
 unfold Builtin.List.listTouch;refine ag (listUpdate_at hl rfl ?_ (by simp) (by show(#[].push Value.none).size<=_;simp));have g1:=pT (Obj.mapSeq (·.push Value.none)) hl rfl;refine listUpdate_at g1 rfl ?_ (by show(#[].push Value.none).size<=_;simp[AY]) (by show(#[].push Value.none).pop.size<=_;simp);have g2:=pT (Obj.mapSeq (·.pop)) g1 rfl;exact q _ _ ((kg ..).trans (kg ..)) g2
theorem vn {fp : List Addr} {n : Nat} {P : Nat -> Value -> Prop} {St : Nat -> Shared -> Prop} {l : Addr} {c : Nat} {Q : List Value -> Shared -> Prop} (W : WalksS prog w A.in1 it fp [it] (fun x y => y = x) n P St) (hn : n <= sizeLine) (hS : l ∉ fp) (st : St 0 s)
    (hl:s.heap.get? l=some {cls:=.type "list",dict:=none,data:=.seq #[] c,slots:=#[]}) (q:∀s' acc,Moved [l,it] (λx y=>y=x) s s'->ItemsOf P acc n->l<s'.heap.objs.size->Q acc.toList s') :
    codeAny (model prog w) A (.builtin "list.extend.loop" ⟨[.ref l,.ref it,.ref l],[]⟩) (λr s'=>match r with
      | .ok (.ret v)=>wpAny (model prog w) A (match v with
        | .ref a=>load a >>= λo=>match o.data with
          | .seq xs _=>pure xs.toList
          | _=>unsupported "internal:collect"
        | _=>unsupported "internal:collect") Q E s'
      | .ok _=>False
      | .error e=>E e s') s:=by
  refine codeAny_extend_loopS W hn l hS _ n 0 s #[] c rfl (lr _) st hl (ItemsOf.nil P) λs' acc c' mv g ia=>?_;dsimp only;refine ag (wpAny_load g ?_);exact aA (q s' acc mv ia (cv g))
theorem BR(es:Array (Int×Value)):(List.range es.size).map (λp=>((es[p]?).map (λ(e:Int×Value)=>e.2)).getD .none)=es.toList.map (·.2):=by
 refine AM λi=>?_;rw[bj,bj];rcases ir i es.size with z | z
 ·rw[nI z,nz,mE z];show some (((es[i]?).map (λ(e:Int×Value)=>e.2)).getD .none)=_;rw[mE z];rfl
 ·rw[jo (by simpa using z),jo (by simpa using z)];rfl
theorem vp{L:List Int}{Q:List Value->Shared->Prop}(hh:A.handled=none) (x:eM prog w s.heap a (!w.params.followText "set-order") L) (q:∀(vs:List Value)(ns:List Int)(s':Shared),IntsAre vs ns->ns.length=L.length->(∀k,k∈ns↔k∈L)->(∀b o,s.heap.get? b=some o->s'.heap.get? b=some o)->s'.os=s.os->s'.gens=s.gens->s.heap.objs.size<s'.heap.objs.size->Q vs s'):wpAny (model prog w) A (collect (.ref a)) Q E s:=by
 obtain⟨o,es,ep,t,ho,sx,hd,x1,x2,x3,x4,x5,x6,x7⟩:=x;have lt:a<s.heap.objs.size:=cv ho;unfold collect;refine ag (wpAny_runValue (um PySem.F.entry_proto_collect ?_));rw[wN PySem.F.plain_proto_collect _];show wpAny _ A.in1 (newList [] >>= λl=>again (.builtin "list.__iadd__" ⟨[l,.ref a],[]⟩)) _ _ s;refine ag (fC (aA ⟨w8 PySem.F.plain_list_iadd _,um PySem.F.entry_list_iadd ?_⟩));rw[wN PySem.F.plain_list_iadd _];have DI:=bz {cls:=.type "list",data:=.seq ([]:List Value).toArray} ho;have gl:(s.heap.push {cls:=.type "list",data:=.seq ([]:List Value).toArray}).get? s.heap.objs.size=some {cls:=.type "list",data:=.seq ([]:List Value).toArray}:=dP _ rfl;have nl:Builtin.List.listSameRef (.ref s.heap.objs.size) (.ref a)=false:=by simp[Builtin.List.listSameRef,pY lt]
 show wpAny _ A.in1 (Builtin.List.listExtendWith (.ref s.heap.objs.size) (.ref a) (.ref s.heap.objs.size)) _ _ _;unfold Builtin.List.listExtendWith;refine ag (w_ (T := "set") ⟨o,DI,sx.1⟩ ?_);rw[az (by rw[nl];decide)];have z1:(s.heap.push {cls:=.type "list",data:=.seq ([]:List Value).toArray}).objs.size=s.heap.objs.size+1:=nK _ _;have wJ:es.size<=sizeLine:=GH x3
 have fin:∀{vs:List Value}{acc:Array Value}{s':Shared}{k:Addr},vs.Perm (es.toList.map (·.2))->ItemsOf (λi v=>vs[i]?=some v) acc vs.length->(∀b o,s.heap.get? b=some o->s'.heap.get? b=some o)->s'.os=s.os->s'.gens=s.gens->s.heap.objs.size<s'.heap.objs.size->Q acc.toList s':=λ{vs acc s' k} p ia kp eo eg gr=>by
  have e:acc.toList=vs:=by
   refine AM λi=>?_;rw[nz]
   cases qa:acc[i]? with
   | some v=>exact(ia.2 i v qa).symm
   | none=>exact(jo (by have:=Array.getElem?_eq_none_iff.mp qa;rw[ia.1]at this;exact this)).symm
  obtain⟨ns,r,l,m⟩:=ints_set x1 x2 x5 p;rw[e];exact q vs ns s' r l m kp eo eg gr
 refine ag (DT DI sx hd x4 x6 x7 x3 (λsl vs s0 p rd=>?_) λps d p=>?_)
 ·have lv:vs.length=es.size:=by rw[p.length_eq,aB,nF]
  refine ag (kj (vk (bz _ DI) sx ?_));rw[aw ⋯];refine ag (rK (ag (vm (bz _ gl) λh' c sb g=>?_)));refine aA ⟨w8 PySem.F.plain_extend_loop _,vn (BQ (A:=A.in1) hh (by dsimp only;rw[z1];exact cH (jq lt)) hd x4 rd) (by rw[lv];exact wJ) ?_ ?_ g λs' acc mv ia gr=>fin (k:=0) p ia (λb ob e=>?_) mv.os mv.gens gr⟩
  ·dsimp only;rw[z1];simp only[bU,rE,fP,not_or];exact⟨cH (ju _),pY lt⟩
  ·refine⟨⟨_,(sb.2 _ ?_).trans (dP _ rfl),rfl,by rw[s0];rfl⟩,(sb.2 a (cH lt)).trans (bz _ DI)⟩;dsimp only;rw[z1];exact pY (ju _)
  ·have lb:b<s.heap.objs.size:=cv e;refine mv.heap b ob ?_ ((sb.2 b (cH lb)).trans (bz _ (bz _ e)));dsimp only;rw[z1];simp only[bU,rE,fP,not_or];exact⟨cH lb,cH (jq lb)⟩
 ·have lp:ps.length=es.size:=by rw[p.length_eq,mI]
  have pv:=p.map (λp=>((es[p]?).map (λ(e:Int×Value)=>e.2)).getD .none);rw[BR]at pv;have z2:((s.heap.push {cls:=.type "list",data:=.seq ([]:List Value).toArray}).push {cls:=.type "tuple",data:=.seq (ps.map λ(p:Nat)=>rawInt p).toArray}).objs.size=s.heap.objs.size+1+1:=by rw[nK,z1]
  have hv:∀(i p:Nat),ps[i]?=some p->∃u,es[p]?=some u/\(ps.map (λp=>((es[p]?).map (λ(e:Int×Value)=>e.2)).getD .none))[i]?=some u.2:=λi j e=>by
   have hj:j<es.size:=by have:=p.mem_iff.mp (dw e);simpa using this
   refine⟨es[j],mE hj,?_⟩;rw[bj,e];show some (((es[j]?).map (λ(e:Int×Value)=>e.2)).getD .none)=_;rw[mE hj];rfl
  have y8:=bz {cls:=.type "tuple",data:=.seq (ps.map λ(p:Nat)=>rawInt p).toArray} DI;have gl2:=bz {cls:=.type "tuple",data:=.seq (ps.map λ(p:Nat)=>rawInt p).toArray} gl;have gt:((s.heap.push {cls:=.type "list",data:=.seq ([]:List Value).toArray}).push {cls:=.type "tuple",data:=.seq (ps.map λ(p:Nat)=>rawInt p).toArray}).get? (s.heap.objs.size+1)=some {cls:=.type "tuple",data:=.seq (ps.map λ(p:Nat)=>rawInt p).toArray}:=by rw[<- z1];exact dP _ rfl
  dsimp only;rw[z1];refine ag (kj (vk (bz _ y8) sx ?_));rw[aw ⋯];refine ag (rK (ag (vm (bz _ gl2) λh' c sb g=>?_)));have n1:s.heap.objs.size≠s.heap.objs.size+1+1:=cH (jq (ju _));refine aA ⟨w8 PySem.F.plain_extend_loop _,vn (xE (A:=A.in1) (tp:=s.heap.objs.size+1) hh (cH (jq (jq lt))) (cH (ju _)) hd x4 hv (by rw[aB])) (by rw[aB,lp];exact wJ) ?_ ?_ g λs' acc mv ia gr=>fin (k:=0) pv ia (λb ob e=>?_) mv.os mv.gens gr⟩
  ·simp only[bU,rE,fP,not_or];exact⟨n1,pY lt,cH (ju _)⟩
  ·refine⟨⟨xF (.ref (s.heap.objs.size+1)) a es.size ep,(sb.2 _ (dh n1)).trans ?_,rfl,rfl⟩,(sb.2 a (cH lt)).trans (bz _ y8),_,_,(sb.2 _ (pY (ju _))).trans (bz _ gt),rfl⟩;rw[<- z2];exact dP _ rfl
  ·have lb:b<s.heap.objs.size:=cv e;refine mv.heap b ob ?_ ((sb.2 b (cH lb)).trans (bz _ (bz _ (bz _ e))));simp only[bU,rE,fP,not_or];exact⟨cH lb,cH (jq (jq lb))⟩
end
end L2
end
section
namespace L2
open PySem PySem.Spec PyProof.Rows
theorem qI:∀(xs pre L:List Int),vg (λi=>(pre++xs).getD i 0) xs.length pre.length L=xs.foldl gI L
 | [],pre,L=>rfl
 | x::xs,pre,L=>by
  have e:pre++x::xs=(pre++[x])++xs:=by simp
  have e2:pre.length+1=(pre++[x]).length:=by simp
  show vg (λi=>(pre++x::xs).getD i 0) xs.length (pre.length+1) (gI L ((pre++x::xs).getD pre.length 0))=xs.foldl gI (gI L x);have g:(pre++x::xs).getD pre.length 0=x:=by simp[List.getD]
  rw[g,e2,e];exact qI xs (pre++[x]) (gI L x)
def zv(is:List Int):List Int:=is.foldl gI []
theorem HI(h:L.Nodup)(k:Int):(gI L k).Nodup:=by
 unfold gI;split
 ·exact h
 ·rename_i n
  rw[uj];refine⟨h,by simp,λx hx y hy=>?_⟩;obtain rfl:=gj.mp hy;exact λz=>n (z▸hx)
theorem DU:j∈gI L k↔j∈L\/j=k:=by
 unfold gI;split
 ·rename_i h
  exact⟨.inl,λz=>z.elim id λe=>e▸h⟩
 ·simp
theorem DV:∀(is L:List Int),L.Nodup->(is.foldl gI L).Nodup/\∀j,j∈is.foldl gI L↔j∈L\/j∈is
 | [],L,h=>⟨h,λj=>by simp⟩
 | k::is,L,h=>by
  obtain⟨a,b⟩:=DV is (gI L k) (HI h k);refine⟨a,λj=>?_⟩;rw[List.foldl_cons,b j,DU,bU];exact⟨λz=>by rcases z with(z | z) | z<;>simp[z],λz=>by rcases z with z | z | z<;>simp[z]⟩
theorem Kl(is:List Int):(zv is).Nodup:=(DV is [] .nil).1
theorem Mt:j∈zv is↔j∈is:=by rw[zv,(DV is [] .nil).2 j];simp
theorem sA:∀{L ns:List Int},L.Nodup->(∀k∈L,k∈ns)->ns.length<=L.length->ns.Perm L
 | [],ns,_,_,h=>by
  obtain rfl:=K6.mp (Nat.le_zero.mp h);exact .refl _
 | k::L,ns,nd,sub,h=>by
  obtain⟨n1,n2⟩:=rG.mp nd;have hk:=sub k (by simp);have p:=List.perm_cons_erase hk;refine p.trans (.cons k (sA n2 (λj hj=>?_) ?_))
  ·have:j≠k:=λz=>n1 (z▸hj);rw[List.mem_erase_of_ne this];exact sub j (dq _ hj)
  ·rw[List.length_erase_of_mem hk];simp only[jt]at h;omega
section
variable {prog:Program} {w:World} {A:Around} {E:Value->Shared->Prop} {s:Shared} {a:Addr}
theorem xG{L:List Int}{Q:Value->Shared->Prop}(hh:A.handled=none) (x:eM prog w s.heap a (!w.params.followText "set-order") L) (nd:L.Nodup) (Rj:L.length<64) (q:∀(r:Addr)(out:Array Value)(c:Nat)(s':Shared),IntsAre out.toList (fi L)->s.heap.objs.size<=r->s'.heap.get? r=some (seqObj "list" out c)->(∀b o,s.heap.get? b=some o->s'.heap.get? b=some o)->s'.os=s.os->s'.gens=s.gens->Q (.ref r) s'):wpAny (model prog w) A (call (.builtin "sorted") [.ref a]) Q E s:=by
 refine Calls.call_function_entry kind_sorted plain_sorted entry_sorted (args_sorted1 _) ?_;unfold Builtin.«sorted»;refine ag (m:=checkCount "sorted" 1 1 _) (aA ?_);refine ag (vp (A:=A.in1) (by simp[hh]) x λvs ns s1 ia l m kp eo eg gr=>?_);have hv:vs.length=ns.length:=IntsAre.length ia;refine ag (fC ?_ (by show vs.toArray.size<=sizeLine;rw[cG,AY];omega));have g:(s1.heap.push (seqObj "list" vs.toArray 0)).get? s1.heap.objs.size=some (seqObj "list" vs.toArray 0):=dP _ rfl;refine ag (kj (iE slot_list_sort ⟨_,g,rfl⟩ entry_list_sort (list_sort_tree (s:={s1 with heap:=s1.heap.push (seqObj "list" vs.toArray 0)}) g ia ∅ λout WZ a1 a2 a3=>⟨_,rfl,?_⟩) (args_list_sort _)));have e:WZ=fi L:=g8 ((a2.trans (sA nd (λk hk=>(m k).mpr hk) (rJ l))).trans dS.symm) a3 fG;subst e;obtain⟨c,gc⟩:=sortedHeap_at (out:=out) g;refine aA ⟨_,rfl,q _ out c _ a1 (nM gr) gc (λb o e=>?_) eo eg⟩;have e1:=kp b o e;show(sortedHeap _ _ _ _).get? b=_;rw[sortedHeap_old (cH (cv e1)) (cv (bz _ e1))];exact bz _ e1
end
section
variable {X:Cx}
abbrev HJ(X:Cx)(a:Addr)(L:List Int):HO:=.ext λh=>eM X.prog X.w h a (!X.w.params.followText "set-order") L
theorem BS(hc:X.calm=true):dM X (.type "set") (λxs H Q=>∃p is,xs=[.ref p]/\fK X.K H p (is.map V.int)/\is.length+1<scanBound/\∀l,H l=none->Q (.ref l) (upd H l (HJ X l (zv is)))):=by
 intro aa s σ H xs us Q I r h;obtain⟨p,is,rfl,hq,hb,q⟩:=h;obtain⟨u,rfl,rx⟩:=vals1 r;cases rx;obtain⟨aG,r',pl,hz⟩:=I.list hq;have aY:=r'.length;rw[aB]at aY;refine DO (items:=aG.toArray) (ns:=is) (I.ok.hd hc) pl.isList (om r') (by simpa using (by omega:aG.length+1<scanBound)) λh' tk x kp=>?_;have e:=qI is [] [];rw[show vg (λi=>is.getD i 0) aG.toArray.size 0 []=zv is by rw[show aG.toArray.size=is.length by rw[cG,aY]];exact e]at x;have hx:=id x;obtain⟨o,_,_,_,ho,_⟩:=hx;exact⟨.ref s.heap.objs.size,_,I.laid (t':=tk) kp (aI _) (show bO X.prog X.w _ _ _ (HJ X s.heap.objs.size (zv is)) from ⟨x,⟨o,ho⟩,λh1 h2 y k=>y.keep λo e=>k o e⟩),rfl,q _ (I.bJ.fresh (aI _))⟩
theorem xH(hc:X.calm=true):dM X (.builtin "sorted") (λxs H Q=>∃p L,xs=[.ref p]/\H p=some (HJ X p L)/\L.Nodup/\L.length<64/\∀l,H l=none->Q (.ref l) (upd H l (.lst ((fi L).map V.int)))):=by
 intro aa s σ H xs us Q I r h;obtain⟨p,L,rfl,hq,nd,Rj,q⟩:=h;obtain⟨u,rfl,rx⟩:=vals1 r;cases rx;obtain⟨x,_⟩:=(show bO X.prog X.w H s.heap p (HJ X p L) from I.bJ p _ hq);refine xG (I.ok.hd hc) x nd Rj λr out c s' ia le g kp eo eg=>?_;have nn:=I.bJ.fresh le
 have bJ:jy X.prog X.w (upd H r (.lst ((fi L).map V.int))) s'.heap:=I.bJ.laid kp le (show bO X.prog X.w _ _ _ (.lst ((fi L).map V.int)) from ⟨by
  rw[aB,dS.length_eq];exact dr (nM Rj) (by decide),out.toList,c,oo ia,by simpa using g⟩)
 exact⟨.ref r,_,I.J2 (ch:=[]) eo (Un.laid kp le nn) bJ (by rw[eg];exact I.bare) (λ_ z=>nomatch z),rfl,q _ nn⟩
theorem xI:QY X "list.extend" (λx vs H Q=>∃l b xs zs,x=.ref l/\vs=[.ref b]/\H l=some (.lst xs)/\gE X.K H b zs/\xs.length+zs.length<=sizeLine/\Q .aR (upd H l (.lst (xs++zs)))):=by
 intro aa s σ H x vs v us Q I rx rv h;obtain⟨l,b,xs,zs,rfl,rfl,hH,hB,hz,q⟩:=h;cases rx;obtain⟨u,rfl,ru⟩:=rv.one;cases ru;obtain⟨z,aG,n,r,hl,e⟩:=I.qe hH;obtain⟨jU,r2,⟨o2,e2,c2,n2,d2⟩,z2⟩:=I.tuple hB;have Cu:=r2.length;have hsz:aG.toArray.size+jU.toArray.size<=sizeLine:=by rw[cG,cG];omega
 have uU:¬(!aG.toArray.isEmpty&&Builtin.List.listTooLong (aG.toArray.size+jU.toArray.size))=true:=by
  rw[n_ hsz,Bool.and_false];exact aT
 refine iE GF ⟨_,e,rfl⟩ F.entry_list_extend ?_ (F.args_list_extend_2 _ _);unfold Builtin.«list.extend»;refine ag (aA ?_);show wpAny _ _ (Builtin.List.listExtendWith (.ref l) (.ref b) .none) _ _ s;unfold Builtin.List.listExtendWith;refine ag (w_ (T := "tuple") ⟨o2,e2,c2⟩ ?_);rw[aw (by simp)];refine ag (listItems_at e2 d2 (ag (listItems_at e rfl ?_)));rw[az uU];refine ag (listUpdate_at e rfl ?_ (by rw[cG];omega) (by show(aG.toArray++jU.toArray).size<=_;rw[Array.size_append];omega));exact aA ⟨_,rfl,.aR,_,I.Bp (its':=aG++jU) hH e (by simp) (r.append r2) (by rw[cC];omega),rfl,q⟩
end
end L2
end
section
namespace Ev
open L2
open PySem PySem.Spec PyProof.Rows
inductive D where
 | aR | bl (b:Bool) | int (i:Int) | str (s:Str) | tup (ds:List D) | aj (n:Nat) | ls (ds:List D)
 deriving Inhabited
inductive MO where
 | lst (ds:List D) | jw (ds:List D) | dK (ah:List (bH×D)) | dT (ah:List (List bH×D)) | dF (ah:List (List bH×D))
 deriving Inhabited
abbrev ak:=List MO
abbrev En:=List (Option D)
inductive W where
 | d (x:D) | lv (ds:List D)
 deriving Inhabited
structure YV where
 cls:Nat
 fs:List D
inductive cK (α:Type) where
 | ok (a:α) (M:ak) | err (x:YV) (M:ak) | af
noncomputable def cK.bind{α β:Type}(o:cK α)(f:α->ak->cK β):cK β:=match o with
 | .ok a M=>f a M
 | .err x M=>.err x M
 | .af=>.af
noncomputable def vq(K:PySem.W.Frag)(H:Hp)(a:Addr)(xs:List V):Prop :=
 (∃o,H a=some (.eQ o (.lst xs)))\/∃(o:Obj) (aG:Array Value) (n:Nat),K.lookup a=some o/\o.cls=.type "list" /\ o.dict=none/\o.data=.seq aG n/\aG.size<=sizeLine/\aS xs aG.toList
theorem vq.sq{K:PySem.W.Frag}{H:Hp}{a:Addr}{xs:List V}(h:vq K H a xs):fK K H a xs:=by
 rcases h with⟨o,h⟩ | h
 ·exact .inl (.inr ⟨o,h⟩)
 ·exact .inr h
mutual
noncomputable def RD(K:PySem.W.Frag)(ads:List Addr)(H:Hp):D->V->Prop
 | .aR,v=>v=.aR
 | .bl b,v=>v=.bl b
 | .int i,v=>v=.int i
 | .str s,v=>v=.str s
 | .tup ds,v=>∃a xs,v=.ref a/\H a=some (.tup xs)/\aP K ads H ds xs
 | .aj n,v=>∃a,v=.ref a/\ads[n]?=some a
 | .ls ds,v=>∃a xs,v=.ref a/\vq K H a xs/\aP K ads H ds xs
noncomputable def aP(K:PySem.W.Frag)(ads:List Addr)(H:Hp):List D->List V->Prop
 | [],xs=>xs=[]
 | d::ds,xs=>∃x r,xs=x::r/\RD K ads H d x/\aP K ads H ds r
end
section
variable (K:PySem.W.Frag) (ads:List Addr) (H:Hp)
def cB{κ:Type}:List (κ×D)->List (κ×V)->Prop
 | [],xs=>xs=[]
 | p::ps,xs=>∃x r,xs=x::r/\p.1=x.1/\RD K ads H p.2 x.2/\cB ps r
def Pw(a:Addr):MO->Prop
 | .lst ds=>∃xs,H a=some (.lst xs)/\aP K ads H ds xs
 | .jw ds=>∃o xs,H a=some (.eQ o (.lst xs))/\aP K ads H ds xs
 | .dK ah=>∃ks,H a=some (.dK ks)/\cB K ads H ah ks
 | .dT ah=>∃ks,H a=some (.dT ks)/\cB K ads H ah ks
 | .dF ah=>∃o ks,H a=some (.eQ o (.dT ks))/\cB K ads H ah ks
structure aW (M:ak):Prop where
 nd:ads.Nodup
 len:ads.length=M.length
 obj:∀(n:Nat)(o:MO)(a:Addr),M[n]?=some o->ads[n]?=some a->Pw K ads H a o
def Rm(ρ:En)(σ:L2.St):Prop:=∀(i:Nat)(d:D),ρ[i]?=some (some d)->∃v,σ[i]?=some (some v)/\RD K ads H d v
def RW:W->V->Prop
 | .d x,v=>RD K ads H x v
 | .lv ds,v=>∃a xs,v=.ref a/\H a=some (.lst xs)/\a∉ads/\aP K ads H ds xs
end
noncomputable def Kept(ads:List Addr)(H H':Hp):Prop:=∀b o,b∉ads->H b=some o->H' b=some o
noncomputable def Rn(H H':Hp):Prop:=∀b xs,H b=some (.tup xs)->H' b=some (.tup xs)
structure aJ (ads aF:List Addr) (H H':Hp):Prop where
 pre:∃r,aF=ads++r
 new:∀b∈aF,b∉ads->H b=none
 kept:Kept ads H H'
 iu:Rn H H'
 eQ:∀b o u,H b=some (.eQ o u)->H' b=some (.eQ o u)
theorem aJ.refl(ads:List Addr)(H:Hp):aJ ads ads H H:=⟨⟨[],by simp⟩,λb h n=>absurd h n,λ_ _ _ h=>h,λ_ _ h=>h,λ_ _ _ h=>h⟩
theorem aJ.trans(g:aJ a b H H1)(k:aJ b c H1 H2):aJ a c H H2:=by
 obtain⟨r,e⟩:=g.pre;obtain⟨r',e'⟩:=k.pre;refine⟨⟨r++r',by rw[e',e,rC]⟩,λx h n=>?_,λx o n h=>?_,λx xs h=>k.iu x xs (g.iu x xs h),λx o u h=>k.eQ x o u (g.eQ x o u h)⟩
 ·by_cases hb:x∈b
  ·exact g.new x hb n
  ·have:=k.new x h hb
   cases q:H x with
   | none=>rfl
   | some o=>rw[g.kept x o n q]at this;cases this
 ·refine k.kept x o (λhb=>?_) (g.kept x o n h);rw[g.new x hb n]at h;cases h
section
variable {K:PySem.W.Frag} {ads aF:List Addr} {H H':Hp}
theorem aJ.get(g:aJ ads aF H H'){n:Nat}(h:ads[n]?=some a):aF[n]?=some a:=by
 obtain⟨r,e⟩:=g.pre;rw[e,jn (by have:=(bq.mp h).1;exact this)];exact h
theorem aJ.jw(g:aJ ads aF H H')(h:vq K H a xs):vq K H' a xs:=by
 rcases h with⟨o,h⟩ | h
 ·exact .inl ⟨o,g.eQ _ _ _ h⟩
 ·exact .inr h
mutual
theorem aJ.rd(g:aJ ads aF H H'):∀(d:D)(v:V),RD K ads H d v->RD K aF H' d v
 | .aR,_,h=>by unfold RD at *;exact h
 | .bl _,_,h=>by unfold RD at *;exact h
 | .int _,_,h=>by unfold RD at *;exact h
 | .str _,_,h=>by unfold RD at *;exact h
 | .aj n,v,h=>by unfold RD at *;obtain⟨a,e,h⟩:=h;exact⟨a,e,g.get h⟩
 | .tup ds,v,h=>by unfold RD at *;obtain⟨a,xs,e,h,r⟩:=h;exact⟨a,xs,e,g.iu _ _ h,aJ.qJ g ds xs r⟩
 | .ls ds,v,h=>by unfold RD at *;obtain⟨a,xs,e,h,r⟩:=h;exact⟨a,xs,e,g.jw h,aJ.qJ g ds xs r⟩
theorem aJ.qJ(g:aJ ads aF H H'):∀(ds:List D)(vs:List V),aP K ads H ds vs->aP K aF H' ds vs
 | [],_,h=>by unfold aP at *;exact h
 | d::ds,vs,h=>by unfold aP at *;obtain⟨x,r,e,h1,h2⟩:=h;exact⟨x,r,e,aJ.rd g d x h1,aJ.qJ g ds r h2⟩
end
theorem aJ.BU{κ:Type}(g:aJ ads aF H H'):∀(ds:List (κ×D))(vs:List (κ×V)),cB K ads H ds vs->cB K aF H' ds vs
 | [],_,h=>by unfold cB at *;exact h
 | d::ds,vs,h=>by unfold cB at *;obtain⟨x,r,e,h0,h1,h2⟩:=h;exact⟨x,r,e,h0,g.rd d.2 x.2 h1,aJ.BU g ds r h2⟩
theorem aJ.YW(g:aJ ads aF H H')(h:Rm K ads H ρ σ):Rm K aF H' ρ σ:=λi d e=>by
 obtain⟨v,e1,r⟩:=h i d e;exact⟨v,e1,g.rd d v r⟩
theorem aJ.eN(g:aJ ads aF H H')(n:a∉ads)(e:H a=some o):a∉aF:=λh=>by
 rw[g.new a h n]at e;cases e
theorem aJ.rw(g:aJ ads aF H H')(h:RW K ads H w v):RW K aF H' w v:=by
 cases w with
 | d x=>exact g.rd x v h
 | lv ds =>
  obtain⟨a,xs,e,h,n,r⟩:=h;exact⟨a,xs,e,g.kept a _ n h,g.eN n h,g.qJ ds xs r⟩
theorem aP.len:∀{ds:List D}{vs:List V},aP K ads H ds vs->ds.length=vs.length
 | [],_,h=>by unfold aP at h;subst h;rfl
 | d::ds,vs,h=>by unfold aP at h;obtain⟨x,r,e,h1,h2⟩:=h;subst e;simp[aP.len h2]
theorem aP.get:∀{ds:List D}{vs:List V}{i:Nat}{d:D},aP K ads H ds vs->ds[i]?=some d->∃v,vs[i]?=some v/\RD K ads H d v
 | [],_,_,_,h,e=>by simp at e
 | d::ds,vs,0,d',h,e=>by unfold aP at h;obtain⟨x,r,rfl,h1,h2⟩:=h;simp at e;subst e;exact⟨x,rfl,h1⟩
 | d::ds,vs,i+1,d',h,e=>by
  unfold aP at h;obtain⟨x,r,rfl,h1,h2⟩:=h;obtain⟨v,e',r'⟩:=aP.get (i:=i) h2 (by simpa using e);exact⟨v,by simpa using e',r'⟩
theorem aP.app:∀{ds es:List D}{vs ws:List V},aP K ads H ds vs->aP K ads H es ws->aP K ads H (ds++es) (vs++ws)
 | [],_,vs,_,h,k=>by unfold aP at h;subst h;exact k
 | d::ds,es,vs,ws,h,k=>by
  unfold aP at h;obtain⟨x,r,rfl,h1,h2⟩:=h;show aP K ads H (d::(ds++es)) (x::(r++ws));unfold aP;exact⟨x,_,rfl,h1,aP.app h2 k⟩
theorem aP.one(h:RD K ads H d v):aP K ads H [d] [v]:=by
 unfold aP;exact⟨v,[],rfl,h,by unfold aP;rfl⟩
theorem aP.take:∀{ds:List D}{vs:List V}(n:Nat),aP K ads H ds vs->aP K ads H (ds.take n) (vs.take n)
 | _,_,0,_=>by simp;unfold aP;rfl
 | [],vs,n+1,h=>by unfold aP at h;subst h;simp;unfold aP;rfl
 | d::ds,vs,n+1,h=>by unfold aP at h;obtain⟨x,r,rfl,h1,h2⟩:=h;simp only[List.take_succ_cons];unfold aP;exact⟨x,_,rfl,h1,aP.take n h2⟩
theorem aP.drop:∀{ds:List D}{vs:List V}(n:Nat),aP K ads H ds vs->aP K ads H (ds.drop n) (vs.drop n)
 | _,_,0,h=>by simpa using h
 | [],vs,n+1,h=>by unfold aP at h;subst h;simp;unfold aP;rfl
 | d::ds,vs,n+1,h=>by unfold aP at h;obtain⟨x,r,rfl,h1,h2⟩:=h;simp only[List.drop_succ_cons];exact aP.drop n h2
theorem aP.setAt:∀{ds:List D}{vs:List V}(n:Nat){d:D}{v:V},aP K ads H ds vs->RD K ads H d v->aP K ads H (ds.set n d) (vs.set n v)
 | [],vs,n,_,_,h,_=>by unfold aP at h;subst h;simp;unfold aP;rfl
 | d::ds,vs,0,_,_,h,k=>by unfold aP at h;obtain⟨x,r,rfl,h1,h2⟩:=h;simp only[List.set_cons_zero];unfold aP;exact⟨_,_,rfl,k,h2⟩
 | d::ds,vs,n+1,_,_,h,k=>by unfold aP at h;obtain⟨x,r,rfl,h1,h2⟩:=h;simp only[List.set_cons_succ];unfold aP;exact⟨_,_,rfl,h1,aP.setAt n h2 k⟩
theorem aP.rev(h:aP K ads H ds vs):aP K ads H ds.reverse vs.reverse:=by
 induction ds generalizing vs with
 | nil=>unfold aP at h;subst h;simp;unfold aP;rfl
 | cons d ds ih=>unfold aP at h;obtain⟨x,r,rfl,h1,h2⟩:=h;simp only[Li];exact(ih h2).app (.one h1)
theorem aW.grow(m:aW K ads H M)(g:aJ ads ads H H')(k:∀a∈ads,H' a=H a):aW K ads H' M:=⟨m.nd,m.len,λn o a e1 e2=>by
 have h:=m.obj n o a e1 e2;have ha:=k a (dw e2)
 cases o with
 | lst ds=>obtain⟨xs,h,r⟩:=h;exact⟨xs,ha.trans h,g.qJ _ _ r⟩
 | jw ds=>obtain⟨o,xs,h,r⟩:=h;exact⟨o,xs,ha.trans h,g.qJ _ _ r⟩
 | dK ds=>obtain⟨xs,h,r⟩:=h;exact⟨xs,ha.trans h,g.BU _ _ r⟩
 | dT ds=>obtain⟨xs,h,r⟩:=h;exact⟨xs,ha.trans h,g.BU _ _ r⟩
 | dF ds=>obtain⟨o,xs,h,r⟩:=h;exact⟨o,xs,ha.trans h,g.BU _ _ r⟩⟩
theorem aW.there(m:aW K ads H M)(h:a∈ads):∃o,H a=some o/\∀xs,o≠.tup xs:=by
 obtain⟨n,hn,e⟩:=rn.mp h;have e2:ads[n]?=some a:=by rw[bx hn,e]
 have hM:n<M.length:=by rw[<- m.len];exact hn
 have h:=m.obj n M[n] a (bx hM) e2
 cases q:M[n]with
 | lst ds=>rw[q]at h;obtain⟨xs,h,r⟩:=h;exact⟨_,h,λ_ z=>by cases z⟩
 | jw ds=>rw[q]at h;obtain⟨o,xs,h,r⟩:=h;exact⟨_,h,λ_ z=>by cases z⟩
 | dK ds=>rw[q]at h;obtain⟨xs,h,r⟩:=h;exact⟨_,h,λ_ z=>by cases z⟩
 | dT ds=>rw[q]at h;obtain⟨xs,h,r⟩:=h;exact⟨_,h,λ_ z=>by cases z⟩
 | dF ds=>rw[q]at h;obtain⟨o,xs,h,r⟩:=h;exact⟨_,h,λ_ z=>by cases z⟩
theorem aW.fresh(m:aW K ads H M)(h:H p=none):p∉ads:=λz=>by
 obtain⟨o,e,_⟩:=m.there z;rw[h]at e;cases e
theorem aJ.gu(m:aW K ads H M)(h:H p=none):aJ ads ads H (upd H p o) :=
 ⟨⟨[],by simp⟩,λb h n=>absurd h n,λb u n e=>by rw[aC (λz=>by subst z;rw[h]at e;cases e)];exact e,λb xs e=>by rw[aC (λz=>by subst z;rw[h]at e;cases e)];exact e,λb u x e=>by rw[aC (λz=>by subst z;rw[h]at e;cases e)];exact e⟩
theorem aW.gu(m:aW K ads H M)(h:H p=none):aW K ads (upd H p o) M :=
 m.grow (aJ.gu m h) λa ha=>aC (λz=>by subst z;exact m.fresh h ha)
theorem DW{α:Type}{l:List α}(h:l.Nodup){i j:Nat}{x:α}(a:l[i]?=some x)(b:l[j]?=some x):i=j:=by
 obtain⟨h1,e1⟩:=bq.mp a;obtain⟨h2,e2⟩:=bq.mp b;rcases GI i j with q | q | q
 ·exact absurd (e1.trans e2.symm) (Gx.mp h i j h1 h2 q)
 ·exact q
 ·exact absurd (e2.trans e1.symm) (Gx.mp h j i h2 h1 q)
mutual
theorem RD.wide:∀(d:D)(v:V),RD K ads H d v->RD K (ads++[a]) H d v
 | .aR,_,h=>by unfold RD at *;exact h
 | .bl _,_,h=>by unfold RD at *;exact h
 | .int _,_,h=>by unfold RD at *;exact h
 | .str _,_,h=>by unfold RD at *;exact h
 | .aj n,v,h=>by
  unfold RD at *;obtain⟨b,e,h⟩:=h;exact⟨b,e,by rw[jn (bq.mp h).1];exact h⟩
 | .tup ds,v,h=>by unfold RD at *;obtain⟨b,xs,e,h,r⟩:=h;exact⟨b,xs,e,h,aP.wide ds xs r⟩
 | .ls ds,v,h=>by unfold RD at *;obtain⟨b,xs,e,h,r⟩:=h;exact⟨b,xs,e,h,aP.wide ds xs r⟩
theorem aP.wide:∀(ds:List D)(vs:List V),aP K ads H ds vs->aP K (ads++[a]) H ds vs
 | [],_,h=>by unfold aP at *;exact h
 | d::ds,vs,h=>by unfold aP at *;obtain⟨x,r,e,h1,h2⟩:=h;exact⟨x,r,e,RD.wide d x h1,aP.wide ds r h2⟩
end
theorem cB.wide{κ:Type}  : ∀(ds:List (κ×D))(vs:List (κ×V)),cB K ads H ds vs->cB K (ads++[a]) H ds vs
 | [],_,h=>by unfold cB at *;exact h
 | d::ds,vs,h=>by unfold cB at *;obtain⟨x,r,e,h0,h1,h2⟩:=h;exact⟨x,r,e,h0,RD.wide d.2 x.2 h1,cB.wide ds r h2⟩
theorem Pw.wide(h:Pw K ads H b o):Pw K (ads++[a]) H b o:=by
 cases o with
 | lst ds=>obtain⟨xs,h,r⟩:=h;exact⟨xs,h,r.wide⟩
 | jw ds=>obtain⟨o,xs,h,r⟩:=h;exact⟨o,xs,h,r.wide⟩
 | dK ds=>obtain⟨xs,h,r⟩:=h;exact⟨xs,h,r.wide⟩
 | dT ds=>obtain⟨xs,h,r⟩:=h;exact⟨xs,h,r.wide⟩
 | dF ds=>obtain⟨o,xs,h,r⟩:=h;exact⟨o,xs,h,r.wide⟩
theorem aW.push(m:aW K ads H M)(n:a∉ads)(h:Pw K ads H a o):aW K (ads++[a]) H (M++[o]) where
  nd:=by
    rw[uj]
    exact ⟨m.nd, by simp, fun x hx y hy => by have : y = a := by simpa using hy
                                              subst this;exact λz=>n (z▸hx)⟩
  len:=by simp[m.len]
  obj:=λi o' b e1 e2=>by
    by_cases hi:i<M.length
    · rw[jn hi]at e1;rw[jn (by rw[m.len];exact hi)]at e2;exact(m.obj i o' b e1 e2).wide
    · have hi' : i = M.length := by
        have:=(bq.mp e1).1;simp at this;omega
      subst hi';rw[mD (aI _)]at e1;rw[mD (by rw[m.len];exact aI _)]at e2;simp[m.len]at e1 e2;subst e1 e2;exact h.wide
theorem aW.write{M:ak}{n:Nat}{a:Addr}{u o:MO}{ho:HO}(m:aW K ads H M)(e:M[n]?=some u)(ea:ads[n]?=some a)(nf:∀o x,H a≠some (.eQ o x))(hn:Pw K ads (upd H a ho) a o):aJ ads ads H (upd H a ho)/\aW K ads (upd H a ho) (M.set n o):=by
  have u6:a∈ads:=dw ea;obtain⟨o1,e1,nt⟩:=m.there u6
  have g : aJ ads ads H (upd H a ho) := ⟨⟨[], by simp⟩, fun b h n => absurd h n, fun b x nb h => by rw [aC (by intro z; subst z; exact nb u6)]; exact h, fun b xs h => by
      rw[aC (λz=>by subst z;rw[e1]at h;exact nt xs (cg h))];exact h,λb o u h=>by rw[aC (λz=>by subst z;exact nf _ _ h)];exact h⟩
  refine⟨g,m.nd,by rw[kh];exact m.len,λi o' b x1 x2=>?_⟩;by_cases hi:i=n
  · subst hi;rw[ea]at x2;cases x2;rw[pS (bq.mp e).1]at x1;cases x1;exact hn
  · rw[pU (dh hi)]at x1
    have hb:b≠a:=λz=>by
      subst z;exact hi (DW m.nd x2 ea)
    have h:=m.obj i o' b x1 x2
    cases o' with
    | lst ds=>obtain⟨xs,h,r⟩:=h;exact⟨xs,by rw[aC hb];exact h,g.qJ _ _ r⟩
    | jw ds=>obtain⟨o,xs,h,r⟩:=h;exact⟨o,xs,by rw[aC hb];exact h,g.qJ _ _ r⟩
    | dK ds=>obtain⟨xs,h,r⟩:=h;exact⟨xs,by rw[aC hb];exact h,g.BU _ _ r⟩
    | dT ds=>obtain⟨xs,h,r⟩:=h;exact⟨xs,by rw[aC hb];exact h,g.BU _ _ r⟩
    | dF ds=>obtain⟨o,xs,h,r⟩:=h;exact⟨o,xs,by rw[aC hb];exact h,g.BU _ _ r⟩
end
mutual
noncomputable def dD(M:ak):Nat->D->Option PyData
 | _,.aR=>some .none
 | _,.bl b=>some (.bool b)
 | _,.int i=>some (.int i)
 | _,.str s=>some (.str s)
 | 0,.tup _=>none
 | 0,.aj _=>none
 | 0,.ls _=>none
 | n+1,.ls ds=>(bS M n ds).map .list
 | n+1,.tup ds=>(bS M n ds).map .tuple
 | n+1,.aj k=>match M[k]? with
  | some (.lst ds)=>(bS M n ds).map .list
  | some (.jw ds)=>(bS M n ds).map .list
  | _=>none
noncomputable def bS(M:ak):Nat->List D->Option (List PyData)
 | _,[]=>some []
 | n,d::ds=>match dD M n d,bS M n ds with
  | some p,some ps=>some (p::ps)
  | _,_=>none
end
def jx(M:ak):W->Option PyData
 | .d x=>dD M 30 x
 | .lv ds=>(bS M 30 ds).map .list
inductive Mu where
 | add | sub | mul | fdiv | mod | pow
 deriving DecidableEq
inductive Mx where
 | eq | ne | lt | le | gt | ge | uc | fj | isin | eN
 deriving DecidableEq
inductive Ty where
 | int | bool | str | tuple | list | dict | none
 deriving DecidableEq
inductive Bi where
 | len | max2 | min2 | vt | list1 | tuple1 | ou | xJ (t:Ty) | all1 | HK | qK | min1 | HL | ox
 deriving DecidableEq
inductive Me where
 | append | insert | reverse | extend | remove | clear | pop
 deriving DecidableEq
inductive SK where
 | seq | eK | qf | enum | zip | HM | keys | vals
 deriving DecidableEq
mutual
inductive C where
 | ae (i:Nat)
 | ai (d:D)
 | bin (op:Mu) (a b:C)
 | cmp (op:Mx) (a b:C)
 | chain (o1 o2:Mx) (a b c:C)
 | d7 (cs:List C) | iy (cs:List C) | neg (a:C)
 | ite (c:fL) (a b:C)
 | tup (cs:List C) | lst (cs:List C)
 | sub (a b:C)
 | pP (a:C) (lo hi:Option C)
 | Cy (a:C) (k:Int)
 | call (f:Nat) (cs:List C)
 | bi (b:Bi) (cs:List C)
 | me (m:Me) (o:C) (cs:List C)
 | u5 (ks:List Str) (cs:List C)
 | lx (tp:Bool) (cs:List C)
 | HN (x:Str) (v:Int)
 | lI
 | jY (a b:C)
 | gJ (ng:Bool) (a b:C)
 | g9 (ng:Bool) (a:C)
 | sset (a:C)
 | comp (k:SK) (ee:List C) (tg:List Nat) (cond:Option fL) (elt:C) (dB:List (Option Nat))
inductive fL where
 | val (c:C) | d7 (ts:List fL) | iy (ts:List fL) | neg (a:fL)
end
noncomputable def bT(M:ak):W->Option (Bool×List D)
 | .lv ds=>some (true,ds)
 | .d (.tup ds)=>some (false,ds)
 | .d (.ls ds)=>some (true,ds)
 | .d (.aj n)=>match M[n]? with
  | some (.lst ds)=>some (true,ds)
  | some (.jw ds)=>some (true,ds)
  | _=>none
 | _=>none
noncomputable def eX(M:ak):W->Option (List D)
 | .lv ds=>some ds
 | .d (.aj n)=>match M[n]? with
  | some (.lst ds)=>some ds
  | _=>none
 | _=>none
noncomputable def own:W->ak->cK D
 | .d x,M=>.ok x M
 | .lv ds,M=>.ok (.aj M.length) (M++[.lst ds])
def UD(ds:List D)(i:Int):Option D:=zc ds i
def cutD(ds:List D)(lo hi:Option Int):List D:=(ds.drop (HT.eG ds.length 0 lo)).take (HT.eG ds.length ds.length hi-HT.eG ds.length 0 lo)
def oy(op:Mu)(a b:W)(M:ak):cK W :=
 match op,a,b with
 | .add,.d (.int i),.d (.int j)=>.ok (.d (.int (i+j))) M
 | .sub,.d (.int i),.d (.int j)=>.ok (.d (.int (i-j))) M
 | .mul,.d (.int i),.d (.int j)=>if (-(2 ^ 64)<i/\i<2 ^ 64)\/(-(2 ^ 64)<j/\j<2 ^ 64) then .ok (.d (.int (i*j))) M else .af
 | .fdiv,.d (.int i),.d (.int j)=>if 0<j/\j<1073741824 then .ok (.d (.int (i / j))) M else .af
 | .mod,.d (.int i),.d (.int j)=>if 0<j then .ok (.d (.int (i % j))) M else .af
 | .pow,.d (.int i),.d (.int j)=>if 0<=j/\j<=1000000/\i.natAbs<2 ^ 64 then .ok (.d (.int (i ^ j.toNat))) M else .af
 | .add,.d (.tup xs),.d (.tup ys)=>if xs.length+ys.length<=sizeLine then .ok (.d (.tup (xs++ys))) M else .af
 | .add,a,b=>match eX M a,eX M b with
  | some xs,some ys=>if xs.length+ys.length<=sizeLine then .ok (.lv (xs++ys)) M else .af
  | _,_=>.af
 | .mul,a,.d (.int k)=>match eX M a with
  | some xs=>if -(2 ^ 63)<=k/\k<2 ^ 63/\xs.length*k.toNat<=sizeLine then .ok (.lv (List.replicate k.toNat xs).flatten) M else .af
  | none=>.af
 | _,_,_=>.af
noncomputable def lJ(p:PyData):List PyData->Bool
 | []=>false
 | q::qs=>PyData.eqv q p||lJ p qs
noncomputable def iz(M:ak):W->Option (List (bH×D))
 | .d (.aj n)=>match M[n]? with
  | some (.dK ah)=>some ah
  | _=>none
 | _=>none
noncomputable def vv:W->Option bH
 | .d (.int i)=>some (Sum.inl i)
 | .d (.str s)=>some (Sum.inr s)
 | _=>none
noncomputable def de{κ:Type}[DecidableEq κ](ah:List (κ×D))(k:κ):Option D:=(ah.find? λp=>decide (p.1=k)).map (·.2)
def xM(M:ak)(kb:List (bH×D)):List (bH×D)->Option Bool
 | []=>some true
 | (k,v)::r=>match de kb k with
  | none=>some false
  | some y=>match dD M 30 v,dD M 30 y with
   | some p,some q=>if SeqAt.shaped p=true/\SeqAt.shaped q=true then (xM M kb r).map (PyData.eqv p q && ·) else none
   | _,_=>none
def bh(op:Mx)(a b:W)(M:ak):cK Bool :=
 match op with
 | .eq=>match jx M a,jx M b with
  | some p,some q=>if SeqAt.shaped p=true/\SeqAt.shaped q=true then .ok (PyData.eqv p q) M else .af
  | _,_=>match iz M a,iz M b with
   | some ka,some kb=>match xM M kb ka with
    | some r=>.ok (ka.length==kb.length&&r) M
    | none=>.af
   | _,_=>.af
 | .ne=>match jx M a,jx M b with
  | some p,some q=>if SeqAt.shaped p=true/\SeqAt.shaped q=true then .ok (!PyData.eqv p q) M else .af
  | _,_=>.af
 | .lt=>match a,b with
  | .d (.int i),.d (.int j)=>.ok (decide (i<j)) M
  | .d (.str x),.d (.str y)=>.ok (decide (x.cps.toList<y.cps.toList)) M
  | _,_=>.af
 | .le=>match a,b with
  | .d (.int i),.d (.int j)=>.ok (decide (i<=j)) M
  | .d (.str x),.d (.str y)=>.ok (!decide (y.cps.toList<x.cps.toList)) M
  | _,_=>.af
 | .gt=>match a,b with
  | .d (.int i),.d (.int j)=>.ok (decide (j<i)) M
  | _,_=>.af
 | .ge=>match a,b with
  | .d (.int i),.d (.int j)=>.ok (decide (j<=i)) M
  | _,_=>.af
 | .uc=>match a with
  | .d .aR=>.ok true M
  | _=>.ok false M
 | .fj=>match a with
  | .d .aR=>.ok false M
  | _=>.ok true M
 | .isin=>match jx M a,bT M b with
  | some p,some (_,ds)=>match bS M 30 ds with
   | some qs=>if SeqAt.shaped p=true/\qs.all SeqAt.shaped=true then .ok (lJ p qs) M else .af
   | none=>.af
  | _,none=>match vv a,iz M b with
   | some k,some ah=>.ok (de ah k).isSome M
   | _,_=>.af
  | _,_=>.af
 | .eN=>match jx M a,bT M b with
  | some p,some (_,ds)=>match bS M 30 ds with
   | some qs=>if SeqAt.shaped p=true/\qs.all SeqAt.shaped=true then .ok (!lJ p qs) M else .af
   | none=>.af
  | _,none=>match vv a,iz M b with
   | some k,some ah=>.ok (!(de ah k).isSome) M
   | _,_=>.af
  | _,_=>.af
def qg(M:ak):W->Option Bool
 | .d .aR=>some false
 | .d (.bl b)=>some b
 | .d (.int i)=>some (i != 0)
 | w=>(bT M w).map λp=>!p.2.isEmpty
def dy(a b:W)(M:ak):cK W :=
  match b with
  | .d (.int i)=>match bT M a with
    | some (_,ds)=>match UD ds i with
      | some d=>.ok (.d d) M
      | none=>.af
    | none=>match a with
      | .d (.str s) => if s.length <= sizeLine then match zc s.cps.toList i with
          | some c=>.ok (.d (.str ⟨#[c]⟩)) M
          | none=>.af
        else .af
      | .d (.aj n)=>match M[n]? with
        | some (.dK ah)=>match de ah (Sum.inl i:bH)with
          | some d=>.ok (.d d) M
          | none=>.af
        | _=>.af
      | _=>.af
  | .d (.str k)=>match a with
    | .d (.aj n)=>match M[n]? with
      | some (.dK ah)=>match (ah.find? λp=>decide (p.1=(Sum.inr k:bH))).map (·.2)with
        | some d=>.ok (.d d) M
        | none=>.af
      | _=>.af
    | _=>.af
  | _=>.af
def oz(a:W)(lo hi:Option Int)(M:ak):cK W :=
 match bT M a with
 | some (true,ds)=>.ok (.lv (cutD ds lo hi)) M
 | some (false,ds)=>if HT.eG ds.length 0 lo=0/\HT.eG ds.length ds.length hi=ds.length then .af else .ok (.d (.tup (cutD ds lo hi))) M
 | none=>.af
def optI:W->Option Int
 | .d (.int i)=>some i
 | _=>none
noncomputable def HP(M:ak):W->Option Ty
 | .lv _=>some .list
 | .d .aR=>some .none
 | .d (.bl _)=>some .bool
 | .d (.int _)=>some .int
 | .d (.str _)=>some .str
 | .d (.tup _)=>some .tuple
 | .d (.ls _)=>none
 | .d (.aj n)=>match M[n]? with
  | some (.lst _)=>some .list
  | some (.jw _)=>some .list
  | some (.dK _)=>some .dict
  | some (.dT _)=>some .dict
  | some (.dF _)=>none
  | none=>none
noncomputable def My:List D->Option (List Bool)
 | []=>some []
 | .bl b::ds=>(My ds).map (b::·)
 | _::_=>none
noncomputable def iQ:List D->Option (List Int)
 | []=>some []
 | .int b::ds=>(iQ ds).map (b::·)
 | _::_=>none
noncomputable def ef{α:Type}(xs:List α)(k:Int):List α:=(List.range (Builtin.Slice.slicePlaces (Builtin.Slice.sliceAdjust none none k (xs.length:Int)).1 (Builtin.Slice.sliceAdjust none none k (xs.length:Int)).2 k)).filterMap λ(j:Nat)=>xs[((Builtin.Slice.sliceAdjust none none k (xs.length:Int)).1+(j:Int)*k).toNat]?
def lK(a:W)(k:Int)(M:ak):cK W :=
 match a with
 | .d (.tup ds)=>if (k=2\/k=-1)/\(ef ds k).length<=sizeLine then .ok (.d (.tup (ef ds k))) M else .af
 | _=>.af
noncomputable def cR{κ:Type}[DecidableEq κ](ah:List (κ×D))(k:κ)(v:D):List (κ×D) :=
 if (ah.any λkv=>decide (kv.1=k))=true then ah.map (λkv=>if kv.1=k then (kv.1,v) else kv) else ah++[(k,v)]
noncomputable def pairD:D->Option (bH×D)
 | .tup [.int i,d]=>some (Sum.inl i,d)
 | .tup [.str x,d]=>some (Sum.inr x,d)
 | _=>none
def BV(acc:List (bH×D)):List D->Option (List (bH×D))
 | []=>some acc
 | d::ds=>match pairD d with
  | some (k,x)=>BV (cR acc k x) ds
  | none=>none
def kc(b:Bi)(ws:List W)(M:ak):cK W :=
 match b,ws with
 | .len,[w]=>match bT M w with
  | some (_,ds)=>.ok (.d (.int ds.length)) M
  | none=>match w with
   | .d (.str x)=>if x.length<=sizeLine then .ok (.d (.int x.length)) M else .af
   | _=>.af
 | .all1,[w]=>match bT M w with
  | some (_,ds)=>match My ds with
   | some bs=>.ok (.d (.bl (bs.all id))) M
   | none=>.af
  | none=>.af
 | .HK,[w]=>match bT M w with
  | some (_,ds)=>match My ds with
   | some bs=>.ok (.d (.bl (bs.any id))) M
   | none=>.af
  | none=>.af
 | .ox,[w]=>match bT M w with
  | some (true,ds)=>match iQ ds with
   | some is=>if is.length<64 then .ok (.lv ((L2.fi is).map D.int)) M else .af
   | none=>.af
  | _=>.af
 | .min1,[w]=>match bT M w with
  | some (_,ds)=>match iQ ds with
   | some (i::is)=>.ok (.d (.int (is.foldl (λa b=>if b<a then b else a) i))) M
   | _=>.af
  | none=>.af
 | .HL,[w]=>match bT M w with
  | some (_,ds)=>match iQ ds with
   | some (i::is)=>.ok (.d (.int (is.foldl (λa b=>if a<b then b else a) i))) M
   | _=>.af
  | none=>.af
 | .max2,[.d (.int i),.d (.int j)]=>.ok (.d (.int (if j>i then j else i))) M
 | .min2,[.d (.int i),.d (.int j)]=>.ok (.d (.int (if j<i then j else i))) M
 | .vt,[.d (.int i)]=>.ok (.d (.int i)) M
 | .vt,[.d (.bl k)]=>.ok (.d (.int (if k then 1 else 0))) M
 | .list1,[w]=>match bT M w with
  | some (_,ds)=>.ok (.lv ds) M
  | none=>.af
 | .tuple1,[w]=>match bT M w with
  | some (_,ds)=>.ok (.d (.tup ds)) M
  | none=>.af
 | .ou,[w]=>match jx M w with
  | some p=>if p.showable=true/\p.depth<=40/\p.shown.length<=sizeLine then .ok (.d (.str p.shown)) M else .af
  | none=>.af
 | .qK,[w]=>match iz M w with
  | some ah=>.ok (.d (.aj M.length)) (M++[.dK ah])
  | none=>match bT M w with
   | some (true,ds)=>match BV [] ds with
    | some ah=>.ok (.d (.aj M.length)) (M++[.dK ah])
    | none=>.af
   | _=>.af
 | .xJ t,[w]=>match HP M w with
  | some g=>.ok (.d (.bl (decide (g=t)||(decide (g=.bool)&&decide (t=.int))))) M
  | none=>.af
 | _,_=>.af
noncomputable def xN:List W->Option (Int×Int)
 | [.d (.int i),.d (.int j)]=>some (i,j)
 | [.d (.int j)]=>some (0,j)
 | _=>none
noncomputable def Ro(i:Int)(n:Nat):List D:=(List.range n).map λk=>D.int (i+((k:Nat):Int))
noncomputable def DX(tp:Bool)(ds:List D):W:=if tp=true then .d (.tup ds) else .lv ds
def HQ(tp:Bool)(ws:List W)(M:ak):cK W:=match xN ws with
 | some (i,j)=>if (-(2 ^ 62)<=i/\i<2 ^ 62/\-(2 ^ 62)<=j/\j<2 ^ 62)/\(j-i).toNat<=2 ^ 24 then .ok (DX tp (Ro i (j-i).toNat)) M else .af
 | none=>.af
def mL(m:Me)(o:W)(ws:List D)(M:ak):cK W :=
 match o with
 | .d (.aj n)=>match M[n]? with
  | some (.lst ds)=>match m,ws with
   | .append,[x]=>if ds.length<sizeLine then .ok (.d .aR) (M.set n (.lst (ds++[x]))) else .af
   | .insert,[.int i,x]=>if ds.length<sizeLine/\0<=i/\i<=ds.length then .ok (.d .aR) (M.set n (.lst (ds.take i.toNat++x::ds.drop i.toNat))) else .af
   | .reverse,[]=>.ok (.d .aR) (M.set n (.lst ds.reverse))
   | .clear,[]=>.ok (.d .aR) (M.set n (.lst []))
   | .pop,[]=>match ds[ds.length-1]? with
    | some d=>.ok (.d d) (M.set n (.lst ds.dropLast))
    | none=>.af
   | .extend,[.aj k]=>match M[k]? with
    | some (.lst es)=>if ds.length+es.length<=sizeLine then .ok (.d .aR) (M.set n (.lst (ds++es))) else .af
    | _=>.af
   | .extend,[.tup es]=>if ds.length+es.length<=sizeLine then .ok (.d .aR) (M.set n (.lst (ds++es))) else .af
   | .remove,[.int i]=>match iQ ds with
    | some is=>if i∈is then .ok (.d .aR) (M.set n (.lst ((is.erase i).map D.int))) else .af
    | none=>.af
   | _,_=>.af
  | _=>.af
 | _=>.af
inductive Z1 where
 | items (ds:List D) | at (n:Nat)
noncomputable def HR(M:ak):Z1->Option (List D)
 | .items ds=>some ds
 | .at n=>match M[n]? with
  | some (.lst ds)=>some ds
  | some (.jw ds)=>some ds
  | _=>none
def YX(M:ak):W->Option Z1
 | .lv ds=>some (.items ds)
 | .d (.tup ds)=>some (.items ds)
 | .d (.ls ds)=>some (.items ds)
 | .d (.aj n)=>if (bT M (.d (.aj n))).isSome then some (.at n) else none
 | _=>none
noncomputable def Rp(xs ys:List D)(i:Nat):Option D:=match xs[i]?,ys[i]? with
 | some x,some y=>some (.tup [x,y])
 | _,_=>none
inductive It where
 | at (n:Nat) | items (ds:List D) | lx (lo:Int) (n:Nat) | jZ (n:Nat) | iR (ds:List D) | zip (a b:Z1)
def itemAt(M:ak)(i:Nat):It->Option (Option D)
 | .at n=>match M[n]? with
  | some (.lst ds)=>some ds[i]?
  | some (.jw ds)=>some ds[i]?
  | _=>none
 | .items ds=>some ds[i]?
 | .lx lo n=>some (if i<n then some (.int (lo+i)) else none)
 | .jZ n=>match M[n]? with
  | some (.lst ds)=>some (ds[i]?.map λd=>.tup [.int i,d])
  | some (.jw ds)=>some (ds[i]?.map λd=>.tup [.int i,d])
  | _=>none
 | .iR ds=>some (ds[i]?.map λd=>.tup [.int i,d])
 | .zip a b=>match HR M a,HR M b with
  | some xs,some ys=>some (Rp xs ys i)
  | _,_=>none
def dW(M:ak):It->Nat
 | .at n=>match M[n]? with
  | some (.lst ds)=>ds.length
  | some (.jw ds)=>ds.length
  | _=>0
 | .items ds=>ds.length
 | .lx _ n=>n
 | .jZ n=>match M[n]? with
  | some (.lst ds)=>ds.length
  | some (.jw ds)=>ds.length
  | _=>0
 | .iR ds=>ds.length
 | .zip a b=>match HR M a,HR M b with
  | some xs,some ys=>min xs.length ys.length
  | _,_=>0
def kD:bH->D
 | .inl i=>.int i
 | .inr x=>.str x
def Rq(p:List bH×D):D:=.tup (p.1.map kD)
noncomputable def oA:List D->Option (List bH)
 | []=>some []
 | .int i::ds=>(oA ds).map (Sum.inl i::·)
 | .str x::ds=>(oA ds).map (Sum.inr x::·)
 | _::_=>none
def xO:W->Option (List bH)
 | .d (.tup ds)=>oA ds
 | _=>none
noncomputable def Mz(M:ak):W->Option (List (List bH×D))
 | .d (.aj n)=>match M[n]? with
  | some (.dT ah)=>some ah
  | some (.dF ah)=>some ah
  | _=>none
 | _=>none
def mq(a b:W)(M:ak):cK W:=match Mz M a,xO b with
 | some ah,some k=>match de ah k with
  | some d=>.ok (.d d) M
  | none=>.af
 | _,_=>.af
def jE(ng:Bool)(a b:W)(M:ak):cK W:=match xO a,Mz M b with
 | some k,some ah=>.ok (.d (.bl (ng != (de ah k).isSome))) M
 | _,_=>.af
noncomputable def YY(a:W)(M:ak):cK W:=match a with
 | .d (.aj n)=>match M[n]? with
  | some (.dT _)=>.ok (.d .aR) (M.set n (.dT []))
  | _=>.af
 | _=>.af
def ik(a b:W)(d:D)(M:ak):cK Unit:=match a with
 | .d (.aj n)=>match M[n]?,xO b with
  | some (.dT ah),some k=>if ah.length<sizeLine then .ok () (M.set n (.dT (cR ah k d))) else .af
  | _,_=>.af
 | _=>.af
noncomputable def W5(i:Int)(n:Nat):List D:=(List.range n).map λk=>.int (i-(k:Nat))
def iB(k:SK)(ws:List W)(M:ak):cK It :=
 match k,ws with
 | .seq,[.lv ds]=>.ok (.items ds) M
 | .seq,[.d (.tup ds)]=>.ok (.items ds) M
 | .seq,[.d (.ls ds)]=>.ok (.items ds) M
 | .seq,[.d (.aj n)]=>if (bT M (.d (.aj n))).isSome then .ok (.at n) M else .af
 | .eK,[.d (.int j)]=>if -(2 ^ 62)<=j/\j<2 ^ 62 then .ok (.lx 0 j.toNat) M else .af
 | .qf,[.d (.int i),.d (.int j)]=>if -(2 ^ 62)<=i/\i<2 ^ 62/\-(2 ^ 62)<=j/\j<2 ^ 62 then .ok (.lx i (j-i).toNat) M else .af
 | .enum,[.lv ds]=>.ok (.iR ds) M
 | .enum,[.d (.tup ds)]=>.ok (.iR ds) M
 | .enum,[.d (.ls ds)]=>.ok (.iR ds) M
 | .enum,[.d (.aj n)]=>if (bT M (.d (.aj n))).isSome then .ok (.jZ n) M else .af
 | .HM,[.d (.int i),.d (.int j),.d (.int k)]=>if k=-1/\-(2 ^ 62)<=i/\i<2 ^ 62/\-(2 ^ 62)<=j/\j<2 ^ 62 then .ok (.items (W5 i (i-j).toNat)) M else .af
 | .keys,[.d (.aj n)]=>match M[n]? with
  | some (.dT ah)=>.ok (.items (ah.map Rq)) (M.set n (.dF ah))
  | some (.dF ah)=>.ok (.items (ah.map Rq)) M
  | _=>.af
 | .vals,[.d (.aj n)]=>match M[n]? with
  | some (.dT ah)=>.ok (.items (ah.map (·.2))) (M.set n (.dF ah))
  | some (.dF ah)=>.ok (.items (ah.map (·.2))) M
  | _=>.af
 | .zip,[u,v]=>match YX M u,YX M v with
  | some a,some b=>.ok (.zip a b) M
  | _,_=>.af
 | _,_=>.af
noncomputable def eD(tg:List Nat)(ds:List D)(ρ:En):Option En :=
 match tg,ds with
 | [],[]=>some ρ
 | i::tg,d::ds=>eD tg ds (ρ.set i (some d))
 | _,_=>none
def b_(tg:List Nat)(d:D)(ρ:En):Option En :=
 match tg with
 | [i]=>some (ρ.set i (some d))
 | _=>match d with
  | .tup ds=>eD tg ds ρ
  | _=>none
abbrev dN:=Nat->List D->ak->cK W
def fb(dB:List (Option Nat))(ρ:En):En:=dB.map λo=>o.bind λj=>(ρ[j]?).join
def bp(cond:En->ak->cK Bool)(elt:En->ak->cK D)(it:It)(tg:List Nat):Nat->Nat->En->ak->List D->cK W
  | 0,i,_,M,acc=>match itemAt M i it with
    | some none=>.ok (.lv acc) M
    | _=>.af
  | f+1,i,τ,M,acc=>match itemAt M i it with
    | some none=>.ok (.lv acc) M
    | some (some d)=>match b_ tg d τ with
      | none=>.af
      | some τ => if acc.length < sizeLine then
          (cond τ M).bind λb M=>if b then (elt τ M).bind λx M=>bp cond elt it tg f (i+1) τ M (acc++[x]) else bp cond elt it tg f (i+1) τ M acc
        else .af
    | none=>.af
noncomputable def zw(ng:Bool)(x:W)(M:ak):cK W:=match x with
 | .d (.bl b)=>.ok (.d (.bl (ng != b))) M
 | _=>.af
def oB(x:W)(M:ak):cK W:=match eX M x with
 | some ds=>match iQ ds with
  | some is=>if is.length+1<scanBound/\(zv is).length<64 then .ok (.lv ((fi (zv is)).map D.int)) M else .af
  | none=>.af
 | none=>.af
mutual
noncomputable def ev(G:dN):C->En->ak->cK W
  | .ae i,ρ,M=>match ρ[i]? with
    | some (some d)=>.ok (.d d) M
    | _=>.af
  | .ai d,_,M=>.ok (.d d) M
  | .bin op a b,ρ,M=>(ev G a ρ M).bind λx M=>(ev G b ρ M).bind λy M=>oy op x y M
  | .cmp op a b,ρ,M=>(ev G a ρ M).bind λx M=>(ev G b ρ M).bind λy M=>(bh op x y M).bind λr M=>.ok (.d (.bl r)) M
  | .chain o1 o2 a b c, ρ, M => (ev G a ρ M).bind fun x M => (ev G b ρ M).bind fun y M => (bh o1 x y M).bind fun r M =>
      if r then (ev G c ρ M).bind λz M=>(bh o2 y z M).bind λr M=>.ok (.d (.bl r)) M else .ok (.d (.bl false)) M
  | .d7 cs,ρ,M=>jF G cs ρ M
  | .iy cs,ρ,M=>qh G cs ρ M
  | .neg a,ρ,M=>(ev G a ρ M).bind λx M=>match x with
    | .d (.bl r)=>.ok (.d (.bl (!r))) M
    | _=>.af
  | .ite c a b,ρ,M=>(d8 G c ρ M).bind λr M=>if r then ev G a ρ M else ev G b ρ M
  | .tup cs,ρ,M=>(bW G cs ρ M).bind λds M=>if ds.length<=sizeLine then .ok (.d (.tup ds)) M else .af
  | .lst cs,ρ,M=>(bW G cs ρ M).bind λds M=>if ds.length<=sizeLine then .ok (.lv ds) M else .af
  | .sub a b,ρ,M=>(ev G a ρ M).bind λx M=>(ev G b ρ M).bind λy M=>dy x y M
  | .pP a lo hi,ρ,M=>(ev G a ρ M).bind λx M=>(ud G lo ρ M).bind λl M=>(ud G hi ρ M).bind λh M=>oz x l h M
  | .Cy a k,ρ,M=>(ev G a ρ M).bind λx M=>lK x k M
  | .call f cs,ρ,M=>(bW G cs ρ M).bind λds M=>G f ds M
  | .bi b cs,ρ,M=>(dE G cs ρ M).bind λws M=>kc b ws M
  | .me m o cs,ρ,M=>(ev G o ρ M).bind λx M=>if (eX M x).isSome then (bW G cs ρ M).bind λds M=>mL m x ds M else .af
  | .u5 ks cs,ρ,M=>(bW G cs ρ M).bind λds M=>if ks.length=ds.length then .ok (.d (.aj M.length)) (M++[.dK ((ks.map Sum.inr).zip ds)]) else .af
  | .lx tp cs,ρ,M=>(dE G cs ρ M).bind λws M=>HQ tp ws M
  | .HN _ v,_,M=>.ok (.d (.int v)) M
  | .lI,_,M=>.ok (.d (.aj M.length)) (M++[.dT []])
  | .jY a b,ρ,M=>(ev G a ρ M).bind λx M=>(ev G b ρ M).bind λy M=>mq x y M
  | .gJ ng a b,ρ,M=>(ev G a ρ M).bind λx M=>(ev G b ρ M).bind λy M=>jE ng x y M
  | .g9 ng a,ρ,M=>(ev G a ρ M).bind λx M=>zw ng x M
  | .sset a,ρ,M=>(ev G a ρ M).bind λx M=>oB x M
  | .comp k ee tg cond elt dB, ρ, M => (dE G ee ρ M).bind fun ws M => (iB k ws M).bind fun it M =>
      bp (λτ M=>bV G cond τ M) (λτ M=>(ev G elt τ M).bind own) it tg (dW M it) 0 (fb dB ρ) M []
noncomputable def d8(G:dN):fL->En->ak->cK Bool
 | .d7 ts,ρ,M=>fU G ts ρ M
 | .iy ts,ρ,M=>fV G ts ρ M
 | .neg a,ρ,M=>(d8 G a ρ M).bind λr M=>.ok (!r) M
 | .val c,ρ,M=>(ev G c ρ M).bind λw M=>match qg M w with
  | some r=>.ok r M
  | none=>.af
noncomputable def jF(G:dN):List C->En->ak->cK W
 | [],_,_=>.af
 | c::cs,ρ,M=>(ev G c ρ M).bind λx M=>match cs,x with
  | [],x=>.ok x M
  | _,.d (.bl true)=>jF G cs ρ M
  | _,.d (.bl false)=>.ok (.d (.bl false)) M
  | _,_=>.af
noncomputable def qh(G:dN):List C->En->ak->cK W
 | [],_,_=>.af
 | c::cs,ρ,M=>(ev G c ρ M).bind λx M=>match cs,x with
  | [],x=>.ok x M
  | _,.d (.bl false)=>qh G cs ρ M
  | _,.d (.bl true)=>.ok (.d (.bl true)) M
  | _,_=>.af
noncomputable def fU(G:dN):List fL->En->ak->cK Bool
 | [],_,_=>.af
 | c::cs,ρ,M=>(d8 G c ρ M).bind λx M=>match cs,x with
  | [],x=>.ok x M
  | _,true=>fU G cs ρ M
  | _,false=>.ok false M
noncomputable def fV(G:dN):List fL->En->ak->cK Bool
 | [],_,_=>.af
 | c::cs,ρ,M=>(d8 G c ρ M).bind λx M=>match cs,x with
  | [],x=>.ok x M
  | _,false=>fV G cs ρ M
  | _,true=>.ok true M
noncomputable def bW(G:dN):List C->En->ak->cK (List D)
 | [],_,M=>.ok [] M
 | c::cs,ρ,M=>((ev G c ρ M).bind own).bind λd M=>(bW G cs ρ M).bind λds M=>.ok (d::ds) M
noncomputable def dE(G:dN):List C->En->ak->cK (List W)
 | [],_,M=>.ok [] M
 | c::cs,ρ,M=>(ev G c ρ M).bind λd M=>(dE G cs ρ M).bind λds M=>.ok (d::ds) M
noncomputable def ud(G:dN):Option C->En->ak->cK (Option Int)
 | none,_,M=>.ok none M
 | some c,ρ,M=>(ev G c ρ M).bind λw M=>match w with
  | .d (.int i)=>.ok (some i) M
  | _=>.af
noncomputable def bV(G:dN):Option fL->En->ak->cK Bool
 | none,_,M=>.ok true M
 | some c,ρ,M=>d8 G c ρ M
end
section
variable {G:dN} {lo hi:Option C} {cond:Option fL}
theorem DY : ev G (.ae i) ρ M = (match ρ[i]? with
    | some (some d)=>.ok (.d d) M
    | _=>.af):=rfl
theorem MB:ev G (.ai d) u0 M=.ok (.d d) M:=rfl
theorem MC:ev G (.bin op a b) ρ M=(ev G a ρ M).bind λx M=>(ev G b ρ M).bind λy M=>oy op x y M:=rfl
theorem DZ:ev G (.cmp op a b) ρ M=(ev G a ρ M).bind λx M=>(ev G b ρ M).bind λy M=>(bh op x y M).bind λr M=>.ok (.d (.bl r)) M:=rfl
theorem vA : ev G (.chain o1 o2 a b c) ρ M = ((ev G a ρ M).bind fun x M => (ev G b ρ M).bind fun y M => (bh o1 x y M).bind fun r M =>
      if r then (ev G c ρ M).bind λz M=>(bh o2 y z M).bind λr M=>.ok (.d (.bl r)) M else .ok (.d (.bl false)) M):=rfl
theorem HS:ev G (.d7 cs) ρ M=jF G cs ρ M:=rfl
theorem HU:ev G (.iy cs) ρ M=qh G cs ρ M:=rfl
theorem MD : ev G (.neg a) ρ M = ((ev G a ρ M).bind fun x M => match x with
    | .d (.bl r)=>.ok (.d (.bl (!r))) M
    | _=>.af):=rfl
theorem D0:ev G (.ite c a b) ρ M=(d8 G c ρ M).bind λr M=>if r then ev G a ρ M else ev G b ρ M:=rfl
theorem D1:ev G (.tup cs) ρ M=(bW G cs ρ M).bind λds M=>if ds.length<=sizeLine then .ok (.d (.tup ds)) M else .af:=rfl
theorem D2:ev G (.lst cs) ρ M=(bW G cs ρ M).bind λds M=>if ds.length<=sizeLine then .ok (.lv ds) M else .af:=rfl
theorem ME:ev G (.sub a b) ρ M=(ev G a ρ M).bind λx M=>(ev G b ρ M).bind λy M=>dy x y M:=rfl
theorem MF:ev G (.pP a lo hi) ρ M=(ev G a ρ M).bind λx M=>(ud G lo ρ M).bind λl M=>(ud G hi ρ M).bind λh M=>oz x l h M:=rfl
theorem MG:ev G (.Cy a k) ρ M=(ev G a ρ M).bind λx M=>lK x k M:=rfl
theorem zx:ev G (.call f cs) ρ M=(bW G cs ρ M).bind λds M=>G f ds M:=rfl
theorem D3:ev G (.bi b cs) ρ M=(dE G cs ρ M).bind λws M=>kc b ws M:=rfl
theorem D4:ev G (.me m o cs) ρ M=(ev G o ρ M).bind λx M=>if (eX M x).isSome then (bW G cs ρ M).bind λds M=>mL m x ds M else .af:=rfl
theorem xP:ev G (.u5 ks cs) ρ M=(bW G cs ρ M).bind λds M=>if ks.length=ds.length then .ok (.d (.aj M.length)) (M++[.dK ((ks.map Sum.inr).zip ds)]) else .af:=rfl
theorem MH:ev G (.lx tp cs) ρ M=(dE G cs ρ M).bind λws M=>HQ tp ws M:=rfl
theorem MI:ev G (.HN u0 v) u1 M=.ok (.d (.int v)) M:=rfl
theorem HV:ev G (.lI) u0 M=.ok (.d (.aj M.length)) (M++[.dT []]):=rfl
theorem HW:ev G (.jY a b) ρ M=(ev G a ρ M).bind λx M=>(ev G b ρ M).bind λy M=>mq x y M:=rfl
theorem zy:ev G (.gJ ng a b) ρ M=(ev G a ρ M).bind λx M=>(ev G b ρ M).bind λy M=>jE ng x y M:=rfl
theorem zA:ev G (.g9 ng a) ρ M=(ev G a ρ M).bind λx M=>zw ng x M:=rfl
theorem HX:ev G (.sset a) ρ M=(ev G a ρ M).bind λx M=>oB x M:=rfl
theorem sC : ev G (.comp k ee tg cond elt dB) ρ M = ((dE G ee ρ M).bind fun ws M => (iB k ws M).bind fun it M =>
      bp (λτ M=>bV G cond τ M) (λτ M=>(ev G elt τ M).bind own) it tg (dW M it) 0 (fb dB ρ) M []):=rfl
theorem D5:d8 G (.d7 ts) ρ M=fU G ts ρ M:=rfl
theorem D6:d8 G (.iy ts) ρ M=fV G ts ρ M:=rfl
theorem HY:d8 G (.neg a) ρ M=(d8 G a ρ M).bind λr M=>.ok (!r) M:=rfl
theorem sD : d8 G (.val c) ρ M = ((ev G c ρ M).bind fun w M => match qg M w with
    | some r=>.ok r M
    | none=>.af):=rfl
theorem lN:jF G [] u0 u1=.af:=rfl
theorem j2 : jF G (c :: cs) ρ M = ((ev G c ρ M).bind fun x M => match cs, x with
    | [],x=>.ok x M
    | _,.d (.bl true)=>jF G cs ρ M
    | _,.d (.bl false)=>.ok (.d (.bl false)) M
    | _,_=>.af):=rfl
theorem oC:qh G [] u0 u1=.af:=rfl
theorem lO : qh G (c :: cs) ρ M = ((ev G c ρ M).bind fun x M => match cs, x with
    | [],x=>.ok x M
    | _,.d (.bl false)=>qh G cs ρ M
    | _,.d (.bl true)=>.ok (.d (.bl true)) M
    | _,_=>.af):=rfl
theorem lP:fU G [] u0 u1=.af:=rfl
theorem j3 : fU G (c :: cs) ρ M = ((d8 G c ρ M).bind fun x M => match cs, x with
    | [],x=>.ok x M
    | _,true=>fU G cs ρ M
    | _,false=>.ok false M):=rfl
theorem lQ:fV G [] u0 u1=.af:=rfl
theorem j4 : fV G (c :: cs) ρ M = ((d8 G c ρ M).bind fun x M => match cs, x with
    | [],x=>.ok x M
    | _,false=>fV G cs ρ M
    | _,true=>.ok true M):=rfl
theorem gK:bW G [] u0 M=.ok [] M:=rfl
theorem fy:bW G (c::cs) ρ M=((ev G c ρ M).bind own).bind λd M=>(bW G cs ρ M).bind λds M=>.ok (d::ds) M:=rfl
theorem kE:dE G [] u0 M=.ok [] M:=rfl
theorem ja:dE G (c::cs) ρ M=(ev G c ρ M).bind λd M=>(dE G cs ρ M).bind λds M=>.ok (d::ds) M:=rfl
theorem oE:ud G none u0 M=.ok none M:=rfl
theorem oF : ud G (some c) ρ M = ((ev G c ρ M).bind fun w M => match w with
    | .d (.int i)=>.ok (some i) M
    | _=>.af):=rfl
end
def MJ(K:PySem.W.Frag)(ads:List Addr)(uC H:Hp):W->V->Prop
 | .d x,v=>RD K ads H x v
 | .lv ds,v=>∃a xs,v=.ref a/\uC a=none/\H a=some (.lst xs)/\a∉ads/\aP K ads H ds xs
def kF(K:PySem.W.Frag)(ads:List Addr)(H:Hp)(w:W)(M':ak)(Q:VK):Prop :=
 ∀v H' aF,aJ ads aF H H'->aW K aF H' M'->MJ K aF H H' w v->Q v H'
def MK(K:PySem.W.Frag)(ads:List Addr)(H:Hp)(ds:List D)(M':ak)(Q:List V->Hp->Prop):Prop :=
 ∀vs H' aF,aJ ads aF H H'->aW K aF H' M'->aP K aF H' ds vs->Q vs H'
noncomputable def Rr(K:PySem.W.Frag)(ads:List Addr)(H:Hp)(b:Bool)(M':ak)(Q:Bool->Hp->Prop):Prop :=
 ∀H' aF,aJ ads aF H H'->aW K aF H' M'->Q b H'
def cQ(K:PySem.W.Frag)(ads:List Addr)(H:Hp)(Q:VK):cK W->Prop
 | .ok w M=>kF K ads H w M Q
 | _=>False
def vB(K:PySem.W.Frag)(ads:List Addr)(H:Hp)(Q:List V->Hp->Prop):cK (List D)->Prop
 | .ok w M=>MK K ads H w M Q
 | _=>False
def Gh(K:PySem.W.Frag)(ads:List Addr)(H:Hp)(Q:Bool->Hp->Prop):cK Bool->Prop
 | .ok w M=>Rr K ads H w M Q
 | _=>False
structure SR (K:PySem.W.Frag) (ads:List Addr) (M:ak) (ρ:En) (σ:L2.St) (H:Hp):Prop where
 mem:aW K ads H M
 en:Rm K ads H ρ σ
 ln:ρ.length=σ.length
def tE(K:PySem.W.Frag)(o:En->ak->cK W):TE:=λσ H Q=>∃ads M ρ,SR K ads M ρ σ H/\cQ K ads H Q (o ρ M)
def HZ(K:PySem.W.Frag)(o:En->ak->cK (List D)):TA:=λσ H Q=>∃ads M ρ,SR K ads M ρ σ H/\vB K ads H Q (o ρ M)
def oG(K:PySem.W.Frag)(o:En->ak->cK Bool):TT:=λσ H Q=>∃ads M ρ,SR K ads M ρ σ H/\Gh K ads H Q (o ρ M)
section
variable {K:PySem.W.Frag} {ads aF bI:List Addr} {H H' H2:Hp} {M M2:ak} {ρ:En} {σ:L2.St}
theorem MJ.rw(h:MJ K ads uC H w v):RW K ads H w v:=by
 cases w with
 | d x=>exact h
 | lv ds=>obtain⟨a,xs,e,_,h1,n,r⟩:=h;exact⟨a,xs,e,h1,n,r⟩
theorem SR.grow(s:SR K ads M ρ σ H)(g:aJ ads aF H H')(m:aW K aF H' M2):SR K aF M2 ρ σ H':=⟨m,g.YW s.en,s.ln⟩
theorem BW(g:aJ ads aF H H')(m:aW K ads H M)(m':aW K aF H' M2)(h:H' a=none):H a=none:=by
 by_cases hb:a∈ads
 ·have:a∈aF:=by obtain⟨r,e⟩:=g.pre;rw[e];exact GB _ hb
  exact absurd this (m'.fresh h)
 ·cases q:H a with
  | none=>rfl
  | some o=>rw[g.kept a o hb q]at h;cases h
theorem MJ.back(g:aJ ads aF H H')(m:aW K ads H M)(m':aW K aF H' M2)(h:MJ K bI H' H2 w v):MJ K bI H H2 w v:=by
 cases w with
 | d x=>exact h
 | lv ds=>obtain⟨a,xs,e,h0,h1,n,r⟩:=h;exact⟨a,xs,e,BW g m m' h0,h1,n,r⟩
theorem kF.shift(p:kF K ads H w Mw Q)(g:aJ ads aF H H')(m:aW K ads H M)(m':aW K aF H' M2):kF K aF H' w Mw Q :=
 λv H1 aq g1 m1 r=>p v H1 aq (g.trans g1) m1 (r.back g m m')
theorem cQ.shift(p:cQ K ads H Q o)(g:aJ ads aF H H')(m:aW K ads H M)(m':aW K aF H' M2):cQ K aF H' Q o:=by
 cases o with
 | ok w Mw=>exact kF.shift p g m m'
 | err _ _=>exact p
 | af=>exact p
theorem Gh.shift(p:Gh K ads H Q o)(g:aJ ads aF H H'):Gh K aF H' Q o:=by
 cases o with
 | ok w Mw=>exact λH1 aq g1 m1=>p H1 aq (g.trans g1) m1
 | err _ _=>exact p
 | af=>exact p
theorem d4(s:SR K ads M ρ σ H)(h:cQ K ads H Q ((o ρ M).bind k))(hk:∀w M1 v H1 aq,SR K aq M1 ρ σ H1->RW K aq H1 w v->cQ K aq H1 Q (k w M1)->R v H1):tE K o σ H R:=by
 refine⟨ads,M,ρ,s,?_⟩
 cases q:o ρ M with
 | ok w M1 =>
  rw[q]at h;have h:cQ K ads H Q (k w M1):=h;exact λv H1 aq g1 m1 r=>hk w M1 v H1 aq (s.grow g1 m1) r.rw (h.shift g1 s.mem m1)
 | err _ _=>rw[q]at h;exact h
 | af=>rw[q]at h;exact h
theorem two{oa ob:En->ak->cK W}{f:W->W->ak->cK W}{r:R2}{Q:VK}(hr:∀ {ads M H x y vx vy Q},aW K ads H M->RW K ads H x vx->RW K ads H y vy->cQ K ads H Q (f x y M)->r vx vy H Q)(h:tE K (λρ M=>(oa ρ M).bind λx M=>(ob ρ M).bind λy M=>f x y M) σ H Q):Ge r (tE K oa) (tE K ob) σ H Q:=by
 obtain⟨ads,M,ρ,s,h⟩:=h;refine d4 s h λw M1 v H1 aq s1 mr h1=>?_;refine⟨aq,M1,ρ,s1,?_⟩
 cases q:ob ρ M1 with
 | ok y M2 =>
  rw[q]at h1;have h1:cQ K aq H1 Q (f w y M2):=h1;exact λvy H2 bI g2 m2 ry=>hr m2 (g2.rw mr) ry.rw (h1.shift g2 s1.mem m2)
 | err _ _=>rw[q]at h1;exact h1
 | af=>rw[q]at h1;exact h1
theorem cQ.plain(h:cQ K ads H Q (.ok (.d x) M))(m:aW K ads H M)(r:RD K ads H x v):Q v H:=h v H ads (aJ.refl _ _) m r
theorem cQ.list(h:cQ K ads H Q (.ok (.lv ds) M))(m:aW K ads H M)(r:aP K ads H ds xs)(hp:H p=none):Q (.ref p) (upd H p (.lst xs)) :=
 h _ _ ads (aJ.gu m hp) (m.gu hp) ⟨p,xs,rfl,hp,bt,m.fresh hp,(aJ.gu m hp).qJ _ _ r⟩
theorem cQ.tuple(h:cQ K ads H Q (.ok (.d (.tup ds)) M))(m:aW K ads H M)(r:aP K ads H ds xs)(hp:H p=none):Q (.ref p) (upd H p (.tup xs)):=by
 refine h _ _ ads (aJ.gu m hp) (m.gu hp) ?_;show RD _ _ _ (.tup ds) _;unfold RD;exact⟨p,xs,rfl,bt,(aJ.gu m hp).qJ _ _ r⟩
theorem eY(m:aW K ads H M)(r:RW K ads H w v)(e:bT M w=some (l,ds)):∃a xs,v=.ref a/\aP K ads H ds xs/\((l=true/\fK K H a xs)\/(l=false/\gE K H a xs)):=by
 cases w with
 | lv es =>
  simp only[bT,wW,Prod.mk.injEq]at e;obtain⟨rfl,rfl⟩:=e;obtain⟨a,xs,e,h,n,r⟩:=r;exact⟨a,xs,e,r,.inl ⟨rfl,fK.of h⟩⟩
 | d x =>
  cases x with
  | tup es =>
   simp only[bT,wW,Prod.mk.injEq]at e;obtain⟨rfl,rfl⟩:=e;have r:RD K ads H (.tup es) v:=r;unfold RD at r;obtain⟨a,xs,e,h,r⟩:=r;exact⟨a,xs,e,r,.inr ⟨rfl,gE.of h⟩⟩
  | ls es =>
   simp only[bT,wW,Prod.mk.injEq]at e;obtain⟨rfl,rfl⟩:=e;have r:RD K ads H (.ls es) v:=r;unfold RD at r;obtain⟨a,xs,e,h,r⟩:=r;exact⟨a,xs,e,r,.inl ⟨rfl,h.sq⟩⟩
  | aj n =>
   have r:RD K ads H (.aj n) v:=r;unfold RD at r;obtain⟨a,ev,ea⟩:=r;simp only[bT]at e
   cases q:M[n]? with
   | none=>rw[q]at e;cases e
   | some o =>
    rw[q]at e;have ho:=m.obj n o a q ea
    cases o with
    | lst es=>cases e;obtain⟨xs,h,r⟩:=ho;exact⟨a,xs,ev,r,.inl ⟨rfl,fK.of h⟩⟩
    | jw es=>cases e;obtain⟨o,xs,h,r⟩:=ho;exact⟨a,xs,ev,r,.inl ⟨rfl,.inl (.inr ⟨o,h⟩)⟩⟩
    | dK _=>cases e
    | dT _=>cases e
    | dF _=>cases e
  | aR=>cases e
  | bl _=>cases e
  | int _=>cases e
  | str _=>cases e
theorem lR(m:aW K ads H M)(r:RW K ads H w v)(e:eX M w=some ds):∃a xs,v=.ref a/\aP K ads H ds xs/\H a=some (.lst xs):=by
 cases w with
 | lv es =>
  simp only[eX,wW]at e;subst e;obtain⟨a,xs,e,h,n,r⟩:=r;exact⟨a,xs,e,r,h⟩
 | d x =>
  cases x with
  | aj n =>
   have r:RD K ads H (.aj n) v:=r;unfold RD at r;obtain⟨a,ev,ea⟩:=r;simp only[eX]at e
   cases q:M[n]? with
   | none=>rw[q]at e;cases e
   | some o =>
    rw[q]at e;have ho:=m.obj n o a q ea
    cases o with
    | lst es=>cases e;obtain⟨xs,h,r⟩:=ho;exact⟨a,xs,ev,r,h⟩
    | jw es=>cases e
    | dK _=>cases e
    | dT _=>cases e
    | dF _=>cases e
  | tup _=>cases e
  | ls _=>cases e
  | aR=>cases e
  | bl _=>cases e
  | int _=>cases e
  | str _=>cases e
theorem aZ(r:RW K ads H (.d (.int i)) v):v=.int i:=by
 have r:RD K ads H (.int i) v:=r;unfold RD at r;exact r
theorem eZ{i:Str}(r:RW K ads H (.d (.str i)) v):v=.str i:=by
 have r:RD K ads H (.str i) v:=r;unfold RD at r;exact r
theorem jG(r:RW K ads H (.d (.bl i)) v):v=.bl i:=by
 have r:RD K ads H (.bl i) v:=r;unfold RD at r;exact r
theorem oH(r:RW K ads H (.d .aR) v):v=.aR:=by
 have r:RD K ads H .aR v:=r;unfold RD at r;exact r
theorem dj(i:Int):RD K ads H (.int i) (.int i):=by unfold RD;rfl
theorem jH(i:Bool):RD K ads H (.bl i) (.bl i):=by unfold RD;rfl
theorem xQ(i:Str):RD K ads H (.str i) (.str i):=by unfold RD;rfl
theorem g_:RD K ads H .aR .aR:=by unfold RD;rfl
end
section
variable {X:Cx}
def W6(K:PySem.W.Frag)(op:Mu):R2:=λx y H Q=>∃ads M wx wy,aW K ads H M/\RW K ads H wx x/\RW K ads H wy y/\cQ K ads H Q (oy op wx wy M)
noncomputable def H_:Mu->Operator
 | .add=>.Add | .sub=>.Sub | .mul=>.Mult | .fdiv=>.FloorDiv | .mod=>.Mod | .pow=>.Pow
theorem Ia:jv X (binaryOp .Add) (λx y H Q=>∃a b ys,x=.ref a/\y=.ref b/\gE X.K H a []/\gE X.K H b ys/\Q (.ref b) H):=by
 intro aa s σ H x y v u Q I rx ry h;obtain⟨a,b,ys,rfl,rfl,ha,hb,q⟩:=h;cases rx;cases ry;obtain⟨aG,r1,p1,_⟩:=I.tuple ha;obtain⟨jU,r2,p2,_⟩:=I.tuple hb;cases r1;obtain⟨⟨cls,dd,data,sl⟩,ho,hc,n,hd⟩:=id p1;obtain⟨⟨We,Uo,data2,Up⟩,y8,Ct,n2,hd2⟩:=id p2;simp only at hc hd Ct hd2;subst hc hd Ct hd2
 exact concat_meets ⟨_,ho,rfl⟩ ⟨_,y8,rfl⟩ noFill_tuple_add seq_tuple_add K7 K5 (K3 _ _)
  (tuple_addW0 a b _ jU.toArray n n2 dd Uo sl Up rfl) ⟨ho,y8,⟨.ref b,H,I,rfl,q⟩⟩
theorem aP.rep{K:PySem.W.Frag}{ads:List Addr}{H:Hp}{ds:List D}{vs:List V}(r:aP K ads H ds vs):∀k:Nat,aP K ads H (List.replicate k ds).flatten (List.replicate k vs).flatten
 | 0=>by simp;unfold aP;rfl
 | k+1=>by simp only[AH,CJ];exact r.app (aP.rep r k)
theorem ML(op:Mu):jv X (binaryOp (H_ op)) (W6 X.K op):=by
 intro aa s σ H x y v u Q I rx ry h;obtain⟨ads,M,wx,wy,m,r1,r2,h⟩:=h
 have Rt:∀ {op},op=Mu.add->cQ X.K ads H Q (match eX M wx,eX M wy with
  | some xs,some ys=>if xs.length+ys.length<=sizeLine then .ok (.lv (xs++ys)) M else .af
  | _,_=>.af)->wpAny (model X.prog X.w) X.A (binaryOp (H_ op) v u) (EP X aa σ Q) X.xe s:=by
  intro op e h;subst e
  cases q1:eX M wx with
  | none=>rw[q1]at h;exact h.elim
  | some xs =>
   cases q2:eX M wy with
   | none=>rw[q1,q2]at h;exact h.elim
   | some ys =>
    rw[q1,q2]at h;dsimp only at h;split at h
    ·rename_i hz
     obtain⟨a,vs,e1,ra,ha⟩:=lR m r1 q1;obtain⟨b,ws,e2,rb,hb⟩:=lR m r2 q2;subst e1 e2;refine Mh aa s σ H _ _ v u Q I rx ry ⟨a,b,vs,ws,rfl,rfl,ha,hb,by rw[<- ra.len,<- rb.len];exact hz,λp hp=>h.list m (ra.app rb) hp⟩
    ·exact h.elim
 unfold oy at h;split at h
 ·rw[aZ r1]at rx;rw[aZ r2]at ry;exact LR aa s σ H _ _ v u Q I rx ry ⟨_,_,rfl,rfl,h.plain m (dj _)⟩
 ·rw[aZ r1]at rx;rw[aZ r2]at ry;exact LS aa s σ H _ _ v u Q I rx ry ⟨_,_,rfl,rfl,h.plain m (dj _)⟩
 ·rw[aZ r1]at rx;rw[aZ r2]at ry;split at h
  ·rename_i hc
   exact LU aa s σ H _ _ v u Q I rx ry ⟨_,_,rfl,rfl,hc,h.plain m (dj _)⟩
  ·exact h.elim
 ·rw[aZ r1]at rx;rw[aZ r2]at ry;split at h
  ·rename_i hc
   exact G1 aa s σ H _ _ v u Q I rx ry ⟨_,_,rfl,rfl,hc,h.plain m (dj _)⟩
  ·exact h.elim
 ·rw[aZ r1]at rx;rw[aZ r2]at ry;split at h
  ·rename_i hc
   exact LV aa s σ H _ _ v u Q I rx ry ⟨_,_,rfl,rfl,hc,h.plain m (dj _)⟩
  ·exact h.elim
 ·rw[aZ r1]at rx;rw[aZ r2]at ry;split at h
  ·rename_i hc
   exact LW aa s σ H _ _ v u Q I rx ry ⟨_,_,rfl,rfl,hc,h.plain m (dj _)⟩
  ·exact h.elim
 ·rename_i xs ys
  split at h
  ·rename_i hc
   have r1:RD X.K ads H (.tup xs) x:=r1;have r2:RD X.K ads H (.tup ys) y:=r2;unfold RD at r1 r2;obtain⟨a,vs,e1,ha,ra⟩:=r1;obtain⟨b,ws,e2,hb,rb⟩:=r2;subst e1 e2;by_cases W7:vs=[]
   ·have ex:xs=[]:=K2 (by rw[ra.len,W7];rfl);subst ex W7;refine Ia aa s σ H _ _ v u Q I rx ry ⟨a,b,ws,rfl,rfl,gE.of ha,gE.of hb,cQ.plain (x:=.tup ys) h m ?_⟩;unfold RD;exact⟨b,ws,rfl,hb,rb⟩
   refine Hd aa s σ H _ _ v u Q I rx ry ⟨a,b,vs,ws,rfl,rfl,gE.of ha,gE.of hb,W7,by rw[<- ra.len,<- rb.len];exact hc,λz=>?_,λ_ p hp=>h.tuple m (ra.app rb) hp⟩;have ey:ys=[]:=K2 (by rw[rb.len,z];rfl);subst ey;rw[lq]at h;refine h.plain m ?_;unfold RD;exact⟨a,vs,rfl,ha,ra⟩
  ·exact h.elim
 ·exact Rt rfl h
 ·rename_i k _
  cases q1:eX M wx with
  | none=>rw[q1]at h;exact h.elim
  | some xs =>
   rw[q1]at h;dsimp only at h;split at h
   ·rename_i hz
    obtain⟨a,vs,e1,ra,ha⟩:=lR m r1 q1;subst e1;rw[aZ r2]at ry;refine Mi aa s σ H _ _ v u Q I rx ry ⟨a,k,vs,rfl,rfl,ha,hz.1,hz.2.1,by rw[<- ra.len];exact hz.2.2,λp hp=>h.list m (aP.rep ra k.toNat) hp⟩
   ·exact h.elim
 ·exact h.elim
end
section
variable {X:Cx} {aa:List (Addr×Obj)} {σ:L2.St} {H:Hp} {s:Shared} {ads:List Addr} {M:ak}
theorem dG(I:Inv X aa σ H s)(n:Nat)(hA:∀d v u p,RD X.K ads H d v->RelV v u->dD M n d=some p->∃as,Reads s.heap u p as):∀(ds:List D)(vs:List V)(us:List Value)(ps:List PyData),aP X.K ads H ds vs->aS vs us->bS M n ds=some ps->∃as,ReadsAll s.heap us ps as
 | [],vs,us,ps,r,rv,e=>by
  unfold aP at r;subst r;cases rv;unfold bS at e;cases e;exact⟨[],.nil⟩
 | d::ds,vs,us,ps,r,rv,e=>by
  unfold aP at r;obtain⟨x,r',rfl,h1,h2⟩:=r
  cases rv with
  | cons rx rr =>
   unfold bS at e
   cases q1:dD M n d with
   | none=>rw[q1]at e;cases e
   | some p =>
    cases q2:bS M n ds with
    | none=>rw[q1,q2]at e;cases e
    | some qs =>
     rw[q1,q2]at e;cases e;obtain⟨as,k1⟩:=hA d x _ p h1 rx q1;obtain⟨bs,k2⟩:=dG I n hA ds r' _ qs h2 rr q2;exact⟨as++bs,.cons k1 k2⟩
theorem fW(I:Inv X aa σ H s)(m:aW X.K ads H M):∀(n:Nat)(d:D)(v:V)(u:Value)(p:PyData),RD X.K ads H d v->RelV v u->dD M n d=some p->∃as,Reads s.heap u p as:=by
 intro n
 induction n with
 | zero =>
  intro d v u p r rv e
  cases d with
  | aR=>unfold RD at r;subst r;cases rv;unfold dD at e;cases e;exact⟨_,.none⟩
  | bl b=>unfold RD at r;subst r;cases rv;unfold dD at e;cases e;exact⟨_,.bool _⟩
  | int b=>unfold RD at r;subst r;obtain⟨t,rfl⟩:=rv;unfold dD at e;cases e;exact⟨_,.int _ _⟩
  | str b=>unfold RD at r;subst r;obtain⟨t,rfl⟩:=rv;unfold dD at e;cases e;exact⟨_,.str _ _⟩
  | tup _=>unfold dD at e;cases e
  | aj _=>unfold dD at e;cases e
  | ls _=>unfold dD at e;cases e
 | succ n ih =>
  intro d v u p r rv e
  cases d with
  | aR=>unfold RD at r;subst r;cases rv;unfold dD at e;cases e;exact⟨_,.none⟩
  | bl b=>unfold RD at r;subst r;cases rv;unfold dD at e;cases e;exact⟨_,.bool _⟩
  | int b=>unfold RD at r;subst r;obtain⟨t,rfl⟩:=rv;unfold dD at e;cases e;exact⟨_,.int _ _⟩
  | str b=>unfold RD at r;subst r;obtain⟨t,rfl⟩:=rv;unfold dD at e;cases e;exact⟨_,.str _ _⟩
  | tup ds =>
   unfold RD at r;obtain⟨a,xs,rfl,hs,r⟩:=r;cases rv;unfold dD at e
   cases q:bS M n ds with
   | none=>rw[q]at e;cases e
   | some ps =>
    rw[q]at e;cases e;obtain⟨aG,rv,⟨o,h1,h2,k,h3⟩,_⟩:=I.tuple (gE.of (K:=X.K) hs);obtain⟨as,ra⟩:=dG I n ih ds xs aG ps r rv q;exact⟨as,.tuple h1 h2 h3 (by simpa using ra)⟩
  | ls ds =>
   unfold RD at r;obtain⟨a,xs,rfl,hs,r⟩:=r;cases rv;unfold dD at e
   cases q:bS M n ds with
   | none=>rw[q]at e;cases e
   | some ps =>
    rw[q]at e;cases e;obtain⟨aG,rv,⟨o,kk,h1,h2,h3,h4⟩,_⟩:=I.list hs.sq;obtain⟨as,ra⟩:=dG I n ih ds xs aG ps r rv q;exact⟨a::as,.list h1 h2 h4 (by simpa using ra)⟩
  | aj k =>
   unfold RD at r;obtain⟨a,rfl,ea⟩:=r;cases rv;unfold dD at e
   have lst:∀ds,fK X.K H a ds->∀es,aP X.K ads H es ds->(bS M n es).map PyData.list=some p->∃as,Reads s.heap (.ref a) p as:=by
    intro xs hs es r e
    cases q:bS M n es with
    | none=>rw[q]at e;cases e
    | some ps =>
     rw[q]at e;cases e;obtain⟨aG,rv,⟨o,kk,h1,h2,h3,h4⟩,_⟩:=I.list hs;obtain⟨as,ra⟩:=dG I n ih es xs aG ps r rv q;exact⟨a::as,.list h1 h2 h4 (by simpa using ra)⟩
   cases q:M[k]? with
   | none=>rw[q]at e;cases e
   | some o =>
    rw[q]at e;have ho:=m.obj k o a q ea
    cases o with
    | lst es=>obtain⟨xs,h,r⟩:=ho;exact lst xs (fK.of h) es r e
    | jw es=>obtain⟨o,xs,h,r⟩:=ho;exact lst xs (.inl (.inr ⟨o,h⟩)) es r e
    | dK _=>cases e
    | dT _=>cases e
    | dF _=>cases e
theorem hG(I:Inv X aa σ H s)(m:aW X.K ads H M)(r:RW X.K ads H w v)(rv:RelV v u)(e:jx M w=some p):∃as,Reads s.heap u p as:=by
 cases w with
 | d x=>exact fW I m 30 x v u p r rv e
 | lv ds =>
  obtain⟨a,xs,rfl,h,n,r⟩:=r;cases rv;have e:(bS M 30 ds).map PyData.list=some p:=e
  cases q:bS M 30 ds with
  | none=>rw[q]at e;cases e
  | some ps =>
   rw[q]at e;cases e;obtain⟨aG,rv,⟨o,kk,h1,h2,h3,h4⟩,_⟩:=I.list (fK.of (K:=X.K) h);obtain⟨as,ra⟩:=dG I 30 (fW I m 30) ds xs aG ps r rv q;exact⟨a::as,.list h1 h2 h4 (by simpa using ra)⟩
end
section
variable {K:PySem.W.Frag} {ads:List Addr} {H:Hp}
theorem cB.find{κ:Type}[DecidableEq κ]{k:κ}:∀{ah:List (κ×D)}{ks:List (κ×V)}{d:D},cB K ads H ah ks->(ah.find? λp=>decide (p.1=k)).map (·.2)=some d->∃v,kn ks k=some v/\RD K ads H d v
 | [],_,_,_,e=>by cases e
 | p::ps,ks,d,r,e=>by
  unfold cB at r;obtain⟨x,r',rfl,h0,h1,h2⟩:=r;by_cases hk:p.1=k
  ·have e':p.2=d:=by simpa[gX,hk]using e
   subst e';exact⟨x.2,ko (h0▸hk),h1⟩
  ·obtain⟨v,e1,rv⟩:=cB.find h2 (by simpa[gX,hk]using e);exact⟨v,(iN (h0▸hk)).trans e1,rv⟩
theorem cB.len{κ:Type}:∀{ah:List (κ×D)}{ks:List (κ×V)},cB K ads H ah ks->ah.length=ks.length
 | [],_,r=>by unfold cB at r;subst r;rfl
 | p::ps,ks,r=>by unfold cB at r;obtain⟨x,r',rfl,h0,h1,h2⟩:=r;simp[cB.len h2]
theorem cB.zB{κ:Type}[DecidableEq κ]{k:κ}:∀{ah:List (κ×D)}{ks:List (κ×V)},cB K ads H ah ks->de ah k=none->kn ks k=none
 | [],_,r,_=>by unfold cB at r;subst r;rfl
 | p::ps,ks,r,e=>by
  unfold cB at r;obtain⟨x,r',rfl,h0,h1,h2⟩:=r;by_cases hk:p.1=k
  ·unfold de at e;simp[gX,hk]at e
  ·exact(iN (h0▸hk)).trans (cB.zB h2 (by unfold de at e⊢;simpa[gX,hk]using e))
end
section
variable {X:Cx} {aa:List (Addr×Obj)} {σ:L2.St} {H:Hp} {s:Shared} {ads:List Addr} {M:ak}
theorem oI{w:W}{v:V}{ah:List (bH×D)}{K:PySem.W.Frag}(m:aW K ads H M)(r:RW K ads H w v)(e:iz M w=some ah):∃a ks,v=.ref a/\H a=some (.dK ks)/\cB K ads H ah ks:=by
 cases w with
 | lv es=>cases e
 | d x =>
  cases x with
  | aj n =>
   have r:RD K ads H (.aj n) v:=r;unfold RD at r;obtain⟨a,ev,ea⟩:=r;simp only[iz]at e
   cases q:M[n]? with
   | none=>rw[q]at e;cases e
   | some o =>
    rw[q]at e;have ho:=m.obj n o a q ea
    cases o with
    | lst es=>cases e
    | jw es=>cases e
    | dK _=>cases e;obtain⟨ks,h,r⟩:=ho;exact⟨a,ks,ev,h,r⟩
    | dT _=>cases e
    | dF _=>cases e
  | tup _=>cases e
  | ls _=>cases e
  | aR=>cases e
  | bl _=>cases e
  | int _=>cases e
  | str _=>cases e
theorem D7{w:W}{v:V}{k:bH}{K:PySem.W.Frag}(r:RW K ads H w v)(e:vv w=some k):v=kV k:=by
 cases w with
 | lv es=>cases e
 | d x =>
  cases x with
  | int i=>cases e;exact aZ r
  | str i=>cases e;exact eZ r
  | aj _=>cases e
  | tup _=>cases e
  | ls _=>cases e
  | aR=>cases e
  | bl _=>cases e
theorem zC{K:PySem.W.Frag}{ah:List (bH×D)}{ks:List (bH×V)}{a:Addr}{k:bH}(ha:H a=some (.dK ks))(r:cB K ads H ah ks):∃o,jT H a (kV k) o/\o.isSome=(de ah k).isSome:=by
 refine⟨_,jT.k (k:=k) ha,?_⟩
 cases q:de ah k with
 | none=>rw[r.zB q];rfl
 | some d=>obtain⟨v,e,_⟩:=r.find q;rw[e];rfl
theorem zD(I:Inv X aa σ H s)(m:aW X.K ads H M)(hu:X.A.units+100<cLine){kb:List (bH×D)}{W8:List (bH×V)}{UE:List (bH×Value)}(rb:cB X.K ads H kb W8)(vb:KV W8 UE):∀{ka:List (bH×D)}{Ru:List (bH×V)}{Px:List (bH×Value)}{r:Bool},cB X.K ads H ka Ru->KV Ru Px->xM M kb ka=some r->PySem.W.KeqHits X.A.in1 s UE Px r
 | [],Ru,Px,r,ra,va,e=>by
  unfold cB at ra;subst ra;cases va;cases e;exact .nil
 | (k,d)::ka,Ru,Px,r,ra,va,e=>by
  unfold cB at ra;obtain⟨x,r',rfl,h0,h1,h2⟩:=ra;obtain⟨x1,x2⟩:=x;have h0:k=x1:=h0;subst h0;have h1:RD X.K ads H d x2:=h1
  cases va with
  | cons hp hr =>
   rename_i q vr
   obtain⟨q1,q2⟩:=q;obtain⟨e1,e2⟩:=hp;have e1:k=q1:=e1;subst e1;have e2:RelV x2 q2:=e2;have hv:=vb.val k;simp only[xM]at e
   cases hg:de kb k with
   | none =>
    rw[hg]at e;cases e;rw[rb.zB hg]at hv;exact .miss (jR.none_of hv)
   | some y =>
    rw[hg]at e;dsimp only at e;obtain⟨v',W9,UG⟩:=rb.find hg;rw[W9]at hv;obtain⟨u',eu,ru⟩:=jR.some_of hv
    cases p1:dD M 30 d with
    | none=>rw[p1]at e;cases e
    | some p =>
     cases p2:dD M 30 y with
     | none=>rw[p1,p2]at e;cases e
     | some p' =>
      rw[p1,p2]at e;dsimp only at e;split at e
      ·rename_i hs
       cases Gi:xM M kb ka with
       | none=>rw[Gi]at e;cases e
       | some b =>
        rw[Gi]at e;have e:(PyData.eqv p p'&&b)=r:=cg e;subst e;obtain⟨as,rda⟩:=fW I m 30 d x2 q2 p h1 e2 p1;obtain⟨bs,rdb⟩:=fW I m 30 y v' u' p' UG ru p2;exact .hit eu (PySem.W.keq_at rda rdb hs.1 hs.2 (by show X.A.units+1+64<cLine;omega)) (zD I m hu rb vb h2 hr Gi)
      ·cases e
end
noncomputable def MM:Mx->CmpOp
 | .eq=>.Eq | .ne=>.NotEq | .lt=>.Lt | .le=>.LtE | .gt=>.Gt | .ge=>.GtE | .uc=>.Is | .fj=>.IsNot | .isin=>.In | .eN=>.NotIn
noncomputable def Ib(K:PySem.W.Frag)(ads:List Addr)(H:Hp)(Q:VK):cK Bool->Prop
 | .ok b M=>∀H' aF,aJ ads aF H H'->aW K aF H' M->Q (.bl b) H'
 | _=>False
def Ic(K:PySem.W.Frag)(op:Mx):R2:=λx y H Q=>∃ads M wx wy,aW K ads H M/\RW K ads H wx x/\RW K ads H wy y/\((op=.uc\/op=.fj)->y=.aR)/\Ib K ads H Q (bh op wx wy M)
theorem Ib.now{K:PySem.W.Frag}{ads:List Addr}{H:Hp}{Q:VK}{b:Bool}{M:ak}(h:Ib K ads H Q (.ok b M))(m:aW K ads H M):Q (.bl b) H:=h H ads (aJ.refl _ _) m
section
variable {X:Cx}
open Classical in
noncomputable def vC(h:Heap)(p:PyData)(y:Value):Bool:=decide (∃q' YZ,Reads h y q' YZ/\PyData.eqv q' p=true)
open Classical in
theorem vD(ry:Reads h y q cs):vC h p y=PyData.eqv q p:=by
 unfold vC
 cases hb:PyData.eqv q p with
 | true=>exact gk ⟨q,cs,ry,hb⟩
 | false =>
  refine eJ ?_;rintro⟨q',YZ,ry',Rv⟩;obtain⟨e,_⟩:=PyProof.Rows.reads_det (λ_ _ e _=>e) ry ry';rw[<- e,Rv]at hb;cases hb
theorem D8{s:Shared}{A:Around}{x:Value}{p:PyData}{as:List Addr}(rx:Reads s.heap x p as)(hx:SeqAt.shaped p=true)(hu:A.units+65<cLine):∀{us:List Value}{qs:List PyData}{bs:List Addr},ReadsAll s.heap us qs bs->qs.all SeqAt.shaped=true->(∀y∈us,SeqAt.EqAt A.in1 s y x (vC s.heap p y))/\us.any (vC s.heap p)=lJ p qs
 | _,_,_,.nil,_=>⟨(λy hy=>by cases hy),rfl⟩
 | _,_,_,.cons (v:=v) (d:=q) ry rr,hq=>by
  rw[List.all_cons,aU]at hq;have Rv:=hq;obtain⟨k1,k2⟩:=D8 rx hx hu rr Rv.2;have e0:=SeqAt.eqAt_reads q p A.in1 s v x _ _ ry rx (SeqAt.canLay_of_shaped Rv.1) (SeqAt.canLay_of_shaped hx) (SeqAt.room_of_shaped Rv.1 (by show A.units+1+64<cLine;omega));rw[<- vD ry]at e0;refine⟨λy hy=>?_,?_⟩
  ·rcases bU.mp hy with z | z
   ·subst z;exact e0
   ·exact k1 y z
  ·rw[CT,k2,vD ry];rfl
theorem mT{s:Shared}{A:Around}{x:Value}{p:PyData}{as:List Addr}(rx:Reads s.heap x p as)(hx:SeqAt.shaped p=true)(hu:A.units+65<cLine){us:List Value}{qs:List PyData}{bs:List Addr}(r:ReadsAll s.heap us qs bs)(hq:qs.all SeqAt.shaped=true):∃e:Value->Bool,(∀y∈us,SeqAt.EqAt A.in1 s y x (e y))/\us.any e=lJ p qs :=
 ⟨vC s.heap p,D8 rx hx hu r hq⟩
theorem BX:jv X (compareOp .LtE) (λx y H Q=>∃i j,x=.str i/\y=.str j/\Q (.bl (!decide (j.cps.toList<i.cps.toList))) H):=by
 intro aa s σ H x y v u Q I rx ry h;obtain⟨i,j,rfl,rfl,q⟩:=h;obtain⟨t,rfl⟩:=rx;obtain⟨t',rfl⟩:=ry;exact PySem.P.le_str ⟨.bl _,H,I,rfl,q⟩
theorem lS(hu:X.A.units+100<cLine)(op:Mx):jv X (compareOp (MM op)) (Ic X.K op):=by
 intro aa s σ H x y v u Q I rx ry h;obtain⟨ads,M,wx,wy,m,r1,r2,hn,h⟩:=h;unfold bh at h
 cases op with
 | eq =>
  dsimp only at h
  have Km:Ib X.K ads H Q (match iz M wx,iz M wy with
   | some ka,some kb=>match xM M kb ka with
    | some r=>.ok (ka.length==kb.length&&r) M
    | none=>.af
   | _,_=>.af)->wpAny (model X.prog X.w) X.A (compareOp .Eq v u) (EP X aa σ Q) X.xe s:=by
   intro h
   cases q1:iz M wx with
   | none=>rw[q1]at h;exact h.elim
   | some ka =>
    cases q2:iz M wy with
    | none=>rw[q1,q2]at h;exact h.elim
    | some kb =>
     rw[q1,q2]at h;dsimp only at h
     cases q3:xM M kb ka with
     | none=>rw[q3]at h;exact h.elim
     | some r =>
      rw[q3]at h;dsimp only at h;obtain⟨a,Ru,rfl,ha,ra⟩:=oI m r1 q1;obtain⟨b,W8,rfl,hb,rb⟩:=oI m r2 q2;cases rx;cases ry;obtain⟨za,BY,Px,va,dda⟩:=uN I.bJ ha;obtain⟨zb,L5,UE,vb,ddb⟩:=uN I.bJ hb;refine PySem.W.keq_eq BY L5 dda ddb ∅ (λ_=>zD I m hu rb vb ra va q3) ⟨.bl _,H,I,rfl,?_⟩;have e1:Px.length=ka.length:=by rw[<- va.length,ra.len]
      have e2:UE.length=kb.length:=by rw[<- vb.length,rb.len]
      rw[e1,e2];exact h.now m
  cases q1:jx M wx with
  | none=>rw[q1]at h;exact Km h
  | some p =>
   cases q2:jx M wy with
   | none=>rw[q1,q2]at h;exact Km h
   | some q =>
    rw[q1,q2]at h;dsimp only at h;split at h
    ·rename_i hs
     obtain⟨as,ra⟩:=hG I m r1 rx q1;obtain⟨bs,rb⟩:=hG I m r2 ry q2;exact SeqAt.compareEq_shaped ra rb hs.1 hs.2 ∅ ⟨.bl _,H,I,rfl,h.now m⟩
    ·exact h.elim
 | ne =>
  dsimp only at h
  cases q1:jx M wx with
  | none=>rw[q1]at h;exact h.elim
  | some p =>
   cases q2:jx M wy with
   | none=>rw[q1,q2]at h;exact h.elim
   | some q =>
    rw[q1,q2]at h;dsimp only at h;split at h
    ·rename_i hs
     obtain⟨as,ra⟩:=hG I m r1 rx q1;obtain⟨bs,rb⟩:=hG I m r2 ry q2;exact SeqAt.compareNe_shaped ra rb hs.1 hs.2 ∅ ⟨.bl _,H,I,rfl,h.now m⟩
    ·exact h.elim
 | lt =>
  dsimp only at h;split at h
  ·rw[aZ r1]at rx;rw[aZ r2]at ry;exact QD aa s σ H _ _ v u Q I rx ry ⟨_,_,rfl,rfl,h.now m⟩
  ·rw[eZ r1]at rx;rw[eZ r2]at ry;exact Bj aa s σ H _ _ v u Q I rx ry ⟨_,_,rfl,rfl,h.now m⟩
  ·exact h.elim
 | le =>
  dsimp only at h;split at h
  ·rw[aZ r1]at rx;rw[aZ r2]at ry;exact QE aa s σ H _ _ v u Q I rx ry ⟨_,_,rfl,rfl,h.now m⟩
  ·rw[eZ r1]at rx;rw[eZ r2]at ry;exact BX aa s σ H _ _ v u Q I rx ry ⟨_,_,rfl,rfl,h.now m⟩
  ·exact h.elim
 | gt =>
  dsimp only at h;split at h
  ·rw[aZ r1]at rx;rw[aZ r2]at ry;exact QF aa s σ H _ _ v u Q I rx ry ⟨_,_,rfl,rfl,h.now m⟩
  ·exact h.elim
 | ge =>
  dsimp only at h;split at h
  ·rw[aZ r1]at rx;rw[aZ r2]at ry;exact QG aa s σ H _ _ v u Q I rx ry ⟨_,_,rfl,rfl,h.now m⟩
  ·exact h.elim
 | uc =>
  have e:=hn (.inl rfl)
  have hx:∀b,bh .uc wx wy M=.ok b M->b=decide (x=.aR):=by
   intro b e;unfold bh at e;dsimp only at e;split at e
   ·cases e;rw[oH r1];rfl
   ·rename_i mj
    cases e;refine(eJ ?_).symm;intro z;subst z
    cases wx with
    | lv ds=>obtain⟨a,xs,e,_⟩:=r1;cases e
    | d z=>cases z with
     | aR=>exact mj rfl
     | bl b=>have:=jG r1;cases this
     | int b=>have:=aZ r1;cases this
     | str b=>have:=eZ r1;cases this
     | tup b=>have r1:RD X.K ads H (.tup b) .aR:=r1;unfold RD at r1;obtain⟨a,xs,e,_⟩:=r1;cases e
     | aj b=>have r1:RD X.K ads H (.aj b) .aR:=r1;unfold RD at r1;obtain⟨a,e,_⟩:=r1;cases e
     | ls b=>have r1:RD X.K ads H (.ls b) .aR:=r1;unfold RD at r1;obtain⟨a,xs,e,_⟩:=r1;cases e
  subst e;have:∃b,bh .uc wx wy M=.ok b M:=by unfold bh;dsimp only;split<;>exact⟨_,rfl⟩
  obtain⟨b,hb⟩:=this;have h:Ib X.K ads H Q (bh .uc wx wy M):=h;rw[hb]at h;refine LX aa s σ H _ _ v u Q I rx ry ⟨rfl,?_⟩;rw[<- hx b hb];exact h.now m
 | fj =>
  have e:=hn (.inr rfl)
  have hx:∀b,bh .fj wx wy M=.ok b M->b=!decide (x=.aR):=by
   intro b e;unfold bh at e;dsimp only at e;split at e
   ·cases e;rw[oH r1];rfl
   ·rename_i mj
    cases e
    have:decide (x=.aR)=false:=by
     refine eJ ?_;intro z;subst z
     cases wx with
     | lv ds=>obtain⟨a,xs,e,_⟩:=r1;cases e
     | d z=>cases z with
      | aR=>exact mj rfl
      | bl b=>have:=jG r1;cases this
      | int b=>have:=aZ r1;cases this
      | str b=>have:=eZ r1;cases this
      | tup b=>have r1:RD X.K ads H (.tup b) .aR:=r1;unfold RD at r1;obtain⟨a,xs,e,_⟩:=r1;cases e
      | aj b=>have r1:RD X.K ads H (.aj b) .aR:=r1;unfold RD at r1;obtain⟨a,e,_⟩:=r1;cases e
      | ls b=>have r1:RD X.K ads H (.ls b) .aR:=r1;unfold RD at r1;obtain⟨a,xs,e,_⟩:=r1;cases e
    rw[this];rfl
  subst e;have:∃b,bh .fj wx wy M=.ok b M:=by unfold bh;dsimp only;split<;>exact⟨_,rfl⟩
  obtain⟨b,hb⟩:=this;have h:Ib X.K ads H Q (bh .fj wx wy M):=h;rw[hb]at h;refine G2 aa s σ H _ _ v u Q I rx ry ⟨rfl,?_⟩;rw[<- hx b hb];exact h.now m
 | isin =>
  dsimp only at h
  cases q2:bT M wy with
  | none =>
   rw[q2]at h
   have h:Ib X.K ads H Q (match vv wx,iz M wy with
    | some k,some ah=>.ok ((de ah k).isSome) M
    | _,_=>.af):=by cases hp:jx M wx<;>rw[hp]at h<;>exact h
   cases q3:vv wx with
   | none=>rw[q3]at h;exact h.elim
   | some k =>
    cases q4:iz M wy with
    | none=>rw[q3,q4]at h;exact h.elim
    | some ah =>
     rw[q3,q4]at h;have ek:=D7 r1 q3;subst ek;obtain⟨a,ks,rfl,ha,ra⟩:=oI m r2 q4;cases ry;obtain⟨o,g,eo⟩:=zC (k:=k) ha ra;refine QQ ∅ I g rx λs' I'=>⟨.bl _,H,I',rfl,?_⟩;rw[eo];exact h.now m
  | some W_ =>
   cases q1:jx M wx with
   | none=>rw[q1,q2]at h;exact h.elim
   | some p =>
    obtain⟨l,ds⟩:=W_;rw[q1,q2]at h;dsimp only at h
    cases q3:bS M 30 ds with
    | none=>rw[q3]at h;exact h.elim
    | some qs =>
     rw[q3]at h;dsimp only at h;split at h
     ·rename_i hs
      obtain⟨as,ra⟩:=hG I m r1 rx q1;obtain⟨a,xs,ea,rd,sq⟩:=eY m r2 q2;subst ea;cases ry;rcases sq with⟨_,sq⟩|⟨_,sq⟩
      ·obtain⟨aG,rv,pl,_⟩:=I.list sq;obtain⟨bs,rb⟩:=dG I 30 (fW I m 30) ds xs aG qs rd rv q3;obtain⟨e,he,xR⟩:=mT (A:=X.A) ra hs.1 ∅ rb hs.2;refine SeqAt.in_listAt e pl.isList (λy hy=>he y (by simpa using hy)) ⟨.bl _,H,I,rfl,?_⟩;have:aG.toArray.any e=lJ p qs:=by rw[<- xR];simp
       rw[this];exact h.now m
      ·obtain⟨aG,rv,pl,_⟩:=I.tuple sq;obtain⟨bs,rb⟩:=dG I 30 (fW I m 30) ds xs aG qs rd rv q3;obtain⟨e,he,xR⟩:=mT (A:=X.A) ra hs.1 ∅ rb hs.2;refine SeqAt.in_tupleAt e (show s.heap.IsTuple a aG.toArray from pl) (λy hy=>he y (by simpa using hy)) ⟨.bl _,H,I,rfl,?_⟩;have:aG.toArray.any e=lJ p qs:=by rw[<- xR];simp
       rw[this];exact h.now m
     ·exact h.elim
 | eN =>
  dsimp only at h
  cases q2:bT M wy with
  | none =>
   rw[q2]at h
   have h:Ib X.K ads H Q (match vv wx,iz M wy with
    | some k,some ah=>.ok (!(de ah k).isSome) M
    | _,_=>.af):=by cases hp:jx M wx<;>rw[hp]at h<;>exact h
   cases q3:vv wx with
   | none=>rw[q3]at h;exact h.elim
   | some k =>
    cases q4:iz M wy with
    | none=>rw[q3,q4]at h;exact h.elim
    | some ah =>
     rw[q3,q4]at h;have ek:=D7 r1 q3;subst ek;obtain⟨a,ks,rfl,ha,ra⟩:=oI m r2 q4;cases ry;obtain⟨o,g,eo⟩:=zC (k:=k) ha ra;refine y6 ∅ I g rx λs' I'=>⟨.bl _,H,I',rfl,?_⟩;rw[eo];exact h.now m
  | some W_ =>
   cases q1:jx M wx with
   | none=>rw[q1,q2]at h;exact h.elim
   | some p =>
    obtain⟨l,ds⟩:=W_;rw[q1,q2]at h;dsimp only at h
    cases q3:bS M 30 ds with
    | none=>rw[q3]at h;exact h.elim
    | some qs =>
     rw[q3]at h;dsimp only at h;split at h
     ·rename_i hs
      obtain⟨as,ra⟩:=hG I m r1 rx q1;obtain⟨a,xs,ea,rd,sq⟩:=eY m r2 q2;subst ea;cases ry;rcases sq with⟨_,sq⟩|⟨_,sq⟩
      ·obtain⟨aG,rv,pl,_⟩:=I.list sq;obtain⟨bs,rb⟩:=dG I 30 (fW I m 30) ds xs aG qs rd rv q3;obtain⟨e,he,xR⟩:=mT (A:=X.A) ra hs.1 ∅ rb hs.2;refine SeqAt.notIn_listAt e pl.isList (λy hy=>he y (by simpa using hy)) ⟨.bl _,H,I,rfl,?_⟩;have:aG.toArray.any e=lJ p qs:=by rw[<- xR];simp
       rw[this];exact h.now m
      ·obtain⟨aG,rv,pl,_⟩:=I.tuple sq;obtain⟨bs,rb⟩:=dG I 30 (fW I m 30) ds xs aG qs rd rv q3;obtain⟨e,he,xR⟩:=mT (A:=X.A) ra hs.1 ∅ rb hs.2;refine SeqAt.notIn_tupleAt e (show s.heap.IsTuple a aG.toArray from pl) (λy hy=>he y (by simpa using hy)) ⟨.bl _,H,I,rfl,?_⟩;have:aG.toArray.any e=lJ p qs:=by rw[<- xR];simp
       rw[this];exact h.now m
     ·exact h.elim
end
section
variable {K:PySem.W.Frag} {ads:List Addr} {H:Hp} {M:ak}
theorem Rw(m:aW K ads H M)(r:RW K ads H w v)(e:qg M w=some k):Di K v H k:=by
 have seq:∀w,RW K ads H w v->((bT M w).map λp=>!p.2.isEmpty)=some k->Di K v H k:=by
  intro w r e
  cases q:bT M w with
  | none=>rw[q]at e;cases e
  | some p =>
   obtain⟨l,ds⟩:=p;rw[q]at e;have e:(!ds.isEmpty)=k:=cg e;obtain⟨a,xs,rfl,rd,sq⟩:=eY m r q;have hl:=rd.len
   have ex:k=!xs.isEmpty:=by
    rw[<- e];cases ds<;>cases xs<;>simp_all
   rcases sq with⟨_,sq⟩|⟨_,sq⟩
   ·exact .inl ⟨xs,sq,ex⟩
   ·exact .inr (.inl ⟨xs,sq,ex⟩)
 cases w with
 | lv ds=>exact seq _ r e
 | d x =>
  cases x with
  | aR=>rw[oH r];exact(cg e).symm
  | bl b=>rw[jG r];exact(cg e).symm
  | int i=>rw[aZ r];exact(cg e).symm
  | str s=>exact seq _ r e
  | tup ds=>exact seq _ r e
  | aj n=>exact seq _ r e
  | ls n=>exact seq _ r e
theorem aP.zc(r:aP K ads H ds xs)(e:L2.zc ds i=some d):∃v,L2.zc xs i=some v/\RD K ads H d v:=by
 unfold L2.zc at e⊢;rw[<- r.len]
 cases q:Dy ds.length i with
 | none=>rw[q]at e;cases e
 | some j=>rw[q]at e;exact r.get e
theorem aP.cut{ds:List D}{xs:List V}{lo hi:Option Int}(r:aP K ads H ds xs):aP K ads H (cutD ds lo hi) (uQ xs lo hi):=by
 unfold cutD uQ;rw[<- r.len];exact(r.drop _).take _
theorem cB.any{κ:Type}[DecidableEq κ]{k:κ}:∀{ah:List (κ×D)}{ks:List (κ×V)},cB K ads H ah ks->(ah.any λkv=>decide (kv.1=k))=(ks.any λkv=>decide (kv.1=k))
 | [],_,r=>by unfold cB at r;subst r;rfl
 | p::ps,ks,r=>by unfold cB at r;obtain⟨x,r',rfl,h0,h1,h2⟩:=r;simp[cB.any h2,h0]
theorem cB.map{κ:Type}[DecidableEq κ]{k:κ}{d:D}{v:V}(rd:RD K ads H d v):∀{ah:List (κ×D)}{ks:List (κ×V)},cB K ads H ah ks->cB K ads H (ah.map λkv=>if kv.1=k then (kv.1,d) else kv) (ks.map λkv=>if kv.1=k then (kv.1,v) else kv)
 | [],_,r=>by unfold cB at r;subst r;simp;unfold cB;rfl
 | p::ps,ks,r=>by
  unfold cB at r;obtain⟨x,r',rfl,h0,h1,h2⟩:=r;simp only[fO];unfold cB;refine⟨_,_,rfl,?_,?_,cB.map rd h2⟩
  ·rw[h0];split<;>first | rfl | exact h0
  ·rw[h0];split<;>first | exact rd | exact h1
theorem cB.app{κ:Type}:∀{ah es:List (κ×D)}{ks fs:List (κ×V)},cB K ads H ah ks->cB K ads H es fs->cB K ads H (ah++es) (ks++fs)
 | [],_,_,_,r,q=>by unfold cB at r;subst r;exact q
 | p::ps,es,ks,fs,r,q=>by
  unfold cB at r;obtain⟨x,r',rfl,h0,h1,h2⟩:=r;show cB K ads H (p::(ps++es)) (x::(r'++fs));unfold cB;exact⟨x,_,rfl,h0,h1,cB.app h2 q⟩
theorem cB.put{κ:Type}[DecidableEq κ]{k:κ}{d:D}{v:V}{ah:List (κ×D)}{ks:List (κ×V)}(r:cB K ads H ah ks)(rd:RD K ads H d v):cB K ads H (cR ah k d) (eB ks k v):=by
 unfold cR eB;rw[r.any (k:=k)];split
 ·exact cB.map rd r
 ·refine r.app ?_;unfold cB;exact⟨_,[],rfl,rfl,rd,by unfold cB;rfl⟩
end
section
variable {X:Cx} {M':ak}
def QJ(K:PySem.W.Frag):R2:=λx y H Q=>∃ads M wx wy,aW K ads H M/\RW K ads H wx x/\RW K ads H wy y/\cQ K ads H Q (dy wx wy M)
theorem MN(hu:X.A.units+1<cLine):Pp X (QJ X.K):=by
 intro value jB aa s σ H x y v u Q I rx ry h hs;obtain⟨ads,M,wx,wy,m,r1,r2,h⟩:=h;unfold dy at h;split at h
 ·rename_i i
  have ey:=aZ r2;subst ey
  cases q:bT M wx with
  | some p =>
   obtain⟨l,ds⟩:=p;rw[q]at h;dsimp only at h
   cases q2:UD ds i with
   | none=>rw[q2]at h;exact h.elim
   | some d =>
    rw[q2]at h;obtain⟨a,xs,rfl,rd,sq⟩:=eY m r1 q;obtain⟨z,e2,rz⟩:=rd.zc q2;rcases sq with⟨_,sq⟩|⟨_,sq⟩
    ·exact He value jB aa s σ H _ _ v u Q I rx ry ⟨a,xs,i,z,rfl,rfl,sq,e2,h.plain m rz⟩ hs
    ·exact Mb value jB aa s σ H _ _ v u Q I rx ry ⟨a,xs,i,z,rfl,rfl,sq,e2,h.plain m rz⟩ hs
  | none =>
   rw[q]at h;dsimp only at h;split at h
   ·split at h
    ·rename_i z hz
     have ex:=eZ r1;subst ex
     cases q2:L2.zc z.cps.toList i with
     | none=>rw[q2]at h;exact h.elim
     | some c =>
      rw[q2]at h;exact Mc value jB aa s σ H _ _ v u Q I rx ry ⟨_,i,c,rfl,rfl,hz,q2,h.plain m (xQ _)⟩ hs
    ·exact h.elim
   ·rename_i n
    have r1:RD X.K ads H (.aj n) x:=r1;unfold RD at r1;obtain⟨a,rfl,ea⟩:=r1;split at h
    ·rename_i ah q
     obtain⟨ks,hk,rk⟩:=m.obj n _ a q ea;split at h
     ·rename_i d q2
      obtain⟨z,e2,rz⟩:=rk.find (k:=Sum.inl i) q2;cases rx;have g:jT H a (kV (Sum.inl i)) (some z):=by have:=jT.k (k:=Sum.inl i) hk;rw[e2]at this;exact this
      exact tail_any (iP I g) F.slot_dict_getitem.lookup (lC hu I g ry λw' s' I' xp=>⟨z,H,I',xp,h.plain m rz⟩) hs
     ·exact h.elim
    ·exact h.elim
   ·exact h.elim
 ·rename_i k
  have ey:=eZ r2;subst ey;split at h
  ·rename_i n
   have r1:RD X.K ads H (.aj n) x:=r1;unfold RD at r1;obtain⟨a,rfl,ea⟩:=r1;split at h
   ·rename_i ah q
    obtain⟨ks,hk,rk⟩:=m.obj n _ a q ea;split at h
    ·rename_i d q2
     obtain⟨z,e2,rz⟩:=rk.find (k:=Sum.inr k) q2;cases rx;have g:jT H a (kV (Sum.inr k)) (some z):=by have:=jT.k (k:=Sum.inr k) hk;rw[e2]at this;exact this
     exact tail_any (iP I g) F.slot_dict_getitem.lookup (lC hu I g ry λw' s' I' xp=>⟨z,H,I',xp,h.plain m rz⟩) hs
    ·exact h.elim
   ·exact h.elim
  ·exact h.elim
 ·exact h.elim
def Xa(K:PySem.W.Frag):V->Option Int->Option Int->Hp->VK->Prop:=λx lo hi H Q=>∃ads M wx,aW K ads H M/\RW K ads H wx x/\cQ K ads H Q (oz wx lo hi M)
theorem MP:Uq X (Xa X.K):=by
 intro aa s σ H x v vl vu lo hi sl Q I rx hs pl pu h;obtain⟨ads,M,wx,m,r1,h⟩:=h;unfold oz at h;split at h
 ·rename_i ds q
  obtain⟨a,xs,rfl,rd,sq⟩:=eY m r1 q;rcases sq with⟨_,sq⟩|⟨e,_⟩
  ·exact Hf aa s σ H _ v vl vu lo hi sl Q I rx hs pl pu ⟨a,xs,rfl,sq,λp hp=>h.list m rd.cut hp⟩
  ·cases e
 ·rename_i ds q
  obtain⟨a,xs,rfl,rd,sq⟩:=eY m r1 q;rcases sq with⟨e,_⟩|⟨_,sq⟩
  ·cases e
  ·split at h
   ·exact h.elim
   ·rename_i hw
    refine Ma aa s σ H _ v vl vu lo hi sl Q I rx hs pl pu ⟨a,xs,rfl,sq,by rw[<- rd.len];exact hw,λp hp=>h.tuple m rd.cut hp⟩
 ·exact h.elim
theorem cQ.MQ{K:PySem.W.Frag}{ads:List Addr}{H:Hp}{Q:VK}{M:ak}{ah:List (bH×D)}{ks:List (bH×V)}{p:Addr}(q:cQ K ads H Q (.ok (.d (.aj M.length)) (M++[.dK ah])))(m:aW K ads H M)(hp:H p=none)(r:cB K ads H ah ks):Q (.ref p) (upd H p (.dK ks)):=by
 have pn:=m.fresh hp;have g0:aJ ads ads H (upd H p (.dK ks)):=aJ.gu m hp;have m1:aW K ads (upd H p (.dK ks)) M:=m.gu hp;have m2:=m1.push (o:=.dK ah) pn ⟨_,bt,g0.BU _ _ r⟩;refine q (.ref p) _ (ads++[p]) ⟨⟨[p],rfl⟩,λb hb nb=>?_,g0.kept,g0.iu,g0.eQ⟩ m2 ?_
 ·rcases cj.mp hb with z | z
  ·exact absurd z nb
  ·have:b=p:=by simpa using z
   subst this;exact hp
 ·show RD K (ads++[p]) (upd H p (.dK ks)) (.aj M.length) (.ref p);unfold RD;exact⟨p,rfl,by rw[mD (by rw[m.len];exact aI _)];simp[m.len]⟩
def Ko(K:PySem.W.Frag)(ads:List Addr)(H:Hp):List W->List V->Prop
 | [],vs=>vs=[]
 | w::ws,vs=>∃v r,vs=v::r/\RW K ads H w v/\Ko K ads H ws r
def D9(K:PySem.W.Frag)(b:Bi):List V->Hp->VK->Prop:=λvs H Q=>∃ads M ws,aW K ads H M/\Ko K ads H ws vs/\cQ K ads H Q (kc b ws M)
theorem Ko.one{K:PySem.W.Frag}{ads:List Addr}{H:Hp}{w:W}{vs:List V}(r:Ko K ads H [w] vs):∃v,vs=[v]/\RW K ads H w v:=by
 obtain⟨v,r,rfl,h,h2⟩:=r;have h2:r=[]:=h2;subst h2;exact⟨v,rfl,h⟩
theorem Ko.two{K:PySem.W.Frag}{ads:List Addr}{H:Hp}{w w2:W}{vs:List V}(r:Ko K ads H [w,w2] vs):∃v v2,vs=[v,v2]/\RW K ads H w v/\RW K ads H w2 v2:=by
 obtain⟨v,r,rfl,h,h2⟩:=r;obtain⟨v2,rfl,h3⟩:=Ko.one h2;exact⟨v,v2,rfl,h,h3⟩
theorem j5(ps:List (bH×Value)):∀n,n<=ps.length->ml (λi=>ps.getD i (Sum.inl 0,.none)) n=(ps.take n).foldl (λacc p=>stored acc p.1 p.2) []
 | 0,_=>by simp[ml]
 | n+1,h=>by
  have hn:n<ps.length:=h;rw[List.take_add_one,bx hn,Option.toList_some,Lj,<- j5 ps n (nM hn)];show stored _ _ _=stored _ _ _
  try simp only[iC,bx hn,Option.getD_some]
theorem zE:∀{qs:List (bH×V)}{ps:List (bH×Value)}{a:List (bH×V)}{b:List (bH×Value)},KV qs ps->KV a b->KV (qs.foldl (λacc p=>eB acc p.1 p.2) a) (ps.foldl (λacc p=>stored acc p.1 p.2) b)
 | [],_,a,b,r,k=>by cases r;exact k
 | q::qs,_,a,b,r,k=>by
  cases r with
  | cons h r =>
   rename_i p ps
   obtain⟨h1,h2⟩:=h;have k2:KV (eB a q.1 q.2) (stored b p.1 p.2):=by rw[<- h1];exact k.put q.1 h2
   exact zE (qs:=qs) (ps:=ps) r k2
theorem MR(r:RelV (.int i) u):∃t,u=.int i t:=r
theorem MS{x:Str}(r:RelV (.str x) u):∃t,u=.str x t:=r
theorem D_{H0:Hp}{h:Heap}(ok:jy X.prog X.w H0 h){K:PySem.W.Frag}{ads:List Addr}:∀{ds:List D}{acc ah:List (bH×D)}{va:List (bH×V)}{ys:List V}{aG:List Value},BV acc ds=some ah->cB K ads H0 acc va->aP K ads H0 ds ys->aS ys aG->∃(ps:List (bH×Value)) (qs:List (bH×V)),ps.length=aG.length/\KV qs ps/\cB K ads H0 ah (qs.foldl (λacc p=>eB acc p.1 p.2) va)/\∀i v,aG[i]?=some v->∃a uk,v=.ref a/\iG (ps.getD i (Sum.inl 0,.none)).1 uk=true/\IsTup h a #[uk,(ps.getD i (Sum.inl 0,.none)).2]
 | [],acc,ah,va,ys,aG,e,ra,rd,rv=>by
  cases e;unfold aP at rd;subst rd;cases rv;exact⟨[],[],rfl,.nil,ra,λi v h=>by simp at h⟩
 | d::ds,acc,ah,va,ys,aG,e,ra,rd,rv=>by
  unfold aP at rd;obtain⟨y,yr,rfl,r1,r2⟩:=rd
  cases rv with
  | cons hv rv =>
   rename_i u us
   unfold BV at e
   cases hp:pairD d with
   | none=>rw[hp]at e;cases e
   | some kx =>
    obtain⟨k,x⟩:=kx;rw[hp]at e
    have main:∀kd:D,d=.tup [kd,x]->(∀z uz,RD K ads H0 kd z->RelV z uz->iG k uz=true)->∃(ps:List (bH×Value)) (qs:List (bH×V)),ps.length=(u::us).length/\KV qs ps/\cB K ads H0 ah (qs.foldl (λacc p=>eB acc p.1 p.2) va)/\∀i v,(u::us)[i]?=some v->∃a uk,v=.ref a/\iG (ps.getD i (Sum.inl 0,.none)).1 uk=true/\IsTup h a #[uk,(ps.getD i (Sum.inl 0,.none)).2]:=by
     intro kd ed hk;subst ed;unfold RD at r1;obtain⟨a,xs,rfl,ha,rx⟩:=r1;unfold aP at rx;obtain⟨z,zr,rfl,rz,rx⟩:=rx;unfold aP at rx;obtain⟨z2,zr2,rfl,rz2,rx⟩:=rx;unfold aP at rx;subst rx;obtain⟨_,tits,tv,tt⟩:=ok a _ ha
     cases tv with
     | cons t1 tv =>
      cases tv with
      | cons t2 tv =>
       cases tv
       rename_i uk uv
       obtain⟨ps,qs,l,kk,rr,hh⟩:=D_ ok e (ra.put (k:=k) rz2) r2 rv;refine⟨(k,uv)::ps,(k,z2)::qs,by simp[l],.cons ⟨rfl,t2⟩ kk,rr,λi v hi=>?_⟩
       cases i with
       | zero =>
        have hi:u=v:=by simpa using hi
        subst hi;have hu:u=.ref a:=hv;exact⟨a,uk,hu,hk z uk rz t1,tt⟩
       | succ i =>
        obtain⟨a',uk',q1,q2,q3⟩:=hh i v (by simpa using hi);exact⟨a',uk',q1,by simpa using q2,by simpa using q3⟩
    unfold pairD at hp;split at hp
    ·rename_i i dd
     cases hp;refine main _ rfl λz uz rz hz=>?_;unfold RD at rz;subst rz;obtain⟨t,rfl⟩:=MR hz;exact qt i t
    ·rename_i i dd
     cases hp;refine main _ rfl λz uz rz hz=>?_;unfold RD at rz;subst rz;obtain⟨t,rfl⟩:=MS hz;exact qu i t
    ·cases hp
theorem Ie(hc:X.calm=true):dM X (.type "dict") (D9 X.K .qK):=by
 intro aa s σ H xs us Q I r h;obtain⟨ads,M,ws,m,rw,h⟩:=h;rcases ws with _|⟨w,_|⟨w2,ws⟩⟩
 ·exact h.elim
 ·obtain⟨v,rfl,rv⟩:=rw.one;unfold kc at h;dsimp only at h;split at h
  ·rename_i ah q
   obtain⟨a,ks,rfl,ha,ra⟩:=oI m rv q;obtain⟨u,rfl,ru⟩:=vals1 r;cases ru;obtain⟨z,hd,vs,va,dd⟩:=uN I.bJ ha;refine kt_call_dict hd dd (by rw[<- va.length];exact z) λh' Qf hs=>?_
   have kp:∀b o',s.heap.get? b=some o'->h'.get? b=some o':=λb o' e=>by
    have hb:b≠s.heap.objs.size:=λz=>by subst z;exact absurd (cv e) (ki _)
    rw[hs.2 b hb];exact bz _ e
   refine⟨.ref s.heap.objs.size,_,I.laid (t':=s.toks) (o:=.dK ks) kp (aI _) ?_,rfl,h.MQ m (I.bJ.fresh (aI _)) ra⟩;exact⟨z,pV.mpr (dh (cH I.big)),vs,va,Qf⟩
  ·split at h
   ·rename_i ds q
    split at h
    ·rename_i ah qp
     obtain⟨a,ys,rfl,rd,sq⟩:=eY m rv q;rcases sq with⟨_,sq⟩|⟨e,_⟩
     ·obtain⟨u,rfl,ru⟩:=vals1 r;cases ru;obtain⟨aG,vy,pl,hz⟩:=I.list sq;obtain⟨ps,qs,l,kk,rr,hh⟩:=D_ I.bJ qp (va:=[]) (show cB X.K ads H [] [] by unfold cB;rfl) rd vy;refine HA (I.ok.hd hc) pl (by rw[<- vy.length];exact hz) (λi=>ps.getD i (Sum.inl 0,.none)) hh λh' tk kp hd=>?_;rw[<- l,j5 ps _ (aI _),jO]at hd;refine⟨.ref s.heap.objs.size,_,I.laid (t':=tk) (o:=.dK (qs.foldl (λacc p=>eB acc p.1 p.2) [])) kp (aI _) ?_,rfl,h.MQ m (I.bJ.fresh (aI _)) rr⟩;have kf:=zE kk (a:=[]) (b:=[]) .nil;refine⟨?_,pV.mpr (dh (cH I.big)),_,kf,hd⟩;have l1:=CS kf;have l2:=lH (λi=>ps.getD i (Sum.inl 0,.none)) ps.length;rw[j5 ps _ (aI _),jO]at l2;rw[l1];exact dr l2 (by rw[l,<- vy.length];exact hz)
     ·cases e
    ·exact h.elim
   ·exact h.elim
 ·exact h.elim
theorem MT:dM X (.builtin "len") (D9 X.K .len):=by
 intro aa s σ H xs us Q I r h;obtain⟨ads,M,ws,m,rw,h⟩:=h;rcases ws with _|⟨w,_|⟨w2,ws⟩⟩
 ·exact h.elim
 ·obtain⟨v,rfl,rv⟩:=rw.one;unfold kc at h;dsimp only at h;split at h
  ·rename_i l ds q
   obtain⟨a,ys,rfl,rd,sq⟩:=eY m rv q;refine se aa s σ H _ us Q I r ⟨a,ys,rfl,?_,by rw[<- rd.len];exact h.plain m (dj _)⟩;rcases sq with⟨_,sq⟩|⟨_,sq⟩
   ·exact .inl sq
   ·exact .inr sq
  ·split at h
   ·split at h
    ·rename_i hz
     have e1:=eZ rv;subst e1;exact sf aa s σ H _ us Q I r ⟨_,rfl,hz,h.plain m (dj _)⟩
    ·exact h.elim
   ·exact h.elim
 ·exact h.elim
theorem Ig:dM X (.type "list") (D9 X.K .list1):=by
 intro aa s σ H xs us Q I r h;obtain⟨ads,M,ws,m,rw,h⟩:=h;rcases ws with _|⟨w,_|⟨w2,ws⟩⟩
 ·exact h.elim
 ·obtain⟨v,rfl,rv⟩:=rw.one;unfold kc at h;dsimp only at h;split at h
  ·rename_i l ds q
   obtain⟨a,ys,rfl,rd,sq⟩:=eY m rv q;refine sg aa s σ H _ us Q I r ⟨a,ys,rfl,?_,λp hp=>h.list m rd hp⟩;rcases sq with⟨_,sq⟩|⟨_,sq⟩
   ·exact .inl sq
   ·exact .inr sq
  ·exact h.elim
 ·exact h.elim
theorem Ea:dM X (.type "tuple") (D9 X.K .tuple1):=by
 intro aa s σ H xs us Q I r h;obtain⟨ads,M,ws,m,rw,h⟩:=h;rcases ws with _|⟨w,_|⟨w2,ws⟩⟩
 ·exact h.elim
 ·obtain⟨v,rfl,rv⟩:=rw.one;unfold kc at h;dsimp only at h;split at h
  ·rename_i l ds q
   have hq:=q;obtain⟨a,ys,rfl,rd,sq⟩:=eY m rv q;rcases sq with⟨_,sq⟩|⟨el,sq⟩
   ·exact jC aa s σ H _ us Q I r ⟨a,ys,rfl,.inl ⟨sq,λp hp=>h.tuple m rd hp⟩⟩
   ·refine jC aa s σ H _ us Q I r ⟨a,ys,rfl,.inr ⟨sq,h.plain m ?_⟩⟩;subst el
    cases w with
    | lv es=>cases hq
    | d x =>
     cases x with
     | tup es =>
      have e:es=ds:=by simpa[bT]using hq
      subst e;exact rv
     | aj n =>
      simp only[bT]at hq;split at hq<;>cases hq
     | ls _=>cases hq
     | aR=>cases hq
     | bl _=>cases hq
     | int _=>cases hq
     | str _=>cases hq
  ·exact h.elim
 ·exact h.elim
theorem MU(hc:X.calm=true):dM X (.builtin "max") (D9 X.K .max2):=by
 intro aa s σ H xs us Q I r h;obtain⟨ads,M,ws,m,rw,h⟩:=h;rcases ws with _|⟨w,_|⟨w2,_|⟨w3,ws⟩⟩⟩
 ·exact h.elim
 ·rcases w with⟨_|_|_|_|_|_⟩|_<;>exact h.elim
 ·rcases w with⟨_|_ | i | _|_|_⟩|_<;>first | exact h.elim | skip
  rcases w2 with⟨_|_ | j | _|_|_⟩|_<;>first | exact h.elim | skip
  obtain⟨v,v2,rfl,r1,r2⟩:=rw.two;have e1:=aZ r1;have e2:=aZ r2;subst e1 e2;exact Bk hc aa s σ H _ us Q I r ⟨i,j,rfl,cQ.plain h m (dj _)⟩
 ·rcases w with⟨_|_ | i | _|_|_⟩|_<;>first | exact h.elim | skip
  rcases w2 with⟨_|_ | j | _|_|_⟩|_<;>exact h.elim
theorem MV(hc:X.calm=true):dM X (.builtin "min") (D9 X.K .min2):=by
 intro aa s σ H xs us Q I r h;obtain⟨ads,M,ws,m,rw,h⟩:=h;rcases ws with _|⟨w,_|⟨w2,_|⟨w3,ws⟩⟩⟩
 ·exact h.elim
 ·rcases w with⟨_|_|_|_|_|_⟩|_<;>exact h.elim
 ·rcases w with⟨_|_ | i | _|_|_⟩|_<;>first | exact h.elim | skip
  rcases w2 with⟨_|_ | j | _|_|_⟩|_<;>first | exact h.elim | skip
  obtain⟨v,v2,rfl,r1,r2⟩:=rw.two;have e1:=aZ r1;have e2:=aZ r2;subst e1 e2;exact Bl hc aa s σ H _ us Q I r ⟨i,j,rfl,cQ.plain h m (dj _)⟩
 ·rcases w with⟨_|_ | i | _|_|_⟩|_<;>first | exact h.elim | skip
  rcases w2 with⟨_|_ | j | _|_|_⟩|_<;>exact h.elim
theorem eR(n:Nat)(hA:∀d p,dD M' n d=some p->p.hasDict=false):∀(ds:List D)(ps:List PyData),bS M' n ds=some ps->PyData.hasDictAll ps=false
 | [],ps,e=>by unfold bS at e;cases e;rfl
 | d::ds,ps,e=>by
  unfold bS at e
  cases q1:dD M' n d with
  | none=>rw[q1]at e;cases e
  | some p =>
   cases q2:bS M' n ds with
   | none=>rw[q1,q2]at e;cases e
   | some qs =>
    rw[q1,q2]at e;cases e;rw[PyData.hasDictAll,hA d p q1,eR n hA ds qs q2];rfl
theorem vE:∀(n:Nat)(d:D)(p:PyData),dD M' n d=some p->p.hasDict=false:=by
 intro n
 induction n with
 | zero=>intro d p e;cases d<;>(unfold dD at e;cases e)<;>simp[PyData.hasDict]
 | succ n ih =>
  intro d p e
  cases d with
  | tup ds =>
   unfold dD at e
   cases q:bS M' n ds with
   | none=>rw[q]at e;cases e
   | some ps=>rw[q]at e;cases e;rw[PyData.hasDict];exact eR n ih ds ps q
  | aj k =>
   unfold dD at e;split at e
   ·cases q:bS M' n _ with
    | none=>rw[q]at e;cases e
    | some ps=>rw[q]at e;cases e;rw[PyData.hasDict];exact eR n ih _ ps q
   ·cases q:bS M' n _ with
    | none=>rw[q]at e;cases e
    | some ps=>rw[q]at e;cases e;rw[PyData.hasDict];exact eR n ih _ ps q
   ·cases e
  | ls ds =>
   unfold dD at e
   cases q:bS M' n ds with
   | none=>rw[q]at e;cases e
   | some ps=>rw[q]at e;cases e;rw[PyData.hasDict];exact eR n ih ds ps q
  | aR=>unfold dD at e;cases e;simp[PyData.hasDict]
  | bl _=>unfold dD at e;cases e;simp[PyData.hasDict]
  | int _=>unfold dD at e;cases e;simp[PyData.hasDict]
  | str _=>unfold dD at e;cases e;simp[PyData.hasDict]
theorem MW:dM X (.type "int") (D9 X.K .vt):=by
 intro aa s σ H xs us Q I r h;obtain⟨ads,M,ws,m,rw,h⟩:=h;rcases ws with _|⟨w,_|⟨w2,ws⟩⟩
 ·exact h.elim
 ·obtain⟨v,rfl,rv⟩:=rw.one
  cases w with
  | lv ds=>exact h.elim
  | d x =>
   cases x with
   | int i =>
    have e:=aZ rv;subst e;exact qw aa s σ H _ us Q I r (.inl ⟨i,rfl,cQ.plain h m (dj _)⟩)
   | bl i =>
    have e:=jG rv;subst e;exact qw aa s σ H _ us Q I r (.inr ⟨i,rfl,cQ.plain h m (dj _)⟩)
   | aR=>exact h.elim
   | str _=>exact h.elim
   | tup _=>exact h.elim
   | aj _=>exact h.elim
   | ls _=>exact h.elim
 ·rcases w with⟨_|_|_|_|_|_⟩|_<;>exact h.elim
theorem Ih{k:Nat}(hr:iK k X.A):dM X (.builtin "repr") (D9 X.K .ou):=by
 intro aa s σ H xs us Q I r h;obtain⟨ads,M,ws,m,rw,h⟩:=h;rcases ws with _|⟨w,_|⟨w2,ws⟩⟩
 ·exact h.elim
 ·obtain⟨v,rfl,rv⟩:=rw.one;unfold kc at h;dsimp only at h;split at h
  ·rename_i p q
   split at h
   ·rename_i hs
    obtain⟨u,rfl,ru⟩:=vals1 r;obtain⟨as,ra⟩:=hG I m rv ru q;have MX:=hr.un
    have fin:∀(h':Heap)(t:Tok)(tk:Nat),(∀b o,s.heap.get? b=some o->h'.get? b=some o)->EP X aa σ Q (.str p.shown t) {s with heap:=h',toks:=tk}:=λh' t tk hk =>
     ⟨.str p.shown,H,I.kept hk,⟨t,rfl⟩,h.plain m (xQ _)⟩
    have Ii:∀(t:Tok)(tk:Nat),EP X aa σ Q (.str p.shown t) {s with toks:=tk}:=λt tk=>fin s.heap t tk λ_ _ e=>e
    have nd:p.hasDict=false:=by
     cases w with
     | d x=>exact vE 30 x p q
     | lv ds =>
      have e:(bS M 30 ds).map PyData.list=some p:=q
      cases q2:bS M 30 ds with
      | none=>rw[q2]at e;cases e
      | some ps=>rw[q2]at e;cases e;rw[PyData.hasDict];exact eR 30 (vE 30) ds ps q2
    cases ra with
    | none=>exact PySem.P.repr_of_none (Ii _ _)
    | bool b=>exact PySem.P.repr_of_bool (Ii _ _)
    | int i t=>exact PySem.P.repr_of_int (AN hs.1) (Ii _ _)
    | str x t=>exact PySem.P.repr_of_str (Ii _ _) hs.2.2
    | list h1 h2 h3 h4=>exact repr_of_reads' (.list h1 h2 h3 h4) hs.1 (PyData.noDict_hsm nd) hr.gd (by have:=hs.2.1;omega) (λ_ _ e=>e) (λh' t tk hk=>fin h' t tk hk) hs.2.2
    | tuple h1 h2 h3 h4=>exact repr_of_reads' (.tuple h1 h2 h3 h4) hs.1 (PyData.noDict_hsm nd) hr.gd (by have:=hs.2.1;omega) (λ_ _ e=>e) (λh' t tk hk=>fin h' t tk hk) hs.2.2
    | dict h1 h2 h3 h4 h5=>rw[PyData.hasDict]at nd;cases nd
   ·exact h.elim
  ·exact h.elim
 ·exact h.elim
noncomputable def vF:Ty->String
 | .int => "int" | .bool => "bool" | .str => "str" | .tuple => "tuple" | .list => "list" | .dict => "dict" | .none => "NoneType"
theorem Ij(K:PySem.W.Frag):∀g t:Ty,PySem.W.kitOne K (.type (vF g)) (.type (vF t))=some (decide (g=t)||(decide (g=.bool)&&decide (t=.int))):=by
 intro g t;cases g<;>cases t<;>kernel_rfl
theorem MY{K:PySem.W.Frag}{ads:List Addr}{H:Hp}{M:ak}{w:W}{v:V}{g:Ty}(m:aW K ads H M)(r:RW K ads H w v)(e:HP M w=some g):lB K H v (.type (vF g)):=by
 cases w with
 | lv ds=>cases e;obtain⟨a,xs,rfl,h,_⟩:=r;exact .lst h
 | d x =>
  cases x with
  | aR=>cases e;rw[oH r];exact .aR
  | bl b=>cases e;rw[jG r];exact .bl b
  | int b=>cases e;rw[aZ r];exact .int b
  | str b=>cases e;rw[eZ r];exact .str b
  | ls b=>cases e
  | tup b=>cases e;have r:RD K ads H (.tup b) v:=r;unfold RD at r;obtain⟨a,xs,rfl,h,_⟩:=r;exact .tup h
  | aj n =>
   have r:RD K ads H (.aj n) v:=r;unfold RD at r;obtain⟨a,rfl,ea⟩:=r;simp only[HP]at e
   cases q:M[n]? with
   | none=>rw[q]at e;cases e
   | some o =>
    rw[q]at e;have ho:=m.obj n o a q ea
    cases o with
    | lst es=>cases e;obtain⟨xs,h,_⟩:=ho;exact .lst h
    | jw es=>cases e;obtain⟨o,xs,h,_⟩:=ho;exact .eQ h
    | dK es=>cases e;obtain⟨xs,h,_⟩:=ho;exact .dK h
    | dT es=>cases e;obtain⟨xs,h,_⟩:=ho;exact .dT h
    | dF es=>cases e
theorem MZ(t:Ty):dM X (.builtin "isinstance") (λvs H Q=>∃v,vs=[v,.ty (vF t)]/\D9 X.K (.xJ t) [v] H Q):=by
 intro aa s σ H xs us Q I r h;obtain⟨v,rfl,ads,M,ws,m,rw,h⟩:=h;obtain⟨u,u2,rfl,r1,r2⟩:=vals2 r;rcases ws with _|⟨w,_|⟨w2,ws⟩⟩
 ·exact h.elim
 ·obtain⟨v',e,rv⟩:=rw.one;cases e;unfold kc at h;dsimp only at h;split at h
  ·rename_i g q
   have e2:u2=Value.type (vF t):=r2;subst e2;exact Bn I r1 (MY m rv q) (Ij X.K g t) λtk=>⟨.bl _,H,I.tok tk,rfl,h.plain m (jH _)⟩
  ·exact h.elim
 ·obtain⟨_,_,e,_,_,_,e2,_⟩:=rw;cases e;cases e2
end
section
variable {X:Cx}
def M_(K:PySem.W.Frag)(me:Me):V->List V->Hp->VK->Prop:=λx vs H Q=>∃ads M wx ds,aW K ads H M/\RW K ads H wx x/\aP K ads H ds vs/\cQ K ads H Q (mL me wx ds M)
theorem aP.Ik{K:PySem.W.Frag}{ads:List Addr}{H:Hp}{d:D}{vs:List V}(r:aP K ads H [d] vs):∃v,vs=[v]/\RD K ads H d v:=by
 unfold aP at r;obtain⟨v,r',rfl,h,h2⟩:=r;unfold aP at h2;subst h2;exact⟨v,rfl,h⟩
theorem aP.Rx{K:PySem.W.Frag}{ads:List Addr}{H:Hp}{vs:List V}(r:aP K ads H [] vs):vs=[]:=by
 unfold aP at r;exact r
theorem aP.Xb{K:PySem.W.Frag}{ads:List Addr}{H:Hp}{d e:D}{vs:List V}(r:aP K ads H [d,e] vs):∃v w,vs=[v,w]/\RD K ads H d v/\RD K ads H e w:=by
 unfold aP at r;obtain⟨v,r',rfl,h,h2⟩:=r;obtain⟨w,rfl,h3⟩:=h2.Ik;exact⟨v,w,rfl,h,h3⟩
theorem cQ.wrote{K:PySem.W.Frag}{ads:List Addr}{H:Hp}{M:ak}{n:Nat}{a:Addr}{ds es:List D}{ys:List V}{x:D}{Q:VK}{v:V}(h:cQ K ads H Q (.ok (.d x) (M.set n (.lst es))))(m:aW K ads H M)(q:M[n]?=some (.lst ds))(ea:ads[n]?=some a)(ha:∃xs,H a=some (.lst xs))(ry:aP K ads H es ys)(rx:RD K ads (upd H a (.lst ys)) x v):Q v (upd H a (.lst ys)):=by
 obtain⟨xs,ha⟩:=ha;have nf:∀o x,H a≠some (.eQ o x):=λo x z=>by rw[ha]at z;cases z
 have g:aJ ads ads H (upd H a (.lst ys)):=by
  have u6:a∈ads:=dw ea
  exact⟨⟨[],by simp⟩,λb h n=>absurd h n,λb x nb h=>by rw[aC (by intro z;subst z;exact nb u6)];exact h,λb xs h=>by
   rw[aC (λz=>by subst z;rw[ha]at h;cases h)];exact h,λb o u h=>by rw[aC (λz=>by subst z;exact nf _ _ h)];exact h⟩
 obtain⟨g',m'⟩:=m.write (o:=.lst es) (ho:=.lst ys) q ea nf ⟨ys,bt,g.qJ _ _ ry⟩;exact h v _ ads g m' rx
theorem qL:Kb X "list.append" (M_ X.K .append):=by
 intro aa s σ H x vs v us Q I rx rv h;obtain⟨ads,M,wx,ds,m,r1,r2,h⟩:=h;rcases wx with⟨_|_|_|_|_ | n⟩|_<;>first | exact h.elim | skip
 have r1:RD X.K ads H (.aj n) x:=r1;unfold RD at r1;obtain⟨a,rfl,ea⟩:=r1;simp only[mL]at h
 cases q:M[n]? with
 | none=>rw[q]at h;exact h.elim
 | some o =>
  rw[q]at h
  cases o with
  | lst es =>
   rcases ds with _|⟨d,_|⟨d2,ds⟩⟩
   ·exact h.elim
   ·dsimp only at h;split at h
    ·rename_i hz
     obtain⟨y,rfl,ry⟩:=r2.Ik;obtain⟨xs,ha,rd⟩:=m.obj n _ a q ea;exact qE aa s σ H _ _ v us Q I rx rv ⟨a,xs,y,rfl,rfl,ha,by rw[<- rd.len];exact hz,cQ.wrote h m q ea ⟨xs,ha⟩ (rd.app (.one ry)) g_⟩
    ·exact h.elim
   ·exact h.elim
  | jw _=>exact h.elim
  | dK _=>exact h.elim
  | dT _=>exact h.elim
  | dF _=>exact h.elim
theorem qM:Kb X "list.extend" (M_ X.K .extend):=by
 intro aa s σ H x vs v us Q I rx rv h;obtain⟨ads,M,wx,ds,m,r1,r2,h⟩:=h;rcases wx with⟨_|_|_|_|_ | n⟩|_<;>first | exact h.elim | skip
 have r1:RD X.K ads H (.aj n) x:=r1;unfold RD at r1;obtain⟨a,rfl,ea⟩:=r1;simp only[mL]at h
 cases q:M[n]? with
 | none=>rw[q]at h;exact h.elim
 | some o =>
  rw[q]at h
  cases o with
  | lst es =>
   rcases ds with _|⟨d,_|⟨d2,ds⟩⟩
   ·exact h.elim
   ·cases d<;>first | exact h.elim | skip
    ·rename_i fs
     dsimp only at h;split at h
     ·rename_i hz
      obtain⟨y,rfl,ry⟩:=r2.Ik;unfold RD at ry;obtain⟨b,ys,rfl,hb,Ry⟩:=ry;obtain⟨xs,ha,rd⟩:=m.obj n _ a q ea;exact xI aa s σ H _ _ v us Q I rx rv ⟨a,b,xs,ys,rfl,rfl,ha,gE.of hb,by rw[<- rd.len,<- Ry.len];exact hz,cQ.wrote h m q ea ⟨xs,ha⟩ (rd.app Ry) g_⟩
     ·exact h.elim
    ·rename_i k
     dsimp only at h
     cases q2:M[k]? with
     | none=>rw[q2]at h;exact h.elim
     | some o2 =>
      rw[q2]at h
      cases o2 with
      | lst fs =>
       dsimp only at h;split at h
       ·rename_i hz
        obtain⟨y,rfl,ry⟩:=r2.Ik;unfold RD at ry;obtain⟨b,rfl,eb⟩:=ry;obtain⟨xs,ha,rd⟩:=m.obj n _ a q ea;obtain⟨ys,hb,Ry⟩:=m.obj k _ b q2 eb;exact Bq aa s σ H _ _ v us Q I rx rv ⟨a,b,xs,ys,rfl,rfl,ha,hb,by rw[<- rd.len,<- Ry.len];exact hz,cQ.wrote h m q ea ⟨xs,ha⟩ (rd.app Ry) g_⟩
       ·exact h.elim
      | jw _=>exact h.elim
      | dK _=>exact h.elim
      | dT _=>exact h.elim
      | dF _=>exact h.elim
   ·cases d<;>exact h.elim
  | jw _=>exact h.elim
  | dK _=>exact h.elim
  | dT _=>exact h.elim
  | dF _=>exact h.elim
theorem sE{K:PySem.W.Frag}{ads:List Addr}{H:Hp}:∀(is:List Int),aP K ads H (is.map D.int) (is.map V.int)
 | []=>by unfold aP;rfl
 | i::is=>by
  show aP K ads H (D.int i::is.map D.int) (V.int i::is.map V.int);unfold aP;exact⟨_,_,rfl,dj _,sE is⟩
theorem ints_of{K:PySem.W.Frag}{ads:List Addr}{H:Hp}:∀{ds:List D}{is:List Int}{xs:List V},iQ ds=some is->aP K ads H ds xs->xs=is.map V.int
 | [],_,_,e,r=>by cases e;unfold aP at r;exact r
 | d::ds,_,_,e,r=>by
  unfold aP at r;obtain⟨y,r',rfl,h1,h2⟩:=r;cases d<;>first | cases e | skip
  rename_i b
  have e:(iQ ds).map (b::·)=some _:=e
  cases q:iQ ds with
  | none=>rw[q]at e;cases e
  | some bs =>
   rw[q]at e;cases e;unfold RD at h1;rw[h1,ints_of q h2];rfl
theorem Il:dM X (.builtin "sorted") (D9 X.K .ox):=by
 intro aa s σ H xs us Q I r h;obtain⟨ads,M,ws,m,rw,h⟩:=h;rcases ws with _|⟨w,_|⟨w2,ws⟩⟩
 ·exact h.elim
 ·obtain⟨v,rfl,rv⟩:=rw.one;unfold kc at h;dsimp only at h;split at h
  ·rename_i ds q
   split at h
   ·rename_i is qi
    split at h
    ·rename_i hl
     obtain⟨a,ys,rfl,rd,sq⟩:=eY m rv q;have ey:=ints_of qi rd;subst ey;refine vc aa s σ H _ us Q I r ⟨a,is,rfl,?_,hl,λp hp=>h.list m (sE _) hp⟩;rcases sq with⟨_,sq⟩|⟨z,_⟩
     ·exact sq
     ·cases z
    ·exact h.elim
   ·exact h.elim
  ·exact h.elim
 ·exact h.elim
theorem zF{K:PySem.W.Frag}{ads:List Addr}{H:Hp}:∀{ds:List D}{vs:List V}{i:Nat}{d:D},aP K ads H ds vs->ds[i]?=some d->∃v,vs[i]?=some v/\RD K ads H d v
 | d::ds,vs,i,e,r,h=>by
  unfold aP at r;obtain⟨x,r',rfl,h1,h2⟩:=r
  cases i with
  | zero=>cases h;exact⟨x,rfl,h1⟩
  | succ i=>exact zF (i:=i) h2 h
theorem vG{K:PySem.W.Frag}{ads:List Addr}{H:Hp}:∀{ds:List D}{vs:List V},aP K ads H ds vs->aP K ads H ds.dropLast vs.dropLast
 | [],vs,r=>by unfold aP at r;subst r;unfold aP;rfl
 | [d],vs,r=>by
  unfold aP at r;obtain⟨x,r',rfl,_,h2⟩:=r;unfold aP at h2;subst h2;show aP K ads H [] [];unfold aP;rfl
 | d::e::ds,vs,r=>by
  unfold aP at r;obtain⟨x,r',rfl,h1,h2⟩:=r;have h3:=vG h2;unfold aP at h2;obtain⟨y,r'',rfl,_,_⟩:=h2;show aP K ads H (d::(e::ds).dropLast) (x::(y::r'').dropLast);unfold aP;exact⟨x,_,rfl,h1,h3⟩
theorem Na{ads:List Addr}{n:Nat}{xs ys:List V}(ha:H a=some (.lst xs))(ea:ads[n]?=some a):aJ ads ads H (upd H a (.lst ys)):=by
 have nf:∀o x,H a≠some (.eQ o x):=λo x z=>by rw[ha]at z;cases z
 have u6:a∈ads:=dw ea
 exact⟨⟨[],by simp⟩,λb h n=>absurd h n,λb x nb h=>by rw[aC (by intro z;subst z;exact nb u6)];exact h,λb xs h=>by
  rw[aC (λz=>by subst z;rw[ha]at h;cases h)];exact h,λb o u h=>by rw[aC (λz=>by subst z;exact nf _ _ h)];exact h⟩
theorem Eb:Kb X "list.pop" (M_ X.K .pop):=by
 intro aa s σ H x vs v us Q I rx rv h;obtain⟨ads,M,wx,ds,m,r1,r2,h⟩:=h;rcases wx with⟨_|_|_|_|_ | n⟩|_<;>first | exact h.elim | skip
 have r1:RD X.K ads H (.aj n) x:=r1;unfold RD at r1;obtain⟨a,rfl,ea⟩:=r1;simp only[mL]at h
 cases q:M[n]? with
 | none=>rw[q]at h;exact h.elim
 | some o =>
  rw[q]at h
  cases o with
  | lst es =>
   rcases ds with _|⟨d,ds⟩
   ·have e0:=r2.Rx;subst e0;obtain⟨xs,ha,rd⟩:=m.obj n _ a q ea
    cases hy:es[es.length-1]? with
    | none=>simp only[hy]at h;exact h.elim
    | some d =>
     simp only[hy]at h;obtain⟨y,hxy,ry⟩:=zF rd hy;have hl:=rd.len;exact Mg aa s σ H _ _ v us Q I rx rv ⟨a,xs,y,rfl,rfl,ha,by rw[<- hl];exact hxy,cQ.wrote h m q ea ⟨xs,ha⟩ (vG rd) ((Na ha ea).rd _ _ ry)⟩
   ·exact h.elim
  | jw _=>exact h.elim
  | dK _=>exact h.elim
  | dT _=>exact h.elim
  | dF _=>exact h.elim
theorem Ec{K:PySem.W.Frag}{ads:List Addr}{H:Hp}:∀{ds:List D}{ks:List bH}{xs:List V},oA ds=some ks->aP K ads H ds xs->xs=ks.map kV
 | [],_,_,e,r=>by cases e;unfold aP at r;exact r
 | d::ds,_,_,e,r=>by
  unfold aP at r;obtain⟨y,r',rfl,h1,h2⟩:=r;cases d<;>first | cases e | skip
  all_goals
   rename_i b
   have e:(oA ds).map (_::·)=some _:=e
   cases q:oA ds with
   | none=>rw[q]at e;cases e
   | some bs =>
    rw[q]at e;cases e;unfold RD at h1;rw[h1,Ec q h2];rfl
theorem sF{K:PySem.W.Frag}{ads:List Addr}{H:Hp}{w:W}{v:V}{k:List bH}(r:RW K ads H w v)(e:xO w=some k):∃b,v=.ref b/\H b=some (.tup (k.map kV)):=by
 rcases w with⟨_|_|_|_ | ds | _|_⟩|_<;>first | cases e | skip
 have r:RD K ads H (.tup ds) v:=r;unfold RD at r;obtain⟨b,xs,rfl,hb,rd⟩:=r;have e:oA ds=some k:=e;exact⟨b,rfl,by rw[<- Ec e rd];exact hb⟩
theorem Kp{K:PySem.W.Frag}{ads:List Addr}{H:Hp}{M:ak}{w:W}{v:V}{ah:List (List bH×D)}(m:aW K ads H M)(r:RW K ads H w v)(e:Mz M w=some ah):∃a ks,v=.ref a/\Rd H a (.dT ks)/\cB K ads H ah ks:=by
 rcases w with⟨_|_|_|_|_ | n | _⟩|_<;>first | cases e | skip
 have r:RD K ads H (.aj n) v:=r;unfold RD at r;obtain⟨a,rfl,ea⟩:=r;unfold Mz at e;dsimp only at e;split at e
 ·rename_i q
  cases e;obtain⟨ks,h,rk⟩:=m.obj n _ a q ea;exact⟨a,ks,rfl,.inl h,rk⟩
 ·rename_i q
  cases e;obtain⟨o,ks,h,rk⟩:=m.obj n _ a q ea;exact⟨a,ks,rfl,.inr ⟨o,h⟩,rk⟩
 ·cases e
theorem Ed(h:Rd H a (.dT ks))(hb:H b=some (.tup (k.map kV))):jT H a (.ref b) (kn ks k):=.inr ⟨ks,k,b,h,rfl,hb,rfl⟩
theorem Nb{K:PySem.W.Frag}{ads:List Addr}{H:Hp}{a b:Addr}{k:List bH}{ah:List (List bH×D)}{ks:List (List bH×V)}(h:Rd H a (.dT ks))(hb:H b=some (.tup (k.map kV)))(r:cB K ads H ah ks):∃o,jT H a (.ref b) o/\o.isSome=(de ah k).isSome:=by
 refine⟨_,Ed h hb,?_⟩
 cases q:de ah k with
 | none=>rw[r.zB q];rfl
 | some d =>
  obtain⟨v,e,_⟩:=r.find (k:=k) q;rw[e];rfl
theorem oJ:Kb X "list.reverse" (M_ X.K .reverse):=by
 intro aa s σ H x vs v us Q I rx rv h;obtain⟨ads,M,wx,ds,m,r1,r2,h⟩:=h;rcases wx with⟨_|_|_|_|_ | n⟩|_<;>first | exact h.elim | skip
 have r1:RD X.K ads H (.aj n) x:=r1;unfold RD at r1;obtain⟨a,rfl,ea⟩:=r1;simp only[mL]at h
 cases q:M[n]? with
 | none=>rw[q]at h;exact h.elim
 | some o =>
  rw[q]at h
  cases o with
  | lst es =>
   rcases ds with _|⟨d,ds⟩
   ·dsimp only at h;obtain rfl:=r2.Rx;obtain⟨xs,ha,rd⟩:=m.obj n _ a q ea;exact xx aa s σ H _ _ v us Q I rx rv ⟨a,xs,rfl,rfl,ha,cQ.wrote h m q ea ⟨xs,ha⟩ rd.rev g_⟩
   ·exact h.elim
  | jw _=>exact h.elim
  | dK _=>exact h.elim
  | dT _=>exact h.elim
  | dF _=>exact h.elim
def Im:V->List V->Hp->VK->Prop:=λx vs H Q=>∃l xs i y,x=.ref l/\vs=[.int i,y]/\H l=some (.lst xs)/\xs.length<sizeLine/\0<=i/\i<=xs.length/\Q .aR (upd H l (.lst (xs.take i.toNat++y::xs.drop i.toNat)))
theorem BZ:Kb X "list.insert" Im:=by
 intro aa s σ H x vs v us Q I rx rv h;obtain⟨l,xs,i,y,rfl,rfl,hH,hz,h0,h1,q⟩:=h;cases rx;obtain⟨u,w,rfl,ru,xp⟩:=rv.two;obtain⟨t,rfl⟩:=ru;obtain⟨z,aG,n,r,hl,e⟩:=I.qe hH;have hs:sizeLine=16777216:=AY;refine uw F.slot_list_insert ⟨_,e,rfl⟩ F.entry_list_insert (F.args_list_insert_3 _ _ _) (AutoSeq1.list_insert_list_int_val_1 l aG.toArray n i t w ?_ (by rw[cG];omega)) ⟨e,?_⟩
 ·simp only[Builtin.List.listFitsIndex,jN,Bool.not_eq_false];have:(i:Int)<=16777216:=∅;simp;omega
 ·refine⟨.aR,_,I.Bp (its':=aG.take i.toNat++w::aG.drop i.toNat) hH e ?_ ((r.take _).append (.cons xp (r.drop _))) ?_,rfl,q⟩
  ·dsimp only;rw[az ∅];have hk:min i.toNat aG.toArray.size=i.toNat:=by rw[cG];omega
   rw[hk];apply Array.ext';simp only[Array.toList_append,Array.toList_push,Array.toList_extract,List.extract_eq_take_drop,cG,List.drop_zero,Nat.sub_zero];rw[K9 (l:=List.drop i.toNat aG) (by simp)];simp
  ·simp;omega
theorem qN:Kb X "list.insert" (M_ X.K .insert):=by
 intro aa s σ H x vs v us Q I rx rv h;obtain⟨ads,M,wx,ds,m,r1,r2,h⟩:=h;rcases wx with⟨_|_|_|_|_ | n⟩|_<;>first | exact h.elim | skip
 have r1:RD X.K ads H (.aj n) x:=r1;unfold RD at r1;obtain⟨a,rfl,ea⟩:=r1;simp only[mL]at h
 cases q:M[n]? with
 | none=>rw[q]at h;exact h.elim
 | some o =>
  rw[q]at h
  cases o with
  | lst es =>
   rcases ds with _|⟨d,_|⟨d2,_|⟨d3,ds⟩⟩⟩
   ·exact h.elim
   ·rcases d with _|_|_|_|_|_<;>exact h.elim
   ·rcases d with _|_ | i | _|_|_<;>first | exact h.elim | skip
    dsimp only at h;split at h
    ·rename_i hz
     obtain⟨vi,y,rfl,ri,ry⟩:=r2.Xb;unfold RD at ri;subst ri;obtain⟨xs,ha,rd⟩:=m.obj n _ a q ea;refine BZ aa s σ H _ _ v us Q I rx rv ⟨a,xs,i,y,rfl,rfl,ha,by rw[<- rd.len];exact hz.1,hz.2.1,by rw[<- rd.len];exact hz.2.2,cQ.wrote h m q ea ⟨xs,ha⟩ ((rd.take _).app ?_) g_⟩;show aP X.K ads H (d2::es.drop i.toNat) (y::xs.drop i.toNat);unfold aP;exact⟨y,_,rfl,ry,rd.drop _⟩
    ·exact h.elim
   ·rcases d with _|_ | i | _|_|_<;>exact h.elim
  | jw _=>exact h.elim
  | dK _=>exact h.elim
  | dT _=>exact h.elim
  | dF _=>exact h.elim
def hU(o i:W)(d:D)(M:ak):cK Unit :=
 match o with
 | .d (.aj n)=>match M[n]? with
  | some (.lst ds)=>match i with
   | .d (.int k)=>match Dy ds.length k with
    | some j=>.ok () (M.set n (.lst (ds.set j d)))
    | none=>.af
   | _=>.af
  | some (.dK ah)=>match i with
   | .d (.str k)=>if ah.length<sizeLine then .ok () (M.set n (.dK (cR ah (Sum.inr k) d))) else .af
   | .d (.int k)=>if ah.length<sizeLine then .ok () (M.set n (.dK (cR ah (Sum.inl k) d))) else .af
   | _=>.af
  | _=>.af
 | _=>.af
noncomputable def Xc(K:PySem.W.Frag)(ads:List Addr)(H:Hp)(Q:Hp->Prop):cK Unit->Prop
 | .ok _ M=>∀H' aF,aJ ads aF H H'->aW K aF H' M->Q H'
 | _=>False
def Xd(K:PySem.W.Frag):LI:=λo i v H Q=>∃ads M wo wi d,aW K ads H M/\RW K ads H wo o/\RW K ads H wi i/\RD K ads H d v/\Xc K ads H Q (hU wo wi d M)
theorem Nc(hu:X.A.units+1<cLine):GY X (Xd X.K):=by
 intro aa s σ H o i v ov iv u Q I ro ri rv h;obtain⟨ads,M,wo,wi,d,m,r1,r2,r3,h⟩:=h;rcases wo with⟨_|_|_|_|_ | n⟩|_<;>first | exact h.elim | skip
 have r1:RD X.K ads H (.aj n) o:=r1;unfold RD at r1;obtain⟨a,rfl,ea⟩:=r1;simp only[hU]at h
 cases q:M[n]? with
 | none=>rw[q]at h;exact h.elim
 | some ob =>
  rw[q]at h;have u6:a∈ads:=dw ea
  cases ob with
  | lst ds =>
   rcases wi with⟨_|_ | k | _|_|_⟩|_<;>first | exact h.elim | skip
   have ei:=aZ r2;subst ei;dsimp only at h
   cases q2:Dy ds.length k with
   | none=>rw[q2]at h;exact h.elim
   | some j =>
    rw[q2]at h;obtain⟨xs,ha,rd⟩:=m.obj n _ a q ea;refine Dz aa s σ H _ _ v ov iv u Q I ro ri rv ⟨a,xs,k,j,rfl,rfl,ha,by rw[<- rd.len];exact q2,?_⟩;have nf:∀o x,H a≠some (.eQ o x):=λo x z=>by rw[ha]at z;cases z
    have hg:aJ ads ads H (upd H a (.lst (xs.set j v))):=⟨⟨[],by simp⟩,λb h n=>absurd h n,λb x nb h=>by rw[aC (by intro z;subst z;exact nb u6)];exact h,λb xs h=>by
     rw[aC (λz=>by subst z;rw[ha]at h;cases h)];exact h,λb o u h=>by rw[aC (λz=>by subst z;exact nf _ _ h)];exact h⟩
    obtain⟨g',m'⟩:=m.write (o:=.lst (ds.set j d)) (ho:=.lst (xs.set j v)) q ea nf ⟨_,bt,hg.qJ _ _ (rd.setAt j r3)⟩;exact h _ ads hg m'
  | dK ah =>
   obtain⟨ks,ha,rk⟩:=m.obj n _ a q ea;have nf:∀o x,H a≠some (.eQ o x):=λo x z=>by rw[ha]at z;cases z
   have put:∀(k:bH),i=kV k->ah.length<sizeLine->Xc X.K ads H Q (.ok () (M.set n (.dK (cR ah k d))))->wpAny (model X.prog X.w) X.A (setItem ov iv u) (λ_ s'=>∃H',Inv X aa σ H' s'/\Q H') X.xe s:=by
    intro k ek hz h;subst ek;cases ro;refine qD hu I (xo.k (k:=k) ha (by rw[<- rk.len];exact hz)) ri rv λs' I'=>⟨_,I',?_⟩
    have hg:aJ ads ads H (upd H a (.dK (eB ks k v))):=⟨⟨[],by simp⟩,λb h n=>absurd h n,λb x nb h=>by rw[aC (by intro z;subst z;exact nb u6)];exact h,λb xs h=>by
     rw[aC (λz=>by subst z;rw[ha]at h;cases h)];exact h,λb o u h=>by rw[aC (λz=>by subst z;exact nf _ _ h)];exact h⟩
    obtain⟨g',m'⟩:=m.write (o:=.dK (cR ah k d)) (ho:=.dK (eB ks k v)) q ea nf ⟨_,bt,hg.BU _ _ (rk.put r3)⟩;exact h _ ads hg m'
   rcases wi with⟨_|_ | k | k | _|_⟩|_<;>first | exact h.elim | skip
   ·have ei:=aZ r2;subst ei;dsimp only at h;split at h
    ·rename_i hz
     exact put (Sum.inl k) rfl hz h
    ·exact h.elim
   ·have ei:=eZ r2;subst ei;dsimp only at h;split at h
    ·rename_i hz
     exact put (Sum.inr k) rfl hz h
    ·exact h.elim
  | jw _=>exact h.elim
  | dT _=>exact h.elim
  | dF _=>exact h.elim
def Rz(K:PySem.W.Frag):V->V->V->Hp->(Hp->Prop)->Prop:=λo i v H Q=>∃ads M wo wi d,aW K ads H M/\RW K ads H wo o/\RW K ads H wi i/\RD K ads H d v/\Xc K ads H Q (ik wo wi d M)
theorem Io(hu:X.A.units+1<cLine):GY X (Rz X.K):=by
 intro aa s σ H o i v ov iv u Q I ro ri rv h;obtain⟨ads,M,wo,wi,d,m,r1,r2,r3,h⟩:=h;rcases wo with⟨_|_|_|_|_ | n⟩|_<;>first | exact h.elim | skip
 have r1:RD X.K ads H (.aj n) o:=r1;unfold RD at r1;obtain⟨a,rfl,ea⟩:=r1;have u6:a∈ads:=dw ea;unfold ik at h;dsimp only at h;split at h
 ·rename_i ah k q qk
  split at h
  ·rename_i hz
   obtain⟨ks,ha,rk⟩:=m.obj n _ a q ea;have nf:∀o x,H a≠some (.eQ o x):=λo x z=>by rw[ha]at z;cases z
   obtain⟨b,rfl,hb⟩:=sF r2 qk;cases ro;refine qD hu I (xo.t (k:=k) ha hb (by rw[<- rk.len];exact hz)) ri rv λs' I'=>⟨_,I',?_⟩
   have hg:aJ ads ads H (upd H a (.dT (eB ks k v))):=⟨⟨[],by simp⟩,λb h n=>absurd h n,λb x nb h=>by rw[aC (by intro z;subst z;exact nb u6)];exact h,λb xs h=>by
    rw[aC (λz=>by subst z;rw[ha]at h;cases h)];exact h,λb o u h=>by rw[aC (λz=>by subst z;exact nf _ _ h)];exact h⟩
   obtain⟨g',m'⟩:=m.write (o:=.dT (cR ah k d)) (ho:=.dT (eB ks k v)) q ea nf ⟨_,bt,hg.BU _ _ (rk.put r3)⟩;exact h _ ads hg m'
  ·exact h.elim
 ·exact h.elim
end
structure CC where
 N:List Str
 names:List (Str×NameKind)
 fs:List (Str×Nat)
 gs:List (Str×Int)
noncomputable def Py(cc:CC)(x:Str):Bool:=match cc.names.lookup x with
 | some .local=>true
 | some .cell=>true
 | some .free=>true
 | _=>false
noncomputable def glob(cc:CC)(x:Str):Bool:=match cc.names.lookup x with
 | some .globalImplicit=>true
 | _=>false
noncomputable def eh(x:Str):Bool:=!(x==("__debug__" : Str)) && !(x==("__classdict__" : Str)) && !(x==("__name__" : Str))
theorem cf{p:Prop}[d:Decidable p]{f:p->Bool}(h:(if h:p then f h else false)=true):p:=by
 cases d with
 | isTrue q=>exact q
 | isFalse q=>rw[dif_neg q]at h;exact absurd h aT
noncomputable def gL(e:Expr)(f:BoolOp->List Expr->Pos->Bool):Bool:=if h:e.ctorIdx=0 then Expr.BoolOp.elim (motive_1:=λ_=>Bool) e h f else false
theorem fX{P:Expr->Prop}{e:Expr}{f:BoolOp->List Expr->Pos->Bool}(h:gL e f=true)(k:∀a b c,f a b c=true->P (.BoolOp a b c)):P e :=
 Expr.BoolOp.elim (motive_1:=λe=>gL e f=true->P e) e (cf h) (λa b c h=>k a b c h) h
noncomputable def sG(e:Expr)(f:Expr->Operator->Expr->Pos->Bool):Bool:=if h:e.ctorIdx=2 then Expr.BinOp.elim (motive_1:=λ_=>Bool) e h f else false
theorem xS{P:Expr->Prop}{e:Expr}{f:Expr->Operator->Expr->Pos->Bool}(h:sG e f=true)(k:∀a b c d,f a b c d=true->P (.BinOp a b c d)):P e :=
 Expr.BinOp.elim (motive_1:=λe=>sG e f=true->P e) e (cf h) (λa b c d h=>k a b c d h) h
noncomputable def fz(e:Expr)(f:UnaryOp->Expr->Pos->Bool):Bool:=if h:e.ctorIdx=3 then Expr.UnaryOp.elim (motive_1:=λ_=>Bool) e h f else false
theorem fk{P:Expr->Prop}{e:Expr}{f:UnaryOp->Expr->Pos->Bool}(h:fz e f=true)(k:∀a b c,f a b c=true->P (.UnaryOp a b c)):P e :=
 Expr.UnaryOp.elim (motive_1:=λe=>fz e f=true->P e) e (cf h) (λa b c h=>k a b c h) h
noncomputable def sH(e:Expr)(f:Expr->Expr->Expr->Pos->Bool):Bool:=if h:e.ctorIdx=5 then Expr.IfExp.elim (motive_1:=λ_=>Bool) e h f else false
theorem xT{P:Expr->Prop}{e:Expr}{f:Expr->Expr->Expr->Pos->Bool}(h:sH e f=true)(k:∀a b c d,f a b c d=true->P (.IfExp a b c d)):P e :=
 Expr.IfExp.elim (motive_1:=λe=>sH e f=true->P e) e (cf h) (λa b c d h=>k a b c d h) h
noncomputable def sI(e:Expr)(f:List (Option Expr)->List Expr->Pos->Bool):Bool:=if h:e.ctorIdx=6 then Expr.Dict.elim (motive_1:=λ_=>Bool) e h f else false
theorem qO{P:Expr->Prop}{e:Expr}{f:List (Option Expr)->List Expr->Pos->Bool}(h:sI e f=true)(k:∀a b c,f a b c=true->P (.Dict a b c)):P e :=
 Expr.Dict.elim (motive_1:=λe=>sI e f=true->P e) e (cf h) (λa b c h=>k a b c h) h
noncomputable def hV(e:Expr)(f:Expr->List Comprehension->Scope->Pos->Bool):Bool:=if h:e.ctorIdx=8 then Expr.ListComp.elim (motive_1:=λ_=>Bool) e h f else false
theorem jJ{P:Expr->Prop}{e:Expr}{f:Expr->List Comprehension->Scope->Pos->Bool}(h:hV e f=true)(k:∀a b c d,f a b c d=true->P (.ListComp a b c d)):P e :=
 Expr.ListComp.elim (motive_1:=λe=>hV e f=true->P e) e (cf h) (λa b c d h=>k a b c d h) h
noncomputable def fB(e:Expr)(f:Expr->List CmpOp->List Expr->Pos->Bool):Bool:=if h:e.ctorIdx=15 then Expr.Compare.elim (motive_1:=λ_=>Bool) e h f else false
theorem fm{P:Expr->Prop}{e:Expr}{f:Expr->List CmpOp->List Expr->Pos->Bool}(h:fB e f=true)(k:∀a b c d,f a b c d=true->P (.Compare a b c d)):P e :=
 Expr.Compare.elim (motive_1:=λe=>fB e f=true->P e) e (cf h) (λa b c d h=>k a b c d h) h
noncomputable def e6(e:Expr)(f:Expr->List Expr->List Keyword->Pos->Bool):Bool:=if h:e.ctorIdx=16 then Expr.Call.elim (motive_1:=λ_=>Bool) e h f else false
theorem dH{P:Expr->Prop}{e:Expr}{f:Expr->List Expr->List Keyword->Pos->Bool}(h:e6 e f=true)(k:∀a b c d,f a b c d=true->P (.Call a b c d)):P e :=
 Expr.Call.elim (motive_1:=λe=>e6 e f=true->P e) e (cf h) (λa b c d h=>k a b c d h) h
noncomputable def cZ(e:Expr)(f:Const->Nat->Pos->Bool):Bool:=if h:e.ctorIdx=19 then Expr.Constant.elim (motive_1:=λ_=>Bool) e h f else false
theorem cI{P:Expr->Prop}{e:Expr}{f:Const->Nat->Pos->Bool}(h:cZ e f=true)(k:∀a b c,f a b c=true->P (.Constant a b c)):P e :=
 Expr.Constant.elim (motive_1:=λe=>cZ e f=true->P e) e (cf h) (λa b c h=>k a b c h) h
noncomputable def fY(e:Expr)(f:Expr->Str->Pos->Bool):Bool:=if h:e.ctorIdx=20 then Expr.Attribute.elim (motive_1:=λ_=>Bool) e h f else false
theorem iS{P:Expr->Prop}{e:Expr}{f:Expr->Str->Pos->Bool}(h:fY e f=true)(k:∀a b c,f a b c=true->P (.Attribute a b c)):P e :=
 Expr.Attribute.elim (motive_1:=λe=>fY e f=true->P e) e (cf h) (λa b c h=>k a b c h) h
noncomputable def cV(e:Expr)(f:Expr->Expr->Pos->Bool):Bool:=if h:e.ctorIdx=21 then Expr.Subscript.elim (motive_1:=λ_=>Bool) e h f else false
theorem cL{P:Expr->Prop}{e:Expr}{f:Expr->Expr->Pos->Bool}(h:cV e f=true)(k:∀a b c,f a b c=true->P (.Subscript a b c)):P e :=
 Expr.Subscript.elim (motive_1:=λe=>cV e f=true->P e) e (cf h) (λa b c h=>k a b c h) h
noncomputable def d9(e:Expr)(f:Str->Pos->Bool):Bool:=if h:e.ctorIdx=23 then Expr.Name.elim (motive_1:=λ_=>Bool) e h f else false
theorem bX{P:Expr->Prop}{e:Expr}{f:Str->Pos->Bool}(h:d9 e f=true)(k:∀a b,f a b=true->P (.Name a b)):P e :=
 Expr.Name.elim (motive_1:=λe=>d9 e f=true->P e) e (cf h) (λa b h=>k a b h) h
noncomputable def xU(e:Expr)(f:List Expr->Pos->Bool):Bool:=if h:e.ctorIdx=24 then Expr.List.elim (motive_1:=λ_=>Bool) e h f else false
theorem B0{P:Expr->Prop}{e:Expr}{f:List Expr->Pos->Bool}(h:xU e f=true)(k:∀a b,f a b=true->P (.List a b)):P e :=
 Expr.List.elim (motive_1:=λe=>xU e f=true->P e) e (cf h) (λa b h=>k a b h) h
noncomputable def mU(e:Expr)(f:List Expr->Nat->Pos->Bool):Bool:=if h:e.ctorIdx=25 then Expr.Tuple.elim (motive_1:=λ_=>Bool) e h f else false
theorem j6{P:Expr->Prop}{e:Expr}{f:List Expr->Nat->Pos->Bool}(h:mU e f=true)(k:∀a b c,f a b c=true->P (.Tuple a b c)):P e :=
 Expr.Tuple.elim (motive_1:=λe=>mU e f=true->P e) e (cf h) (λa b c h=>k a b c h) h
noncomputable def mV(e:Expr)(f:Option Expr->Option Expr->Option Expr->Pos->Bool):Bool:=if h:e.ctorIdx=26 then Expr.Slice.elim (motive_1:=λ_=>Bool) e h f else false
theorem oK{P:Expr->Prop}{e:Expr}{f:Option Expr->Option Expr->Option Expr->Pos->Bool}(h:mV e f=true)(k:∀a b c d,f a b c d=true->P (.Slice a b c d)):P e :=
 Expr.Slice.elim (motive_1:=λe=>mV e f=true->P e) e (cf h) (λa b c d h=>k a b c d h) h
noncomputable def kG(e:Stmt)(f:Option Expr->Pos->Bool):Bool:=if h:e.ctorIdx=3 then Stmt.Return.elim (motive_2:=λ_=>Bool) e h f else false
theorem mw{P:Stmt->Prop}{e:Stmt}{f:Option Expr->Pos->Bool}(h:kG e f=true)(k:∀a b,f a b=true->P (.Return a b)):P e :=
 Stmt.Return.elim (motive_2:=λe=>kG e f=true->P e) e (cf h) (λa b h=>k a b h) h
noncomputable def gM(e:Stmt)(f:List Expr->Expr->Pos->Bool):Bool:=if h:e.ctorIdx=5 then Stmt.Assign.elim (motive_2:=λ_=>Bool) e h f else false
theorem fZ{P:Stmt->Prop}{e:Stmt}{f:List Expr->Expr->Pos->Bool}(h:gM e f=true)(k:∀a b c,f a b c=true->P (.Assign a b c)):P e :=
 Stmt.Assign.elim (motive_2:=λe=>gM e f=true->P e) e (cf h) (λa b c h=>k a b c h) h
noncomputable def Ee(e:Stmt)(f:Expr->Expr->List Stmt->List Stmt->Pos->Bool):Bool:=if h:e.ctorIdx=9 then Stmt.For.elim (motive_2:=λ_=>Bool) e h f else false
theorem Ef{P:Stmt->Prop}{e:Stmt}{f:Expr->Expr->List Stmt->List Stmt->Pos->Bool}(h:Ee e f=true)(k:∀a b c d e,f a b c d e=true->P (.For a b c d e)):P e :=
 Stmt.For.elim (motive_2:=λe=>Ee e f=true->P e) e (cf h) (λa b c d e h=>k a b c d e h) h
noncomputable def sJ(e:Stmt)(f:Expr->List Stmt->List Stmt->Pos->Bool):Bool:=if h:e.ctorIdx=11 then Stmt.While.elim (motive_2:=λ_=>Bool) e h f else false
theorem xV{P:Stmt->Prop}{e:Stmt}{f:Expr->List Stmt->List Stmt->Pos->Bool}(h:sJ e f=true)(k:∀a b c d,f a b c d=true->P (.While a b c d)):P e :=
 Stmt.While.elim (motive_2:=λe=>sJ e f=true->P e) e (cf h) (λa b c d h=>k a b c d h) h
noncomputable def Nd(e:Stmt)(f:Expr->List Stmt->List Stmt->Pos->Bool):Bool:=if h:e.ctorIdx=12 then Stmt.If.elim (motive_2:=λ_=>Bool) e h f else false
theorem Iq{P:Stmt->Prop}{e:Stmt}{f:Expr->List Stmt->List Stmt->Pos->Bool}(h:Nd e f=true)(k:∀a b c d,f a b c d=true->P (.If a b c d)):P e :=
 Stmt.If.elim (motive_2:=λe=>Nd e f=true->P e) e (cf h) (λa b c d h=>k a b c d h) h
noncomputable def xW(e:Stmt)(f:Expr->Pos->Bool):Bool:=if h:e.ctorIdx=24 then Stmt.Expr.elim (motive_2:=λ_=>Bool) e h f else false
theorem B1{P:Stmt->Prop}{e:Stmt}{f:Expr->Pos->Bool}(h:xW e f=true)(k:∀a b,f a b=true->P (.Expr a b)):P e :=
 Stmt.Expr.elim (motive_2:=λe=>xW e f=true->P e) e (cf h) (λa b h=>k a b h) h
noncomputable def xX(e:Stmt)(f:Pos->Bool):Bool:=if h:e.ctorIdx=25 then Stmt.Pass.elim (motive_2:=λ_=>Bool) e h f else false
theorem B2{P:Stmt->Prop}{e:Stmt}{f:Pos->Bool}(h:xX e f=true)(k:∀a,f a=true->P (.Pass a)):P e :=
 Stmt.Pass.elim (motive_2:=λe=>xX e f=true->P e) e (cf h) (λa h=>k a h) h
noncomputable def sL(e:Stmt)(f:Pos->Bool):Bool:=if h:e.ctorIdx=26 then Stmt.Break.elim (motive_2:=λ_=>Bool) e h f else false
theorem xY{P:Stmt->Prop}{e:Stmt}{f:Pos->Bool}(h:sL e f=true)(k:∀a,f a=true->P (.Break a)):P e :=
 Stmt.Break.elim (motive_2:=λe=>sL e f=true->P e) e (cf h) (λa h=>k a h) h
noncomputable def j7(e:Stmt)(f:Pos->Bool):Bool:=if h:e.ctorIdx=27 then Stmt.Continue.elim (motive_2:=λ_=>Bool) e h f else false
theorem qj{P:Stmt->Prop}{e:Stmt}{f:Pos->Bool}(h:j7 e f=true)(k:∀a,f a=true->P (.Continue a)):P e :=
 Stmt.Continue.elim (motive_2:=λe=>j7 e f=true->P e) e (cf h) (λa h=>k a h) h
def isInt(k:Int):Const->Bool
 | .int j=>k==j
 | _=>false
def Ir:Const->Bool
 | .none=>true
 | _=>false
def isNone(e:Expr):Bool:=cZ e λc _ _=>Ir c
def Iu:Const->Bool
 | .bool true=>true
 | _=>false
def sM(e:Expr):Bool:=cZ e λc _ _=>Iu c
def zG:BoolOp->Bool
 | .And=>true
 | .Or=>false
def Eg:UnaryOp->Bool
 | .USub=>true
 | _=>false
def Kq:UnaryOp->Bool
 | .Not=>true
 | _=>false
def fv(e:Expr):Bool:=!Nat.beq e.ctorIdx 26
noncomputable def jb(e:Expr):Bool:=[23,16,21,24,25,19,2].contains e.ctorIdx
def iT(e:Expr):Bool:=!(e6 e λf as ks _=>Nat.beq f.ctorIdx 23&&as.isEmpty&&ks.isEmpty)
def aX(e:Expr):Bool:=!Nat.beq e.ctorIdx 22
noncomputable def Eh:Bi->Str
 | .len => "len" | .max2 => "max" | .min2 => "min" | .vt => "int" | .list1 => "list" | .tuple1 => "tuple" | .ou => "repr" | .xJ _ => "isinstance" | .all1 => "all" | .HK => "any" | .qK => "dict" | .min1 => "min" | .HL => "max" | .ox => "sorted"
noncomputable def Ei:Me->Str
 | .append => "append" | .insert => "insert" | .reverse => "reverse" | .extend => "extend" | .remove => "remove" | .clear => "clear" | .pop => "pop"
noncomputable def cM:List Str:=["len","max","min","int","list","tuple","repr","isinstance","all","any","bool","str","dict","range","enumerate","zip","sorted","set"]
noncomputable def RA:Me->Bool
 | .append=>true | .insert=>true | .reverse=>true | .extend=>true | .remove=>false | .clear=>false | .pop=>true
noncomputable def Nf:Bi->Bool
 | .all1=>false
 | .HK=>false
 | .min1=>false
 | .HL=>false
 | .xJ _=>false
 | _=>true
def isStr(k:Str):Const->Bool
 | .str s=>k==s
 | _=>false
def kH:List Str->List (Option Expr)->Bool
 | [],[]=>true
 | k::ks,some e::es=>(cZ e λc _ _=>isStr k c)&&kH ks es
 | _,_=>false
noncomputable def fH(sc:Scope):List Str:=(sc.names.filter λy=>y.2 == .local||y.2 == .free||y.2 == .cell).map (·.1)
def oM(cc:CC)(sc:Scope):List (Option Nat):=(fH sc).map λx=>if sc.names.lookup x==some .free then cc.N.findIdx? (· == x) else none
def sN(cc:CC)(sc:Scope):CC:=⟨fH sc,sc.names,cc.fs,cc.gs⟩
def vH(cc:CC)(sc:Scope):Bool:=sc.kind == .function&&sc.names.all (λy=>y.2 != .cell||sc.names.lookup y.1==some .cell)&&sc.names.all (λy=>y.2 != .local||sc.names.lookup y.1==some .local)&&decide (fH sc).Nodup &&
 sc.names.all (λy=>y.2 != .free||(sc.names.lookup y.1==some .free&&(cc.names.lookup y.1==some .cell||cc.names.lookup y.1==some .free)))
def kI(cc:CC):List Nat->List Expr->Bool
 | [],[]=>true
 | i::tg,e::es=>(d9 e λx _=>cc.N[i]? == some x&&(cc.names.lookup x==some .local||cc.names.lookup x==some .cell))&&kI cc tg es
 | _,_=>false
def jK(cc:CC)(tg:List Nat)(e:Expr):Bool:=match tg with
 | []=>false
 | [i]=>kI cc [i] [e]
 | i::j::r=>mU e λes _ _=>kI cc (i::j::r) es&&decide ((i::j::r).length<20)
def jc(e:Expr):Bool:=Nat.beq e.ctorIdx 25
def eE(e:Expr):Bool:=!Nat.beq e.ctorIdx 7
noncomputable def Xe:D->Const->Bool
 | .int i,.int j=>i==j
 | .bl i,.bool j=>i==j
 | .str i,.str j=>i==j
 | .aR,.none=>true
 | _,_=>false
noncomputable def Ng:D->Const->Bool
 | .int i,.int j=>i == -j
 | _,_=>false
def Ej(d:D)(e:Expr):Bool:=(cZ e λc _ _=>Xe d c)||fz e λop x _=>Eg op&&cZ x λc _ _=>Ng d c
def Ek:Bi->Option Ty
 | .xJ t=>some t
 | _=>none
theorem xZ(h:Ek b=some t):b=.xJ t:=by
 cases b<;>first | (cases h;rfl) | cases h
mutual
noncomputable def bZ(cc:CC):C->Expr->Bool
 | .ae i,e=>d9 e λx _=>cc.N[i]? == some x&&Py cc x&&eh x
 | .ai d,e=>Ej d e
 | .bin op a b,e=>sG e λl o r _=>o==H_ op&&bZ cc a l&&bZ cc b r
 | .cmp op a b,e=>fB e λl os rs _=>match os,rs with
  | [o],[r]=>o==MM op && !behindInMarks o r&&(if op=.uc\/op=.fj then isNone r else true)&&bZ cc a l&&bZ cc b r
  | _,_=>false
 | .chain o1 o2 a b c,e=>fB e λl os rs _=>match os,rs with
  | [p,q],[m,r]=>p==MM o1&&q==MM o2 && !lastMarks [p,q] [m,r] && !(decide (o1=.uc)||decide (o1=.fj)||decide (o2=.uc)||decide (o2=.fj))&&bZ cc a l&&bZ cc b m&&bZ cc c r
  | _,_=>false
 | .d7 cs,e=>gL e λop es _=>zG op&&c_ cc cs es && !es.isEmpty
 | .iy cs,e=>gL e λop es _=>!zG op&&c_ cc cs es && !es.isEmpty
 | .neg a,e=>fz e λop x _=>Kq op&&bZ cc a x
 | .ite t a b,e=>sH e λc x y _=>kJ cc t c&&bZ cc a x&&bZ cc b y
 | .tup cs,e=>mU e λes _ _=>c_ cc cs es
 | .lst cs,e=>xU e λes _=>c_ cc cs es
 | .sub a b,e=>cV e λe i _=>fv i&&bZ cc a e&&bZ cc b i
 | .pP a lo hi,e=>cV e λe i _=>mV i λl h st _=>st.isNone&&bZ cc a e&&Nh cc lo l&&Nh cc hi h
 | .Cy a k,e=>cV e λe i _=>mV i λl h st _=>match l,h,st with
  | none,none,some ke=>((cZ ke λc _ _=>isInt k c)||fz ke λop x _=>Eg op&&cZ x λc _ _=>isInt (-k) c)&&bZ cc a e
  | _,_,_=>false
 | .call f cs,e=>e6 e λfe args gz _=>d9 fe λx _=>match args,gz with
  | e::es,[]=>cc.fs[f]? == some (x,cs.length)&&glob cc x&&eh x&&c_ cc cs (e::es)
  | _,_=>false
 | .bi b cs,e=>e6 e λfe args gz _=>d9 fe λx _=>gz.isEmpty&&x==Eh b&&glob cc x&&match Ek b,args with
  | some t,[e,f]=>(d9 f λy _=>y==Str.ofString (vF t)&&glob cc y&&decide (t≠.none))&&c_ cc cs [e]
  | none,e::es=>Nf b&&c_ cc cs (e::es)
  | _,_=>false
 | .me m o cs,e=>e6 e λfe es gz cp=>fY fe λe n ap=>gz.isEmpty&&n==Ei m&&RA m&&ap.endLine==cp.line&&iT e&&bZ cc o e&&c_ cc cs es&&decide (es.length<20)
 | .u5 ks cs,e=>sI e λkeys vs _=>(kH ks keys&&decide ks.Nodup && !keys.isEmpty&&decide (keys.length<=15)&&c_ cc cs vs&&decide (ks.length=cs.length))||(ks.isEmpty&&cs.isEmpty&&keys.isEmpty&&vs.isEmpty)
 | .lx tp cs,e=>false
 | .HN x v,e=>d9 e λy _=>y==x&&glob cc x&&eh x&&cc.gs.lookup x==some v
 | .g9 ng a,e=>fB e λl os rs _=>match os,rs with
  | [o],[r]=>o==(if ng=true then CmpOp.IsNot else CmpOp.Is) && !behindInMarks o r&&sM r&&bZ cc a l
  | _,_=>false
 | .lI,e=>sI e λkeys vs _=>keys.isEmpty&&vs.isEmpty
 | .jY a b,e=>cV e λe i _=>fv i&&bZ cc a e&&bZ cc b i
 | .gJ ng a b,e=>fB e λl os rs _=>match os,rs with
  | [o],[r]=>o==(if ng=true then CmpOp.NotIn else CmpOp.In) && !behindInMarks o r&&bZ cc a l&&bZ cc b r
  | _,_=>false
 | .sset a,e=>e6 e λfe args gz _=>d9 fe λx _=>match args,gz with
  | [i],[]=>e6 i λf2 zH Iv _=>d9 f2 λy _=>match zH,Iv with
   | [b],[]=>x == "sorted" && y == "set" && glob cc x&&glob cc y&&aX b&&bZ cc a b
   | _,_=>false
  | _,_=>false
 | .comp k ee tg cond elt dB,e=>hV e λel gens sc _=>match gens with
  | [⟨t,aQ,ifs,as⟩]=>as==0&&vH cc sc&&decide (dB=oM cc sc)&&sO cc k ee t aQ&&jK (sN cc sc) tg t&&Iw (sN cc sc) cond ifs&&bZ (sN cc sc) elt el
  | _=>false
noncomputable def Iw(cc:CC):Option fL->List Expr->Bool
 | none,[]=>true
 | some t,[e]=>kJ cc t e
 | _,_=>false
noncomputable def sO(cc:CC):SK->List C->Expr->Expr->Bool
 | .seq,[c],_,e=>eE e&&bZ cc c e
 | .eK,[c],_,e=>e6 e λfe args gz _=>d9 fe λx _=>match args,gz with
  | [a],[]=>x == "range" && glob cc x&&aX a&&bZ cc c a
  | _,_=>false
 | .qf,[c,d],_,e=>e6 e λfe args gz _=>d9 fe λx _=>match args,gz with
  | [a,b],[]=>x == "range" && glob cc x&&aX a&&aX b&&bZ cc c a&&bZ cc d b
  | _,_=>false
 | .enum,[c],t,e=>e6 e λfe args gz _=>d9 fe λx _=>match args,gz with
  | [a],[]=>x == "enumerate" && jc t&&glob cc x&&aX a&&bZ cc c a
  | _,_=>false
 | .vals,[c],_,e=>e6 e λfe args gz cp=>fY fe λe n ap=>match args,gz with
  | [],[]=>n == "values" && ap.endLine==cp.line&&iT e&&bZ cc c e
  | _,_=>false
 | _,_,_,_=>false
noncomputable def kJ(cc:CC):fL->Expr->Bool
 | .d7 ts,e=>gL e λop es _=>zG op&&oN cc ts es && !es.isEmpty
 | .iy ts,e=>gL e λop es _=>!zG op&&oN cc ts es && !es.isEmpty
 | .neg a,e=>fz e λop x _=>Kq op&&kJ cc a x
 | .val (.cmp op a b),e=>bZ cc (.cmp op a b) e
 | .val (.chain o1 o2 a b c),e=>bZ cc (.chain o1 o2 a b c) e
 | .val (.g9 ng a),e=>bZ cc (.g9 ng a) e
 | .val (.gJ ng a b),e=>bZ cc (.gJ ng a b) e
 | .val c,e=>jb e&&bZ cc c e
noncomputable def oN(cc:CC):List fL->List Expr->Bool
 | [],[]=>true
 | c::cs,e::es=>kJ cc c e&&oN cc cs es
 | _,_=>false
noncomputable def c_(cc:CC):List C->List Expr->Bool
 | [],[]=>true
 | c::cs,e::es=>aX e&&bZ cc c e&&c_ cc cs es
 | _,_=>false
noncomputable def Nh(cc:CC):Option C->Option Expr->Bool
 | none,none=>true
 | some c,some e=>bZ cc c e
 | _,_=>false
end
noncomputable def Ni(X:Cx)(x:Str):NameKind->Prop
 | .local=>X.env.kindOf x=some .local
 | .cell=>X.env.kindOf x=some .cell
 | .free=>X.env.kindOf x=some .cell\/X.env.kindOf x=some .free
 | .globalImplicit=>X.env.kindOf x=some .globalImplicit
 | _=>True
def Iy(K:PySem.W.Frag)(n:Nat)(F:List D->ak->cK W):Sp:=λvs H Q _=>∃ads M ds,aW K ads H M/\aP K ads H ds vs/\ds.length=n/\cQ K ads H Q (F ds M)
structure Good (kk:Nat) (X:Cx) (cc:CC) (G:dN):Prop where
 calm:X.calm=true
 room:iK kk X.A
 N:X.N=cc.N
 nd:cc.N.Nodup
 kinds:∀x k,cc.names.lookup x=some k->Ni X x k
 fnc:∀x,cc.names.lookup x=some .cell->X.fn x=true
 blt:∀b∈cM,X.mg b=none
 Y0:∀(x:Str)(v:Int),cc.gs.lookup x=some v->∃t,X.mg x=some (.int v t)
 fns:∀(i:Nat)(x:Str)(n:Nat),cc.fs[i]?=some (x,n)->∃f fd ps,iM X.prog X.w X.K X.mg X.base Bt kk f fd ps (Iy X.K n (G i))/\X.mg x=some (.ref f)/\PySem.W.keepIn X.K (.ref f)=true/\Binds X.K fd ps []
section
variable {kk:Nat} {X:Cx} {cc:CC} {G:dN}
theorem Good.Py(g:Good kk X cc G){x:Str}(h:Py cc x=true):Ud X.env.scope x:=by
 unfold Ev.Py at h;split at h
 ·rename_i q;exact .inl (g.kinds x _ q)
 ·rename_i q;exact .inr (.inl (g.kinds x _ q))
 ·rename_i q
  rcases g.kinds x _ q with z | z
  ·exact .inr (.inl z)
  ·exact .inr (.inr z)
 ·cases h
theorem Good.gl(g:Good kk X cc G){x:Str}(h:glob cc x=true):Gl X x:=by
 unfold glob at h;split at h
 ·rename_i q;exact g.kinds x _ q
 ·cases h
theorem lT{x:Str}(h:eh x=true):(x==("__debug__" : Str))=false/\(x==("__classdict__" : Str))=false/\x≠("__name__" : Str):=by
 unfold eh at h;simp only[aU,jN]at h;exact⟨h.1.1,h.1.2,λz=>by rw[z]at h;simp at h⟩
theorem eV(h:PE X e t)(f:∀σ H Q,u σ H Q->t σ H Q):PE X e u:=λaa s σ H Q I q=>h aa s σ H Q I (f σ H Q q)
theorem Gj(h:PT X e t)(f:∀σ H Q,u σ H Q->t σ H Q):PT X e u:=λaa s σ H Q I q=>h aa s σ H Q I (f σ H Q q)
theorem UH(h:PW X e t)(f:∀σ H Q,u σ H Q->t σ H Q):PW X e u:=λwh aa s σ H Q I q=>h wh aa s σ H Q I (f σ H Q q)
theorem UI(h:PA X e t)(f:∀σ H Q,u σ H Q->t σ H Q):PA X e u:=λp aa s σ H Q I q=>h p aa s σ H Q I (f σ H Q q)
theorem bL(h:aX e=true)(es:List Expr)(env:Env):starEach (e::es) env=(false,eval e env)::starEach es env:=by
 cases e<;>first | rfl | exact absurd (show false=true from h) aT
theorem RB(g:Good kk X cc G)(h:bZ cc (.ae i) e=true):PE X e (tE X.K (ev G (.ae i))):=by
 refine bX (P:=λe=>PE X e _) h λx pos h=>?_;have h:(cc.N[i]? == some x&&Py cc x&&eh x)=true:=h;simp only[aU,jP]at h;obtain⟨⟨h1,h2⟩,h3⟩:=h;obtain⟨d1,d2,_⟩:=lT h3;refine eV (C3 (i:=i) (by rw[g.N];exact h1) (g.Py h2) d1 d2) λσ H Q q=>?_;obtain⟨ads,M,ρ,s,q⟩:=q;simp only[DY]at q;split at q
 ·rename_i d e
  obtain⟨v,W9,r⟩:=s.en i d e;exact⟨v,W9,q.plain s.mem r⟩
 ·exact q.elim
theorem vI(hd:∀ads H,RD X.K ads H d v)(σ:L2.St)(H:Hp)(Q:VK)(h:tE X.K (ev G (.ai d)) σ H Q):tC v σ H Q:=by
 obtain⟨ads,M,ρ,s,q⟩:=h;exact cQ.plain q s.mem (hd _ _)
theorem RC(h:bZ cc (.ai d) e=true):PE X e (tE X.K (ev G (.ai d))):=by
 replace h:Ej d e=true:=h
 rcases(AU _ _).mp h with h | h
 case inr =>
  refine fk (P:=λe=>PE X e _) h λop x pos h=>?_
  replace h:=(aU _ _).mp h
  have h0:=h.1
  replace h:=h.2
  cases op<;>first | exact absurd (show false=true from h0) aT | skip
  refine cI (P:=λx=>PE X (.UnaryOp .USub x pos) _) h λc j p h=>?_;clear h0;rcases d with _|_ | i | _|_|_|_<;>first | exact absurd (show false=true from h) aT | skip
  rcases c with _|_ | k | _|_|_|_|_<;>first | exact absurd (show false=true from h) aT | skip
  have h:i=-k:=eq_of_beq h;subst h;exact eV (J8 Df rP) λσ H Q q=>⟨k,rfl,vI (λ_ _=>dj _) σ H Q q⟩
 refine cI (P:=λe=>PE X e _) h λc j pos h=>?_
 cases d with
 | int i =>
  cases c<;>first | exact absurd (show false=true from h) aT | skip
  have h:=eq_of_beq (show(i==_)=true from h);subst h;exact eV rP (vI λ_ _=>dj _)
 | bl i =>
  cases c<;>first | exact absurd (show false=true from h) aT | skip
  have h:=eq_of_beq (show(i==_)=true from h);subst h;exact eV J3 (vI λ_ _=>jH _)
 | str i =>
  cases c<;>first | exact absurd (show false=true from h) aT | skip
  have h:=eq_of_beq (show(i==_)=true from h);subst h;exact eV C4 (vI λ_ _=>xQ _)
 | aR =>
  cases c<;>first | exact absurd (show false=true from h) aT | skip
  exact eV Lx (vI λ_ _=>g_)
 | tup _=>cases h
 | aj _=>cases h
 | ls _=>cases h
theorem RE(vJ:∀e,bZ cc a e=true->PE X e (tE X.K (ev G a)))(Gk:∀e,bZ cc b e=true->PE X e (tE X.K (ev G b)))(h:bZ cc (.bin op a b) e=true):PE X e (tE X.K (ev G (.bin op a b))):=by
 refine xS (P:=λe=>PE X e _) h λl o r pos h=>?_;have h:(o==H_ op&&bZ cc a l&&bZ cc b r)=true:=h;simp only[aU,jP]at h;obtain⟨⟨rfl,h1⟩,h2⟩:=h;refine eV (QB (ML op) (vJ l h1) (Gk r h2)) λσ H Q q=>?_;exact two (λm r1 r2 h=>⟨_,_,_,_,m,r1,r2,h⟩) q
theorem x8{K:PySem.W.Frag}{ads:List Addr}{H:Hp}{Q:VK}{o:cK Bool}(h:cQ K ads H Q (o.bind λr M=>.ok (.d (.bl r)) M)):Ib K ads H Q o:=by
 cases o with
 | ok b M=>exact λH' aF g m=>h (.bl b) H' aF g m (show RD K aF H' (.bl b) _ from jH _)
 | err _ _=>exact h
 | af=>exact h
theorem El(hn:isNone e=true)(hb:bZ cc b e=true):b=.ai .aR:=by
 revert hb;refine cI (P:=λe=>bZ cc b e=true->b=.ai .aR) hn λc j pos hn hb=>?_;cases c<;>first | cases hn | skip
 cases b<;>first | exact absurd (show false=true from hb) aT | skip
 rename_i d
 cases d<;>first | rfl | exact absurd (show false=true from hb) aT
theorem Kr(g:Good kk X cc G)(vJ:∀e,bZ cc a e=true->PE X e (tE X.K (ev G a)))(Gk:∀e,bZ cc b e=true->PE X e (tE X.K (ev G b)))(h:bZ cc (.cmp op a b) e=true):PE X e (tE X.K (ev G (.cmp op a b)))/\PT X e (iJ (tE X.K (ev G (.cmp op a b)))):=by
 refine fm (P:=λe=>PE X e (tE X.K (ev G (.cmp op a b)))/\PT X e (iJ (tE X.K (ev G (.cmp op a b))))) h λl ops rs pos h=>?_;rcases ops with _|⟨o,_|⟨o2,ops⟩⟩<;>rcases rs with _|⟨r,_|⟨r2,rs⟩⟩<;>first | exact absurd (show false=true from h) aT | skip
 have h:(o==MM op && !behindInMarks o r&&(if op=.uc\/op=.fj then isNone r else true)&&bZ cc a l&&bZ cc b r)=true:=h;simp only[aU,jP,jN]at h;obtain⟨⟨⟨⟨rfl,hm⟩,hn⟩,h1⟩,h2⟩:=h;have MX:=g.room.un
 have i_:∀σ H Q,tE X.K (ev G (.cmp op a b)) σ H Q->Ge (Ic X.K op) (tE X.K (ev G a)) (tE X.K (ev G b)) σ H Q:=by
  intro σ H Q q;by_cases Y1:op=.uc\/op=.fj
  ·rw[aw Y1]at hn;have eb:=El hn h2;subst eb;obtain⟨ads,M,ρ,s,q⟩:=q;refine d4 s q λw M1 v H1 aq s1 mr q1=>⟨aq,M1,ρ,s1,?_⟩;intro vy H2 bI g2 m2 ry;have ey:=oH ry;refine⟨bI,M1,w,.d .aR,m2,g2.rw mr,(show RD X.K bI H2 .aR vy by rw[ey];exact g_),λ_=>ey,?_⟩;have q1:cQ X.K aq H1 Q ((bh op w (.d .aR) M1).bind λr M=>.ok (.d (.bl r)) M):=q1;exact x8 (q1.shift g2 s1.mem m2)
  ·exact two (λm r1 r2 h=>⟨_,_,_,_,m,r1,r2,λz=>absurd z Y1,x8 h⟩) q
 exact⟨eV (mP (lS ∅ op) (vJ l h1) (Gk r h2) hm) i_,Gj (mQ (lS ∅ op) (vJ l h1) (Gk r h2) hm) λσ H Q q=>i_ σ H _ q⟩
theorem RF(vJ:∀e,bZ cc a e=true->PE X e (tE X.K (ev G a)))(h:bZ cc (.neg a) e=true):PE X e (tE X.K (ev G (.neg a))):=by
 refine fk (P:=λe=>PE X e _) h λop x pos h=>?_;obtain⟨h0,h⟩:=(aU _ _).mp h;cases op<;>first | exact absurd (show false=true from h0) aT | skip
 refine eV (LD (vJ x h)) λσ H Q q=>?_;obtain⟨ads,M,ρ,s,q⟩:=q;refine d4 s q λw M1 v H1 aq s1 mr q1=>?_;rcases w with⟨_ | b | _|_|_|_⟩|_<;>first | exact q1.elim | skip
 exact⟨b,jG mr,cQ.plain q1 s1.mem (jH _)⟩
theorem RG(ih:∀es,c_ cc cs es=true->PA X es (HZ X.K (bW G cs)))(h:bZ cc (.tup cs) e=true):PE X e (tE X.K (ev G (.tup cs))):=by
 refine j6 (P:=λe=>PE X e _) h λes k pos h=>?_;refine eV (L1 (ih es h)) λσ H Q q=>?_;obtain⟨ads,M,ρ,s,q⟩:=q;refine⟨ads,M,ρ,s,?_⟩;simp only[D1]at q
 cases hq:bW G cs ρ M with
 | ok ds M1 =>
  rw[hq]at q;have q:cQ X.K ads H Q (if ds.length<=sizeLine then .ok (.d (.tup ds)) M1 else .af):=q;intro vs H1 aq g1 m1 r1;split at q
  ·rename_i hz
   exact⟨by rw[<- r1.len];exact hz,λp hp=>(q.shift g1 s.mem m1).tuple m1 r1 hp⟩
  ·exact q.elim
 | err _ _=>rw[hq]at q;exact q
 | af=>rw[hq]at q;exact q
theorem RH(ih:∀es,c_ cc cs es=true->PA X es (HZ X.K (bW G cs)))(h:bZ cc (.lst cs) e=true):PE X e (tE X.K (ev G (.lst cs))):=by
 refine B0 (P:=λe=>PE X e _) h λes pos h=>?_;refine eV (L3 (ih es h)) λσ H Q q=>?_;obtain⟨ads,M,ρ,s,q⟩:=q;refine⟨ads,M,ρ,s,?_⟩;simp only[D2]at q
 cases hq:bW G cs ρ M with
 | ok ds M1 =>
  rw[hq]at q;have q:cQ X.K ads H Q (if ds.length<=sizeLine then .ok (.lv ds) M1 else .af):=q;intro vs H1 aq g1 m1 r1;split at q
  ·rename_i hz
   exact⟨by rw[<- r1.len];exact hz,λp hp=>(q.shift g1 s.mem m1).list m1 r1 hp⟩
  ·exact q.elim
 | err _ _=>rw[hq]at q;exact q
 | af=>rw[hq]at q;exact q
theorem sP{K:PySem.W.Frag}{ads aF:List Addr}{H H':Hp}{w:W}{v:V}{M1:ak}{d:D}{M2:ak}(m:aW K ads H M)(g:aJ ads aF H H')(m1:aW K aF H' M1)(r:MJ K aF H H' w v)(e:own w M1=.ok d M2):∃bI,aJ ads bI H H'/\aW K bI H' M2/\RD K bI H' d v:=by
 cases w with
 | d x=>cases e;exact⟨aF,g,m1,r⟩
 | lv ds =>
  cases e;obtain⟨a,xs,rfl,h0,h1,n,r⟩:=r;refine⟨aF++[a],⟨?_,λb hb nb=>?_,g.kept,g.iu,g.eQ⟩,m1.push n ⟨xs,h1,r⟩,?_⟩
  ·obtain⟨t,e⟩:=g.pre;exact⟨t++[a],by rw[e,rC]⟩
  ·rcases cj.mp hb with z | z
   ·exact g.new b z nb
   ·have:b=a:=by simpa using z
    subst this;exact h0
  ·unfold RD;exact⟨a,rfl,by rw[mD (by rw[m1.len];exact aI _)];simp[m1.len]⟩
theorem RI:PA X [] (HZ X.K (bW G [])):=UI iL λσ H Q q=>by
 obtain⟨ads,M,ρ,s,q⟩:=q;exact q [] H ads (aJ.refl _ _) s.mem (by unfold aP;rfl)
theorem Nj(hs:aX e=true)(ha:PE X e (tE X.K (ev G c)))(hr:PA X es (HZ X.K (bW G cs))):PA X (e::es) (HZ X.K (bW G (c::cs))):=by
 refine UI (eS ha hr (bL hs es X.env)) λσ H Q q=>?_;obtain⟨ads,M,ρ,s,q⟩:=q;refine⟨ads,M,ρ,s,?_⟩;simp only[gK,fy]at q
 cases hq:ev G c ρ M with
 | ok w M1 =>
  rw[hq]at q;intro v H1 aq g1 m1 r1
  cases ho:own w M1 with
  | ok d M2 =>
   have q:vB X.K ads H Q ((own w M1).bind λd M=>(bW G cs ρ M).bind λds M=>.ok (d::ds) M):=q;rw[ho]at q;obtain⟨bI,g2,m2,rd⟩:=sP s.mem g1 m1 r1 ho;refine⟨bI,M2,ρ,s.grow g2 m2,?_⟩;have q:vB X.K ads H Q ((bW G cs ρ M2).bind λds M=>.ok (d::ds) M):=q
   cases Em:bW G cs ρ M2 with
   | ok ds M3 =>
    rw[Em]at q;intro vs H3 eF g3 m3 r3;refine q (v::vs) H3 eF (g2.trans g3) m3 ?_;unfold aP;exact⟨v,vs,rfl,g3.rd _ _ rd,r3⟩
   | err _ _=>rw[Em]at q;exact q
   | af=>rw[Em]at q;exact q
  | err _ _=>cases w<;>cases ho
  | af=>cases w<;>cases ho
 | err _ _=>rw[hq]at q;exact q
 | af=>rw[hq]at q;exact q
end
section
variable {kk:Nat} {X:Cx} {cc:CC} {G:dN}
theorem zI(g:Good kk X cc G)(vJ:∀e,bZ cc a e=true->PE X e (tE X.K (ev G a)))(Gk:∀e,bZ cc b e=true->PE X e (tE X.K (ev G b)))(UJ:∀e,bZ cc c e=true->PE X e (tE X.K (ev G c)))(h:bZ cc (.chain o1 o2 a b c) e=true):PE X e (tE X.K (ev G (.chain o1 o2 a b c)))/\PT X e (iJ (tE X.K (ev G (.chain o1 o2 a b c)))):=by
 refine fm (P:=λe=>PE X e (tE X.K (ev G (.chain o1 o2 a b c)))/\PT X e (iJ (tE X.K (ev G (.chain o1 o2 a b c))))) h λl ops rs pos h=>?_;rcases ops with _|⟨p,_|⟨q,_|⟨_,ops⟩⟩⟩<;>rcases rs with _|⟨m,_|⟨r,_|⟨_,rs⟩⟩⟩<;>first | exact absurd (show false=true from h) aT | skip
 have h:(p==MM o1&&q==MM o2 && !lastMarks [p,q] [m,r] && !(decide (o1=.uc)||decide (o1=.fj)||decide (o2=.uc)||decide (o2=.fj))&&bZ cc a l&&bZ cc b m&&bZ cc c r)=true:=h;simp only[aU,jP,jN,Bool.or_eq_false_iff,decide_eq_false_iff_not]at h;obtain⟨⟨⟨⟨⟨⟨rfl,rfl⟩,hm⟩,⟨⟨⟨n1,n2⟩,n3⟩,n4⟩⟩,h1⟩,h2⟩,h3⟩:=h;have MX:=g.room.un
 have i_:∀σ H Q,tE X.K (ev G (.chain o1 o2 a b c)) σ H Q->xk (Ic X.K o1) (Ic X.K o2) (tE X.K (ev G a)) (tE X.K (ev G b)) (tE X.K (ev G c)) σ H Q:=by
  intro σ H Q q;obtain⟨ads,M,ρ,s,q⟩:=q;refine d4 s q λx M1 v H1 aq s1 rx q1=>?_;refine⟨aq,M1,ρ,s1,?_⟩
  cases hq:ev G b ρ M1 with
  | ok y M2 =>
   rw[hq]at q1;intro vy H2 bI g2 m2 ry;have q2:cQ X.K aq H1 Q ((bh o1 x y M2).bind λr M=>if r then (ev G c ρ M).bind λz M=>(bh o2 y z M).bind λr M=>.ok (.d (.bl r)) M else .ok (.d (.bl false)) M):=q1;have s2:=s1.grow g2 m2;refine⟨bI,M2,x,y,m2,g2.rw rx,ry.rw,λz=>absurd z (by simp[n1,n2]),?_⟩
   cases hc:bh o1 x y M2 with
   | ok k M3 =>
    rw[hc]at q2;intro H3 eF g3 m3;have s3:=s2.grow g3 m3;have ry3:=g3.rw ry.rw;refine⟨k,rfl,?_⟩;have q3:cQ X.K eF H3 Q (if k then (ev G c ρ M3).bind λz M=>(bh o2 y z M).bind λr M=>.ok (.d (.bl r)) M else .ok (.d (.bl false)) M3):=cQ.shift q2 (g2.trans g3) s1.mem m3
    cases k with
    | false=>rw[az (by simp)]at q3⊢;exact cQ.plain q3 m3 (jH _)
    | true =>
     rw[aw rfl]at q3⊢;refine⟨eF,M3,ρ,s3,?_⟩
     cases hz:ev G c ρ M3 with
     | ok z M4 =>
      rw[hz]at q3;intro vz H4 B3 g4 m4 rz;exact⟨B3,M4,y,z,m4,g4.rw ry3,rz.rw,λw=>absurd w (by simp[n3,n4]),x8 (cQ.shift (o:=(bh o2 y z M4).bind λr M=>.ok (.d (.bl r)) M) q3 g4 m3 m4)⟩
     | err _ _=>rw[hz]at q3;exact q3
     | af=>rw[hz]at q3;exact q3
   | err _ _=>rw[hc]at q2;exact q2
   | af=>rw[hc]at q2;exact q2
  | err _ _=>rw[hq]at q1;exact q1
  | af=>rw[hq]at q1;exact q1
 exact⟨eV (Dg (lS ∅ o1) (lS ∅ o2) (vJ l h1) (Gk m h2) (UJ r h3) hm) i_,Gj (Dh (lS ∅ o1) (lS ∅ o2) (vJ l h1) (Gk m h2) (UJ r h3) hm) λσ H Q q=>i_ σ H _ q⟩
theorem B4{P:Expr->Prop}{e:Expr}(h:sM e=true)(k:∀j p,P (.Constant (.bool true) j p)):P e:=cI (P:=P) h λc j p h=>by
 rcases c with _ | b | _|_|_|_|_|_<;>first | exact absurd (show false=true from h) aT | skip
 cases b with
 | true=>exact k j p
 | false=>exact absurd (show false=true from h) aT
theorem vK(q:tE X.K (ev G (.g9 ng a)) σ H Q):Ge (λx y H Q=>∃b c,x=.bl b/\y=.bl c/\Q (.bl (ng != (b==c))) H) (tE X.K (ev G a)) (tC (.bl true)) σ H Q:=by
 obtain⟨ads,M,ρ,s,q⟩:=q;refine d4 s q λw M1 v H1 aq s1 mr q1=>?_;rcases w with⟨_ | b | _|_|_|_|_⟩|_<;>first | exact q1.elim | skip
 refine⟨b,true,jG mr,rfl,?_⟩;rw[show(b==true)=b from by cases b<;>rfl];exact cQ.plain q1 s1.mem (jH _)
theorem Eo{ng:Bool}{a:C}{e:Expr}(vJ:∀e,bZ cc a e=true->PE X e (tE X.K (ev G a)))(h:bZ cc (.g9 ng a) e=true):PE X e (tE X.K (ev G (.g9 ng a)))/\PT X e (iJ (tE X.K (ev G (.g9 ng a)))):=by
 refine fm (P:=λe=>PE X e (tE X.K (ev G (.g9 ng a)))/\PT X e (iJ (tE X.K (ev G (.g9 ng a))))) h λl ops rs pos h=>?_;rcases ops with _|⟨o,_|⟨o2,ops⟩⟩<;>rcases rs with _|⟨r,_|⟨r2,rs⟩⟩<;>first | exact absurd (show false=true from h) aT | skip
 have h:(o==(if ng=true then CmpOp.IsNot else CmpOp.Is) && !behindInMarks o r&&sM r&&bZ cc a l)=true:=h;simp only[aU,jP,jN]at h;obtain⟨⟨⟨ho,hm⟩,hr⟩,h1⟩:=h;have pc:PE X r (tC (.bl true)):=B4 (P:=λr=>PE X r (tC (.bl true))) hr λj p=>J3
 cases ng with
 | true =>
  have ho:o=.IsNot:=ho;subst ho
  have i_:∀σ H Q,tE X.K (ev G (.g9 true a)) σ H Q->Ge (λx y H Q=>∃b c,x=.bl b/\y=.bl c/\Q (.bl (!(b==c))) H) (tE X.K (ev G a)) (tC (.bl true)) σ H Q:=λσ H Q q=>by
   have:=vK q;simp only[Bool.true_bne]at this;exact this
  exact⟨eV (mP zk (vJ l h1) pc hm) i_,Gj (mQ zk (vJ l h1) pc hm) λσ H Q q=>i_ σ H _ q⟩
 | false =>
  have ho:o=.Is:=ho;subst ho
  have i_:∀σ H Q,tE X.K (ev G (.g9 false a)) σ H Q->Ge (λx y H Q=>∃b c,x=.bl b/\y=.bl c/\Q (.bl (b==c)) H) (tE X.K (ev G a)) (tC (.bl true)) σ H Q:=λσ H Q q=>by
   have:=vK q;simp only[Bool.false_bne]at this;exact this
  exact⟨eV (mP DJ (vJ l h1) pc hm) i_,Gj (mQ DJ (vJ l h1) pc hm) λσ H Q q=>i_ σ H _ q⟩
theorem Iz(ρ:En)(M:ak)(w:W)(M':ak)(h:ev G (.g9 ng a) ρ M=.ok w M'):∃k,w=.d (.bl k):=by
 simp only[zA]at h
 cases h1:ev G a ρ M with
 | ok x M1 =>
  rw[h1]at h;rcases x with⟨_ | b | _|_|_|_|_⟩|_<;>first | cases h | skip
  exact⟨_,rfl⟩
 | err _ _=>rw[h1]at h;cases h
 | af=>rw[h1]at h;cases h
def RJ(K:PySem.W.Frag)(ng:Bool):R2:=λx y H Q=>∃ads M wx wy,aW K ads H M/\RW K ads H wx x/\RW K ads H wy y/\cQ K ads H Q (jE ng wx wy M)
theorem Ep(hu:X.A.units+1<cLine)(ng:Bool):jv X (compareOp (if ng=true then CmpOp.NotIn else CmpOp.In)) (RJ X.K ng):=by
 intro aa s σ H x y v u Q I rx ry h;obtain⟨ads,M,wx,wy,m,r1,r2,h⟩:=h;unfold jE at h;split at h
 ·rename_i k ah qk qd
  obtain⟨b,rfl,hb⟩:=sF r1 qk;obtain⟨a,ks,rfl,ha,rk⟩:=Kp m r2 qd;cases rx;cases ry;obtain⟨o,g,eo⟩:=Nb ha hb rk
  cases ng with
  | true =>
   rw[Bool.true_bne]at h;refine y6 hu I g rfl λs' I'=>⟨.bl _,H,I',rfl,?_⟩;rw[eo];exact cQ.plain h m (jH _)
  | false =>
   rw[Bool.false_bne]at h;refine QQ hu I g rfl λs' I'=>⟨.bl _,H,I',rfl,?_⟩;rw[eo];exact cQ.plain h m (jH _)
 ·exact h.elim
theorem Ks(g:Good kk X cc G)(vJ:∀e,bZ cc a e=true->PE X e (tE X.K (ev G a)))(Gk:∀e,bZ cc b e=true->PE X e (tE X.K (ev G b)))(h:bZ cc (.gJ ng a b) e=true):PE X e (tE X.K (ev G (.gJ ng a b)))/\PT X e (iJ (tE X.K (ev G (.gJ ng a b)))):=by
 refine fm (P:=λe=>PE X e (tE X.K (ev G (.gJ ng a b)))/\PT X e (iJ (tE X.K (ev G (.gJ ng a b))))) h λl ops rs pos h=>?_;rcases ops with _|⟨o,_|⟨o2,ops⟩⟩<;>rcases rs with _|⟨r,_|⟨r2,rs⟩⟩<;>first | exact absurd (show false=true from h) aT | skip
 have h:(o==(if ng=true then CmpOp.NotIn else CmpOp.In) && !behindInMarks o r&&bZ cc a l&&bZ cc b r)=true:=h;simp only[aU,jP,jN]at h;obtain⟨⟨⟨rfl,hm⟩,h1⟩,h2⟩:=h;have MX:=g.room.un;have i_:∀σ H Q,tE X.K (ev G (.gJ ng a b)) σ H Q->Ge (RJ X.K ng) (tE X.K (ev G a)) (tE X.K (ev G b)) σ H Q:=λσ H Q q=>two (λm r1 r2 h=>⟨_,_,_,_,m,r1,r2,h⟩) q;exact⟨eV (mP (Ep ∅ ng) (vJ l h1) (Gk r h2) hm) i_,Gj (mQ (Ep ∅ ng) (vJ l h1) (Gk r h2) hm) λσ H Q q=>i_ σ H _ q⟩
theorem Nk(ρ:En)(M:ak)(w:W)(M':ak)(h:ev G (.gJ ng a b) ρ M=.ok w M'):∃k,w=.d (.bl k):=by
 simp only[zy]at h
 cases h1:ev G a ρ M with
 | ok x M1 =>
  rw[h1]at h;simp only[cK.bind]at h
  cases h2:ev G b ρ M1 with
  | ok y M2 =>
   rw[h2]at h;have h:jE ng x y M2=.ok w M':=h;unfold jE at h;split at h
   ·cases h;exact⟨_,rfl⟩
   ·cases h
  | err _ _=>rw[h2]at h;cases h
  | af=>rw[h2]at h;cases h
 | err _ _=>rw[h1]at h;cases h
 | af=>rw[h1]at h;cases h
theorem Kt{op:BoolOp}:∀(cs:List C)(es:List Expr)(pos:Pos),(∀c∈cs,∀e,bZ cc c e=true->PE X e (tE X.K (ev G c)))->c_ cc cs es=true->es≠[]->PE X (.BoolOp .And es pos) (tE X.K (jF G cs))
 | [],[],_,_,_,h=>absurd rfl h
 | [],_::_,_,_,h,_=>by cases h
 | _::_,[],_,_,h,_=>by cases h
 | c::cs,e::es,pos,ih,h,_=>by
  have h':(aX e&&bZ cc c e&&c_ cc cs es)=true:=h;simp only[aU]at h';have he:=ih c dC e h'.1.2
  cases es with
  | nil =>
   cases cs with
   | cons _ _=>cases h'.2
   | nil =>
    refine eV (C5 he) λσ H Q q=>?_;obtain⟨ads,M,ρ,s,q⟩:=q;refine⟨ads,M,ρ,s,?_⟩;simp only[lN,j2]at q
    cases hq:ev G c ρ M with
    | ok w M1=>rw[hq]at q;exact q
    | err _ _=>rw[hq]at q;exact q
    | af=>rw[hq]at q;exact q
  | cons e2 es =>
   cases cs with
   | nil=>cases h'.2
   | cons c2 cs =>
    have hr:=Kt (op:=op) (c2::cs) (e2::es) pos (λc hc=>ih c (dq _ hc)) h'.2 (by simp);refine eV (LC he hr) λσ H Q q=>?_;obtain⟨ads,M,ρ,s,q⟩:=q
    have q:cQ X.K ads H Q ((ev G c ρ M).bind λx M=>match c2::cs,x with
     | [],x=>.ok x M
     | _,.d (.bl true)=>jF G (c2::cs) ρ M
     | _,.d (.bl false)=>.ok (.d (.bl false)) M
     | _,_=>.af):=by unfold jF at q;exact q
    refine d4 s q λw M1 v H1 aq s1 mr q1=>?_;rcases w with⟨_ | b | _|_|_|_⟩|_<;>first | exact q1.elim | skip
    refine⟨b,jG mr,?_⟩
    cases b with
    | false=>rw[az (by simp)];exact cQ.plain q1 s1.mem (jH _)
    | true=>rw[aw rfl];exact⟨aq,M1,ρ,s1,q1⟩
theorem RK:∀(cs:List C)(es:List Expr)(pos:Pos),(∀c∈cs,∀e,bZ cc c e=true->PE X e (tE X.K (ev G c)))->c_ cc cs es=true->es≠[]->PE X (.BoolOp .Or es pos) (tE X.K (qh G cs))
 | [],[],_,_,_,h=>absurd rfl h
 | [],_::_,_,_,h,_=>by cases h
 | _::_,[],_,_,h,_=>by cases h
 | c::cs,e::es,pos,ih,h,_=>by
  have h':(aX e&&bZ cc c e&&c_ cc cs es)=true:=h;simp only[aU]at h';have he:=ih c dC e h'.1.2
  cases es with
  | nil =>
   cases cs with
   | cons _ _=>cases h'.2
   | nil =>
    refine eV (C5 he) λσ H Q q=>?_;obtain⟨ads,M,ρ,s,q⟩:=q;refine⟨ads,M,ρ,s,?_⟩;simp only[oC,lO]at q
    cases hq:ev G c ρ M with
    | ok w M1=>rw[hq]at q;exact q
    | err _ _=>rw[hq]at q;exact q
    | af=>rw[hq]at q;exact q
  | cons e2 es =>
   cases cs with
   | nil=>cases h'.2
   | cons c2 cs =>
    have hr:=RK (c2::cs) (e2::es) pos (λc hc=>ih c (dq _ hc)) h'.2 (by simp);refine eV (Qo he hr) λσ H Q q=>?_;obtain⟨ads,M,ρ,s,q⟩:=q
    have q:cQ X.K ads H Q ((ev G c ρ M).bind λx M=>match c2::cs,x with
     | [],x=>.ok x M
     | _,.d (.bl false)=>qh G (c2::cs) ρ M
     | _,.d (.bl true)=>.ok (.d (.bl true)) M
     | _,_=>.af):=by unfold qh at q;exact q
    refine d4 s q λw M1 v H1 aq s1 mr q1=>?_;rcases w with⟨_ | b | _|_|_|_⟩|_<;>first | exact q1.elim | skip
    refine⟨b,jG mr,?_⟩
    cases b with
    | true=>rw[aw rfl];exact cQ.plain q1 s1.mem (jH _)
    | false=>rw[az (by simp)];exact⟨aq,M1,ρ,s1,q1⟩
theorem sQ{K:PySem.W.Frag}{ads:List Addr}{H:Hp}{M:ak}{ρ:En}{σ:L2.St}{o:En->ak->cK Bool}{k:Bool->ak->cK Bool}{Q:Bool->Hp->Prop}{R:Bool->Hp->Prop}(s:SR K ads M ρ σ H)(h:Gh K ads H Q ((o ρ M).bind k))(hk:∀w M1 H1 aq,SR K aq M1 ρ σ H1->Gh K aq H1 Q (k w M1)->R w H1):oG K o σ H R:=by
 refine⟨ads,M,ρ,s,?_⟩
 cases q:o ρ M with
 | ok w M1 =>
  rw[q]at h;have h:Gh K ads H Q (k w M1):=h;exact λH1 aq g1 m1=>hk w M1 H1 aq (s.grow g1 m1) (h.shift g1)
 | err _ _=>rw[q]at h;exact h
 | af=>rw[q]at h;exact h
theorem RL(h:oG X.K (d8 G (.val c)) σ H Q):tE X.K (ev G c) σ H λx H'=>∃k,Di X.K x H' k/\Q k H':=by
 obtain⟨ads,M,ρ,s,q⟩:=h;refine⟨ads,M,ρ,s,?_⟩;simp only[sD]at q
 cases hq:ev G c ρ M with
 | ok w M1 =>
  rw[hq]at q;intro v H1 aq g1 m1 r1;have q:Gh X.K ads H Q (match qg M1 w with | some r=>.ok r M1 | none=>.af):=q
  cases ht:qg M1 w with
  | none=>rw[ht]at q;exact q.elim
  | some k=>rw[ht]at q;exact⟨k,Rw m1 r1.rw ht,q H1 aq g1 m1⟩
 | err _ _=>rw[hq]at q;exact q
 | af=>rw[hq]at q;exact q
theorem IA(h:jb e=true)(env:Env):∀nP,isTrue e env nP=(do let v <- nP;standAt e.pos;holding [v] (truthy v)):=by
 cases e<;>first | (intro _;rfl) | exact absurd (show false=true from h) aT
theorem IB(hp:jb e=true)(he:PE X e (tE X.K (ev G c))):PT X e (oG X.K (d8 G (.val c))) :=
 Gj (Dj he (IA hp X.env)) λσ H Q q=>RL q
theorem sR(hb:∀ρ M w M',ev G c ρ M=.ok w M'->∃k,w=.d (.bl k))(he:PT X e (iJ (tE X.K (ev G c)))):PT X e (oG X.K (d8 G (.val c))):=by
 refine Gj he λσ H Q q=>?_;obtain⟨ads,M,ρ,s,q⟩:=q;refine⟨ads,M,ρ,s,?_⟩;simp only[sD]at q
 cases hq:ev G c ρ M with
 | ok w M1 =>
  rw[hq]at q;obtain⟨k,rfl⟩:=hb _ _ _ _ hq;intro v H1 aq g1 m1 r1;exact⟨k,jG r1,q H1 aq g1 m1⟩
 | err _ _=>rw[hq]at q;exact q
 | af=>rw[hq]at q;exact q
theorem Nl(ρ:En)(M:ak)(w:W)(M':ak)(h:ev G (.cmp op a b) ρ M=.ok w M'):∃k,w=.d (.bl k):=by
 simp only[DZ]at h
 cases h1:ev G a ρ M with
 | ok x M1 =>
  rw[h1]at h;simp only[cK.bind]at h
  cases h2:ev G b ρ M1 with
  | ok y M2 =>
   rw[h2]at h;simp only at h
   cases h3:bh op x y M2 with
   | ok k M3=>rw[h3]at h;cases h;exact⟨k,rfl⟩
   | err _ _=>rw[h3]at h;cases h
   | af=>rw[h3]at h;cases h
  | err _ _=>rw[h2]at h;cases h
  | af=>rw[h2]at h;cases h
 | err _ _=>rw[h1]at h;cases h
 | af=>rw[h1]at h;cases h
theorem Er(ρ:En)(M:ak)(w:W)(M':ak)(h:ev G (.chain o1 o2 a b c) ρ M=.ok w M'):∃k,w=.d (.bl k):=by
 simp only[vA]at h
 cases h1:ev G a ρ M with
 | ok x M1 =>
  rw[h1]at h;simp only[cK.bind]at h
  cases h2:ev G b ρ M1 with
  | ok y M2 =>
   rw[h2]at h;simp only at h
   cases h3:bh o1 x y M2 with
   | ok k M3 =>
    rw[h3]at h;simp only at h
    cases k with
    | false=>cases h;exact⟨_,rfl⟩
    | true =>
     simp only[eP]at h
     cases h4:ev G c ρ M3 with
     | ok z M4 =>
      rw[h4]at h;simp only at h
      cases h5:bh o2 y z M4 with
      | ok k M5=>rw[h5]at h;cases h;exact⟨k,rfl⟩
      | err _ _=>rw[h5]at h;cases h
      | af=>rw[h5]at h;cases h
     | err _ _=>rw[h4]at h;cases h
     | af=>rw[h4]at h;cases h
   | err _ _=>rw[h3]at h;cases h
   | af=>rw[h3]at h;cases h
  | err _ _=>rw[h2]at h;cases h
  | af=>rw[h2]at h;cases h
 | err _ _=>rw[h1]at h;cases h
 | af=>rw[h1]at h;cases h
theorem RM(ih:PT X e (oG X.K (d8 G t))):PT X (.UnaryOp .Not e pos) (oG X.K (d8 G (.neg t))):=by
 refine Gj (LB ih) λσ H Q q=>?_;obtain⟨ads,M,ρ,s,q⟩:=q;exact sQ s q λw M1 H1 aq s1 q1=>q1 H1 aq (aJ.refl _ _) s1.mem
theorem Ku:∀(ts:List fL)(es:List Expr)(pos:Pos),(∀t∈ts,∀e,kJ cc t e=true->PT X e (oG X.K (d8 G t)))->oN cc ts es=true->es≠[]->PW X (.BoolOp .And es pos) (oG X.K (fU G ts))
 | [],[],_,_,_,h=>absurd rfl h
 | [],_::_,_,_,h,_=>by cases h
 | _::_,[],_,_,h,_=>by cases h
 | c::cs,e::es,pos,ih,h,_=>by
  have h':(kJ cc c e&&oN cc cs es)=true:=h;simp only[aU]at h';have he:=ih c dC e h'.1
  cases es with
  | nil =>
   cases cs with
   | cons _ _=>cases h'.2
   | nil =>
    refine UH (GS he) λσ H Q q=>?_;obtain⟨ads,M,ρ,s,q⟩:=q;refine⟨ads,M,ρ,s,?_⟩;simp only[lP,j3]at q
    cases hq:d8 G c ρ M with
    | ok w M1=>rw[hq]at q;exact q
    | err _ _=>rw[hq]at q;exact q
    | af=>rw[hq]at q;exact q
  | cons e2 es =>
   cases cs with
   | nil=>cases h'.2
   | cons c2 cs =>
    have hr:=Ku (c2::cs) (e2::es) pos (λc hc=>ih c (dq _ hc)) h'.2 (by simp);refine UH (Lz he hr) λσ H Q q=>?_;obtain⟨ads,M,ρ,s,q⟩:=q
    have q:Gh X.K ads H Q ((d8 G c ρ M).bind λx M=>match c2::cs,x with
     | [],x=>.ok x M
     | _,true=>fU G (c2::cs) ρ M
     | _,false=>.ok false M):=by unfold fU at q;exact q
    refine sQ s q λw M1 H1 aq s1 q1=>?_
    cases w with
    | false=>rw[az (by simp)];exact q1 H1 aq (aJ.refl _ _) s1.mem
    | true=>rw[aw rfl];exact⟨aq,M1,ρ,s1,q1⟩
theorem Kw:∀(ts:List fL)(es:List Expr)(pos:Pos),(∀t∈ts,∀e,kJ cc t e=true->PT X e (oG X.K (d8 G t)))->oN cc ts es=true->es≠[]->PW X (.BoolOp .Or es pos) (oG X.K (fV G ts))
 | [],[],_,_,_,h=>absurd rfl h
 | [],_::_,_,_,h,_=>by cases h
 | _::_,[],_,_,h,_=>by cases h
 | c::cs,e::es,pos,ih,h,_=>by
  have h':(kJ cc c e&&oN cc cs es)=true:=h;simp only[aU]at h';have he:=ih c dC e h'.1
  cases es with
  | nil =>
   cases cs with
   | cons _ _=>cases h'.2
   | nil =>
    refine UH (Ly he) λσ H Q q=>?_;obtain⟨ads,M,ρ,s,q⟩:=q;refine⟨ads,M,ρ,s,?_⟩;simp only[lQ,j4]at q
    cases hq:d8 G c ρ M with
    | ok w M1=>rw[hq]at q;exact q
    | err _ _=>rw[hq]at q;exact q
    | af=>rw[hq]at q;exact q
  | cons e2 es =>
   cases cs with
   | nil=>cases h'.2
   | cons c2 cs =>
    have hr:=Kw (c2::cs) (e2::es) pos (λc hc=>ih c (dq _ hc)) h'.2 (by simp);refine UH (Ql he hr) λσ H Q q=>?_;obtain⟨ads,M,ρ,s,q⟩:=q
    have q:Gh X.K ads H Q ((d8 G c ρ M).bind λx M=>match c2::cs,x with
     | [],x=>.ok x M
     | _,false=>fV G (c2::cs) ρ M
     | _,true=>.ok true M):=by unfold fV at q;exact q
    refine sQ s q λw M1 H1 aq s1 q1=>?_
    cases w with
    | true=>rw[aw rfl];exact q1 H1 aq (aJ.refl _ _) s1.mem
    | false=>rw[az (by simp)];exact⟨aq,M1,ρ,s1,q1⟩
theorem RN(ht:PT X c (oG X.K (d8 G t)))(ha:PE X x (tE X.K (ev G a)))(hb:PE X y (tE X.K (ev G b))):PE X (.IfExp c x y pos) (tE X.K (ev G (.ite t a b))):=by
 refine eV (C6 ht ha hb) λσ H Q q=>?_;obtain⟨ads,M,ρ,s,q⟩:=q;refine⟨ads,M,ρ,s,?_⟩;simp only[D0]at q
 cases hq:d8 G t ρ M with
 | ok w M1 =>
  rw[hq]at q;intro H1 aq g1 m1;have q:cQ X.K ads H Q (if w then ev G a ρ M1 else ev G b ρ M1):=q;have q:=q.shift g1 s.mem m1
  cases w with
  | true=>rw[aw rfl]at q⊢;exact⟨aq,M1,ρ,s.grow g1 m1,q⟩
  | false=>rw[az (by simp)]at q⊢;exact⟨aq,M1,ρ,s.grow g1 m1,q⟩
 | err _ _=>rw[hq]at q;exact q
 | af=>rw[hq]at q;exact q
end
section
variable {kk:Nat} {X:Cx} {cc:CC} {G:dN}
theorem oO(h:fv b=true):ze b:=by
 intro o i;cases b<;>first | rfl | exact absurd (show false=true from h) aT
theorem RO(g:Good kk X cc G)(hs:fv i=true)(ha:PE X e (tE X.K (ev G a)))(hb:PE X i (tE X.K (ev G b))):PE X (.Subscript e i pos) (tE X.K (ev G (.sub a b))):=by
 have MX:=g.room.un;refine eV (Kc (MN ∅) ha hb (oO hs)) λσ H Q q=>?_;exact two (λm r1 r2 h=>⟨_,_,_,_,m,r1,r2,h⟩) q
noncomputable def OkO(K:PySem.W.Frag)(ads:List Addr)(H:Hp)(Q:Option Int->Hp->Prop):cK (Option Int)->Prop
 | .ok o M=>∀H' aF,aJ ads aF H H'->aW K aF H' M->Q o H'
 | _=>False
def tO(K:PySem.W.Frag)(o:En->ak->cK (Option Int)):TO:=λσ H Q=>∃ads M ρ,SR K ads M ρ σ H/\OkO K ads H Q (o ρ M)
theorem Nm:PO X none (tO X.K (ud G none)):=λaa s σ H Q I q=>Hb aa s σ H Q I (by
 obtain⟨ads,M,ρ,s,q⟩:=q;exact q H ads (aJ.refl _ _) s.mem)
theorem Nn(h:PE X e (tE X.K (ev G c))):PO X (some e) (tO X.K (ud G (some c))):=λaa s σ H Q I q=>Hc h aa s σ H Q I (by
 obtain⟨ads,M,ρ,s,q⟩:=q;refine⟨ads,M,ρ,s,?_⟩;simp only[oE,oF]at q
 cases hq:ev G c ρ M with
 | ok w M1 =>
  rw[hq]at q;intro v H1 aq g1 m1 r1;rcases w with⟨_|_ | i | _|_|_⟩|_<;>first | exact q.elim | skip
  exact⟨i,aZ r1,q H1 aq g1 m1⟩
 | err _ _=>rw[hq]at q;exact q
 | af=>rw[hq]at q;exact q)
theorem RP{lo hi:Option C}{l h:Option Expr}(ha:PE X e (tE X.K (ev G a)))(hl:PO X l (tO X.K (ud G lo)))(hh:PO X h (tO X.K (ud G hi))):PE X (.Subscript e (.Slice l h none p2) pos) (tE X.K (ev G (.pP a lo hi))):=by
 refine eV (Dx MP ha hl hh) λσ H Q q=>?_;obtain⟨ads,M,ρ,s,q⟩:=q;refine d4 s q λw M1 v H1 aq s1 mr q1=>⟨aq,M1,ρ,s1,?_⟩
 cases hq:ud G lo ρ M1 with
 | ok o1 M2 =>
  rw[hq]at q1;have q1:cQ X.K aq H1 Q ((ud G hi ρ M2).bind λh M=>oz w o1 h M):=q1;intro H2 bI g2 m2;have s2:=s1.grow g2 m2;refine⟨bI,M2,ρ,s2,?_⟩
  cases Np:ud G hi ρ M2 with
  | ok o2 M3 =>
   rw[Np]at q1;intro H3 eF g3 m3;exact⟨eF,M3,w,m3,g3.rw (g2.rw mr),cQ.shift (o:=oz w o1 o2 M3) q1 (g2.trans g3) s1.mem m3⟩
  | err _ _=>rw[Np]at q1;exact q1
  | af=>rw[Np]at q1;exact q1
 | err _ _=>rw[hq]at q1;exact q1
 | af=>rw[hq]at q1;exact q1
theorem vL:∀(cs:List C)(ρ:En)(M:ak)(ds:List D)(M':ak),bW G cs ρ M=.ok ds M'->ds.length=cs.length
 | [],ρ,M,ds,M',h=>by cases h;rfl
 | c::cs,ρ,M,ds,M',h=>by
  simp only[gK,fy]at h
  cases h1:(ev G c ρ M).bind own with
  | ok d M1 =>
   rw[h1]at h;simp only[cK.bind]at h
   cases h2:bW G cs ρ M1 with
   | ok es M2=>rw[h2]at h;cases h;simp[vL cs ρ M1 es _ h2]
   | err _ _=>rw[h2]at h;cases h
   | af=>rw[h2]at h;cases h
  | err _ _=>rw[h1]at h;cases h
  | af=>rw[h1]at h;cases h
theorem dz(h:c_ cc cs es=true)(env:Env)(pos:Pos):(backTo pos (starEach es env)).any (·.1)=false:=by
 have:∀(cs:List C)(es:List Expr),c_ cc cs es=true->(starEach es env).any (·.1)=false:=by
  intro cs
  induction cs with
  | nil=>intro es h;cases es with
   | nil=>rfl
   | cons _ _=>cases h
  | cons c cs ih =>
   intro es h
   cases es with
   | nil=>cases h
   | cons e es =>
    have h':(aX e&&bZ cc c e&&c_ cc cs es)=true:=h;simp only[aU]at h';rw[bL h'.1.1,CT,ih es h'.2];rfl
 have e:=this cs es h;unfold backTo;simp only[List.any_map];exact e
theorem Nq{x:Str}(g:Good kk X cc G)(hf:cc.fs[f]?=some (x,cs.length))(hg:glob cc x=true)(hp:eh x=true)(hc:c_ cc cs (e::es)=true)(ha:PA X (e::es) (HZ X.K (bW G cs))):PE X (.Call (.Name x p) (e::es) [] pos) (tE X.K (ev G (.call f cs))):=by
 obtain⟨fa,fd,ps,F,hm,hk,hb⟩:=g.fns f x _ hf
 have eL:aX e=true/\c_ cc cs.tail es=true:=by
  cases cs with
  | nil=>cases hc
  | cons c cs =>
   have h':(aX e&&bZ cc c e&&c_ cc cs es)=true:=hc;simp only[aU]at h';exact⟨h'.1.1,h'.2⟩
 refine eV (G6 (pos:=pos) (p:=p) (E:=E0) F g.room (g.gl hg) hm hk hb .nil Q2 ha (lT hp).1 (bL eL.1 es X.env) (dz eL.2 X.env pos)) λσ H Q q=>?_;obtain⟨ads,M,ρ,s,q⟩:=q;refine⟨ads,M,ρ,s,?_⟩;simp only[zx]at q
 cases hq:bW G cs ρ M with
 | ok ds M1 =>
  rw[hq]at q;intro vs H1 aq g1 m1 r1;refine⟨aq,M1,ds,m1,?_,vL cs ρ M ds M1 hq,cQ.shift (o:=G f ds M1) q g1 s.mem m1⟩;rw[lq];exact r1
 | err _ _=>rw[hq]at q;exact q
 | af=>rw[hq]at q;exact q
def RQ(K:PySem.W.Frag)(ads:List Addr)(H:Hp)(Q:List V->Hp->Prop):cK (List W)->Prop
 | .ok ws M=>∀vs H' aF,aJ ads aF H H'->aW K aF H' M->Ko K aF H' ws vs->Q vs H'
 | _=>False
def Pz(K:PySem.W.Frag)(o:En->ak->cK (List W)):TA:=λσ H Q=>∃ads M ρ,SR K ads M ρ σ H/\RQ K ads H Q (o ρ M)
theorem RS:PA X [] (Pz X.K (dE G [])):=UI iL λσ H Q q=>by
 obtain⟨ads,M,ρ,s,q⟩:=q;exact q [] H ads (aJ.refl _ _) s.mem rfl
theorem Nr(hs:aX e=true)(ha:PE X e (tE X.K (ev G c)))(hr:PA X es (Pz X.K (dE G cs))):PA X (e::es) (Pz X.K (dE G (c::cs))):=by
 refine UI (eS ha hr (bL hs es X.env)) λσ H Q q=>?_;obtain⟨ads,M,ρ,s,q⟩:=q;refine⟨ads,M,ρ,s,?_⟩;simp only[kE,ja]at q
 cases hq:ev G c ρ M with
 | ok w M1 =>
  rw[hq]at q;intro v H1 aq g1 m1 r1;refine⟨aq,M1,ρ,s.grow g1 m1,?_⟩;have q:RQ X.K ads H Q ((dE G cs ρ M1).bind λds M=>.ok (w::ds) M):=q
  cases Em:dE G cs ρ M1 with
  | ok ds M3 =>
   rw[Em]at q;intro vs H3 eF g3 m3 r3;exact q (v::vs) H3 eF (g1.trans g3) m3 ⟨v,vs,rfl,g3.rw r1.rw,r3⟩
  | err _ _=>rw[Em]at q;exact q
  | af=>rw[Em]at q;exact q
 | err _ _=>rw[hq]at q;exact q
 | af=>rw[hq]at q;exact q
theorem hZ(q:tE X.K (ev G (.bi b cs)) σ H Q):Wd (D9 X.K b) (Pz X.K (dE G cs)) σ H Q:=by
 obtain⟨ads,M,ρ,s,q⟩:=q;refine⟨ads,M,ρ,s,?_⟩;simp only[D3]at q
 cases hq:dE G cs ρ M with
 | ok ws M1 =>
  rw[hq]at q;intro vs H1 aq g1 m1 r1;exact⟨aq,M1,ws,m1,r1,cQ.shift (o:=kc b ws M1) q g1 s.mem m1⟩
 | err _ _=>rw[hq]at q;exact q
 | af=>rw[hq]at q;exact q
theorem Xf{x:Str}(g:Good kk X cc G)(hb:Nf b=true)(hx:x=Eh b)(hg:glob cc x=true)(hs:aX e=true)(hc:c_ cc cs.tail es=true)(ha:PA X (e::es) (Pz X.K (dE G cs))):PE X (.Call (.Name x p) (e::es) [] pos) (tE X.K (ev G (.bi b cs))):=by
 have vM:=g.gl hg;have eL:=bL hs es X.env;have rW:=dz hc X.env pos;have hm:X.mg x=none:=g.blt x (by subst hx;cases b<;>first | (show _∈cM;decide +kernel) | (exact absurd hb (by simp[Nf])));subst hx
 cases b with
 | len=>exact eV (fE MT vM hm boot_len ha ⋯ ⋯ eL rW) λσ H Q q=>hZ q
 | max2=>exact eV (fE (MU g.calm) vM hm boot_max ha ⋯ ⋯ eL rW) λσ H Q q=>hZ q
 | min2=>exact eV (fE (MV g.calm) vM hm boot_min ha ⋯ ⋯ eL rW) λσ H Q q=>hZ q
 | ou=>exact eV (fE (Ih g.room) vM hm boot_repr ha ⋯ ⋯ eL rW) λσ H Q q=>hZ q
 | vt=>exact eV (gG MW vM hm ⋯ ha ⋯ ⋯ eL rW) λσ H Q q=>hZ q
 | list1=>exact eV (gG Ig vM hm ⋯ ha ⋯ ⋯ eL rW) λσ H Q q=>hZ q
 | tuple1=>exact eV (gG Ea vM hm ⋯ ha ⋯ ⋯ eL rW) λσ H Q q=>hZ q
 | qK=>exact eV (gG (Ie g.calm) vM hm ⋯ ha ⋯ ⋯ eL rW) λσ H Q q=>hZ q
 | all1=>cases hb
 | HK=>cases hb
 | xJ t=>cases hb
 | ox=>exact eV (fE Il vM hm boot_sorted ha ⋯ ⋯ eL rW) λσ H Q q=>hZ q
 | min1=>cases hb
 | HL=>cases hb
theorem Xg{y:Str}{T:String}{pos:Pos}(hg:Gl X y)(hm:X.mg y=none)(hv:bootBuiltins y=some (.type T)) (hn:y≠ "__name__") (hd:(y==("__debug__" : Str))=false):PE X (.Name y pos) (tC (.ty T)) :=
 GR hg hm hv rfl hn hd
theorem RT{t:Ty}{c:C}{x y:Str}{e:Expr}{p py pos:Pos}(g:Good kk X cc G) (hx:x = "isinstance") (Xh:glob cc x=true) (hy:y=Str.ofString (vF t)) (Xi:glob cc y=true) (ht:t≠.none) (hs:aX e=true) (ha:PE X e (tE X.K (ev G c))):PE X (.Call (.Name x p) [e,.Name y py] [] pos) (tE X.K (ev G (.bi (.xJ t) [c]))):=by
 have hmx:X.mg x=none:=g.blt x (by subst hx;show _∈cM;decide +kernel);have hmy:X.mg y=none:=g.blt y (by subst hy;cases t<;>first | exact absurd rfl ht | (show _∈cM;decide +kernel))
 have pty:PE X (.Name y py) (tC (.ty (vF t))):=by
  subst hy;cases t<;>first | exact absurd rfl ht | exact Xg (g.gl Xi) hmy ⋯ ⋯ ⋯
 have vM:=g.gl Xh;subst hx;refine eV (fE (MZ t) vM hmx boot_isinstance (eS ha (eS pty iL) (bL hs _ X.env)) ⋯ ⋯ (bL hs _ X.env) rfl) λσ H Q q=>?_;obtain⟨ads,M,ρ,s,q⟩:=q;refine⟨ads,M,ρ,s,?_⟩;simp only[D3,kE,ja]at q
 cases hq:ev G c ρ M with
 | ok w M1 =>
  rw[hq]at q;intro v H1 aq g1 m1 r1;exact⟨v,rfl,aq,M1,[w],m1,⟨v,[],rfl,r1.rw,rfl⟩,cQ.shift (o:=kc (.xJ t) [w] M1) q g1 s.mem m1⟩
 | err _ _=>rw[hq]at q;exact q
 | af=>rw[hq]at q;exact q
section
variable {prog:Program} {w:World} {A:Around} {E:Value->Shared->Prop} {s:Shared}
theorem sS(hs:s.heap.IsSliceOf sl .none .none (.int k u))(hk:k≠0)(h:Q ((Builtin.Slice.sliceAdjust none none k (n:Int)).1,k,Builtin.Slice.slicePlaces (Builtin.Slice.sliceAdjust none none k (n:Int)).1 (Builtin.Slice.sliceAdjust none none k (n:Int)).2 k) s):wpAny (model prog w) A (Builtin.Slice.sliceApplied (.ref sl) (pure (n:Int))) Q E s:=by
 obtain⟨os,Dv,QT,G_⟩:=id hs;unfold Builtin.Slice.sliceApplied Builtin.Slice.sliceFields;refine ag (ag (iF Dv G_ (x:=.none) rfl (ag (iF Dv G_ (x:=.none) rfl (ag (iF Dv G_ (x:=.int k u) rfl (aA ?_)))))));refine ag (slicePart_int ?_);show wpAny _ _ (if (k==0)=true then _ else _) _ _ s;rw[az (by simpa using hk)];refine ag (slicePart_none (ag (slicePart_none (ag (aA ?_)))));exact aA h
theorem sT(ht:IsTup s.heap t aG.toArray)(hs:s.heap.IsSliceOf sl .none .none (.int k u))(hk:k≠0)(hk1:k≠1)(hsz:(ef aG k).length<=sizeLine) (h:Q (.ref s.heap.objs.size) {s with heap:=s.heap.push {cls:=.type "tuple",data:=.seq (ef aG k).toArray}}):wpAny (model prog w) A (getItem (.ref t) (.ref sl)) Q E s:=by
 have UK:sizeOk (.seq (ef aG k).toArray):=by
  show(ef aG k).toArray.size<=sizeLine;rw[cG];exact hsz
 obtain⟨os,Dv,QT,G_⟩:=id hs;have Wf:s.TypeIs (.ref sl) "slice" := ⟨os,Dv,QT⟩;unfold getItem
 try with_reducible refine kj ?_
 first | refine ag (aA ?_) | skip
 refine ag (wpAny_sequenceKey ht.typeIs (by decide) ?_)
 refine ag (mF (name:=Str.ofString "__getitem__") ht.typeIs AE
  (iE AE ht.typeIs entry_tuple_getitem ?_ (args_tuple_getitem _ _)))
 show wpAny _ _ (Builtin.Tuple.tupleItemsOf (.ref t) >>= _) _ _ s;refine ag (tupleItemsOf_ ht ?_);refine ag (w_ Wf ?_);rw[aw (by decide)];refine ag (sS hs hk ?_)
 have Po:∀(a b:Bool),¬((a&&(k==(1:Int))&&b)=true):=by
  intro a b z;have:(k==(1:Int))=false:=pV.mpr hk1;rw[this]at z;simp at z
 dsimp only;rw[az (Po _ _)];have e:∀(f:Nat->Nat)(l:List Nat),(l.filterMap λj=>aG.toArray[f j]?)=l.filterMap λj=>aG[f j]?:=λf l=>by simp
 rw[e];have hl:(aG.toArray.size:Int)=(aG.length:Int):=by simp
 rw[hl]
 first
  | exact ag (m:=Builtin.Tuple.tupleExact _) (fC (aA ⟨_,rfl,aA h⟩) UK)
  | exact ag (m:=Builtin.Tuple.tupleExact _) (fC (ag (aA (aA ⟨_,rfl,aA h⟩))) UK)
  | exact ag (ag (m:=Builtin.Tuple.tupleExact _) (fC (aA (aA ⟨_,rfl,aA h⟩)) UK))
  | exact ag (ag (m:=Builtin.Tuple.tupleExact _) (fC (aA ⟨_,rfl,aA h⟩) UK))
end
theorem mW{K:PySem.W.Frag}{ads:List Addr}{H:Hp}{ds:List D}{xs:List V}(r:aP K ads H ds xs)(f:Nat->Nat):∀js:List Nat,aP K ads H (js.filterMap λj=>ds[f j]?) (js.filterMap λj=>xs[f j]?)
 | []=>by simp;unfold aP;rfl
 | j::js=>by
  cases q:ds[f j]? with
  | none =>
   have:xs[f j]?=none:=by rw[AF]at q⊢;rw[<- r.len];exact q
   simp only[lh,q,this];exact mW r f js
  | some d =>
   obtain⟨v,e,rv⟩:=r.get q;simp only[lh,q,e];unfold aP;exact⟨_,_,rfl,rv,mW r f js⟩
theorem jd(r:aS xs us)(f:Nat->Nat):∀js:List Nat,aS (js.filterMap λj=>xs[f j]?) (js.filterMap λj=>us[f j]?)
 | []=>.nil
 | j::js=>by
  cases q:xs[f j]? with
  | none =>
   have:us[f j]?=none:=by rw[AF]at q⊢;rw[<- r.length];exact q
   simp only[lh,q,this];exact jd r f js
  | some d =>
   obtain⟨v,e,rv⟩:=r.get q;simp only[lh,q,e];exact .cons rv (jd r f js)
theorem RU{a:C}{k:Int}{e ke:Expr}{pos p2:Pos}(hke:PE X ke (tC (.int k)))(ha:PE X e (tE X.K (ev G a))):PE X (.Subscript e (.Slice none none (some ke) p2) pos) (tE X.K (ev G (.Cy a k))):=by
 intro aa s σ H Q I h;obtain⟨ads,M,ρ,sr,q⟩:=h
 have h1:tE X.K (ev G a) σ H (λx H1=>∃aq M1 w,aW X.K aq H1 M1/\RW X.K aq H1 w x/\cQ X.K aq H1 Q (lK w k M1)):=by
  refine d4 sr q λw M1 v H1 aq s1 mr q1=>⟨aq,M1,w,s1.mem,mr,q1⟩
 refine Subscript_ (cJ (ha aa s σ H _ I h1) ?_);rintro v s1 ⟨x,H1,I1,r1,aq,M1,w,m1,mr,q1⟩;rcases w with⟨_|_|_|_ | ds | _|_⟩|_<;>first | exact q1.elim | skip
 have mr:RD X.K aq H1 (.tup ds) x:=mr;unfold RD at mr;obtain⟨p,xs,rfl,hp,rd⟩:=mr;cases r1;simp only[lK]at q1;split at q1
 ·rename_i hk
  refine wpAny_Slice ?_;rw[evalPart_none];refine aA ?_;refine aA ?_;rw[evalPart_some];refine cJ (hke aa s1 σ H1 (λz H'=>z=.int k/\H1=H') I1 ⟨rfl,rfl⟩) ?_;rintro u s2 ⟨z,H2,I2,rz,rfl,rfl⟩;obtain⟨t,rfl⟩:=rz;have I3:Inv X aa σ H1 {s2 with heap:=s2.heap.push {cls:=.type "slice",data:=.fields #[.none,.none,.int k t]}}:=I2.kept (t':=s2.toks) λb ob q=>bz _ q;obtain⟨aG,rv,ht,hz⟩:=I3.tuple (gE.of (K:=X.K) hp)
  have aY:(ef aG k).length=(ef ds k).length:=by
   have e1:aG.length=xs.length:=rv.length.symm;have e2:xs.length=ds.length:=rd.len.symm;have r1:=(mW rd (λ(j:Nat)=>((Builtin.Slice.sliceAdjust none none k (ds.length:Int)).1+(j:Int)*k).toNat) (List.range (Builtin.Slice.slicePlaces (Builtin.Slice.sliceAdjust none none k (ds.length:Int)).1 (Builtin.Slice.sliceAdjust none none k (ds.length:Int)).2 k))).len;have r2:=(jd rv (λ(j:Nat)=>((Builtin.Slice.sliceAdjust none none k (ds.length:Int)).1+(j:Int)*k).toNat) (List.range (Builtin.Slice.slicePlaces (Builtin.Slice.sliceAdjust none none k (ds.length:Int)).1 (Builtin.Slice.sliceAdjust none none k (ds.length:Int)).2 k))).length;unfold ef;rw[e1,e2,<- r2,<- r1]
  have rd':aP X.K aq H1 (ef ds k) (ef xs k):=by
   unfold ef;rw[<- rd.len];exact mW rd _ _
  have UG:aS (ef xs k) (ef aG k):=by
   unfold ef;rw[<- rv.length];exact jd rv _ _
  have x9:({s2 with heap:=s2.heap.push {cls:=.type "slice",data:=.fields #[.none,.none,.int k t]}}:Shared).heap.IsSliceOf s2.heap.objs.size .none .none (.int k t):=Heap.IsSliceOf.new ..;show wpAny (model X.prog X.w) X.A (subscriptTail e (.Slice none none (some ke) p2) (.ref p) (.ref s2.heap.objs.size)) (EP X aa σ Q) X.xe {s2 with heap:=s2.heap.push {cls:=.type "slice",data:=.fields #[.none,.none,.int k t]}};refine tail_any (ops:=[.ref p,.ref s2.heap.objs.size]) ht.typeIs AE.lookup (sT ht x9 (by rcases hk.1 with z | z<;>rw[z]<;>decide) (by rcases hk.1 with z | z<;>rw[z]<;>decide) (by rw[aY];exact hk.2) ?_) (by with_unfolding_all rfl);refine⟨.ref _,_,I3.laid (t':=s2.toks) (o:=.tup (ef xs k)) (λb ob q=>bz _ q) (aI _) ?_,rfl,q1.tuple m1 rd' (I3.bJ.fresh (aI _))⟩;exact⟨by rw[UG.length,aY];exact hk.2,_,UG,IsTup.new _ _⟩
 ·exact q1.elim
theorem ku(h:iT e=true)(n:Str)(env:Env)(wh:Sem Value):attributeBase e n env wh=wh:=by
 cases e<;>first | rfl | skip
 rename_i f args gz pos
 cases f<;>first | rfl | skip
 cases args<;>first | rfl | skip
 cases gz<;>first | rfl | exact absurd (show false=true from h) aT
theorem oP{m:Me}{o:C}{cs:List C}{σ:L2.St}{H:Hp}{Q:VK}(q:tE X.K (ev G (.me m o cs)) σ H Q):YG X.K "list" (M_ X.K m) (tE X.K (ev G o)) (HZ X.K (bW G cs)) σ H Q:=by
 obtain⟨ads,M,ρ,s,q⟩:=q;have q:cQ X.K ads H Q ((ev G o ρ M).bind λx M=>if (eX M x).isSome then (bW G cs ρ M).bind λds M=>mL m x ds M else .af):=by simp only[D4]at q;exact q
 refine d4 s q λw M1 v H1 aq s1 mr q1=>?_;split at q1
 ·rename_i hs
  obtain⟨es,he⟩:=uh.mp hs;obtain⟨a,xs,rfl,rd,ha⟩:=lR s1.mem mr he;refine⟨.inl ⟨rfl,xs,fK.of ha⟩,aq,M1,ρ,s1,?_⟩
  cases hq:bW G cs ρ M1 with
  | ok ds M2 =>
   rw[hq]at q1;intro vs H2 bI g2 m2 r2;exact⟨bI,M2,w,ds,m2,g2.rw mr,r2,cQ.shift (o:=mL m w ds M2) q1 g2 s1.mem m2⟩
  | err _ _=>rw[hq]at q1;exact q1
  | af=>rw[hq]at q1;exact q1
 ·exact q1.elim
theorem kK{m:Me}{o:C}{σ:L2.St}{H:Hp}{Q:VK}(q:tE X.K (ev G (.me m o [])) σ H Q):QX X.K "list" (M_ X.K m) (tE X.K (ev G o)) σ H Q:=by
 obtain⟨ads,M,ρ,s,q⟩:=q;have q:cQ X.K ads H Q ((ev G o ρ M).bind λx M=>if (eX M x).isSome then (bW G [] ρ M).bind λds M=>mL m x ds M else .af):=by simp only[D4]at q;exact q
 refine d4 s q λw M1 v H1 aq s1 mr q1=>?_;split at q1
 ·rename_i hs
  obtain⟨es,he⟩:=uh.mp hs;obtain⟨a,xs,rfl,rd,ha⟩:=lR s1.mem mr he;exact⟨.inl ⟨rfl,xs,fK.of ha⟩,aq,M1,w,[],s1.mem,mr,(by unfold aP;rfl),q1⟩
 ·exact q1.elim
theorem Nt(h:c_ cc cs es=true)(hl:es.length<20)(env:Env)(fg:Pos):((backTo fg (starEach es env)).all (λx=>!x.1)&&(backToKw fg (keywordEach [] env)).all (λx=>x.1.isSome)&&decide (es.length+([]:List Keyword).length+(if ([]:List Keyword).isEmpty then 0 else 1)<30))=true:=by
 have h1:=dz h env fg
 have h2:(backTo fg (starEach es env)).all (λx=>!x.1)=true:=by
  rw[CM];intro x hx;rw[Lg]at h1;have:=h1 x hx;simpa using this
 rw[h2];simp[keywordEach,backToKw];omega
theorem Xj{n:Str}(hn:n=Ei m)(hm:RA m=true)(hl:(ap.endLine==cp.line)=true)(h0:iT e=true)(hc:c_ cc cs es=true)(aY:es.length<20)(ho:PE X e (tE X.K (ev G o)))(ha:PA X es (HZ X.K (bW G cs))):PE X (.Call (.Attribute e n ap) es [] cp) (tE X.K (ev G (.me m o cs))):=by
 have hb:=ku h0 n X.env (eval e X.env);subst hn
 cases es with
 | nil =>
  cases cs with
  | cons _ _=>cases hc
  | nil =>
   cases m with
   | append=>exact eV (nZ pW F.slot_list_append F.type_list_append qL ho hb hl) λσ H Q q=>kK q
   | insert=>exact eV (nZ pW F.slot_list_insert F.type_list_insert qN ho hb hl) λσ H Q q=>kK q
   | reverse=>exact eV (nZ pW F.slot_list_reverse F.type_list_reverse oJ ho hb hl) λσ H Q q=>kK q
   | extend=>exact eV (nZ pW GF F.type_list_extend qM ho hb hl) λσ H Q q=>kK q
   | remove=>cases hm
   | pop=>exact eV (nZ pW F.slot_list_pop F.type_list_pop Eb ho hb hl) λσ H Q q=>kK q
   | clear=>cases hm
 | cons e1 es =>
  have eL:aX e1=true/\c_ cc cs.tail es=true:=by
   cases cs with
   | nil=>cases hc
   | cons c cs =>
    have h':(aX e1&&bZ cc c e1&&c_ cc cs es)=true:=hc;simp only[aU]at h';exact⟨h'.1.1,h'.2⟩
  have qc:=Nt hc aY X.env cp
  cases m with
  | append=>exact eV (uT pW F.slot_list_append F.type_list_append qL ho ha hb qc hl (bL eL.1 es X.env) (dz eL.2 X.env cp)) λσ H Q q=>oP q
  | insert=>exact eV (uT pW F.slot_list_insert F.type_list_insert qN ho ha hb qc hl (bL eL.1 es X.env) (dz eL.2 X.env cp)) λσ H Q q=>oP q
  | reverse=>exact eV (uT pW F.slot_list_reverse F.type_list_reverse oJ ho ha hb qc hl (bL eL.1 es X.env) (dz eL.2 X.env cp)) λσ H Q q=>oP q
  | extend=>exact eV (uT pW GF F.type_list_extend qM ho ha hb qc hl (bL eL.1 es X.env) (dz eL.2 X.env cp)) λσ H Q q=>oP q
  | remove=>cases hm
  | pop=>exact eV (uT pW F.slot_list_pop F.type_list_pop Eb ho ha hb qc hl (bL eL.1 es X.env) (dz eL.2 X.env cp)) λσ H Q q=>oP q
  | clear=>cases hm
theorem RV{x:Str}(g:Good kk X cc G)(hg:glob cc x=true)(hp:eh x=true)(hl:cc.gs.lookup x=some v):PE X (.Name x pos) (tE X.K (ev G (.HN x v))):=by
 obtain⟨t,ht⟩:=g.Y0 x v hl;refine eV (GQ (v:=.int v) (g.gl hg) ht ⟨t,rfl⟩ (lT hp).1) λσ H Q q=>?_;obtain⟨ads,M,ρ,s,q⟩:=q;exact cQ.plain q s.mem (dj _)
def RX(K:PySem.W.Frag):R2:=λx y H Q=>∃ads M wx wy,aW K ads H M/\RW K ads H wx x/\RW K ads H wy y/\cQ K ads H Q (mq wx wy M)
theorem Nu(hu:X.A.units+1<cLine):Pp X (RX X.K):=by
 intro value jB aa s σ H x y v u Q I rx ry h hs;obtain⟨ads,M,wx,wy,m,r1,r2,h⟩:=h;unfold mq at h;split at h
 ·rename_i ah k qd qk
  split at h
  ·rename_i d q
   obtain⟨b,rfl,hb⟩:=sF r2 qk;obtain⟨a,ks,rfl,ha,rk⟩:=Kp m r1 qd;obtain⟨z,e2,rz⟩:=rk.find (k:=k) q;cases rx;have g:jT H a (.ref b) (some z):=by have:=Ed ha hb;rw[e2]at this;exact this
   exact tail_any (iP I g) F.slot_dict_getitem.lookup (lC hu I g ry λw' s' I' xp=>⟨z,H,I',xp,h.plain m rz⟩) hs
  ·exact h.elim
 ·exact h.elim
theorem Nv(g:Good kk X cc G)(hs:fv i=true)(ha:PE X e (tE X.K (ev G a)))(hb:PE X i (tE X.K (ev G b))):PE X (.Subscript e i pos) (tE X.K (ev G (.jY a b))):=by
 have MX:=g.room.un;exact eV (Kc (Nu ∅) ha hb (oO hs)) λσ H Q q=>two (λm r1 r2 h=>⟨_,_,_,_,m,r1,r2,h⟩) q
theorem Nw{a:C}{x y:Str}{e:Expr}{p p2 pos Nx:Pos}(g:Good kk X cc G) (hx:x = "sorted") (Xh:glob cc x=true) (hy:y = "set") (Xi:glob cc y=true) (hs:aX e=true) (ha:PE X e (tE X.K (ev G a))):PE X (.Call (.Name x p) [.Call (.Name y p2) [e] [] Nx] [] pos) (tE X.K (ev G (.sset a))):=by
 have gx:=g.gl Xh;have gy:=g.gl Xi;have mx:X.mg x=none:=g.blt x (by subst hx;show _∈cM;decide +kernel);have my:X.mg y=none:=g.blt y (by subst hy;show _∈cM;decide +kernel);subst hx hy;have eL:=bL hs [] X.env;refine eV (fE (xH g.calm) gx mx boot_sorted (eS (gG (BS g.calm) gy my ⋯ (eS ha iL eL) ⋯ ⋯ eL rfl) iL rfl) ⋯ ⋯ rfl rfl) λσ H Q q=>?_;obtain⟨ads,M,ρ,s,q⟩:=q;refine d4 s q λw M1 v H1 aq s1 r1 h1=>?_;unfold oB at h1;split at h1
 ·rename_i ds q1
  split at h1
  ·rename_i is q2
   split at h1
   ·rename_i hb
    obtain⟨a,xs,rfl,rd,sq⟩:=lR s1.mem r1 q1;have ex:=ints_of q2 rd;subst ex;exact⟨a,is,rfl,fK.of sq,hb.1,λl hl=>⟨l,zv is,rfl,bt,Kl is,hb.2,λr hr=>(h1.shift (aJ.gu s1.mem hl) s1.mem (s1.mem.gu hl)).list (s1.mem.gu hl) (sE _) hr⟩⟩
   ·exact h1.elim
  ·exact h1.elim
 ·exact h1.elim
end
section
variable {kk:Nat} {X:Cx} {cc:CC} {G:dN}
structure TF (H H':Hp):Prop where
 tup:Rn H H'
 eQ:∀b o u,H b=some (.eQ o u)->H' b=some (.eQ o u)
theorem TF.jw{K:PySem.W.Frag}{H H':Hp}(t:TF H H'){a:Addr}{xs:List V}(h:vq K H a xs):vq K H' a xs:=by
 rcases h with⟨o,h⟩ | h
 ·exact .inl ⟨o,t.eQ _ _ _ h⟩
 ·exact .inr h
mutual
theorem RD.keep{K:PySem.W.Frag}{ads:List Addr}{H H':Hp}(t:TF H H'):∀(d:D)(v:V),RD K ads H d v->RD K ads H' d v
 | .aR,_,h=>by unfold RD at *;exact h
 | .bl _,_,h=>by unfold RD at *;exact h
 | .int _,_,h=>by unfold RD at *;exact h
 | .str _,_,h=>by unfold RD at *;exact h
 | .aj n,v,h=>by unfold RD at *;exact h
 | .tup ds,v,h=>by unfold RD at *;obtain⟨a,xs,e,h,r⟩:=h;exact⟨a,xs,e,t.tup _ _ h,aP.keep t ds xs r⟩
 | .ls ds,v,h=>by unfold RD at *;obtain⟨a,xs,e,h,r⟩:=h;exact⟨a,xs,e,t.jw h,aP.keep t ds xs r⟩
theorem aP.keep{K:PySem.W.Frag}{ads:List Addr}{H H':Hp}(t:TF H H'):∀(ds:List D)(vs:List V),aP K ads H ds vs->aP K ads H' ds vs
 | [],_,h=>by unfold aP at *;exact h
 | d::ds,vs,h=>by unfold aP at *;obtain⟨x,r,e,h1,h2⟩:=h;exact⟨x,r,e,RD.keep t d x h1,aP.keep t ds r h2⟩
end
theorem cB.keep{κ:Type}{K:PySem.W.Frag}{ads:List Addr}{H H':Hp}(t:TF H H'):∀(ds:List (κ×D))(vs:List (κ×V)),cB K ads H ds vs->cB K ads H' ds vs
 | [],_,h=>by unfold cB at *;exact h
 | d::ds,vs,h=>by unfold cB at *;obtain⟨x,r,e,h0,h1,h2⟩:=h;exact⟨x,r,e,h0,RD.keep t d.2 x.2 h1,cB.keep t ds r h2⟩
theorem aW.keep{K:PySem.W.Frag}{ads:List Addr}{H H':Hp}{M:ak}(m:aW K ads H M)(t:TF H H')(k:∀a∈ads,H' a=H a):aW K ads H' M:=⟨m.nd,m.len,λn o a e1 e2=>by
 have h:=m.obj n o a e1 e2;have ha:=k a (dw e2)
 cases o with
 | lst ds=>obtain⟨xs,h,r⟩:=h;exact⟨xs,ha.trans h,aP.keep t _ _ r⟩
 | jw ds=>obtain⟨o,xs,h,r⟩:=h;exact⟨o,xs,ha.trans h,aP.keep t _ _ r⟩
 | dK ds=>obtain⟨xs,h,r⟩:=h;exact⟨xs,ha.trans h,cB.keep t _ _ r⟩
 | dT ds=>obtain⟨xs,h,r⟩:=h;exact⟨xs,ha.trans h,cB.keep t _ _ r⟩
 | dF ds=>obtain⟨o,xs,h,r⟩:=h;exact⟨o,xs,ha.trans h,cB.keep t _ _ r⟩⟩
theorem kL:∀(ah acc:List (bH×V)),(acc.map (·.1)++ah.map (·.1)).Nodup->gm acc ah=acc++ah
 | [],acc,_=>by simp[gm]
 | p::ps,acc,h=>by
  have hn:¬p.1∈acc.map (·.1):=by
   intro hm;rw[uj]at h;exact h.2.2 _ hm _ (by simp) rfl
  have ha:(acc.any λkv=>decide (kv.1=p.1))=false:=by
   rw[Lg];intro x hx;simp only[rD];exact λe=>hn (e▸List.mem_map_of_mem hx)
  have e:gm acc (p::ps)=gm (acc++[p]) ps:=by
   show gm (eB acc p.1 p.2) ps=_;unfold eB;rw[ha];simp
  rw[e,kL ps (acc++[p]) (by simpa using h)];simp
def lU(K:PySem.W.Frag)(G:dN):List Str->List C->List (TE×TE)
 | k::ks,c::cs=>(tC (.str k),tE K (ev G c))::lU K G ks cs
 | _,_=>[]
theorem oQ{K:PySem.W.Frag}(ks:List Str)(cs:List C):∀t∈lU K G ks cs,(∀σ H A B,(∀v H,A v H->B v H)->t.1 σ H A->t.1 σ H B)/\(∀σ H A B,(∀v H,A v H->B v H)->t.2 σ H A->t.2 σ H B):=by
 intro t ht
 have:∀(ks:List Str)(cs:List C),t∈lU K G ks cs->∃k c,t=(tC (.str k),tE K (ev G c)):=by
  intro ks
  induction ks with
  | nil=>intro cs h;cases cs<;>cases h
  | cons k ks ih =>
   intro cs h
   cases cs with
   | nil=>cases h
   | cons c cs =>
    rcases bU.mp h with z | z
    ·exact⟨k,c,z⟩
    ·exact ih cs z
 obtain⟨k,c,rfl⟩:=this ks cs ht;refine⟨λσ H A B f h=>f _ _ h,λσ H A B f h=>?_⟩;obtain⟨ads,M,ρ,s,q⟩:=h;refine⟨ads,M,ρ,s,?_⟩
 cases hq:ev G c ρ M with
 | ok w M1=>rw[hq]at q;exact λv H' aF g m r=>f _ _ (q v H' aF g m r)
 | err _ _=>rw[hq]at q;exact q
 | af=>rw[hq]at q;exact q
theorem vN{K:PySem.W.Frag}{ρ:En}{σ:L2.St}:∀(ks:List Str)(cs:List C){ads:List Addr}{H:Hp}{M:ak}{R:List V->Hp->Prop},ks.length=cs.length->SR K ads M ρ σ H->vB K ads H R (bW G cs ρ M)->gZ (lU K G ks cs) σ H λps H2=>∃vs,ps=(ks.map V.str).zip vs/\vs.length=ks.length/\R vs H2
 | [],[],ads,H,M,R,_,s,h=>⟨[],rfl,rfl,h [] H ads (aJ.refl _ _) s.mem (by unfold aP;rfl)⟩
 | [],_::_,_,_,_,_,e,_,_=>by cases e
 | _::_,[],_,_,_,_,e,_,_=>by cases e
 | k::ks,c::cs,ads,H,M,R,e,s,h=>by
  show tE K (ev G c) σ H λy H2=>gZ (lU K G ks cs) σ H2 λps H3=>_;refine⟨ads,M,ρ,s,?_⟩;simp only[gK,fy]at h
  cases hq:ev G c ρ M with
  | ok w M1 =>
   rw[hq]at h;intro v H1 aq g1 m1 r1
   cases ho:own w M1 with
   | ok d M2 =>
    have h:vB K ads H R ((own w M1).bind λd M=>(bW G cs ρ M).bind λds M=>.ok (d::ds) M):=h;rw[ho]at h;obtain⟨bI,g2,m2,rd⟩:=sP s.mem g1 m1 r1 ho;have h:vB K ads H R ((bW G cs ρ M2).bind λds M=>.ok (d::ds) M):=h
    have h2:vB K bI H1 (λvs H'=>R (v::vs) H') (bW G cs ρ M2):=by
     cases Em:bW G cs ρ M2 with
     | ok ds M3 =>
      rw[Em]at h;intro vs H3 eF g3 m3 r3;refine h (v::vs) H3 eF (g2.trans g3) m3 ?_;unfold aP;exact⟨v,vs,rfl,g3.rd _ _ rd,r3⟩
     | err _ _=>rw[Em]at h;exact h
     | af=>rw[Em]at h;exact h
    have ih:=vN ks cs (by simpa using e) (s.grow g2 m2) h2
    have mono:∀(p9:List (TE×TE))(H:Hp)(P Q:List (V×V)->Hp->Prop),(∀ps H,P ps H->Q ps H)->(∀t∈p9,(∀σ H A B,(∀v H,A v H->B v H)->t.1 σ H A->t.1 σ H B)/\(∀σ H A B,(∀v H,A v H->B v H)->t.2 σ H A->t.2 σ H B))->gZ p9 σ H P->gZ p9 σ H Q:=by
     intro p9
     induction p9 with
     | nil=>intro H P Q f _ h;exact f _ _ h
     | cons t p9 ih =>
      intro H P Q f hm h;obtain⟨m1,m2⟩:=hm t dC;refine m1 σ H _ _ (λx H1 h1=>m2 σ H1 _ _ (λy H2 h2=>ih H2 _ _ (λps H3 h3=>f _ _ h3) (λt ht=>hm t (dq _ ht)) h2) h1) h
    refine mono _ _ _ _ ?_ ?_ ih
    ·rintro ps H3 ⟨vs,rfl,hl,hR⟩;exact⟨v::vs,rfl,by simp[hl],hR⟩
    ·intro t ht;exact oQ ks cs t ht
   | err _ _=>cases w<;>cases ho
   | af=>cases w<;>cases ho
  | err _ _=>rw[hq]at h;exact h
  | af=>rw[hq]at h;exact h
theorem Es{ks:List Str}  : ∀{keys:List (Option Expr)}{vs:List Expr}{pos:Pos},kH ks keys=true->ks.length=cs.length->c_ cc cs vs=true->(∀c∈cs,∀e,bZ cc c e=true->PE X e (tE X.K (ev G c)))->Pn X pos keys vs (lU X.K G ks cs):=by
 induction ks generalizing cs with
 | nil =>
  intro keys vs pos h1 h2 h3 ih
  cases keys with
  | cons _ _=>cases h1
  | nil =>
   cases cs with
   | cons _ _=>cases h2
   | nil =>
    cases vs with
    | cons _ _=>cases h3
    | nil=>exact G7
 | cons k ks ihk =>
  intro keys vs pos h1 h2 h3 ih
  cases cs with
  | nil=>cases h2
  | cons c cs =>
   cases vs with
   | nil=>cases h3
   | cons e es =>
    have h':(aX e&&bZ cc c e&&c_ cc cs es)=true:=h3;simp only[aU]at h'
    cases keys with
    | nil=>cases h1
    | cons ky keys =>
     cases ky with
     | none=>cases h1
     | some ke =>
      obtain⟨h1,hk⟩:=(aU _ _).mp h1;refine cI (P:=λke=>Pn X pos (some ke::keys) (e::es) _) h1 λcn j p h1=>?_;cases cn<;>first | exact absurd (show false=true from h1) aT | skip
      rename_i st
      obtain rfl:k=st:=eq_of_beq h1;exact Du C4 (ih c dC e h'.1.2) (ihk hk (by simpa using h2) h'.2 λc hc=>ih c (dq _ hc))
theorem kM:∀{ks:List Str}{keys:List (Option Expr)},kH ks keys=true->keys.all (·.isSome)=true/\keys.length=ks.length
 | [],[],_=>⟨rfl,rfl⟩
 | [],_::_,h=>by cases h
 | _::_,[],h=>by cases h
 | k::ks,ky::keys,h=>by
  cases ky with
  | none=>cases h
  | some ke =>
   obtain⟨a,b⟩:=kM ((aU _ _).mp h).2;exact⟨by simp[a],by simp[b]⟩
theorem vO:∀{cs:List C}{es:List Expr},c_ cc cs es=true->cs.length=es.length
 | [],[],_=>rfl
 | [],_::_,h=>by cases h
 | _::_,[],h=>by cases h
 | c::cs,e::es,h=>by
  have h':(aX e&&bZ cc c e&&c_ cc cs es)=true:=h;simp only[aU]at h';simp[vO h'.2]
theorem zJ{α β:Type}:∀(l:List α)(r:List β),l.length=r.length->(l.zip r).map (·.1)=l
 | [],_,_=>by simp
 | a::l,[],h=>by simp at h
 | a::l,b::r,h=>by simp[zJ l r (by simpa using h)]
theorem zK{K:PySem.W.Frag}{ads:List Addr}{H:Hp}:∀(ks:List bH){ds:List D}{vs:List V},aP K ads H ds vs->ks.length=ds.length->cB K ads H (ks.zip ds) (ks.zip vs)
 | [],ds,vs,r,h=>by simp;unfold cB;rfl
 | k::ks,[],vs,r,h=>by simp at h
 | k::ks,d::ds,vs,r,h=>by
  unfold aP at r;obtain⟨x,r',rfl,h1,h2⟩:=r;show cB K ads H ((k,d)::ks.zip ds) ((k,x)::ks.zip r');unfold cB;exact⟨_,_,rfl,rfl,h1,zK ks h2 (by simpa using h)⟩
theorem Ny:PE X (.Dict [] [] pos) (tE X.K (ev G (.u5 [] []))):=by
 refine eV Ds λσ H Q q=>?_;obtain⟨ads,M,ρ,s,q⟩:=q;intro p hp
 have q:cQ X.K ads H Q (.ok (.d (.aj M.length)) (M++[.dK []])):=by
  simp only[xP,gK,fy]at q;exact q
 exact q.MQ s.mem hp (show cB X.K ads H [] [] by unfold cB;rfl)
theorem Nz:PE X (.Dict [] [] pos) (tE X.K (ev G .lI)):=eV Dt λσ H Q q=>by
 obtain⟨ads,M,ρ,s,q⟩:=q;intro p hp;have np:=s.mem.fresh hp;refine q (.ref p) _ (ads++[p]) ?_ ((s.mem.gu (o:=.dT []) hp).push np ⟨[],bt,rfl⟩) ?_
 ·exact⟨⟨[p],rfl⟩,λb hb nb=>by
   rcases cj.mp hb with z | z
   ·exact absurd z nb
   ·rw[gj.mp z];exact hp,λb u n e=>by rw[aC (λz=>by subst z;rw[hp]at e;cases e)];exact e,λb xs e=>by rw[aC (λz=>by subst z;rw[hp]at e;cases e)];exact e,λb u x e=>by rw[aC (λz=>by subst z;rw[hp]at e;cases e)];exact e⟩
 ·show RD X.K (ads++[p]) (upd H p (.dT [])) (.aj M.length) (.ref p);unfold RD;exact⟨p,rfl,by rw[mD (by rw[s.mem.len];exact aI _)];simp[s.mem.len]⟩
theorem RY{ks:List Str}{cs:List C}{keys:List (Option Expr)}{vs:List Expr}{pos:Pos}(h1:kH ks keys=true)(hn:ks.Nodup)(h0:keys≠[])(QS:keys.length<=15)(hc:c_ cc cs vs=true)(hl:ks.length=cs.length)(ih:∀c∈cs,∀e,bZ cc c e=true->PE X e (tE X.K (ev G c))):PE X (.Dict keys vs pos) (tE X.K (ev G (.u5 ks cs))):=by
 obtain⟨k1,k2⟩:=kM h1;refine eV (G8 (Es h1 hl hc ih) k1 (by rw[k2,hl,vO hc]) h0 QS) λσ H Q q=>?_;obtain⟨ads,M,ρ,s,q⟩:=q;intro p hp;have Y2:=s.mem.fresh hp;have g0:aJ ads ads H (upd H p (.dK [])):=aJ.gu s.mem hp;have s0:SR X.K ads M ρ σ (upd H p (.dK [])):=s.grow g0 (s.mem.gu hp);simp only[xP]at q
 have main:vB X.K ads (upd H p (.dK [])) (λvs H2=>H2 p=some (.dK [])/\(vs.length=ks.length->Q (.ref p) (upd H2 p (.dK ((ks.map Sum.inr).zip vs))))) (bW G cs ρ M):=by
  cases hq:bW G cs ρ M with
  | ok ds M1 =>
   rw[hq]at q;have q:cQ X.K ads H Q (if ks.length=ds.length then .ok (.d (.aj M1.length)) (M1++[.dK ((ks.map Sum.inr).zip ds)]) else .af):=q;split at q
   ·rename_i PB
    intro vs H2 bI g2 m2 r2;have e2:H2 p=some (.dK []):=g2.kept p _ Y2 bt;refine⟨e2,λUL=>?_⟩;have Y3:p∉bI:=g2.eN Y2 bt;have tk:TF H2 (upd H2 p (.dK ((ks.map Sum.inr).zip vs))):=⟨λb xs h=>by rw[aC (λz=>by subst z;rw[e2]at h;cases h)];exact h,λb o u h=>by rw[aC (λz=>by subst z;rw[e2]at h;cases h)];exact h⟩;have m3:aW X.K bI (upd H2 p (.dK ((ks.map Sum.inr).zip vs))) M1:=m2.keep tk λa ha=>aC (λz=>by subst z;exact Y3 ha);have r3:=aP.keep (K:=X.K) (ads:=bI) tk _ _ r2;have m4:=m3.push (o:=.dK ((ks.map Sum.inr).zip ds)) Y3 ⟨_,bt,zK (ks.map Sum.inr) r3 (by simpa using PB)⟩;obtain⟨t,et⟩:=g2.pre;refine q (.ref p) _ (bI++[p]) ⟨⟨t++[p],by rw[et,rC]⟩,λb hb nb=>?_,λb x nb h=>?_,λb xs h=>?_,λb o u h=>?_⟩ m4 ?_
    ·rcases cj.mp hb with z | z
     ·have:=g2.new b z nb;by_cases Et:b=p
      ·subst Et;exact hp
      ·rw[aC Et]at this;exact this
     ·have:b=p:=by simpa using z
      subst this;exact hp
    ·have Et:b≠p:=λz=>by subst z;rw[hp]at h;cases h
     rw[aC Et];exact g2.kept b x nb (by rw[aC Et];exact h)
    ·have Et:b≠p:=λz=>by subst z;rw[hp]at h;cases h
     rw[aC Et];exact g2.iu b xs (by rw[aC Et];exact h)
    ·have Et:b≠p:=λz=>by subst z;rw[hp]at h;cases h
     rw[aC Et];exact g2.eQ b o u (by rw[aC Et];exact h)
    ·show RD X.K (bI++[p]) (upd H2 p (.dK ((ks.map Sum.inr).zip vs))) (.aj M1.length) (.ref p);unfold RD;exact⟨p,rfl,by rw[mD (by rw[m2.len];exact aI _)];simp[m2.len]⟩
   ·exact q.elim
  | err _ _=>rw[hq]at q;exact q
  | af=>rw[hq]at q;exact q
 have h:=vN ks cs hl s0 main
 have mono:∀(p9:List (TE×TE))(H:Hp)(P Q:List (V×V)->Hp->Prop),(∀ps H,P ps H->Q ps H)->(∀t∈p9,(∀σ H A B,(∀v H,A v H->B v H)->t.1 σ H A->t.1 σ H B)/\(∀σ H A B,(∀v H,A v H->B v H)->t.2 σ H A->t.2 σ H B))->gZ p9 σ H P->gZ p9 σ H Q:=by
  intro p9
  induction p9 with
  | nil=>intro H P Q f _ h;exact f _ _ h
  | cons t p9 ih =>
   intro H P Q f hm h;obtain⟨m1,m2⟩:=hm t dC;refine m1 σ H _ _ (λx H1 h1=>m2 σ H1 _ _ (λy H2 h2=>ih H2 _ _ (λps H3 h3=>f _ _ h3) (λt ht=>hm t (dq _ ht)) h2) h1) h
 refine mono _ _ _ _ ?_ (oQ ks cs) h;rintro ps H2 ⟨vs,rfl,UL,e2,hQ⟩;refine⟨e2,(ks.map Sum.inr).zip vs,?_,?_,?_⟩
 ·rw[List.zip_map_left,List.zip_map_left,AW];rfl
 ·rw[List.length_zip,aB,UL];omega
 ·have hnd:((([]:List (bH×V)).map (·.1))++((ks.map (Sum.inr (α:=Int))).zip vs).map (·.1)).Nodup:=by
   rw[zJ _ _ (by rw[aB];exact UL.symm)];simp only[pZ,List.nil_append];exact List.Pairwise.map _ (λa b PC z=>PC (Sum.inr.inj z)) hn
  rw[kL _ _ hnd];exact hQ UL
end
def Kx(K:PySem.W.Frag)(ads:List Addr)(H:Hp)(it:Ev.It)(J:L2.It):Prop :=
 ∀(i:Nat)(aq:List Addr)(H1:Hp)(M1:ak),aJ ads aq H H1->aW K aq H1 M1 ->
  (itemAt M1 i it=some none->J.stop i H1) /\
  (∀d,itemAt M1 i it=some (some d)->J.go i H1/\∀x H2,J.Pl i H1 x H2->aJ aq aq H1 H2/\aW K aq H2 M1/\RD K aq H2 d x)
def iU(K:PySem.W.Frag)(ads:List Addr)(H:Hp)(R:L2.It->Hp->Prop):cK Ev.It->Prop
 | .ok it M=>∀J H' aF,aJ ads aF H H'->aW K aF H' M->Kx K aF H' it J->R J H'
 | _=>False
def tI(K:PySem.W.Frag)(o:En->ak->cK Ev.It):TI:=λσ H R=>∃ads M ρ,SR K ads M ρ σ H/\iU K ads H R (o ρ M)
def dm(G:dN)(k:SK)(ee:List C)(ρ:En)(M:ak):cK Ev.It:=(dE G ee ρ M).bind λws M=>iB k ws M
section
variable {K:PySem.W.Frag} {ads:List Addr} {H:Hp} {M:ak}
theorem zL(lo:Int)(n:Nat):Kx K ads H (.lx lo n) (Qx lo n):=by
 intro i aq H1 M1 g1 m1;refine⟨λe=>?_,λd e=>?_⟩
 ·by_cases h:i<n
  ·simp[itemAt,h]at e
  ·exact Nat.not_lt.mp h
 ·by_cases h:i<n
  ·simp only[itemAt,aw h,wW]at e;subst e;refine⟨h,λx H2 y=>?_⟩;obtain⟨rfl,rfl⟩:=y;exact⟨aJ.refl _ _,m1,dj _⟩
  ·simp[itemAt,h]at e
theorem oR(h:∀(i:Nat)(aq:List Addr)(H1:Hp)(M1:ak),aJ ads aq H H1->aW K aq H1 M1->∀o,itemAt M1 i it=some o->∃ds xs,o=ds[i]?/\aP K aq H1 ds xs/\fK K H1 a xs):Kx K ads H it (V1 K a):=by
 intro i aq H1 M1 g1 m1;refine⟨λe=>?_,λd e=>?_⟩
 ·obtain⟨ds,xs,e2,rd,sq⟩:=h i aq H1 M1 g1 m1 _ e;refine⟨xs,sq,?_⟩;rw[<- rd.len];exact AF.mp e2.symm
 ·obtain⟨ds,xs,e2,rd,sq⟩:=h i aq H1 M1 g1 m1 _ e;obtain⟨v,ev,rv⟩:=rd.get e2.symm;refine⟨⟨xs,v,sq,ev⟩,λx H2 y=>?_⟩;obtain⟨rfl,y⟩:=y;have:=y xs sq;rw[ev]at this;cases this;exact⟨aJ.refl _ _,m1,rv⟩
theorem IC(ha:H a=some (.tup xs))(rd:aP K ads H ds xs):Kx K ads H (.items ds) (V2 K a):=by
 intro i aq H1 M1 g1 m1;have sq:gE K H1 a xs:=gE.of (g1.iu _ _ ha);have rd1:=g1.qJ _ _ rd;refine⟨λe=>?_,λd e=>?_⟩
 ·refine⟨xs,sq,?_⟩;rw[<- rd.len];exact AF.mp (cg e)
 ·obtain⟨v,ev,rv⟩:=rd1.get (cg e);refine⟨⟨xs,v,sq,ev⟩,λx H2 y=>?_⟩;obtain⟨rfl,y⟩:=y;have:=y xs sq;rw[ev]at this;cases this;exact⟨aJ.refl _ _,m1,rv⟩
end
theorem zM{K:PySem.W.Frag}{ads:List Addr}{H:Hp}{M:ak}{n:Nat}{v:V}{p:Bool×List D}(m:aW K ads H M)(r:RD K ads H (.aj n) v)(hp:bT M (.d (.aj n))=some p):∃a,v=.ref a/\∃xs,fK K H a xs:=by
 obtain⟨l,ds⟩:=p;obtain⟨a,xs,e,rd,sq⟩:=eY (w:=.d (.aj n)) m r hp;rcases sq with⟨_,sq⟩|⟨hl,_⟩
 ·exact⟨a,e,xs,sq⟩
 ·simp only[bT]at hp;split at hp
  ·cases hp;cases hl
  ·cases hp;cases hl
  ·cases hp
theorem vP{K:PySem.W.Frag}{ads bI:List Addr}{H H2:Hp}{M2:ak}{n i:Nat}{a:Addr}{o:Option D}(r:RD K ads H (.aj n) (.ref a))(g2:aJ ads bI H H2)(m2:aW K bI H2 M2)(e:itemAt M2 i (.at n)=some o):∃ds xs,o=ds[i]?/\aP K bI H2 ds xs/\fK K H2 a xs:=by
 unfold RD at r;obtain⟨b,eb,ea⟩:=r;cases eb;have Y4:=g2.get ea;simp only[itemAt]at e;split at e
 ·rename_i ds q
  obtain⟨xs,h,rd⟩:=m2.obj n _ a q Y4;exact⟨ds,xs,(cg e).symm,rd,fK.of h⟩
 ·rename_i ds q
  obtain⟨o,xs,h,rd⟩:=m2.obj n _ a q Y4;exact⟨ds,xs,(cg e).symm,rd,.inl (.inr ⟨o,h⟩)⟩
 ·cases e
section
variable {kk:Nat} {X:Cx} {cc:CC} {G:dN} {tg:Expr} {K:PySem.W.Frag} {ads:List Addr} {H:Hp}
theorem UM(h:PI X tg aQ t)(f:∀σ H R,u σ H R->t σ H R):PI X tg aQ u:=λaa s σ H R I q=>h aa s σ H R I (f σ H R q)
theorem ID(he:PE X aQ (tE X.K (ev G c))):PI X tg aQ (tI X.K (dm G .seq [c])):=by
 intro aa s σ H R I q;obtain⟨ads,M,ρ,sr,q⟩:=q;simp only[dm,dE]at q
 cases hq:ev G c ρ M with
 | ok w M1 =>
  rw[hq]at q;have q:iU X.K ads H R (iB .seq [w] M1):=q
  cases w with
  | lv ds =>
   have q:iU X.K ads H R (.ok (.items ds) M1):=q;refine rS he aa s σ H R I ⟨ads,M,ρ,sr,?_⟩;rw[hq];intro v H1 aq g1 m1 r1;obtain⟨a,xs,rfl,h0,h1,n,rd⟩:=r1;refine⟨a,rfl,⟨xs,fK.of h1⟩,q _ H1 aq g1 m1 (oR λi bI H2 M2 g2 m2 o e=>?_)⟩;exact⟨ds,xs,(cg e).symm,g2.qJ _ _ rd,fK.of (g2.kept a _ n h1)⟩
  | d x =>
   cases x with
   | tup ds =>
    have q:iU X.K ads H R (.ok (.items ds) M1):=q;refine LM he aa s σ H R I ⟨ads,M,ρ,sr,?_⟩;rw[hq];intro v H1 aq g1 m1 r1;have r1:RD X.K aq H1 (.tup ds) v:=r1;unfold RD at r1;obtain⟨a,xs,rfl,h1,rd⟩:=r1;exact⟨a,rfl,⟨xs,gE.of h1⟩,q _ H1 aq g1 m1 (IC h1 rd)⟩
   | ls ds =>
    have q:iU X.K ads H R (.ok (.items ds) M1):=q;refine rS he aa s σ H R I ⟨ads,M,ρ,sr,?_⟩;rw[hq];intro v H1 aq g1 m1 r1;have r1:RD X.K aq H1 (.ls ds) v:=r1;unfold RD at r1;obtain⟨a,xs,rfl,h1,rd⟩:=r1;refine⟨a,rfl,⟨xs,h1.sq⟩,q _ H1 aq g1 m1 (oR λi bI H2 M2 g2 m2 o e=>?_)⟩;exact⟨ds,xs,(cg e).symm,g2.qJ _ _ rd,(g2.jw h1).sq⟩
   | aj n =>
    have q:iU X.K ads H R (if (bT M1 (.d (.aj n))).isSome then .ok (.at n) M1 else .af):=q;split at q
    ·rename_i hs
     obtain⟨p,hp⟩:=uh.mp hs;refine rS he aa s σ H R I ⟨ads,M,ρ,sr,?_⟩;rw[hq];intro v H1 aq g1 m1 r1;obtain⟨a,ea,sq⟩:=zM m1 r1 hp;subst ea;exact⟨a,rfl,sq,q _ H1 aq g1 m1 (oR λi bI H2 M2 g2 m2 o e=>vP r1 g2 m2 e)⟩
    ·exact q.elim
   | aR=>exact q.elim
   | bl _=>exact q.elim
   | int _=>exact q.elim
   | str _=>exact q.elim
 | err _ _=>rw[hq]at q;exact q.elim
 | af=>rw[hq]at q;exact q.elim
theorem Eu{c:C}{a:Expr}{x:Str}{p pos:Pos}(g:Good kk X cc G) (hx:x = "range") (hg:glob cc x=true) (hs:aX a=true) (he:PE X a (tE X.K (ev G c))):PI X tg (.Call (.Name x p) [a] [] pos) (tI X.K (dm G .eK [c])):=by
 have vM:=g.gl hg;have hm:X.mg x=none:=g.blt x (by subst hx;show _∈cM;decide +kernel);subst hx;refine UM (Bf vM hm (eS he iL (bL hs [] X.env)) (bL hs [] X.env)) λσ H R q=>?_;obtain⟨ads,M,ρ,s,q⟩:=q;simp only[dm,dE]at q;refine⟨ads,M,ρ,s,?_⟩
 cases hq:ev G c ρ M with
 | ok w M1 =>
  rw[hq]at q;have q:iU X.K ads H R (iB .eK [w] M1):=q;intro v H1 aq g1 m1 r1;rcases w with⟨_|_ | j | _|_|_⟩|_<;>first | exact q.elim | skip
  have q:iU X.K ads H R (if -(2 ^ 62)<=j/\j<2 ^ 62 then .ok (.lx 0 j.toNat) M1 else .af):=q;split at q
  ·rename_i hj
   exact⟨j,by rw[aZ r1],hj.1,hj.2,q _ H1 aq g1 m1 (zL _ _)⟩
  ·exact q.elim
 | err _ _=>rw[hq]at q;exact q.elim
 | af=>rw[hq]at q;exact q.elim
theorem Ew{c d:C}{a b:Expr}{x:Str}{p pos:Pos}(g:Good kk X cc G) (hx:x = "range") (hg:glob cc x=true) (hs:aX a=true) (y3:aX b=true) (he:PE X a (tE X.K (ev G c))) (hd:PE X b (tE X.K (ev G d))):PI X tg (.Call (.Name x p) [a,b] [] pos) (tI X.K (dm G .qf [c,d])):=by
 have vM:=g.gl hg;have hm:X.mg x=none:=g.blt x (by subst hx;show _∈cM;decide +kernel);subst hx;refine UM (Bg vM hm (eS he (eS hd iL (bL y3 [] X.env)) (bL hs [b] X.env)) (by rw[bL hs,bL y3];rfl) (bL y3 [] X.env)) λσ H R q=>?_;obtain⟨ads,M,ρ,s,q⟩:=q;simp only[dm,dE]at q;refine⟨ads,M,ρ,s,?_⟩
 cases hq:ev G c ρ M with
 | ok w M1 =>
  rw[hq]at q;intro v H1 aq g1 m1 r1;have s1:=s.grow g1 m1;refine⟨aq,M1,ρ,s1,?_⟩;simp only[cK.bind]at q
  cases Np:ev G d ρ M1 with
  | ok w2 M2 =>
   rw[Np]at q;have q:iU X.K ads H R (iB .qf [w,w2] M2):=q;intro v2 H2 bI g2 m2 r2;rcases w with⟨_|_ | i | _|_|_⟩|_<;>first | exact q.elim | skip
   rcases w2 with⟨_|_ | j | _|_|_⟩|_<;>first | exact q.elim | skip
   have q:iU X.K ads H R (if -(2 ^ 62)<=i/\i<2 ^ 62/\-(2 ^ 62)<=j/\j<2 ^ 62 then .ok (.lx i (j-i).toNat) M2 else .af):=q;split at q
   ·rename_i hj
    exact⟨i,j,by rw[aZ r1,aZ r2],hj,q _ H2 bI (g1.trans g2) m2 (zL _ _)⟩
   ·exact q.elim
  | err _ _=>rw[Np]at q;exact q.elim
  | af=>rw[Np]at q;exact q.elim
 | err _ _=>rw[hq]at q;exact q.elim
 | af=>rw[hq]at q;exact q.elim
theorem cB.Y5{κ:Type}  : ∀{ah:List (κ×D)}{ks:List (κ×V)}{i:Nat}{p:κ×D}{x:κ×V},cB K ads H ah ks->ah[i]?=some p->ks[i]?=some x->RD K ads H p.2 x.2
 | p::ah,_,i,_,_,r,e1,e2=>by
  unfold cB at r;obtain⟨x,r',rfl,_,h1,h2⟩:=r
  cases i with
  | zero=>cases e1;cases e2;exact h1
  | succ i=>exact cB.Y5 (i:=i) h2 e1 e2
theorem vQ(hk:H a=some (.eQ o (.dT ks)))(rk:cB K ads H ah ks):Kx K ads H (.items (ah.map (·.2))) (Pu a o ks):=by
 intro i aq H1 M1 g1 m1;have h1:=g1.eQ _ _ _ hk;have hl:=rk.len
 have e0:itemAt M1 i (.items (ah.map (·.2)))=some ((ah[i]?).map (·.2)):=by
  show some ((ah.map (·.2))[i]?)=_;rw[bj]
 rw[e0];refine⟨λe=>⟨h1,?_⟩,λd e=>?_⟩
 ·have e:(ah[i]?).map (·.2)=none:=cg e;have:=AF.mp (Option.map_eq_none_iff.mp e);omega
 ·obtain⟨p,hp,rfl⟩:=Option.map_eq_some_iff.mp (cg e);have hi:=(bq.mp hp).1;refine⟨⟨h1,∅⟩,λx H2 y=>?_⟩;obtain⟨rfl,k,hkv⟩:=y;exact⟨aJ.refl _ _,m1,(g1.BU _ _ rk).Y5 hp hkv⟩
theorem Ey{c:C}{o:Expr}{ap cp:Pos}(he:PE X o (tE X.K (ev G c)))(hb:iT o=true)(hl:(ap.endLine==cp.line)=true):PI X tg (.Call (.Attribute o "values" ap) [] [] cp) (tI X.K (dm G .vals [c])):=by
 refine UM (HD he (ku hb _ X.env (eval o X.env)) hl) λσ H R q=>?_;obtain⟨ads,M,ρ,s,q⟩:=q;simp only[dm,dE]at q;refine⟨ads,M,ρ,s,?_⟩
 cases hq:ev G c ρ M with
 | ok w M1 =>
  rw[hq]at q;have q:iU X.K ads H R (iB .vals [w] M1):=q;intro v H1 aq g1 m1 r1;rcases w with⟨_|_|_|_|_ | n | _⟩|_<;>first | exact q.elim | skip
  have r1:RD X.K aq H1 (.aj n) v:=r1;unfold RD at r1;obtain⟨a,rfl,ea⟩:=r1
  have q:iU X.K ads H R (match M1[n]? with
   | some (.dT ah)=>.ok (.items (ah.map (·.2))) (M1.set n (.dF ah))
   | some (.dF ah)=>.ok (.items (ah.map (·.2))) M1
   | _=>.af):=q
  cases qm:M1[n]? with
  | none=>rw[qm]at q;exact q.elim
  | some ob =>
   rw[qm]at q
   cases ob with
   | dT ah =>
    obtain⟨ks,hk,rk⟩:=m1.obj n _ a qm ea;have nf:∀o x,H1 a≠some (.eQ o x):=λo x z=>by rw[hk]at z;cases z
    refine⟨a,ks,rfl,.inl ⟨hk,λo=>?_⟩⟩;have u6:a∈aq:=dw ea
    have hg:aJ aq aq H1 (upd H1 a (.eQ o (.dT ks))):=⟨⟨[],by simp⟩,λb h n=>absurd h n,λb x nb h=>by rw[aC (by intro z;subst z;exact nb u6)];exact h,λb xs h=>by
     rw[aC (λz=>by subst z;rw[hk]at h;cases h)];exact h,λb o u h=>by rw[aC (λz=>by subst z;exact nf _ _ h)];exact h⟩
    obtain⟨g',m'⟩:=m1.write (o:=.dF ah) (ho:=.eQ o (.dT ks)) qm ea nf ⟨o,ks,bt,hg.BU _ _ rk⟩;exact q _ _ aq (g1.trans hg) m' (vQ bt (hg.BU _ _ rk))
   | dF ah =>
    obtain⟨o,ks,hk,rk⟩:=m1.obj n _ a qm ea;exact⟨a,ks,rfl,.inr ⟨o,hk,q _ H1 aq g1 m1 (vQ hk rk)⟩⟩
   | lst _=>exact q.elim
   | jw _=>exact q.elim
   | dK _=>exact q.elim
 | err _ _=>rw[hq]at q;exact q.elim
 | af=>rw[hq]at q;exact q.elim
theorem kN(h:∀(i:Nat)(aq:List Addr)(H1:Hp)(M1:ak),aJ ads aq H H1->aW K aq H1 M1->∀o,itemAt M1 i it=some o->∃ds xs,o=(ds[i]?.map λd=>D.tup [.int i,d])/\aP K aq H1 ds xs/\Pr K H1 l a xs):Kx K ads H it (UB K l a):=by
 intro i aq H1 M1 g1 m1;refine⟨λe=>?_,λd e=>?_⟩
 ·obtain⟨ds,xs,e2,rd,sq⟩:=h i aq H1 M1 g1 m1 _ e;refine⟨xs,sq,?_⟩;rw[<- rd.len]
  cases q:ds[i]? with
  | none=>exact AF.mp q
  | some d=>rw[q]at e2;cases e2
 ·obtain⟨ds,xs,e2,rd,sq⟩:=h i aq H1 M1 g1 m1 _ e
  cases q:ds[i]? with
  | none=>rw[q]at e2;cases e2
  | some d' =>
   rw[q]at e2;cases e2;obtain⟨v,ev,rv⟩:=rd.get q;refine⟨⟨xs,v,sq,ev⟩,λx H2 y=>?_⟩;obtain⟨p,y,rfl,hp,rfl,xq⟩:=y;have:=xq xs sq;rw[ev]at this;cases this;refine⟨aJ.gu m1 hp,m1.gu hp,?_⟩;have g2:=aJ.gu (o:=.tup [.int i,v]) m1 hp;unfold RD;refine⟨p,_,rfl,bt,?_⟩;unfold aP;exact⟨.int i,[v],rfl,dj _,.one (g2.rd _ _ rv)⟩
theorem Ez{c:C}{a t:Expr}{x:Str}{p pos:Pos}(g:Good kk X cc G) (hx:x = "enumerate") (ht:jc t=true) (hg:glob cc x=true) (hs:aX a=true) (he:PE X a (tE X.K (ev G c))):PI X t (.Call (.Name x p) [a] [] pos) (tI X.K (dm G .enum [c])):=by
 have vM:=g.gl hg;have hm:X.mg x=none:=g.blt x (by subst hx;show _∈cM;decide +kernel);subst hx;cases t<;>first | cases ht | skip
 refine UM (Hy vM hm (eS he iL (bL hs [] X.env)) (bL hs [] X.env)) λσ H R q=>?_;obtain⟨ads,M,ρ,s,q⟩:=q;simp only[dm,dE]at q;refine⟨ads,M,ρ,s,?_⟩
 cases hq:ev G c ρ M with
 | ok w M1 =>
  rw[hq]at q;have q:iU X.K ads H R (iB .enum [w] M1):=q;intro v H1 aq g1 m1 r1;rcases w with⟨_|_|_|_ | ds | n | ds⟩ | ds<;>first | exact q.elim | skip
  ·have q:iU X.K ads H R (.ok (.iR ds) M1):=q;have r1:RD X.K aq H1 (.tup ds) v:=r1;unfold RD at r1;obtain⟨b,xs,rfl,h1,rd⟩:=r1;refine⟨false,b,rfl,⟨xs,gE.of h1⟩,q _ H1 aq g1 m1 (kN λi bI H2 M2 g2 m2 o e=>⟨ds,xs,(cg e).symm,g2.qJ _ _ rd,gE.of (g2.iu _ _ h1)⟩)⟩
  ·have q:iU X.K ads H R (if (bT M1 (.d (.aj n))).isSome then .ok (.jZ n) M1 else .af):=q;split at q
   ·rename_i hs
    obtain⟨p,hp⟩:=uh.mp hs;obtain⟨b,ea,sq⟩:=zM m1 r1 hp;subst ea;refine⟨true,b,rfl,sq,q _ H1 aq g1 m1 (kN λi bI H2 M2 g2 m2 o e=>?_)⟩
    have e':∃o',itemAt M2 i (.at n)=some o'/\o=o'.map λd=>D.tup [.int i,d]:=by
     simp only[itemAt]at e⊢;split at e
     ·exact⟨_,rfl,(cg e).symm⟩
     ·exact⟨_,rfl,(cg e).symm⟩
     ·cases e
    obtain⟨o',e1,e2⟩:=e';obtain⟨ds,xs,e3,rd,sq2⟩:=vP r1 g2 m2 e1;exact⟨ds,xs,by rw[e2,e3],rd,sq2⟩
   ·exact q.elim
  ·have q:iU X.K ads H R (.ok (.iR ds) M1):=q;have r1:RD X.K aq H1 (.ls ds) v:=r1;unfold RD at r1;obtain⟨b,xs,rfl,h1,rd⟩:=r1;exact⟨true,b,rfl,⟨xs,h1.sq⟩,q _ H1 aq g1 m1 (kN λi bI H2 M2 g2 m2 o e=>⟨ds,xs,(cg e).symm,g2.qJ _ _ rd,(g2.jw h1).sq⟩)⟩
  ·have q:iU X.K ads H R (.ok (.iR ds) M1):=q;obtain⟨b,xs,rfl,h0,h1,n,rd⟩:=r1;exact⟨true,b,rfl,⟨xs,fK.of h1⟩,q _ H1 aq g1 m1 (kN λi bI H2 M2 g2 m2 o e=>⟨ds,xs,(cg e).symm,g2.qJ _ _ rd,fK.of (g2.kept b _ n h1)⟩)⟩
 | err _ _=>rw[hq]at q;exact q.elim
 | af=>rw[hq]at q;exact q.elim
end
def tG(K:PySem.W.Frag)(tg:List Nat):TG:=λv σ H Q=>∃ads M ρ d,SR K ads M ρ σ H/\RD K ads H d v/\∃ez,b_ tg d ρ=some ez/\∀cU,SR K ads M ez cU H->Q cU H
theorem SR.set{K:PySem.W.Frag}{ads:List Addr}{M:ak}{ρ:En}{σ:L2.St}{H:Hp}(s:SR K ads M ρ σ H)(i:Nat){d:D}{v:V}(r:RD K ads H d v):SR K ads M (ρ.set i (some d)) (σ.set i (some v)) H :=
 ⟨s.mem,λj d' e=>by
  by_cases h:i=j
  ·subst h
   have hl:i<ρ.length:=by
    have:=(bq.mp e).1;simpa using this
   rw[pS hl]at e;cases e;exact⟨v,by rw[pS (by rw[<- s.ln];exact hl)],r⟩
  ·rw[pU h]at e⊢;exact s.en j d' e,by simp[s.ln]⟩
def gN:List Nat->Ph
 | []=>Qv
 | i::r=>J6 (J5 i) (gN r)
section
variable {kk:Nat} {X:Cx} {cc:CC} {G:dN}
theorem Good.nm(g:Good kk X cc G){x:Str}(h:(cc.names.lookup x==some .local||cc.names.lookup x==some .cell)=true):Loc X.env.scope x/\(X.fn x=true\/X.env.scope.names.lookup x=some .local):=by
 rw[AU]at h;rcases h with h | h
 ·have h:=eq_of_beq h;exact⟨.inl (g.kinds x _ h),.inr (g.kinds x _ h)⟩
 ·have h:=eq_of_beq h;exact⟨.inr (g.kinds x _ h),.inl (g.fnc x h)⟩
theorem zN(g:Good kk X cc G):∀(tg:List Nat)(es:List Expr),kI cc tg es=true->Pj X es (gN tg)/\es.length=tg.length/\(assignEach es X.env).length=tg.length/\(assignEach es X.env).findIdx? (·.1)=none
 | [],[],_=>⟨GZ,rfl,rfl,rfl⟩
 | [],_::_,h=>by cases h
 | _::_,[],h=>by cases h
 | i::tg,e::es,h=>by
  obtain⟨h,h3⟩:=(aU _ _).mp h;obtain⟨ih,l1,l2,l3⟩:=zN g tg es h3;refine bX (P:=λe=>Pj X (e::es) (gN (i::tg))/\(e::es).length=(i::tg).length/\(assignEach (e::es) X.env).length=(i::tg).length/\(assignEach (e::es) X.env).findIdx? (·.1)=none) h λx p h=>?_;obtain⟨h1,h2⟩:=(aU _ _).mp h;obtain⟨n1,n2⟩:=g.nm h2;refine⟨C_ (rQ (by rw[g.N];exact g.nd) (by rw[g.N];exact eq_of_beq h1) n1 n2) ih,by simp[l1],?_,?_⟩
  ·show(assignEach es X.env).length+1=_;rw[l2];rfl
  ·show List.findIdx? _ ((false,_)::assignEach es X.env)=none;rw[List.findIdx?_cons];simp only[CH,nN];rw[l3];rfl
theorem Ky{K:PySem.W.Frag}{ads:List Addr}{M:ak}{H:Hp}{Q:L2.St->Hp->Prop}{ez:En}(hQ:∀cU,SR K ads M ez cU H->Q cU H):∀(tg:List Nat)(ds:List D)(xs:List V)(ρ:En)(σ:L2.St),SR K ads M ρ σ H->aP K ads H ds xs->eD tg ds ρ=some ez->gN tg xs σ H Q
 | [],[],xs,ρ,σ,s,r,e=>by
  unfold aP at r;subst r;cases e;exact⟨rfl,hQ σ s⟩
 | [],_::_,_,_,_,_,_,e=>by cases e
 | _::_,[],_,_,_,_,_,e=>by cases e
 | i::tg,d::ds,xs,ρ,σ,s,r,e=>by
  unfold aP at r;obtain⟨x,r',rfl,h1,h2⟩:=r;exact⟨x,r',rfl,Ky hQ tg ds r' _ _ (s.set i h1) h2 e⟩
theorem oS:∀(tg:List Nat)(ds:List D)(ρ ez:En),eD tg ds ρ=some ez->ds.length=tg.length
 | [],[],_,_,_=>rfl
 | [],_::_,_,_,e=>by cases e
 | _::_,[],_,_,e=>by cases e
 | i::tg,d::ds,ρ,ez,e=>by simp[oS tg ds _ ez e]
theorem kO(g:Good kk X cc G)(h:jK cc tg t=true):PG X t (tG X.K tg):=by
 rcases tg with _|⟨i,_|⟨j,tl⟩⟩
 ·exact absurd h aT
 ·refine bX (P:=λt=>PG X t _) ((aU _ _).mp h).1 λx p h=>?_;obtain⟨h1,h2⟩:=(aU _ _).mp h;obtain⟨n1,n2⟩:=g.nm h2;intro aa s σ H v u Q I r q;refine rQ (by rw[g.N];exact g.nd) (by rw[g.N];exact eq_of_beq h1) n1 n2 aa s σ H v u Q I r ?_;obtain⟨ads,M,ρ,d,sr,rd,ez,e,hQ⟩:=q;cases e;exact hQ _ (sr.set i rd)
 ·refine j6 (P:=λt=>PG X t _) h λes kq p h=>?_;obtain⟨a,l1,l2,l3⟩:=zN g (i::j::tl) es ((aU _ _).mp h).1;intro aa s σ H v u Q I r q;refine LK (pos:=p) (k:=kq) g.calm a l2 l3 aa s σ H v u Q I r ?_;obtain⟨ads,M,ρ,d,sr,rd,ez,e,hQ⟩:=q
  have e':∃ds,d=.tup ds/\eD (i::j::tl) ds ρ=some ez:=by
   cases d<;>first | cases e | exact⟨_,rfl,e⟩
  obtain⟨ds,rfl,e2⟩:=e';unfold RD at rd;obtain⟨b,xs,rfl,hb,rd⟩:=rd;exact⟨b,xs,rfl,gE.of hb,by rw[<- rd.len,oS _ ds ρ ez e2],Ky hQ _ ds xs ρ σ sr rd e2⟩
end
theorem j8 : ∀ (names : List (Str × NameKind)) (acc : List (Str × Addr)), (∀ y ∈ names, y.2 = .free -> ∃ c, env.cells.lookup y.1 = some c) -> (∀ x c, acc.lookup x = some c -> env.cells.lookup x = some c) ->
    ∃cl,(forIn names acc λ(x:Str×NameKind) (r:List (Str×Addr))=>(match x with | (name,kind)=>if (kind==NameKind.free)=true then do let a <- cellOf env name;pure (ForInStep.yield ((name,a)::r)) else pure (ForInStep.yield r):Sem (ForInStep (List (Str×Addr)))))=pure cl /\
      (∀x c,cl.lookup x=some c->env.cells.lookup x=some c)/\(∀x,(acc.lookup x).isSome=true->(cl.lookup x).isSome=true)/\∀y∈names,y.2=.free->(cl.lookup y.1).isSome=true
  | [],acc,_,h=>⟨acc,rfl,h,λ_ q=>q,λy hy=>by cases hy⟩
  | (n,k)::r,acc,hn,h=>by
    by_cases hk:k=.free
    · subst hk;obtain⟨c,hc⟩:=hn (n,.free) dC rfl
      have h2:∀x c',((n,c)::acc).lookup x=some c'->env.cells.lookup x=some c':=λx c' e=>by
        rw[iq]at e;by_cases hx:x=n
        · subst hx;simp at e;rw[<- e];exact hc
        · have:(x==n)=false:=pV.mpr hx;rw[this]at e;exact h x c' e
      obtain⟨cl,e1,e2,e3,e4⟩:=j8 r ((n,c)::acc) (λy hy=>hn y (dq _ hy)) h2;refine⟨cl,?_,e2,λx q=>e3 x ?_,λy hy hf=>?_⟩
      · rw[List.forIn_cons];have:cellOf env n=pure c:=by unfold cellOf;rw[hc]
        simp only[beq_self_eq_true,eP,this];exact e1
      · rw[iq];by_cases hx:(x==n)=true
        · simp[hx]
        · simp only[hx];exact q
      · rcases bU.mp hy with z | z
        · subst z;exact e3 _ (by simp[iq])
        · exact e4 y z hf
    · obtain⟨cl,e1,e2,e3,e4⟩:=j8 r acc (λy hy=>hn y (dq _ hy)) h;refine⟨cl,?_,e2,e3,λy hy hf=>?_⟩
      · rw[List.forIn_cons];have:(k==NameKind.free)=false:=by simpa using hk
        simp only[this,CH,nN];exact e1
      · rcases bU.mp hy with z | z
        · subst z;exact absurd hf hk
        · exact e4 y z hf
theorem zO(h:∀y∈sc.names,y.2=.free->∃c,X.env.cells.lookup y.1=some c):∃cl,Ml X sc cl:=by
 obtain⟨cl,e1,e2,e3,e4⟩:=j8 sc.names [] h (λx c e=>by cases e);refine⟨cl,?_,e2,λx hx=>uh.mp (e4 (x,.free) (nG hx) rfl)⟩;unfold closureFor;exact lu (λm=>m >>= λcs=>pure cs) e1
section
variable {kk:Nat} {X:Cx} {cc:CC} {G:dN}
theorem mX(h:vH cc sc=true):sc.kind=.function/\(∀y∈sc.names,y.2=.cell->sc.names.lookup y.1=some .cell)/\(∀y∈sc.names,y.2=.local->sc.names.lookup y.1=some .local)/\(fH sc).Nodup/\∀y∈sc.names,y.2=.free->sc.names.lookup y.1=some .free/\(cc.names.lookup y.1=some .cell\/cc.names.lookup y.1=some .free):=by
 unfold vH at h;simp only[aU,jP,CM,bne_iff_ne,ne_eq,rD,AU]at h;obtain⟨⟨⟨⟨h1,h2⟩,h3⟩,h4⟩,h5⟩:=h;refine⟨h1,λy hy hk=>?_,λy hy hk=>?_,h4,λy hy hk=>?_⟩
 ·rcases h2 y hy with z | z
  ·exact absurd hk z
  ·exact z
 ·rcases h3 y hy with z | z
  ·exact absurd hk z
  ·exact z
 ·rcases h5 y hy with z | z
  ·exact absurd hk z
  ·exact z
theorem Good.block(g:Good kk X cc G)(h:vH cc sc=true){cl:List (Str×Addr)}(C:Addr)(s:Shared)(H:Hp)(fp:List Addr):Good kk (X.block sc cl C (fH sc) s H fp []) (sN cc sc) G:=by
 obtain⟨h1,h2,h3,h4,h5⟩:=mX h;refine⟨g.calm,g.room,rfl,h4,λx k e=>?_,λx e=>?_,g.blt,g.Y0,g.fns⟩
 ·have e:sc.names.lookup x=some k:=e;have r:=eC (env:=X.env) e;have kd:(X.block sc cl C (fH sc) s H fp []).env.kindOf x=some (if (k==NameKind.free&&X.env.scope.kind == .function&&X.env.kindOf x==some .cell) then .cell else k):=r
  cases k with
  | «local»=>exact kd
  | cell=>exact kd
  | free =>
   show _\/_;rw[kd];split
   ·exact .inl rfl
   ·exact .inr rfl
  | globalExplicit=>exact True.intro
  | globalImplicit=>exact kd
 ·have e:sc.names.lookup x=some .cell:=e;show(sc.names.lookup x==some .cell)=true;rw[e];rfl
theorem EA(g:Good kk X cc G)(h:vH cc sc=true):DG X sc (fH sc) (oM cc sc):=by
 obtain⟨h1,h2,h3,h4,h5⟩:=mX h;refine⟨by simp[oM],λi j x e1 e2=>?_⟩;unfold oM at e1;rw[bj,e2]at e1;simp only[CN,wW]at e1;split at e1
 ·rename_i hf
  have hf:sc.names.lookup x=some .free:=by simpa using hf
  obtain⟨_,ho⟩:=h5 (x,.free) (nG hf) rfl;refine⟨?_,hf,?_⟩
  ·rw[g.N];obtain⟨hj,hx,_⟩:=P8.mp e1;rw[bx hj];have:cc.N[j]=x:=by simpa using hx
   rw[this]
  ·rcases ho with ho | ho
   ·exact .inl (g.kinds x _ ho)
   ·exact g.kinds x _ ho
 ·cases e1
theorem EB{K:PySem.W.Frag}{ads:List Addr}{M:ak}{ρ:En}{σ:L2.St}{H:Hp}(s:SR K ads M ρ σ H)(dB:List (Option Nat)):SR K ads M (fb dB ρ) (kz dB σ) H:=by
 refine⟨s.mem,λi d e=>?_,by simp[fb,kz]⟩;unfold fb at e;unfold kz;rw[bj]at e⊢
 cases q:dB[i]? with
 | none=>rw[q]at e;cases e
 | some o =>
  rw[q]at e
  cases o with
  | none=>cases e
  | some j =>
   have e:(ρ[j]?).join=some d:=cg e
   have e2:ρ[j]?=some (some d):=by
    cases r:ρ[j]? with
    | none=>rw[r]at e;cases e
    | some z=>rw[r]at e;cases z with
     | none=>cases e
     | some y=>cases e;rfl
   obtain⟨v,ev,rv⟩:=s.en j d e2;exact⟨v,by simp[ev],rv⟩
theorem aJ.zP{ads aF:List Addr}{H H':Hp}{D:Addr}{o:HO}(g:aJ ads aF H H')(h:H D=none):aJ ads aF H (upd H' D o) :=
 ⟨g.pre,g.new,λb x n e=>by rw[aC (λz=>by subst z;rw[h]at e;cases e)];exact g.kept b x n e,λb x e=>by rw[aC (λz=>by subst z;rw[h]at e;cases e)];exact g.iu b x e,
  λb x u e=>by rw[aC (λz=>by subst z;rw[h]at e;cases e)];exact g.eQ b x u e⟩
theorem vR{K:PySem.W.Frag}{G:dN}{it:Ev.It}{J:L2.It}{tg:List Nat}{cond:Option fL}{elt:C}{dB:List (Option Nat)}{ads:List Addr}{M:ak}{ρ:En}{σ:L2.St}{H:Hp}{Q:VK}{f:Nat}(s:SR K ads M ρ σ H)(hJ:Kx K ads H it J)(q:cQ K ads H Q (bp (λτ M=>bV G cond τ M) (λτ M=>(ev G elt τ M).bind own) it tg f 0 (fb dB ρ) M [])):xy dB (tG K tg) (cond.map λt=>oG K (d8 G t)) (tE K (ev G elt)) σ J H Q:=by
  intro D hD;have hDn:=s.mem.fresh hD
  refine⟨λi m τ H' ys=>∃aF M' oT acc,SR K aF M' oT τ H'/\aJ ads aF H H'/\D∉aF/\H' D=some (.lst ys)/\aP K aF H' acc ys/\cQ K ads H Q (bp (λτ M=>bV G cond τ M) (λτ M=>(ev G elt τ M).bind own) it tg m i oT M' acc),
    ⟨f,ads,M,fb dB ρ,[],?_,(aJ.refl _ _).zP hD,hDn,bt,(by unfold aP;rfl),q⟩,?_⟩
  · have g0:aJ ads ads H (upd H D (.lst [])):=aJ.gu s.mem hD;exact(EB s dB).grow g0 (s.mem.gu hD)
  rintro i m τ H' ys ⟨aF,M',oT,acc,s',g',dn,hl,ra,q'⟩;refine⟨hl,?_⟩;obtain⟨r1,r2⟩:=hJ i aF H' M' g' s'.mem
  have stop:itemAt M' i it=some none->cQ K ads H Q (.ok (.lv acc) M')->(J.stop i H'/\Q (.ref D) H'):=λhi q' =>
    ⟨r1 hi,q' (.ref D) H' aF g' s'.mem ⟨D,ys,rfl,hD,hl,dn,ra⟩⟩
  cases m with
  | zero =>
    unfold bp at q';split at q'
    · rename_i hi
      exact .inl (stop hi q')
    · exact q'.elim
  | succ m =>
    unfold bp at q';split at q'
    · rename_i hi
      exact .inl (stop hi q')
    · rename_i d hi
      obtain⟨go,yl⟩:=r2 d hi
      cases hb:b_ tg d oT with
      | none=>rw[hb]at q';exact q'.elim
      | some wK =>
        rw[hb]at q';dsimp only at q';split at q'
        · rename_i hz
          refine .inr ⟨go,by rw[<- ra.len];exact hz,λx H2 y=>?_⟩;obtain⟨g2,m2,rd⟩:=yl x H2 y;have Cu:H2 D=some (.lst ys):=g2.kept D _ dn hl;refine⟨aF,M',oT,d,s'.grow g2 m2,rd,wK,hb,λGg s2=>?_⟩
          have fc : ∀ b M3 H3 eF, aJ aF eF H2 H3 -> aW K eF H3 M3 -> cQ K ads H Q (if b = true then ((ev G elt wK M3).bind own).bind fun x M => bp (fun τ M => bV G cond τ M) (fun τ M => (ev G elt τ M).bind own) it tg m (i + 1) wK M (acc ++ [x]) else bp (fun τ M => bV G cond τ M) (fun τ M => (ev G elt τ M).bind own) it tg m (i + 1) wK M3 acc) ->
              (if b=true then tE K (ev G elt) Gg H3 λv H4=>H4 D=some (.lst ys)/\∃m',m'<m+1/\∃aF M' oT acc,SR K aF M' oT Gg (upd H4 D (.lst (ys++[v])))/\aJ ads aF H (upd H4 D (.lst (ys++[v])))/\D∉aF/\(upd H4 D (.lst (ys++[v]))) D=some (.lst (ys++[v]))/\aP K aF (upd H4 D (.lst (ys++[v]))) acc (ys++[v])/\cQ K ads H Q (bp (λτ M=>bV G cond τ M) (λτ M=>(ev G elt τ M).bind own) it tg m' (i+1) oT M' acc)
               else ∃m',m'<m+1/\∃aF M' oT acc,SR K aF M' oT Gg H3/\aJ ads aF H H3/\D∉aF/\H3 D=some (.lst ys)/\aP K aF H3 acc ys/\cQ K ads H Q (bp (λτ M=>bV G cond τ M) (λτ M=>(ev G elt τ M).bind own) it tg m' (i+1) oT M' acc)):=by
            intro b M3 H3 eF g3 m3 q3;have Xk:D∉eF:=g3.eN dn Cu;have Xl:H3 D=some (.lst ys):=g3.kept D _ dn Cu;have s3:=s2.grow g3 m3;have gg:=(g'.trans g2).trans g3;have Y6:=(g2.trans g3).qJ _ _ ra
            cases b with
            | false =>
              rw[az (by simp)]at q3⊢;exact⟨m,ju _,eF,M3,wK,acc,s3,gg,Xk,Xl,Y6,q3⟩
            | true =>
              rw[aw rfl]at q3⊢;refine⟨eF,M3,wK,s3,?_⟩
              cases he:ev G elt wK M3 with
              | ok w M4 =>
                rw[he]at q3;intro v H4 B3 g4 m4 r4;have q3:cQ K ads H Q ((own w M4).bind λx M=>bp (λτ M=>bV G cond τ M) (λτ M=>(ev G elt τ M).bind own) it tg m (i+1) wK M (acc++[x])):=q3;have pQ:H4 D=some (.lst ys):=g4.kept D _ Xk Xl;refine⟨pQ,m,ju _,?_⟩
                cases ho:own w M4 with
                | ok dd M5 =>
                  rw[ho]at q3;obtain⟨IE,g5,m5,rd5⟩:=sP s3.mem g4 m4 r4 ho;have Y7:D∉IE:=g5.eN Xk Xl;have tk:TF H4 (upd H4 D (.lst (ys++[v]))):=⟨λb xs e=>by rw[aC (λz=>by subst z;rw[pQ]at e;cases e)];exact e,λb o u e=>by rw[aC (λz=>by subst z;rw[pQ]at e;cases e)];exact e⟩;have m6:aW K IE (upd H4 D (.lst (ys++[v]))) M5:=m5.keep tk λa ha=>aC (λz=>by subst z;exact Y7 ha)
                  have en6:Rm K IE (upd H4 D (.lst (ys++[v]))) wK Gg:=λj d e=>by
                    obtain⟨u,e1,r⟩:=g5.YW s3.en j d e;exact⟨u,e1,RD.keep tk _ _ r⟩
                  exact⟨IE,M5,wK,acc++[dd],⟨m6,en6,s3.ln⟩,(gg.trans g5).zP hD,Y7,bt,aP.keep tk _ _ ((g5.qJ _ _ Y6).app (.one rd5)),q3⟩
                | err _ _=>cases w<;>cases ho
                | af=>cases w<;>cases ho
              | err _ _=>rw[he]at q3;exact q3
              | af=>rw[he]at q3;exact q3
          cases cond with
          | none =>
            exact fc true M' H2 aF (aJ.refl _ _) m2 q'
          | some t =>
            show oG K (d8 G t) Gg H2 _;refine⟨aF,M',wK,s2,?_⟩;have q':cQ K ads H Q ((d8 G t wK M').bind λb M=>if b=true then ((ev G elt wK M).bind own).bind λx M=>bp (λτ M=>bV G (some t) τ M) (λτ M=>(ev G elt τ M).bind own) it tg m (i+1) wK M (acc++[x]) else bp (λτ M=>bV G (some t) τ M) (λτ M=>(ev G elt τ M).bind own) it tg m (i+1) wK M acc):=q'
            cases ht:d8 G t wK M' with
            | ok b M3 =>
              rw[ht]at q';intro H3 eF g3 m3;exact fc b M3 H3 eF g3 m3 q'
            | err _ _=>rw[ht]at q';exact q'
            | af=>rw[ht]at q';exact q'
        · exact q'.elim
    · exact q'.elim
end
section
variable {kk:Nat} {G:dN}
theorem sU(h:eE e=true)(env:Env):∀x,foldedSetIterable e env x=pure x:=by
 intro x;cases e<;>first | rfl | exact absurd (show false=true from h) aT
theorem NA{ee:List C}{tg:List Nat}{cond:Option fL}{ifs:List Expr}(g:Good kk X cc G)(EC:vH cc sc=true)(DC:dB=oM cc sc)(lE:eE aQ=true)(ED:PI X t aQ (tI X.K (dm G k ee)))(Xm:jK (sN cc sc) tg t=true)(kP:Iw (sN cc sc) cond ifs=true)(UJ:∀t,cond=some t->∀X':Cx,X'.K=X.K->Good kk X' (sN cc sc) G->∀e,kJ (sN cc sc) t e=true->PT X' e (oG X'.K (d8 G t)))(ihe:∀X':Cx,X'.K=X.K->Good kk X' (sN cc sc) G->PE X' el (tE X'.K (ev G elt))):∃(wi:TI) (cl:(X:Cx)->Prop),True/\PE X (.ListComp el [⟨t,aQ,ifs,0⟩] sc pos) (tE X.K (ev G (.comp k ee tg cond elt dB))):=by
 refine⟨λ_ _ _=>True,λ_=>True,True.intro,?_⟩;intro aa s σ H Q I q;obtain⟨h1,h2,h3,h4,h5⟩:=mX EC
 obtain⟨cl,UN⟩:=zO (X:=X) (sc:=sc) λy hy hf=>by
  obtain⟨_,ho⟩:=h5 y hy hf;refine I.ok.has y.1 ?_;rcases ho with ho | ho
  ·exact .inl (g.kinds _ _ ho)
  ·exact g.kinds _ _ ho
 have ck:lG X sc (fH sc) dB cl t el ifs (tG X.K tg) (cond.map λt=>oG X.K (d8 G t)) (tE X.K (ev G elt)):=by
  refine⟨h1,h2,h3,UN,DC▸EA g EC,λC s H fp=>kO (g.block EC C s H fp) Xm,?_,λC s H fp=>ihe _ rfl (g.block EC C s H fp)⟩
  cases cond with
  | none =>
   cases ifs with
   | nil=>rfl
   | cons _ _=>cases kP
  | some tt =>
   cases ifs with
   | nil=>cases kP
   | cons e es =>
    cases es with
    | cons _ _=>cases kP
    | nil=>exact⟨e,rfl,λC s H fp=>UJ tt rfl (X.block sc cl C (fH sc) s H fp []) rfl (g.block EC C s H fp) e kP⟩
 refine Hu g.calm ED ck (sU lE X.env) aa s σ H Q I ?_;obtain⟨ads,M,ρ,sr,q⟩:=q;refine⟨ads,M,ρ,sr,?_⟩
 have q:cQ X.K ads H Q ((dm G k ee ρ M).bind λit M=>bp (λτ M=>bV G cond τ M) (λτ M=>(ev G elt τ M).bind own) it tg (dW M it) 0 (fb dB ρ) M []):=by
  simp only[sC]at q;unfold dm
  cases hw:dE G ee ρ M with
  | ok ws M1=>rw[hw]at q;exact q
  | err _ _=>rw[hw]at q;exact q
  | af=>rw[hw]at q;exact q
 cases hs:dm G k ee ρ M with
 | ok it M1 =>
  rw[hs]at q;intro J H1 aq g1 m1 rj;exact vR (sr.grow g1 m1) rj (cQ.shift (o:=bp (λτ M=>bV G cond τ M) (λτ M=>(ev G elt τ M).bind own) it tg (dW M1 it) 0 (fb dB ρ) M1 []) q g1 sr.mem m1)
 | err _ _=>rw[hs]at q;exact q
 | af=>rw[hs]at q;exact q
end
theorem fQ(h:(jb e&&bZ cc c e)=true)(k:bZ cc c e=true->PE X e (tE X.K (ev G c))):PT X e (oG X.K (d8 G (.val c))):=IB ((aU _ _).mp h).1 (k ((aU _ _).mp h).2)
mutual
theorem a_:∀(c:C)(cc:CC)(X:Cx)(e:Expr),Good kk X cc G->bZ cc c e=true->PE X e (tE X.K (ev G c))
 | .ae i,cc,X,e,g,h=>RB g h
 | .ai d,cc,X,e,g,h=>RC h
 | .bin op a b,cc,X,e,g,h=>RE (λe h=>a_ a cc X e g h) (λe h=>a_ b cc X e g h) h
 | .cmp op a b,cc,X,e,g,h=>(Kr g (λe h=>a_ a cc X e g h) (λe h=>a_ b cc X e g h) h).1
 | .chain o1 o2 a b c,cc,X,e,g,h=>(zI g (λe h=>a_ a cc X e g h) (λe h=>a_ b cc X e g h) (λe h=>a_ c cc X e g h) h).1
 | .d7 cs,cc,X,e,g,h=>by
  refine fX (P:=λe=>PE X e _) h λop es pos h=>?_;simp only[aU,jN,CD]at h
  cases op with
  | Or=>exact absurd h.1.1 aT
  | And=>exact eV (Kt (op:=.And) cs es pos (sV cs cc X g) h.1.2 h.2) λσ H Q q=>q
 | .iy cs,cc,X,e,g,h=>by
  refine fX (P:=λe=>PE X e _) h λop es pos h=>?_;simp only[aU,jN,CD]at h
  cases op with
  | And=>exact absurd h.1.1.symm aT
  | Or=>exact eV (RK cs es pos (sV cs cc X g) h.1.2 h.2) λσ H Q q=>q
 | .neg a,cc,X,e,g,h=>RF (λe h=>a_ a cc X e g h) h
 | .ite t a b,cc,X,e,g,h=>xT (P:=λe=>PE X e _) h λc x y pos h=>by
  simp only[aU]at h;exact RN (x_ t cc X c g h.1.1) (a_ a cc X x g h.1.2) (a_ b cc X y g h.2)
 | .tup cs,cc,X,e,g,h=>RG (λes h=>vS cs cc X es g h) h
 | .lst cs,cc,X,e,g,h=>RH (λes h=>vS cs cc X es g h) h
 | .sub a b,cc,X,e,g,h=>cL (P:=λe=>PE X e _) h λe i pos h=>by
  simp only[aU]at h;exact RO g h.1.1 (a_ a cc X e g h.1.2) (a_ b cc X i g h.2)
 | .pP a lo hi,cc,X,e,g,h=>cL (P:=λe=>PE X e _) h λe i pos h=>oK (P:=λi=>PE X (.Subscript e i pos) _) h λl u st p h=>by
  simp only[aU]at h
  cases st with
  | some _=>exact absurd h.1.1.1 aT
  | none=>exact RP (a_ a cc X e g h.1.1.2) (RZ lo cc X l g h.1.2) (RZ hi cc X u g h.2)
 | .Cy a k,cc,X,e,g,h=>cL (P:=λe=>PE X e _) h λe i pos h=>oK (P:=λi=>PE X (.Subscript e i pos) _) h λl u st p h=>by
  rcases l with _|_<;>first | exact absurd h aT | skip
  rcases u with _|_<;>first | exact absurd h aT | skip
  rcases st with _ | ke<;>first | exact absurd h aT | skip
  replace h:=(aU _ _).mp h
  refine RU ?_ (a_ a cc X e g h.2);rcases(AU _ _).mp h.1 with h | h
  ·refine cI (P:=λke=>PE X ke _) h λc j p2 h=>?_;cases c<;>first | exact absurd h aT | skip
   obtain rfl:=eq_of_beq h;exact rP
  ·refine fk (P:=λke=>PE X ke _) h λop x p2 h=>?_
   replace h:=(aU _ _).mp h
   cases op<;>first | exact absurd h.1 aT | skip
   refine cI (P:=λx=>PE X (.UnaryOp .USub x p2) _) h.2 λc j p3 h=>?_;cases c<;>first | exact absurd h aT | skip
   rename_i jj
   obtain rfl:k=-jj:=by have:=eq_of_beq h;omega
   exact eV (J8 Df rP) λσ H Q q=>⟨jj,rfl,q⟩
 | .call f cs,cc,X,e,g,h=>dH (P:=λe=>PE X e _) h λfe args gz pos h=>bX (P:=λfe=>PE X (.Call fe args gz pos) _) h λx p h=>by
  rcases args with _|⟨e,es⟩<;>first | exact absurd h aT | skip
  cases gz<;>first | exact absurd h aT | skip
  simp only[aU,jP]at h;exact Nq g h.1.1.1 h.1.1.2 h.1.2 h.2 (vS cs cc X (e::es) g h.2)
 | .bi b cs,cc,X,e,g,h=>dH (P:=λe=>PE X e _) h λfe args gz pos h0=>bX (P:=λfe=>PE X (.Call fe args gz pos) _) h0 λx p h=>by
  clear h0
  replace h:=(aU _ _).mp h
  have h1:=h.1
  replace h:=h.2
  simp only[aU,AS]at h1;obtain⟨⟨rfl,hx⟩,hg⟩:=h1
  cases hb:Ek b with
  | none =>
   rw[hb]at h;rcases args with _|⟨e,es⟩<;>first | exact absurd h aT | skip
   replace h:=(aU _ _).mp h
   have eL:aX e=true/\c_ cc cs.tail es=true:=by
    cases cs with
    | nil=>exact absurd h.2 aT
    | cons c cs =>
     have h':(aX e&&bZ cc c e&&c_ cc cs es)=true:=h.2;simp only[aU]at h';exact⟨h'.1.1,h'.2⟩
   exact Xf g h.1 (eq_of_beq hx) hg eL.1 eL.2 (Kz cs cc X (e::es) g h.2)
  | some t =>
   rw[hb]at h;obtain rfl:=xZ hb;rcases args with _|⟨e,_|⟨f,_|⟨f2,fs⟩⟩⟩<;>first | exact absurd h aT | skip
   replace h:=(aU _ _).mp h
   refine bX (P:=λf=>PE X (.Call (.Name x p) [e,f] [] pos) _) h.1 λy py hy=>?_;simp only[aU,rD]at hy;rcases cs with _|⟨c,_|⟨c2,cs⟩⟩
   ·exact absurd h.2 aT
   ·have h7:(aX e&&bZ cc c e&&true)=true:=h.2;simp only[aU]at h7;exact RT g (eq_of_beq hx) hg (eq_of_beq hy.1.1) hy.1.2 hy.2 h7.1.1 (a_ c cc X e g h7.1.2)
   ·have h7:(aX e&&bZ cc c e&&c_ cc (c2::cs) [])=true:=h.2;simp only[aU]at h7;exact absurd h7.2 aT
 | .me m o cs,cc,X,e,g,h=>dH (P:=λe=>PE X e _) h λfe args gz pos h=>iS (P:=λfe=>PE X (.Call fe args gz pos) _) h λe n ap h=>by
  simp only[aU,AS]at h;obtain⟨⟨⟨⟨⟨⟨⟨rfl,h1⟩,h2⟩,h3⟩,h4⟩,h5⟩,h6⟩,h7⟩:=h;exact Xj (eq_of_beq h1) h2 h3 h4 h6 (AN h7) (a_ o cc X e g h5) (vS cs cc X args g h6)
 | .u5 ks cs,cc,X,e,g,h=>qO (P:=λe=>PE X e _) h λkeys vs pos h=>by
  simp only[AU,aU,jN,CD,rD,AS]at h;rcases h with⟨⟨⟨⟨⟨h1,h2⟩,h3⟩,h4⟩,h5⟩,h6⟩|⟨⟨⟨rfl,rfl⟩,rfl⟩,rfl⟩
  ·exact RY h1 h2 h3 h4 h5 h6 (sV cs cc X g)
  ·exact Ny
 | .lx tp cs,_,_,_,_,h=>absurd (show false=true from h) aT
 | .HN x v,cc,X,e,g,h=>bX (P:=λe=>PE X e _) h λy pos h=>by
  simp only[aU,jP]at h;obtain⟨⟨⟨rfl,h1⟩,h2⟩,h3⟩:=h;exact RV g h1 h2 h3
 | .lI,cc,X,e,g,h=>qO (P:=λe=>PE X e _) h λkeys vs pos h=>by
  simp only[aU,AS]at h;obtain⟨rfl,rfl⟩:=h;exact Nz
 | .jY a b,cc,X,e,g,h=>cL (P:=λe=>PE X e _) h λe i pos h=>by
  simp only[aU]at h;exact Nv g h.1.1 (a_ a cc X e g h.1.2) (a_ b cc X i g h.2)
 | .gJ ng a b,cc,X,e,g,h=>(Ks g (λe h=>a_ a cc X e g h) (λe h=>a_ b cc X e g h) h).1
 | .g9 ng a,cc,X,e,g,h=>(Eo (λe h=>a_ a cc X e g h) h).1
 | .sset a,cc,X,e,g,h=>dH (P:=λe=>PE X e _) h λfe args gz pos h=>bX (P:=λfe=>PE X (.Call fe args gz pos) _) h λx p h=>by
  rcases args with _|⟨i,_|⟨a2,as⟩⟩<;>first | exact absurd h aT | skip
  cases gz<;>first | exact absurd h aT | skip
  refine dH (P:=λi=>PE X (.Call (.Name x p) [i] [] pos) _) h λf2 zH Iv Nx h=>bX (P:=λf2=>PE X (.Call (.Name x p) [.Call f2 zH Iv Nx] [] pos) _) h λy p2 h=>?_;rcases zH with _|⟨b,_|⟨a2,as⟩⟩<;>first | exact absurd h aT | skip
  cases Iv<;>first | exact absurd h aT | skip
  simp only[aU]at h;obtain⟨⟨⟨⟨⟨h1,h2⟩,h3⟩,h4⟩,h5⟩,h6⟩:=h;exact Nw g (eq_of_beq h1) h3 (eq_of_beq h2) h4 h5 (a_ a cc X b g h6)
 | .comp k ee tg cond elt dB,cc,X,e,g,h=>jJ (P:=λe=>PE X e _) h λel gens sc pos h=>by
  rcases gens with _|⟨⟨t,aQ,ifs,as⟩,_|⟨_,_⟩⟩<;>first | exact absurd h aT | skip
  simp only[aU,jP,rD]at h;obtain⟨⟨⟨⟨⟨⟨rfl,h1⟩,h2⟩,h3⟩,h4⟩,h5⟩,h6⟩:=h;obtain⟨ED,lE⟩:=ya ee k cc X t aQ g h3;obtain⟨_,_,_,r⟩:=NA (pos:=pos) g h1 h2 lE ED h4 h5 (λt ht X' _ g' e he=>IF cond (sN cc sc) X' g' t ht e he) (λX' _ g'=>a_ elt (sN cc sc) X' el g' h6);exact r
theorem x_:∀(t:fL)(cc:CC)(X:Cx)(e:Expr),Good kk X cc G->kJ cc t e=true->PT X e (oG X.K (d8 G t))
 | .val (.cmp op a b),cc,X,e,g,h=>sR Nl (Kr g (λe h=>a_ a cc X e g h) (λe h=>a_ b cc X e g h) h).2
 | .val (.chain o1 o2 a b c),cc,X,e,g,h=>sR Er (zI g (λe h=>a_ a cc X e g h) (λe h=>a_ b cc X e g h) (λe h=>a_ c cc X e g h) h).2
 | .val (.ae i),cc,X,e,g,h=>fQ h (a_ (.ae i) cc X e g)
 | .val (.ai d),cc,X,e,g,h=>fQ h (a_ (.ai d) cc X e g)
 | .val (.bin op a b),cc,X,e,g,h=>fQ h (a_ (.bin op a b) cc X e g)
 | .val (.d7 cs),cc,X,e,g,h=>fQ h (a_ (.d7 cs) cc X e g)
 | .val (.iy cs),cc,X,e,g,h=>fQ h (a_ (.iy cs) cc X e g)
 | .val (.neg a),cc,X,e,g,h=>fQ h (a_ (.neg a) cc X e g)
 | .val (.ite t a b),cc,X,e,g,h=>fQ h (a_ (.ite t a b) cc X e g)
 | .val (.tup cs),cc,X,e,g,h=>fQ h (a_ (.tup cs) cc X e g)
 | .val (.lst cs),cc,X,e,g,h=>fQ h (a_ (.lst cs) cc X e g)
 | .val (.sub a b),cc,X,e,g,h=>fQ h (a_ (.sub a b) cc X e g)
 | .val (.pP a lo hi),cc,X,e,g,h=>fQ h (a_ (.pP a lo hi) cc X e g)
 | .val (.Cy a k),cc,X,e,g,h=>fQ h (a_ (.Cy a k) cc X e g)
 | .val (.call f cs),cc,X,e,g,h=>fQ h (a_ (.call f cs) cc X e g)
 | .val (.bi b cs),cc,X,e,g,h=>fQ h (a_ (.bi b cs) cc X e g)
 | .val (.me m o cs),cc,X,e,g,h=>fQ h (a_ (.me m o cs) cc X e g)
 | .val (.u5 ks cs),cc,X,e,g,h=>fQ h (a_ (.u5 ks cs) cc X e g)
 | .val (.lx tp cs),cc,X,e,g,h=>fQ h (a_ (.lx tp cs) cc X e g)
 | .val (.g9 ng a),cc,X,e,g,h=>sR Iz (Eo (λe h=>a_ a cc X e g h) h).2
 | .val (.gJ ng a b),cc,X,e,g,h=>sR Nk (Ks g (λe h=>a_ a cc X e g h) (λe h=>a_ b cc X e g h) h).2
 | .val (.lI),cc,X,e,g,h=>fQ h (a_ (.lI) cc X e g)
 | .val (.jY a b),cc,X,e,g,h=>fQ h (a_ (.jY a b) cc X e g)
 | .val (.HN x v),cc,X,e,g,h=>fQ h (a_ (.HN x v) cc X e g)
 | .val (.sset a),cc,X,e,g,h=>fQ h (a_ (.sset a) cc X e g)
 | .val (.comp k ee tg cond elt dB),cc,X,e,g,h=>fQ h (a_ (.comp k ee tg cond elt dB) cc X e g)
 | .d7 ts,cc,X,e,g,h=>by
  refine fX (P:=λe=>PT X e _) h λop es pos h=>?_;simp only[aU,jN,CD]at h
  cases op with
  | Or=>exact absurd h.1.1 aT
  | And=>exact Gj (Ku ts es pos (EE ts cc X g) h.1.2 h.2).pt λσ H Q q=>q
 | .iy ts,cc,X,e,g,h=>by
  refine fX (P:=λe=>PT X e _) h λop es pos h=>?_;simp only[aU,jN,CD]at h
  cases op with
  | And=>exact absurd h.1.1.symm aT
  | Or=>exact Gj (Kw ts es pos (EE ts cc X g) h.1.2 h.2).pt λσ H Q q=>q
 | .neg t,cc,X,e,g,h=>by
  refine fk (P:=λe=>PT X e _) h λop x pos h=>?_
  replace h:=(aU _ _).mp h
  cases op<;>first | exact absurd h.1 aT | skip
  exact RM (x_ t cc X x g h.2)
theorem vS:∀(cs:List C)(cc:CC)(X:Cx)(es:List Expr),Good kk X cc G->c_ cc cs es=true->PA X es (HZ X.K (bW G cs))
 | [],cc,X,[],g,h=>RI
 | [],cc,X,_::_,g,h=>by cases h
 | _::_,cc,X,[],g,h=>by cases h
 | c::cs,cc,X,e::es,g,h=>by
  have h':(aX e&&bZ cc c e&&c_ cc cs es)=true:=h;simp only[aU]at h';exact Nj h'.1.1 (a_ c cc X e g h'.1.2) (vS cs cc X es g h'.2)
theorem Kz:∀(cs:List C)(cc:CC)(X:Cx)(es:List Expr),Good kk X cc G->c_ cc cs es=true->PA X es (Pz X.K (dE G cs))
 | [],cc,X,[],g,h=>RS
 | [],cc,X,_::_,g,h=>by cases h
 | _::_,cc,X,[],g,h=>by cases h
 | c::cs,cc,X,e::es,g,h=>by
  have h':(aX e&&bZ cc c e&&c_ cc cs es)=true:=h;simp only[aU]at h';exact Nr h'.1.1 (a_ c cc X e g h'.1.2) (Kz cs cc X es g h'.2)
theorem sV:∀(cs:List C)(cc:CC)(X:Cx),Good kk X cc G->∀c∈cs,∀e,bZ cc c e=true->PE X e (tE X.K (ev G c))
 | [],cc,X,g,c,hc,e,h=>by cases hc
 | c::cs,cc,X,g,c',hc,e,h=>by
  rcases bU.mp hc with z | z
  ·rw[z]at h⊢;exact a_ c cc X e g h
  ·exact sV cs cc X g c' z e h
theorem EE:∀(ts:List fL)(cc:CC)(X:Cx),Good kk X cc G->∀t∈ts,∀e,kJ cc t e=true->PT X e (oG X.K (d8 G t))
 | [],cc,X,g,c,hc,e,h=>by cases hc
 | c::cs,cc,X,g,c',hc,e,h=>by
  rcases bU.mp hc with z | z
  ·rw[z]at h⊢;exact x_ c cc X e g h
  ·exact EE cs cc X g c' z e h
theorem RZ:∀(o:Option C)(cc:CC)(X:Cx)(e:Option Expr),Good kk X cc G->Nh cc o e=true->PO X e (tO X.K (ud G o))
 | none,cc,X,none,g,h=>Nm
 | none,cc,X,some _,g,h=>by cases h
 | some _,cc,X,none,g,h=>by cases h
 | some c,cc,X,some e,g,h=>Nn (a_ c cc X e g h)
theorem IF:∀(o:Option fL)(cc:CC)(X:Cx),Good kk X cc G->∀t,o=some t->∀e,kJ cc t e=true->PT X e (oG X.K (d8 G t))
 | none,cc,X,g,t,ht,e,h=>by cases ht
 | some c,cc,X,g,t,ht,e,h=>by cases ht;exact x_ c cc X e g h
theorem ya:∀(ee:List C)(k:SK)(cc:CC)(X:Cx)(t aQ:Expr),Good kk X cc G->sO cc k ee t aQ=true->PI X t aQ (tI X.K (dm G k ee))/\eE aQ=true
 | [],k,cc,X,t,aQ,g,h=>by cases k<;>cases h
 | [c],.seq,cc,X,t,aQ,g,h=>by
  have h':(eE aQ&&bZ cc c aQ)=true:=h;simp only[aU]at h';exact⟨ID (a_ c cc X aQ g h'.2),h'.1⟩
 | [c],.vals,cc,X,t,aQ,g,h=>dH (P:=λaQ=>PI X t aQ _/\eE aQ=true) h λfe args gz pos h=>iS (P:=λfe=>PI X t (.Call fe args gz pos) _/\eE (.Call fe args gz pos)=true) h λe n ap h=>by
  rcases args with _|⟨e2,es⟩<;>first | exact absurd h aT | skip
  cases gz<;>first | exact absurd h aT | skip
  simp only[aU]at h;obtain⟨⟨⟨h1,h2⟩,h3⟩,h4⟩:=h;obtain rfl:=eq_of_beq h1;exact⟨Ey (a_ c cc X e g h4) h3 h2,rfl⟩
 | [c],.keys,cc,X,t,aQ,g,h=>by cases h
 | [c],.eK,cc,X,t,aQ,g,h=>by
  refine dH (P:=λaQ=>PI X t aQ _/\eE aQ=true) h λfe args gz pos h=>bX (P:=λfe=>PI X t (.Call fe args gz pos) _/\eE (.Call fe args gz pos)=true) h λx p h=>?_;rcases args with _|⟨a,_|⟨a2,as⟩⟩<;>first | exact absurd h aT | skip
  cases gz<;>first | exact absurd h aT | skip
  simp only[aU]at h;exact⟨Eu g (eq_of_beq h.1.1.1) h.1.1.2 h.1.2 (a_ c cc X a g h.2),rfl⟩
 | [c],.enum,cc,X,t,aQ,g,h=>by
  refine dH (P:=λaQ=>PI X t aQ _/\eE aQ=true) h λfe args gz pos h=>bX (P:=λfe=>PI X t (.Call fe args gz pos) _/\eE (.Call fe args gz pos)=true) h λx p h=>?_;rcases args with _|⟨a,_|⟨a2,as⟩⟩<;>first | exact absurd h aT | skip
  cases gz<;>first | exact absurd h aT | skip
  simp only[aU]at h;exact⟨Ez g (eq_of_beq h.1.1.1.1) h.1.1.1.2 h.1.1.2 h.1.2 (a_ c cc X a g h.2),rfl⟩
 | [c],.qf,cc,X,t,aQ,g,h=>by cases h
 | [c],.zip,cc,X,t,aQ,g,h=>by cases h
 | [c],.HM,cc,X,t,aQ,g,h=>by cases h
 | [c,d],.qf,cc,X,t,aQ,g,h=>by
  refine dH (P:=λaQ=>PI X t aQ _/\eE aQ=true) h λfe args gz pos h=>bX (P:=λfe=>PI X t (.Call fe args gz pos) _/\eE (.Call fe args gz pos)=true) h λx p h=>?_;rcases args with _|⟨a,_|⟨b,_|⟨a2,as⟩⟩⟩<;>first | exact absurd h aT | skip
  cases gz<;>first | exact absurd h aT | skip
  simp only[aU]at h;exact⟨Ew g (eq_of_beq h.1.1.1.1.1) h.1.1.1.1.2 h.1.1.1.2 h.1.1.2 (a_ c cc X a g h.1.2) (a_ d cc X b g h.2),rfl⟩
 | [c,d],.seq,cc,X,t,aQ,g,h=>by cases h
 | [c,d],.HM,cc,X,t,aQ,g,h=>by cases h
 | [c,d],.keys,cc,X,t,aQ,g,h=>by cases h
 | [c,d],.vals,cc,X,t,aQ,g,h=>by cases h
 | [c,d],.eK,cc,X,t,aQ,g,h=>by cases h
 | [c,d],.enum,cc,X,t,aQ,g,h=>by cases h
 | [c,d],.zip,cc,X,t,aQ,g,h=>by cases h
 | [c,d,m],.HM,cc,X,t,aQ,g,h=>by cases h
 | [c,d,m],.seq,cc,X,t,aQ,g,h=>by cases h
 | [c,d,m],.keys,cc,X,t,aQ,g,h=>by cases h
 | [c,d,m],.vals,cc,X,t,aQ,g,h=>by cases h
 | [c,d,m],.eK,cc,X,t,aQ,g,h=>by cases h
 | [c,d,m],.qf,cc,X,t,aQ,g,h=>by cases h
 | [c,d,m],.enum,cc,X,t,aQ,g,h=>by cases h
 | [c,d,m],.zip,cc,X,t,aQ,g,h=>by cases h
 | _::_::_::_::_,k,cc,X,t,aQ,g,h=>by cases k<;>cases h
end
inductive S where
 | asg (tg:List Nat) (c:C)
 | fR (i:Nat) (c:C)
 | put (o i v:C)
 | dput (o i v:C)
 | par (i j:Nat) (a b:C)
 | expr (c:C)
 | ret (c:C)
 | EF
 | iff (t:fL) (a b:List S)
 | bE (tg:List Nat) (k:SK) (ee:List C) (b:List S)
 | Gm (n:Nat) (t:fL) (b:List S)
 | never | pass | brk | cont
inductive br where
 | nx (ρ:En) (M:ak) | rt (w:W) (M:ak) | bk (ρ:En) (M:ak) | ct (ρ:En) (M:ak) | af
noncomputable def br.gV{α:Type}(o:cK α)(f:α->ak->br):br:=match o with
 | .ok a M=>f a M
 | _=>.af
noncomputable def br.seq(o:br)(f:En->ak->br):br:=match o with
 | .nx ρ M=>f ρ M
 | o=>o
def ej(body:En->ak->br)(it:Ev.It)(tg:List Nat):Nat->Nat->En->ak->br
 | 0,i,ρ,M=>match itemAt M i it with
  | some none=>.nx ρ M
  | _=>.af
 | f+1,i,ρ,M=>match itemAt M i it with
  | some none=>.nx ρ M
  | some (some d)=>match b_ tg d ρ with
   | none=>.af
   | some ρ=>match body ρ M with
    | .nx ρ M=>ej body it tg f (i+1) ρ M
    | .ct ρ M=>ej body it tg f (i+1) ρ M
    | .bk ρ M=>.nx ρ M
    | .rt w M=>.rt w M
    | .af=>.af
  | none=>.af
noncomputable def oU(NB:En->ak->cK Bool)(body:En->ak->br):Nat->En->ak->br
  | 0,_,_=>.af
  | f+1,ρ,M=>match NB ρ M with
    | .ok r M => if r then (match body ρ M with
        | .nx ρ M=>oU NB body f ρ M
        | .ct ρ M=>oU NB body f ρ M
        | .bk ρ M=>.nx ρ M
        | .rt w M=>.rt w M
        | .af=>.af) else .nx ρ M
    | _=>.af
mutual
noncomputable def j9(G:dN):S->En->ak->br
 | .asg tg c,ρ,M=>br.gV ((ev G c ρ M).bind own) λd M=>match b_ tg d ρ with
  | some ρ=>.nx ρ M
  | none=>.af
 | .fR i c,ρ,M=>br.gV ((ev G c ρ M).bind own) λd M=>.nx (ρ.set i (some d)) M
 | .put o i v,ρ,M=>br.gV ((ev G v ρ M).bind own) λd M=>br.gV (ev G o ρ M) λx M=>br.gV (ev G i ρ M) λy M=>br.gV (hU x y d M) λ_ M=>.nx ρ M
 | .dput o i v,ρ,M=>br.gV ((ev G v ρ M).bind own) λd M=>br.gV (ev G o ρ M) λx M=>br.gV (ev G i ρ M) λy M=>br.gV (ik x y d M) λ_ M=>.nx ρ M
 | .par i j a b,ρ,M=>br.gV (bW G [a,b] ρ M) λds M=>match ds with
  | [x,y]=>.nx ((ρ.set i (some x)).set j (some y)) M
  | _=>.af
 | .expr c,ρ,M=>br.gV (ev G c ρ M) λ_ M=>.nx ρ M
 | .ret c,ρ,M=>br.gV (ev G c ρ M) λw M=>.rt w M
 | .EF,_,M=>.rt (.d .aR) M
 | .iff t a b,ρ,M=>br.gV (d8 G t ρ M) λr M=>if r then cE G a ρ M else cE G b ρ M
 | .bE tg k ee b,ρ,M=>br.gV (dm G k ee ρ M) λit M=>ej (λρ M=>cE G b ρ M) it tg (dW M it) 0 ρ M
 | .Gm n t b,ρ,M=>oU (λρ M=>d8 G t ρ M) (λρ M=>cE G b ρ M) n ρ M
 | .never,_,_=>.af
 | .pass,ρ,M=>.nx ρ M
 | .brk,ρ,M=>.bk ρ M
 | .cont,ρ,M=>.ct ρ M
noncomputable def cE(G:dN):List S->En->ak->br
 | [],ρ,M=>.nx ρ M
 | s::ss,ρ,M=>(j9 G s ρ M).seq λρ M=>cE G ss ρ M
end
section
variable {G:dN} {lo hi:Option C} {cond:Option fL}
theorem zQ : j9 G (.asg tg c) ρ M = (br.gV ((ev G c ρ M).bind own) fun d M => match b_ tg d ρ with
    | some ρ=>.nx ρ M
    | none=>.af):=rfl
theorem vT:j9 G (.fR i c) ρ M=br.gV ((ev G c ρ M).bind own) λd M=>.nx (ρ.set i (some d)) M:=rfl
theorem zR:j9 G (.put o i v) ρ M=br.gV ((ev G v ρ M).bind own) λd M=>br.gV (ev G o ρ M) λx M=>br.gV (ev G i ρ M) λy M=>br.gV (hU x y d M) λ_ M=>.nx ρ M:=rfl
theorem vU:j9 G (.dput o i v) ρ M=br.gV ((ev G v ρ M).bind own) λd M=>br.gV (ev G o ρ M) λx M=>br.gV (ev G i ρ M) λy M=>br.gV (ik x y d M) λ_ M=>.nx ρ M:=rfl
theorem IG : j9 G (.par i j a b) ρ M = (br.gV (bW G [a, b] ρ M) fun ds M => match ds with
    | [x,y]=>.nx ((ρ.set i (some x)).set j (some y)) M
    | _=>.af):=rfl
theorem vV:j9 G (.expr c) ρ M=br.gV (ev G c ρ M) λ_ M=>.nx ρ M:=rfl
theorem zS:j9 G (.ret c) ρ M=br.gV (ev G c ρ M) λw M=>.rt w M:=rfl
theorem zT:j9 G (.iff t a b) ρ M=br.gV (d8 G t ρ M) λr M=>if r then cE G a ρ M else cE G b ρ M:=rfl
theorem vW:j9 G (.bE tg k ee b) ρ M=br.gV (dm G k ee ρ M) λit M=>ej (λρ M=>cE G b ρ M) it tg (dW M it) 0 ρ M:=rfl
theorem zU:j9 G (.Gm n t b) ρ M=oU (λρ M=>d8 G t ρ M) (λρ M=>cE G b ρ M) n ρ M:=rfl
theorem vX:cE G [] ρ M=.nx ρ M:=rfl
theorem qP:cE G (s::ss) ρ M=(j9 G s ρ M).seq λρ M=>cE G ss ρ M:=rfl
end
noncomputable def fI(e:Expr):Bool:=Nat.beq e.ctorIdx 8||(Nat.beq e.ctorIdx 9||Nat.beq e.ctorIdx 10)
def KA(cc:CC)(t v:Expr):Bool:=(!fI v && !(jc t&&jc v))||d9 t λx _=>cc.names.lookup x==some .cell
mutual
noncomputable def NC(cc:CC):S->Stmt->Bool
 | .asg tg c,s=>gM s λts v _=>match ts with
  | [t]=>jK cc tg t&&KA cc t v&&(!fI v||Nat.beq v.ctorIdx 8)&&bZ cc c v
  | _=>false
 | .fR i c,s=>gM s λts v _=>match ts with
  | [t]=>d9 t λx p=>hV v λel gens sc q=>cc.N[i]? == some x&&cc.names.lookup x==some .local&&p.line==q.line && !(sc.names.any λ(n,k)=>n==x&&(k == .local||k == .cell))&&bZ cc c (.ListComp el gens sc q)
  | _=>false
 | .put o i v,s=>gM s λts w _=>match ts with
  | [t]=>cV t λe f _=>fv f&&bZ cc o e&&bZ cc i f&&bZ cc v w
  | _=>false
 | .dput o i v,s=>gM s λts w _=>match ts with
  | [t]=>cV t λe f _=>fv f&&bZ cc o e&&bZ cc i f&&bZ cc v w
  | _=>false
 | .par i j a b,s=>false
 | .expr c,s=>xW s λe _=>!fI e&&bZ cc c e
 | .ret c,s=>kG s λo _=>match o with
  | some e=>bZ cc c e
  | none=>false
 | .EF,s=>kG s λo _=>o.isNone
 | .iff t a b,s=>Nd s λc x y _=>kJ cc t c&&jL cc a x&&jL cc b y
 | .bE tg k ee b,s=>Ee s λt aQ body R0 _=>R0.isEmpty&&sO cc k ee t aQ&&jK cc tg t&&jL cc b body
 | .Gm _ t b,s=>sJ s λc body R0 _=>R0.isEmpty&&kJ cc t c&&jL cc b body
 | .never,_=>true
 | .pass,s=>xX s λ_=>true
 | .brk,s=>sL s λ_=>true
 | .cont,s=>j7 s λ_=>true
noncomputable def jL(cc:CC):List S->List Stmt->Bool
 | [],[]=>true
 | s::ss,t::ts=>NC cc s t&&jL cc ss ts
 | _,_=>false
end
def mY(K:PySem.W.Frag)(ads:List Addr)(H:Hp)(D:Ends):br->Prop
 | .nx ρ M=>∀cU H' aF,aJ ads aF H H'->SR K aF M ρ cU H'->D.nx cU H'
 | .bk ρ M=>∀cU H' aF,aJ ads aF H H'->SR K aF M ρ cU H'->D.bk cU H'
 | .ct ρ M=>∀cU H' aF,aJ ads aF H H'->SR K aF M ρ cU H'->D.ct cU H'
 | .rt w M=>kF K ads H w M D.rt
 | .af=>False
def qQ(K:PySem.W.Frag)(o:En->ak->br):TS:=λD σ H=>∃ads M ρ,SR K ads M ρ σ H/\mY K ads H D (o ρ M)
theorem mY.shift{K:PySem.W.Frag}{ads aF:List Addr}{H H':Hp}{M M2:ak}{D:Ends}{o:br}(p:mY K ads H D o)(g:aJ ads aF H H')(m:aW K ads H M)(m':aW K aF H' M2):mY K aF H' D o:=by
 cases o with
 | nx ρ M=>exact λσ H1 aq g1 s1=>p σ H1 aq (g.trans g1) s1
 | bk ρ M=>exact λσ H1 aq g1 s1=>p σ H1 aq (g.trans g1) s1
 | ct ρ M=>exact λσ H1 aq g1 s1=>p σ H1 aq (g.trans g1) s1
 | rt w M=>exact kF.shift p g m m'
 | af=>exact p
theorem zV{X:Cx}{st:Stmt}{t u:TS}(h:PS X st t)(f:∀D σ H,u D σ H->t D σ H):PS X st u:=λaa s σ H D I q=>h aa s σ H D I (f D σ H q)
theorem R1{st:List Stmt}(h:rO X st t)(f:∀D σ H,u D σ H->t D σ H):rO X st u:=λaa s σ H D I q=>h aa s σ H D I (f D σ H q)
section
variable {kk:Nat} {X:Cx} {cc:CC} {G:dN}
theorem sW(h:fI e=false)(t:Option Expr)(l:Nat)(env:Env):swapsWith e t l env=pure false:=by
 cases e<;>first | rfl | exact absurd (show true=false from h).symm aT
theorem R3{K:PySem.W.Frag}{o:En->ak->br}{k:En->ak->br}{σ:L2.St}{H:Hp}{D:Ends}(h:qQ K (λρ M=>(o ρ M).seq k) D σ H):Qq (qQ K o) (qQ K k) D σ H:=by
 obtain⟨ads,M,ρ,s,q⟩:=h;have q:mY K ads H D ((o ρ M).seq k):=q;refine⟨ads,M,ρ,s,?_⟩
 cases hq:o ρ M with
 | nx PD M1 =>
  rw[hq]at q;intro LJ H1 aq g1 s1;exact⟨aq,M1,PD,s1,mY.shift (o:=k PD M1) q g1 s.mem s1.mem⟩
 | bk ρ M=>rw[hq]at q;exact q
 | ct ρ M=>rw[hq]at q;exact q
 | rt w M=>rw[hq]at q;exact q
 | af=>rw[hq]at q;exact q
theorem IH {K : PySem.W.Frag} {body : En -> ak -> br} {it : Ev.It} {J : L2.It} {tg : List Nat} {tb : TS} (hb : ∀ D σ H, qQ K body D σ H -> tb D σ H) {ads : List Addr} {M : ak} {ρ : En} {σ : L2.St} {H : Hp} {D : Ends} {f : Nat}
    (s:SR K ads M ρ σ H) (hJ:Kx K ads H it J) (q:mY K ads H D (ej body it tg f 0 ρ M)) :
    ∃W:Nat->Nat->L2.St->Hp->Prop,(∃m,W 0 m σ H)/\∀i m σ H,W i m σ H ->
      (J.stop i H/\D.nx σ H)\/(J.go i H/\∃N:L2.St->Hp->Prop,(∀cU H',N cU H'->∃m',m'<m/\W (i+1) m' cU H')/\∀x H',J.Pl i H x H'->tG K tg x σ H' λy4 H2=>tb {D with nx:=N,ct:=N,bk:=D.nx} y4 H2):=by
  refine⟨λi m cU H'=>∃aF M' ez,SR K aF M' ez cU H'/\aJ ads aF H H'/\mY K ads H D (ej body it tg m i ez M'),⟨f,ads,M,ρ,s,aJ.refl _ _,q⟩,?_⟩;rintro i m cU H' ⟨aF,M',ez,s',g',q'⟩;obtain⟨r1,r2⟩:=hJ i aF H' M' g' s'.mem
  cases m with
  | zero =>
    unfold ej at q';split at q'
    · rename_i hi
      exact .inl ⟨r1 hi,q' cU H' aF g' s'⟩
    · exact q'.elim
  | succ m =>
    unfold ej at q';split at q'
    · rename_i hi
      exact .inl ⟨r1 hi,q' cU H' aF g' s'⟩
    · rename_i d hi
      obtain⟨go,yl⟩:=r2 d hi
      cases su:b_ tg d ez with
      | none=>rw[su]at q';exact q'.elim
      | some PD =>
        rw[su]at q';dsimp only at q';refine .inr ⟨go,λy4 H2=>∃bI M2 qR,SR K bI M2 qR y4 H2/\aJ ads bI H H2/\mY K ads H D (ej body it tg m (i+1) qR M2),λy4 H2 h=>⟨m,ju _,h⟩,λx H2 y=>?_⟩;obtain⟨g2,m2,rd⟩:=yl x H2 y;refine⟨aF,M',ez,d,s'.grow g2 m2,rd,PD,su,λy4 s2=>hb _ _ _ ⟨aF,M',PD,s2,?_⟩⟩;have gg:=g'.trans g2
        cases hq:body PD M' with
        | nx UO M3=>rw[hq]at q';exact λxf H3 eF g3 s3=>⟨eF,M3,UO,s3,gg.trans g3,q'⟩
        | ct UO M3=>rw[hq]at q';exact λxf H3 eF g3 s3=>⟨eF,M3,UO,s3,gg.trans g3,q'⟩
        | bk UO M3=>rw[hq]at q';exact λxf H3 eF g3 s3=>q' xf H3 eF (gg.trans g3) s3
        | rt w M3=>rw[hq]at q';exact kF.shift (M:=M) (M2:=M') q' gg s.mem s2.mem
        | af=>rw[hq]at q';exact q'.elim
    · exact q'.elim
theorem Xn{K:PySem.W.Frag}{ads:List Addr}{M:ak}{ρ:En}{σ:L2.St}{H:Hp}{D:Ends}{o:En->ak->cK W}{k:W->ak->br}{R:V->Hp->Prop}(s:SR K ads M ρ σ H)(q:mY K ads H D (br.gV (o ρ M) k))(hk:∀w M1 v H1 aq,SR K aq M1 ρ σ H1->RW K aq H1 w v->mY K aq H1 D (k w M1)->R v H1):tE K o σ H R:=by
 refine⟨ads,M,ρ,s,?_⟩
 cases hq:o ρ M with
 | ok w M1 =>
  rw[hq]at q;intro v H1 aq g1 m1 r1;exact hk w M1 v H1 aq (s.grow g1 m1) r1.rw (mY.shift (o:=k w M1) q g1 s.mem m1)
 | err _ _=>rw[hq]at q;exact q
 | af=>rw[hq]at q;exact q
theorem II{K:PySem.W.Frag}{ads:List Addr}{M:ak}{ρ:En}{σ:L2.St}{H:Hp}{D:Ends}{c:C}{k:Ev.D->ak->br}{R:V->Hp->Prop}(s:SR K ads M ρ σ H)(q:mY K ads H D (br.gV ((ev G c ρ M).bind own) k))(hk:∀(d:Ev.D) M1 v H1 aq,SR K aq M1 ρ σ H1->RD K aq H1 d v->mY K aq H1 D (k d M1)->R v H1):tE K (ev G c) σ H R:=by
 refine⟨ads,M,ρ,s,?_⟩
 cases hq:ev G c ρ M with
 | ok w M1 =>
  rw[hq]at q;intro v H1 aq g1 m1 r1;have q:mY K ads H D (br.gV (own w M1) k):=q
  cases ho:own w M1 with
  | ok d M2 =>
   rw[ho]at q;obtain⟨bI,g2,m2,rd⟩:=sP s.mem g1 m1 r1 ho;exact hk d M2 v H1 bI (s.grow g2 m2) rd (mY.shift (o:=k d M2) q g2 s.mem m2)
  | err _ _=>cases w<;>cases ho
  | af=>cases w<;>cases ho
 | err _ _=>rw[hq]at q;exact q
 | af=>rw[hq]at q;exact q
theorem IJ(h:jK cc tg t=true):(∃x p,t=.Name x p)\/∃es k p,t=.Tuple es k p:=by
 rcases tg with _|⟨i,_|⟨j,r⟩⟩
 ·exact absurd h aT
 ·exact .inl (bX (P:=λt=>∃x p,t=.Name x p) ((aU _ _).mp h).1 λx p _=>⟨x,p,rfl⟩)
 ·exact .inr (j6 (P:=λt=>∃es k p,t=.Tuple es k p) h λes k p _=>⟨es,k,p,rfl⟩)
theorem qS{x:Str}  : swapsWith (.ListComp el gens sc q) (some (.Name x p)) l env=pure (env.blockKind == .function&&env.kindOf x==some .local&&p.line==q.line && !(sc.names.any λ(n,k)=>n==x&&(k == .local||k == .cell))):=rfl
theorem R4(g:Good kk X cc G)(ht:jK cc tg t=true)(hv:KA cc t v=true)(hlc:fI v=true->∃el gens sc q,v=.ListComp el gens sc q)(he:PE X v (tE X.K (ev G c))):PS X (.Assign [t] v pos) (qQ X.K (j9 G (.asg tg c))):=by
 have hg:=kO g ht
 have i_:∀D σ H,qQ X.K (j9 G (.asg tg c)) D σ H->Qw (tE X.K (ev G c)) (tG X.K tg) D σ H:=by
  intro D σ H q;obtain⟨ads,M,ρ,s,q⟩:=q;refine II s (by simp only[zQ]at q;exact q) λd M1 v H1 aq s1 rd q1=>?_
  cases hb:b_ tg d ρ with
  | none=>simp only[hb]at q1;exact q1.elim
  | some ez =>
   simp only[hb]at q1;exact⟨aq,M1,ρ,d,s1,rd,ez,hb,λcU s'=>q1 cU H1 aq (aJ.refl _ _) s'⟩
 rcases IJ ht with⟨x,p,rfl⟩|⟨es,k,p,rfl⟩
 ·refine zV (rR he hg ?_ (by unfold swappedStores;cases v<;>rfl) rfl) i_;show swapsWith v (some (.Name x p)) pos.line X.env=pure false
  cases hc:fI v with
  | false=>exact sW hc _ _ _
  | true =>
   have hv:((!fI v && !(false&&jc v))||(cc.names.lookup x==some .cell))=true:=hv;rw[hc]at hv;have hk:X.env.kindOf x=some .cell:=g.kinds x .cell (by simpa using hv);obtain⟨el,gens,sc,q,rfl⟩:=hlc hc;rw[qS,hk,show((some NameKind.cell:Option NameKind)==some NameKind.local)=false from rfl];simp
 ·have QI:((!fI v && !(true&&jc v))||false)=true:=hv;simp only[Bool.or_false,Bool.true_and,aU,jN]at QI;refine zV (rR he hg (show swapsWithSole [.Tuple es k p] v pos.line X.env=pure false from sW QI.1 (some (.Tuple es k p)) pos.line X.env) ?_ rfl) i_;unfold swappedStores;cases v<;>first | rfl | exact absurd (show true=false from QI.2).symm aT
theorem ND{i:Nat}{c:C}{x:Str}{p q pos:Pos}{el t aQ:Expr}{ifs:List Expr}{sc:Scope}{N':List Str}{dB:List (Option Nat)}{wi:TI}{gt:TG}{tc:Option TT}{te:TE}(g:Good kk X cc G)(hk:X.env.blockKind=.function)(hx:cc.N[i]?=some x)(hl:cc.names.lookup x=some .local)(hp:p.line=q.line)(hn:(sc.names.any λ(n,k)=>n==x&&(k == .local||k == .cell))=false)(hw:∀(aa:List (Addr×Obj))(s:Shared)(σ:L2.St)(H:Hp),Inv X aa σ H s->∃cl,PI X t aQ wi/\lG X sc N' dB cl t el ifs gt tc te)(Xo:∀x,foldedSetIterable aQ X.env x=pure x)(i_:∀σ H Q,tE X.K (ev G c) σ H Q->zh dB wi gt tc te σ H Q):PS X (.Assign [.Name x p] (.ListComp el [⟨t,aQ,ifs,0⟩] sc q) pos) (qQ X.K (j9 G (.fR i c))):=by
 intro aa s σ H D I h;obtain⟨cl,hi,ck⟩:=hw aa s σ H I;refine Hv (i:=i) g.calm (by rw[g.N];exact g.nd) (by rw[g.N];exact hx) (g.kinds x _ hl) ?_ hi ck Xo aa s σ H D I ?_
 ·rw[qS,hk,show X.env.kindOf x=some .local from g.kinds x _ hl,hn,hp];simp
 ·obtain⟨ads,M,ρ,sr,h⟩:=h;refine i_ σ H _ (II sr (by simp only[vT]at h;exact h) λd M1 v H1 aq s1 rd q1=>?_);exact q1 _ H1 aq (aJ.refl _ _) (s1.set i rd)
theorem R5(g:Good kk X cc G)(hf:fv f=true)(ho:PE X e (tE X.K (ev G o)))(hi:PE X f (tE X.K (ev G i)))(hv:PE X w (tE X.K (ev G v))):PS X (.Assign [.Subscript e f sp] w pos) (qQ X.K (j9 G (.put o i v))):=by
 have MX:=g.room.un;refine zV (rR hv (Dc ho hi (Nc ∅) (by intro _;cases f<;>first | rfl | exact absurd (show false=true from hf) aT)) (show swapsWithSole [.Subscript e f sp] w pos.line X.env=pure false from (by cases w<;>rfl)) (by unfold swappedStores;cases w<;>rfl) rfl) λD σ H q=>?_;obtain⟨ads,M,ρ,s,q⟩:=q;refine II s (by simp only[zR]at q;exact q) λd M1 v H1 aq s1 rd q1=>?_;refine⟨aq,M1,ρ,s1,?_⟩
 cases h2:ev G o ρ M1 with
 | ok wo M2 =>
  rw[h2]at q1;intro vo H2 bI g2 m2 ro;have s2:=s1.grow g2 m2;refine⟨bI,M2,ρ,s2,?_⟩;have q2:mY X.K aq H1 D (br.gV (ev G i ρ M2) λy M=>br.gV (hU wo y d M) λ_ M=>.nx ρ M):=q1
  cases h3:ev G i ρ M2 with
  | ok wi M3 =>
   rw[h3]at q2;intro vi H3 eF g3 m3 ri;have s3:=s2.grow g3 m3;have q3:mY X.K aq H1 D (br.gV (hU wo wi d M3) λ_ M=>.nx ρ M):=q2;refine⟨eF,M3,wo,wi,d,m3,g3.rw ro.rw,ri.rw,(g2.trans g3).rd _ _ rd,?_⟩
   cases h4:hU wo wi d M3 with
   | ok u M4 =>
    rw[h4]at q3;intro H4 B3 g4 m4;exact q3 σ H4 B3 ((g2.trans g3).trans g4) (s3.grow g4 m4)
   | err _ _=>rw[h4]at q3;exact q3
   | af=>rw[h4]at q3;exact q3
  | err _ _=>rw[h3]at q2;exact q2
  | af=>rw[h3]at q2;exact q2
 | err _ _=>rw[h2]at q1;exact q1
 | af=>rw[h2]at q1;exact q1
theorem NF(g:Good kk X cc G)(hf:fv f=true)(ho:PE X e (tE X.K (ev G o)))(hi:PE X f (tE X.K (ev G i)))(hv:PE X w (tE X.K (ev G v))):PS X (.Assign [.Subscript e f sp] w pos) (qQ X.K (j9 G (.dput o i v))):=by
 have MX:=g.room.un;refine zV (rR hv (Dc ho hi (Io ∅) (by intro _;cases f<;>first | rfl | exact absurd (show false=true from hf) aT)) (show swapsWithSole [.Subscript e f sp] w pos.line X.env=pure false from (by cases w<;>rfl)) (by unfold swappedStores;cases w<;>rfl) rfl) λD σ H q=>?_;obtain⟨ads,M,ρ,s,q⟩:=q;refine II s (by simp only[vU]at q;exact q) λd M1 v H1 aq s1 rd q1=>?_;refine⟨aq,M1,ρ,s1,?_⟩
 cases h2:ev G o ρ M1 with
 | ok wo M2 =>
  rw[h2]at q1;intro vo H2 bI g2 m2 ro;have s2:=s1.grow g2 m2;refine⟨bI,M2,ρ,s2,?_⟩;have q2:mY X.K aq H1 D (br.gV (ev G i ρ M2) λy M=>br.gV (ik wo y d M) λ_ M=>.nx ρ M):=q1
  cases h3:ev G i ρ M2 with
  | ok wi M3 =>
   rw[h3]at q2;intro vi H3 eF g3 m3 ri;have s3:=s2.grow g3 m3;have q3:mY X.K aq H1 D (br.gV (ik wo wi d M3) λ_ M=>.nx ρ M):=q2;refine⟨eF,M3,wo,wi,d,m3,g3.rw ro.rw,ri.rw,(g2.trans g3).rd _ _ rd,?_⟩
   cases h4:ik wo wi d M3 with
   | ok u M4 =>
    rw[h4]at q3;intro H4 B3 g4 m4;exact q3 σ H4 B3 ((g2.trans g3).trans g4) (s3.grow g4 m4)
   | err _ _=>rw[h4]at q3;exact q3
   | af=>rw[h4]at q3;exact q3
  | err _ _=>rw[h3]at q2;exact q2
  | af=>rw[h3]at q2;exact q2
 | err _ _=>rw[h2]at q1;exact q1
 | af=>rw[h2]at q1;exact q1
theorem NG(hc:fI e=false)(he:PE X e (tE X.K (ev G c))):PS X (.Expr e pos) (qQ X.K (j9 G (.expr c))):=by
 refine zV (GW he (sW hc _ _ _)) λD σ H q=>?_;obtain⟨ads,M,ρ,s,q⟩:=q;exact Xn (k:=λ_ M=>.nx ρ M) s (by simp only[vV]at q;exact q) λw M1 v H1 aq s1 r1 q1=>q1 σ H1 aq (aJ.refl _ _) s1
theorem R6(he:PE X e (tE X.K (ev G c))):PS X (.Return (some e) pos) (qQ X.K (j9 G (.ret c))):=by
 refine zV (LG he) λD σ H q=>?_;obtain⟨ads,M,ρ,s,q⟩:=q;refine⟨ads,M,ρ,s,?_⟩;simp only[zS]at q
 cases hq:ev G c ρ M with
 | ok w M1=>rw[hq]at q;exact q
 | err _ _=>rw[hq]at q;exact q
 | af=>rw[hq]at q;exact q
theorem Xp(ht:PT X c (oG X.K (d8 G t)))(ha:rO X x (qQ X.K (cE G a)))(hb:rO X y (qQ X.K (cE G b))):PS X (.If c x y pos) (qQ X.K (j9 G (.iff t a b))):=by
 refine zV (Qu ht ha hb) λD σ H q=>?_;obtain⟨ads,M,ρ,s,q⟩:=q;refine⟨ads,M,ρ,s,?_⟩;simp only[zT]at q
 cases hq:d8 G t ρ M with
 | ok r M1 =>
  rw[hq]at q;intro H1 aq g1 m1;have q:mY X.K ads H D (if r then cE G a ρ M1 else cE G b ρ M1):=q;have q:=q.shift g1 s.mem m1
  cases r with
  | true=>rw[aw rfl]at q⊢;exact⟨aq,M1,ρ,s.grow g1 m1,q⟩
  | false=>rw[az (by simp)]at q⊢;exact⟨aq,M1,ρ,s.grow g1 m1,q⟩
 | err _ _=>rw[hq]at q;exact q
 | af=>rw[hq]at q;exact q
theorem R7(hx:X.xe=λ_ _=>False)(ht:PT X c (oG X.K (d8 G t)))(hb:rO X body (qQ X.K (cE G b))):PS X (.While c body [] pos) (qQ X.K (j9 G (.Gm n t b))):=by
 refine zV (Dd (by rw[hx];exact PassesOwn.never) ht hb) λD σ H q=>?_;obtain⟨ads,M,ρ,s,q⟩:=q;simp only[zU]at q;refine⟨λm cU H'=>∃aF M' ez,SR X.K aF M' ez cU H'/\aJ ads aF H H'/\mY X.K ads H D (oU (λρ M=>d8 G t ρ M) (λρ M=>cE G b ρ M) m ez M'),⟨n,ads,M,ρ,s,aJ.refl _ _,q⟩,?_⟩;rintro m cU H' ⟨aF,M',ez,s',g',q'⟩
 cases m with
 | zero=>exact q'.elim
 | succ m =>
  unfold oU at q';refine⟨aF,M',ez,s',?_⟩
  cases hq:d8 G t ez M' with
  | ok r M1 =>
   simp only[hq]at q';intro H1 aq g1 m1;have s1:=s'.grow g1 m1;have g2:=g'.trans g1
   cases r with
   | true =>
    rw[aw rfl]at q'⊢;refine⟨λy4 H2=>∃bI M2 qR,SR X.K bI M2 qR y4 H2/\aJ ads bI H H2/\mY X.K ads H D (oU (λρ M=>d8 G t ρ M) (λρ M=>cE G b ρ M) m qR M2),λy4 H2 z=>⟨m,ju m,z⟩,aq,M1,ez,s1,?_⟩
    cases By:cE G b ez M1 with
    | nx qR M2=>rw[By]at q';exact λy4 H2 bI g3 s2=>⟨bI,M2,qR,s2,g2.trans g3,q'⟩
    | ct qR M2=>rw[By]at q';exact λy4 H2 bI g3 s2=>⟨bI,M2,qR,s2,g2.trans g3,q'⟩
    | bk qR M2=>rw[By]at q';exact λy4 H2 bI g3 s2=>q' y4 H2 bI (g2.trans g3) s2
    | rt w M2=>rw[By]at q';exact kF.shift q' g2 s.mem m1
    | af=>rw[By]at q';exact q'.elim
   | false =>
    rw[az (by simp)]at q'⊢;exact q' cU H1 aq g2 s1
  | err _ _=>simp only[hq]at q';exact q'.elim
  | af=>simp only[hq]at q';exact q'.elim
theorem R8(g:Good kk X cc G)(hx:X.xe=λ_ _=>False)(hs:PI X t aQ (tI X.K (dm G k ee)))(hn:eE aQ=true)(ht:jK cc tg t=true)(hb:rO X body (qQ X.K (cE G b))):PS X (.For t aQ body [] pos) (qQ X.K (j9 G (.bE tg k ee b))):=by
 refine zV (LN (by rw[hx];exact PassesOwn.never) g.calm hs (kO g ht) hb (sU hn X.env)) λD σ H q=>?_;obtain⟨ads,M,ρ,s,q⟩:=q;refine⟨ads,M,ρ,s,?_⟩;simp only[vW]at q
 cases hq:dm G k ee ρ M with
 | ok it M1 =>
  rw[hq]at q;intro J H1 aq g1 m1 rj;exact IH (λD σ H h=>h) (s.grow g1 m1) rj (mY.shift (o:=ej (λρ M=>cE G b ρ M) it tg (dW M1 it) 0 ρ M1) q g1 s.mem m1)
 | err _ _=>rw[hq]at q;exact q
 | af=>rw[hq]at q;exact q
end
section
variable {kk:Nat} {G:dN} {X:Cx} {cc:CC}
theorem IK{tg:List Nat}{cond:Option fL}{ifs:List Expr}(g:Good kk X cc G)(EC:vH cc sc=true)(DC:dB=oM cc sc)(Xm:jK (sN cc sc) tg t=true)(kP:Iw (sN cc sc) cond ifs=true)(Xq:bZ (sN cc sc) elt el=true)(aa:List (Addr×Obj))(s:Shared)(σ:L2.St)(H:Hp)(I:Inv X aa σ H s):∃cl,lG X sc (fH sc) dB cl t el ifs (tG X.K tg) (cond.map λt=>oG X.K (d8 G t)) (tE X.K (ev G elt)):=by
 obtain⟨h1,h2,h3,h4,h5⟩:=mX EC
 obtain⟨cl,UN⟩:=zO (X:=X) (sc:=sc) λy hy hf=>by
  obtain⟨_,ho⟩:=h5 y hy hf;refine I.ok.has y.1 ?_;rcases ho with ho | ho
  ·exact .inl (g.kinds _ _ ho)
  ·exact g.kinds _ _ ho
 refine⟨cl,h1,h2,h3,UN,DC▸EA g EC,λC s H fp=>kO (g.block EC C s H fp) Xm,?_,λC s H fp=>a_ elt (sN cc sc) _ el (g.block EC C s H fp) Xq⟩
 cases cond with
 | none =>
  cases ifs with
  | nil=>rfl
  | cons _ _=>cases kP
 | some tt =>
  cases ifs with
  | nil=>cases kP
  | cons e es =>
   cases es with
   | cons _ _=>cases kP
   | nil=>exact⟨e,rfl,λC s H fp=>x_ tt (sN cc sc) (X.block sc cl C (fH sc) s H fp []) e (g.block EC C s H fp) kP⟩
theorem IL{ee:List C}{tg:List Nat}{cond:Option fL}(σ:L2.St)(H:Hp)(Q:VK)(q:tE X.K (ev G (.comp k ee tg cond elt dB)) σ H Q):zh dB (tI X.K (dm G k ee)) (tG X.K tg) (cond.map λt=>oG X.K (d8 G t)) (tE X.K (ev G elt)) σ H Q:=by
 obtain⟨ads,M,ρ,sr,q⟩:=q;refine⟨ads,M,ρ,sr,?_⟩
 have q:cQ X.K ads H Q ((dm G k ee ρ M).bind λit M=>bp (λτ M=>bV G cond τ M) (λτ M=>(ev G elt τ M).bind own) it tg (dW M it) 0 (fb dB ρ) M []):=by
  simp only[sC]at q;unfold dm
  cases hw:dE G ee ρ M with
  | ok ws M1=>rw[hw]at q;exact q
  | err _ _=>rw[hw]at q;exact q
  | af=>rw[hw]at q;exact q
 cases hs:dm G k ee ρ M with
 | ok it M1 =>
  rw[hs]at q;intro J H1 aq g1 m1 rj;exact vR (sr.grow g1 m1) rj (cQ.shift (o:=bp (λτ M=>bV G cond τ M) (λτ M=>(ev G elt τ M).bind own) it tg (dW M1 it) 0 (fb dB ρ) M1 []) q g1 sr.mem m1)
 | err _ _=>rw[hs]at q;exact q
 | af=>rw[hs]at q;exact q
structure EG (kk:Nat) (X:Cx) (cc:CC) (G:dN):Prop where
 g:Good kk X cc G
 bk:X.env.blockKind=.function
 nx:X.xe=λ_ _=>False
theorem B5(h:(!fI v||Nat.beq v.ctorIdx 8)=true)(hc:fI v=true):∃el gens sc q,v=.ListComp el gens sc q:=by
 rw[hc]at h;exact Expr.ListComp.elim (motive_1:=λv=>∃el gens sc q,v=.ListComp el gens sc q) v (Nat.eq_of_beq_eq_true h) λel gens sc q=>⟨el,gens,sc,q,rfl⟩
theorem NH(h:bZ cc c (.ListComp el gens sc q)=true):∃k ee tg cond elt dB,c=.comp k ee tg cond elt dB:=by
 cases c<;>first | exact absurd (show false=true from h) aT | exact⟨_,_,_,_,_,_,rfl⟩
end
mutual
theorem Xr:∀(s:S)(cc:CC)(X:Cx)(st:Stmt),EG kk X cc G->NC cc s st=true->PS X st (qQ X.K (j9 G s))
 | .asg tg c,cc,X,st,g,h=>fZ (P:=λst=>PS X st _) h λts v pos h=>by
  rcases ts with _|⟨t,_|⟨_,_⟩⟩<;>first | exact absurd h aT | skip
  simp only[aU]at h;exact R4 g.g h.1.1.1 h.1.1.2 (B5 h.1.2) (a_ c cc X v g.g h.2)
 | .fR i c,cc,X,st,g,h=>fZ (P:=λst=>PS X st _) h λts v pos h=>by
  rcases ts with _|⟨t,_|⟨_,_⟩⟩<;>first | exact absurd h aT | skip
  refine bX (P:=λt=>PS X (.Assign [t] v pos) _) h λx p h=>jJ (P:=λv=>PS X (.Assign [.Name x p] v pos) _) h λel gens sc q h=>?_;simp only[aU,jN]at h;obtain⟨⟨⟨⟨h1,h2⟩,h3⟩,h4⟩,h5⟩:=h;obtain⟨k,ee,tg,cond,elt,dB,rfl⟩:=NH h5;rcases gens with _|⟨⟨t,aQ,ifs,as⟩,_|⟨_,_⟩⟩<;>first | exact absurd (show false=true from h5) aT | skip
  have h6:(as==0&&vH cc sc&&decide (dB=oM cc sc)&&sO cc k ee t aQ&&jK (sN cc sc) tg t&&Iw (sN cc sc) cond ifs&&bZ (sN cc sc) elt el)=true:=h5;simp only[aU,jP,rD]at h6;obtain⟨⟨⟨⟨⟨⟨rfl,k1⟩,k2⟩,k3⟩,k4⟩,k5⟩,k6⟩:=h6;obtain⟨ED,lE⟩:=ya ee k cc X t aQ g.g k3
  exact ND g.g g.bk (eq_of_beq h1) (eq_of_beq h2) (eq_of_beq h3) h4 (λaa s σ H I=>by
   obtain⟨cl,ck⟩:=IK g.g k1 k2 k4 k5 k6 aa s σ H I;exact⟨cl,ED,ck⟩) (sU lE X.env) IL
 | .par i j a b,_,_,_,_,h=>absurd (show false=true from h) aT
 | .put o i v,cc,X,st,g,h=>fZ (P:=λst=>PS X st _) h λts w pos h=>by
  rcases ts with _|⟨t,_|⟨_,_⟩⟩<;>first | exact absurd h aT | skip
  refine cL (P:=λt=>PS X (.Assign [t] w pos) _) h λe f sp h=>?_;simp only[aU]at h;obtain⟨⟨⟨h1,h3⟩,h4⟩,h5⟩:=h;exact R5 g.g h1 (a_ o cc X e g.g h3) (a_ i cc X f g.g h4) (a_ v cc X w g.g h5)
 | .dput o i v,cc,X,st,g,h=>fZ (P:=λst=>PS X st _) h λts w pos h=>by
  rcases ts with _|⟨t,_|⟨_,_⟩⟩<;>first | exact absurd h aT | skip
  refine cL (P:=λt=>PS X (.Assign [t] w pos) _) h λe f sp h=>?_;simp only[aU]at h;obtain⟨⟨⟨h1,h3⟩,h4⟩,h5⟩:=h;exact NF g.g h1 (a_ o cc X e g.g h3) (a_ i cc X f g.g h4) (a_ v cc X w g.g h5)
 | .expr c,cc,X,st,g,h=>B1 (P:=λst=>PS X st _) h λe pos h=>by
  simp only[aU,jN]at h;exact NG h.1 (a_ c cc X e g.g h.2)
 | .ret c,cc,X,st,g,h=>mw (P:=λst=>PS X st _) h λv pos h=>by
  cases v with
  | none=>exact absurd h aT
  | some e=>exact R6 (a_ c cc X e g.g h)
 | .EF,cc,X,st,g,h=>mw (P:=λst=>PS X st _) h λv pos h=>by
  cases v with
  | some e=>exact absurd h aT
  | none =>
   refine zV GX λD σ H q=>?_;obtain⟨ads,M,ρ,s,q⟩:=q;exact q .aR H ads (aJ.refl _ _) s.mem (show RD X.K ads H .aR .aR from g_)
 | .iff t a b,cc,X,st,g,h=>Iq (P:=λst=>PS X st _) h λc x y pos h=>by
  simp only[aU]at h;exact Xp (x_ t cc X c g.g h.1.1) (qT a cc X x g h.1.2) (qT b cc X y g h.2)
 | .bE tg k ee b,cc,X,st,g,h=>Ef (P:=λst=>PS X st _) h λt aQ body R0 pos h=>by
  simp only[aU,AS]at h;obtain⟨⟨⟨rfl,h1⟩,h2⟩,h3⟩:=h;obtain⟨hs,hn⟩:=ya ee k cc X t aQ g.g h1;exact R8 g.g g.nx hs hn h2 (qT b cc X body g h3)
 | .Gm n t b,cc,X,st,g,h=>xV (P:=λst=>PS X st _) h λc body R0 pos h=>by
  simp only[aU,AS]at h;obtain⟨⟨rfl,h1⟩,h2⟩:=h;exact R7 g.nx (x_ t cc X c g.g h1) (qT b cc X body g h2)
 | .never,cc,X,st,g,h=>zV C9 λD σ H q=>by
  obtain⟨ads,M,ρ,s,q⟩:=q;exact q
 | .pass,cc,X,st,g,h=>B2 (P:=λst=>PS X st _) h λpos h=>zV GV λD σ H q=>by
  obtain⟨ads,M,ρ,s,q⟩:=q;exact q σ H ads (aJ.refl _ _) s
 | .brk,cc,X,st,g,h=>xY (P:=λst=>PS X st _) h λpos h=>zV C8 λD σ H q=>by
  obtain⟨ads,M,ρ,s,q⟩:=q;exact q σ H ads (aJ.refl _ _) s
 | .cont,cc,X,st,g,h=>qj (P:=λst=>PS X st _) h λpos h=>zV uH λD σ H q=>by
  obtain⟨ads,M,ρ,s,q⟩:=q;exact q σ H ads (aJ.refl _ _) s
theorem qT:∀(ss:List S)(cc:CC)(X:Cx)(st:List Stmt),EG kk X cc G->jL cc ss st=true->rO X st (qQ X.K (cE G ss))
 | [],cc,X,[],g,h=>R1 GU λD σ H q=>by
  obtain⟨ads,M,ρ,s,q⟩:=q;exact q σ H ads (aJ.refl _ _) s
 | [],cc,X,_::_,g,h=>by cases h
 | _::_,cc,X,[],g,h=>by cases h
 | s::ss,cc,X,t::ts,g,h=>by
  have h':(NC cc s t&&jL cc ss ts)=true:=h;simp only[aU]at h';exact R1 (C7 (Xr s cc X t g h'.1) (qT ss cc X ts g h'.2)) λD σ H q=>R3 q
end
noncomputable def h_(n:Nat)(ds:List D):En:=ds.map some++List.replicate (n-ds.length) none
def ar(G:dN)(n:Nat)(body:List S)(ds:List D)(M:ak):cK W:=match cE G body (h_ n ds) M with
 | .rt w M=>.ok w M
 | .nx _ M=>.ok (.d .aR) M
 | _=>.af
theorem EH{K:PySem.W.Frag}{ads:List Addr}{H:Hp}:∀{ds:List D}{vs:List V}(r:aP K ads H ds vs)(k:Nat),Rm K ads H (ds.map some++List.replicate k none) (vs.map some++List.replicate k none)
 | ds,vs,r,k=>by
  intro i d e;by_cases hi:i<ds.length
  ·rw[jn (by simpa using hi),bj]at e
   cases q:ds[i]? with
   | none=>rw[q]at e;cases e
   | some d' =>
    rw[q]at e;cases e;obtain⟨v,ev,rv⟩:=r.get q;exact⟨v,by rw[jn (by rw[aB,<- r.len];exact hi),bj,ev];rfl,rv⟩
  ·rw[mD (by simpa using hi),List.getElem?_replicate]at e;split at e<;>cases e
theorem NI{P:Program}{w:World}{K:PySem.W.Frag}{mg:Str->Option Value}{base:Heap}{x qual:Str}{st:Stmt}{f:Addr}{fd:FuncData}{N ps:List Str}{k:Nat}{G:dN}{fs:List (Str×Nat)}{gs:List (Str×Int)}{body:List S}{n:Nat}(F:Us K x qual st f fd)(Sc:km N ps (bP st))(hn:ps.length=n)(hb:jL ⟨N,(bP st).names,fs,gs⟩ body (fh st)=true)(Xs:∀b∈cM,mg b=none)(hgs:∀(x:Str)(v:Int),gs.lookup x=some v->∃t,mg x=some (.int v t))(Xo:∀(i:Nat)(x:Str)(n:Nat),fs[i]?=some (x,n)->∃f fd ps,iM P w K mg base Bt k f fd ps (Iy K n (G i))/\mg x=some (.ref f)/\PySem.W.keepIn K (.ref f)=true/\Binds K fd ps []):iM P w K mg base Bt (k+1) f fd ps (Iy K n (ar G N.length body)):=by
 have rW:ps.length<=N.length:=by have:=lu List.length Sc.pre;rw[gW]at this;omega
 refine F.ok Sc (λvs H Q E h=>?_) λpN A outer s H vs Q E hr Gf=>?_
 ·obtain⟨ads,M,ds,m,r,hl,_⟩:=h;rw[<- r.len,hl,hn]
 ·have gs:EG k (xn Bt P w K mg base N qual (bP st) f pN A outer s H E).Qp ⟨N,(bP st).names,fs,gs⟩ G:=by
   refine⟨⟨rfl,hr,rfl,Sc.nd,λx k e=>?_,λ_ _=>rfl,Xs,hgs,Xo⟩,?_,rfl⟩
   ·have e:(bP st).names.lookup x=some k:=e
    cases k with
    | «local»=>exact e
    | cell=>exact e
    | free=>exact absurd rfl (Sc.Dl _ (nG e))
    | globalExplicit=>exact True.intro
    | globalImplicit=>exact e
   ·show(if (bP st).kind.isAnnotationScope then ScopeKind.function else (bP st).kind)=_;rw[Sc.kind];rfl
  refine⟨_,qT body _ _ (fh st) gs hb,?_⟩;obtain⟨ads,M,ds,m,r,hl,q⟩:=Gf
  have aY:(h_ N.length ds).length=N.length:=by
   unfold h_;rw[cC,aB,K_];omega
  refine⟨ads,M,h_ N.length ds,⟨m,?_,?_⟩,?_⟩
  ·unfold h_ L2.start;rw[<- r.len];exact EH r _
  ·rw[aY];unfold L2.start;rw[cC,aB,K_,<- r.len];omega
  ·unfold ar at q
   cases hq:cE G body (h_ N.length ds) M with
   | nx ρ M1=>rw[hq]at q;exact λcU H' aF g s'=>q .aR H' aF g s'.mem (show RD K aF H' .aR .aR from g_)
   | rt w M1=>rw[hq]at q;exact q
   | bk _ _=>rw[hq]at q;exact q.elim
   | ct _ _=>rw[hq]at q;exact q.elim
   | af=>rw[hq]at q;exact q.elim
noncomputable def cS(l:List (List D->ak->cK W)):dN:=λi ds M=>match l[i]? with
 | some f=>f ds M
 | none=>.af
abbrev fq(x:Str)(s:Stmt)(m c:Value):FuncData:=PySem.W.fnOf x x (mR s) (fh s) (bP s) .none .none .none m none c .none
noncomputable def fo(f:FuncData):Obj:=⟨.type "function",none,.func f,#[]⟩
theorem NJ{K:PySem.W.Frag}{h:Heap}{mg:Str->Option Value}{gs:List (Str×Int)}(X:K.In h)(G:h.Ns mainGlobals mg)(z:gs.all (λp=>match PySem.W.nsIn K mainGlobals p.1 with | some (some (.int v _))=>v==p.2 | _=>false)=true):∀(x:Str)(v:Int),gs.lookup x=some v->∃t,mg x=some (.int v t):=by
 intro x v e;have q:=CM.mp z (x,v) (nG e);dsimp only at q;split at q
 ·rename_i w t e2
  obtain rfl:=eq_of_beq q;exact⟨t,PySem.W.mg_of X G e2⟩
 ·exact absurd q aT
section
variable {P:Program} {w:World} {K:PySem.W.Frag} {mg:Str->Option Value} {base h:Heap} {k k2:Nat} {x:Str} {n:Nat} {fs:List (Str×Nat)} {Fs:List (List D->ak->cK W)} {F:List D->ak->cK W} {gs:List (Str×Int)}
structure Is (P:Program) (w:World) (K:PySem.W.Frag) (mg:Str->Option Value) (base:Heap) (k:Nat) (x:Str) (n:Nat) (F:List D->ak->cK W):Prop where
 is:∃f fd ps,iM P w K mg base Bt k f fd ps (Iy K n F)/\mg x=some (.ref f)/\PySem.W.keepIn K (.ref f)=true/\Binds K fd ps []
theorem Is.mono(h:Is P w K mg base k x n F)(hk:k<=k2):Is P w K mg base k2 x n F:=by
 obtain⟨f,fd,ps,a,b⟩:=h.is;exact⟨f,fd,ps,a.mono hk,b⟩
noncomputable def All(P:Program)(w:World)(K:PySem.W.Frag)(mg:Str->Option Value)(base:Heap)(k:Nat)(fs:List (Str×Nat))(Fs:List (List D->ak->cK W)):Prop:=fs.length=Fs.length/\∀(i:Nat)(x:Str)(n:Nat),fs[i]?=some (x,n)->∃F,Fs[i]?=some F/\Is P w K mg base k x n F
theorem All.nil:All P w K mg base k [] []:=⟨rfl,λi x n e=>by simp at e⟩
theorem All.snoc(h:All P w K mg base k fs Fs)(g:Is P w K mg base (k+1) x n F):All P w K mg base (k+1) (fs++[(x,n)]) (Fs++[F]):=by
 obtain⟨hl,h⟩:=h;refine⟨by rw[cC,cC,hl];rfl,λi y m e=>?_⟩;by_cases hi:i<fs.length
 ·rw[jn hi]at e;obtain⟨F,a,b⟩:=h i y m e;exact⟨F,by rw[jn ∅];exact a,b.mono (uu _)⟩
 ·have:i=fs.length:=by
   have:=(bq.mp e).1;simp at this;omega
  subst this;simp at e;obtain⟨rfl,rfl⟩:=e;exact⟨F,by rw[hl];simp,g⟩
theorem All.fns(h:All P w K mg base k fs Fs):∀(i:Nat)(x:Str)(n:Nat),fs[i]?=some (x,n)->∃f fd ps,iM P w K mg base Bt k f fd ps (Iy K n (cS Fs i))/\mg x=some (.ref f)/\PySem.W.keepIn K (.ref f)=true/\Binds K fd ps []:=λi y m e=>by
 obtain⟨F,a,b⟩:=h.2 i y m e;have:cS Fs i=F:=by funext ds M;unfold cS;rw[a]
 rw[this];exact b.is
noncomputable def UP(N ps:List Str)(sc:Scope):Bool:=(match sc.kind with | .function=>true | _=>false) && !sc.isCoroutine && !sc.isGenerator&&decide N.Nodup&&decide (N.take ps.length=ps)&&ps.all (λx=>match sc.names.lookup x with | some .local=>true | some .cell=>true | _=>false)&&sc.names.all λy=>match y.2 with | .free=>false | _=>true
theorem NK{N ps:List Str}(h:UP N ps sc=true):km N ps sc:=by
 unfold UP at h;simp only[aU,CM,rD,jN]at h;obtain⟨⟨⟨⟨⟨⟨h1,h2⟩,h3⟩,h4⟩,h5⟩,h6⟩,h7⟩:=h;refine⟨?_,h2,h3,h4,h5,λx hx=>?_,λy hy e=>?_⟩
 ·split at h1
  ·assumption
  ·cases h1
 ·have:=h6 x hx;split at this
  ·exact .inl (by assumption)
  ·exact .inr (by assumption)
  ·cases this
 ·have:=h7 y hy;rw[e]at this;cases this
noncomputable def Xu:Nat->(List Value->Prop)->Prop
 | 0,P=>P []
 | k+1,P=>∀a,Xu k λus=>P (a::us)
theorem R9:∀{k:Nat}{P:List Value->Prop},Xu k P->∀us,us.length=k->P us:=by
 intro k
 induction k with
 | zero=>intro P h us e;rw[K6.mp e];exact h
 | succ k ih =>
  intro P h us e
  cases us with
  | nil=>cases e
  | cons a us=>exact ih (P:=λus=>P (a::us)) (h a) us (Nat.succ.inj e)
structure Cw (K:PySem.W.Frag) (h:Heap) (mg:Str->Option Value) (gs:List (Str×Int)):Prop where
 X:K.In h
 G:h.Ns mainGlobals mg
 b:∀b∈cM,mg b=none
 g:∀(x:Str)(v:Int),gs.lookup x=some v->∃t,mg x=some (.int v t)
theorem EI(x:Str)(a:Addr)(st:Stmt)(N ps:List Str)(b:List S)(m c:Value)(W:Cw K h mg gs)(A:All P w K mg base k fs Fs)(lk:K.lookup a=some (fo (fq x st m c)))(hc:PySem.W.codeIn K c x=true)(hk:PySem.W.keepIn K (.ref a)=true)(hb:(UP N ps (bP st)&&jL ⟨N,(bP st).names,fs,gs⟩ b (fh st))=true):iM P w K mg base Bt (k+1) a (fq x st m c) ps (Iy K ps.length (ar (cS Fs) N.length b)) :=
 NI (Mk lk hc hk) (NK ((aU _ _).mp hb).1) rfl ((aU _ _).mp hb).2 W.b W.g A.fns
theorem nx(x:Str)(a:Addr)(st:Stmt)(N ps:List Str)(b:List S)(m c:Value)(W:Cw K h mg gs)(A:All P w K mg base k fs Fs)(ha:PySem.W.nsIn K mainGlobals x=some (some (.ref a)):=by (kernel_rfl))(lk:K.lookup a=some (fo (fq x st m c)):=by (kernel_rfl))(hc:PySem.W.codeIn K c x=true:=by (kernel_rfl))(hk:PySem.W.keepIn K (.ref a)=true:=by (kernel_rfl))(hb:(UP N ps (bP st)&&jL ⟨N,(bP st).names,fs,gs⟩ b (fh st))=true:=by (decide +kernel))(bd:Xu ps.length λus=>bindArgs (fq x st m c) ⟨us,[]⟩=pure (ps.zip us):=by (repeat intro _);rfl):All P w K mg base (k+1) (fs++[(x,ps.length)]) (Fs++[ar (cS Fs) N.length b]) :=
 A.snoc ⟨a,_,ps,EI x a st N ps b m c W A lk hc hk hb,PySem.W.mg_of W.X W.G ha,hk,.all (R9 bd)⟩
end
@[irreducible] noncomputable def aV{α:Type}(o:cK α)(P:α->ak->Prop):Prop:=match o with
 | .ok a M=>P a M
 | _=>False
theorem bc{α:Type}{a:α}{M:ak}{P:α->ak->Prop}:aV (.ok a M) P=P a M:=by unfold aV;exact propext ux
theorem aN{α:Type}{P:α->ak->Prop}:aV .af P=False:=by unfold aV;exact propext ux
theorem je{α:Type}{P:α->ak->Prop}{x:YV}{M:ak}:aV (.err x M) P=False:=by unfold aV;exact propext ux
theorem aH{α β:Type}{o:cK α}{f:α->ak->cK β}{P:β->ak->Prop}:aV (o.bind f) P=aV o λa M=>aV (f a M) P:=by
 cases o with
 | ok a M=>rw[bc];rfl
 | err _ _=>rw[je];exact je
 | af=>rw[aN];exact aN
theorem aV.imp{α:Type}{o:cK α}{P Q:α->ak->Prop}(h:aV o P)(k:∀a M,P a M->Q a M):aV o Q:=by
 cases o with
 | ok a M=>rw[bc]at h⊢;exact k a M h
 | err _ _=>rw[je]at h;exact h.elim
 | af=>rw[aN]at h;exact h.elim
theorem jf{α:Type}{c:Prop}[Decidable c]{o:cK α}{P:α->ak->Prop}:aV (if c then o else .af) P=(c/\aV o P):=by
 by_cases h:c
 ·rw[aw h];exact propext ⟨λq=>⟨h,q⟩,λq=>q.2⟩
 ·rw[az h,aN];exact propext ⟨λq=>q.elim,λq=>absurd q.1 h⟩
theorem EJ{α:Type}{o:cK α}{P:α->ak->Prop}(h:aV o P):∃a M,o=.ok a M/\P a M:=by
 cases o with
 | ok a M=>rw[bc]at h;exact⟨a,M,rfl,h⟩
 | err _ _=>rw[je]at h;exact h.elim
 | af=>rw[aN]at h;exact h.elim
@[irreducible] noncomputable def gA(o:br)(nx:En->ak->Prop)(rt:W->ak->Prop)(bk ct:En->ak->Prop):Prop:=match o with
 | .nx ρ M=>nx ρ M
 | .rt w M=>rt w M
 | .bk ρ M=>bk ρ M
 | .ct ρ M=>ct ρ M
 | .af=>False
section
variable {nx:En->ak->Prop} {rt:W->ak->Prop} {bk ct:En->ak->Prop}
theorem dQ:gA (.nx ρ M) nx rt bk ct=nx ρ M:=by unfold gA;exact propext ux
theorem ib:gA (.rt w M) nx rt bk ct=rt w M:=by unfold gA;exact propext ux
theorem lV:gA (.bk ρ M) nx rt bk ct=bk ρ M:=by unfold gA;exact propext ux
theorem lW:gA (.ct ρ M) nx rt bk ct=ct ρ M:=by unfold gA;exact propext ux
theorem dI:gA .af nx rt bk ct=False:=by unfold gA;exact propext ux
theorem fw{α:Type}{o:cK α}{f:α->ak->br}:gA (br.gV o f) nx rt bk ct=aV o λa M=>gA (f a M) nx rt bk ct:=by
 cases o with
 | ok a M=>rw[bc];rfl
 | err _ _=>rw[je];exact dI
 | af=>rw[aN];exact dI
theorem IM:gA (o.seq f) nx rt bk ct=gA o (λρ M=>gA (f ρ M) nx rt bk ct) rt bk ct:=by
 cases o with
 | nx ρ M=>rw[dQ];rfl
 | rt ρ M=>rw[ib];exact ib
 | bk ρ M=>rw[lV];exact lV
 | ct ρ M=>rw[lW];exact lW
 | af=>rw[dI];exact dI
end
theorem IP:aV (ar G n b ds M) P=gA (cE G b (h_ n ds) M) (λ_ M=>P (.d .aR) M) P (λ_ _=>False) (λ_ _=>False):=by
 unfold ar
 cases cE G b (h_ n ds) M with
 | nx ρ M=>rw[dQ];exact bc
 | rt ρ M=>rw[ib];exact bc
 | bk ρ M=>rw[lV];exact aN
 | ct ρ M=>rw[lW];exact aN
 | af=>rw[dI];exact aN
section
variable {G:dN} {ρ:En} {M:ak} {P:W->ak->Prop}
theorem R_:aV (ev G (.ai d) ρ M) P=P (.d d) M:=by simp only[MB,bc]
theorem Sa:aV (ev G (.bin op a b) ρ M) P=aV (ev G a ρ M) λx M=>aV (ev G b ρ M) λy M=>aV (oy op x y M) P:=by simp only[MC,aH]
theorem Sb:aV (ev G (.cmp op a b) ρ M) P=aV (ev G a ρ M) λx M=>aV (ev G b ρ M) λy M=>aV (bh op x y M) λr M=>P (.d (.bl r)) M:=by simp only[DZ,aH,bc]
theorem Se:aV (ev G (.ite c a b) ρ M) P=aV (d8 G c ρ M) λr M=>if r then aV (ev G a ρ M) P else aV (ev G b ρ M) P:=by
 simp only[D0,aH]
 congr 1;funext r M
 cases r<;>rfl
theorem Sf:aV (ev G (.tup cs) ρ M) P=aV (bW G cs ρ M) λds M=>ds.length<=sizeLine/\P (.d (.tup ds)) M:=by
 simp only[D1,aH,jf,bc]
theorem Sg:aV (ev G (.lst cs) ρ M) P=aV (bW G cs ρ M) λds M=>ds.length<=sizeLine/\P (.lv ds) M:=by
 simp only[D2,aH,jf,bc]
theorem k_sub:aV (ev G (.sub a b) ρ M) P=aV (ev G a ρ M) λx M=>aV (ev G b ρ M) λy M=>aV (dy x y M) P:=by simp only[ME,aH]
theorem Sh{lo hi:Option C}:aV (ev G (.pP a lo hi) ρ M) P=aV (ev G a ρ M) λx M=>aV (ud G lo ρ M) λl M=>aV (ud G hi ρ M) λh M=>aV (oz x l h M) P:=by simp only[MF,aH]
theorem Si:aV (ev G (.Cy a k) ρ M) P=aV (ev G a ρ M) λx M=>aV (lK x k M) P:=by simp only[MG,aH]
theorem Xv{P:Option Int->ak->Prop}:aV (ud G none ρ M) P=P none M:=by simp only[oE,oF,bc]
theorem NL:aV (ev G (.call f cs) ρ M) P=aV (bW G cs ρ M) λds M=>aV (G f ds M) P:=by simp only[zx,aH]
theorem Xw:aV (ev G (.bi b cs) ρ M) P=aV (dE G cs ρ M) λws M=>aV (kc b ws M) P:=by simp only[D3,aH]
theorem Xx:aV (ev G (.me m o cs) ρ M) P=aV (ev G o ρ M) λx M=>(eX M x).isSome=true/\aV (bW G cs ρ M) λds M=>aV (mL m x ds M) P:=by
 simp only[D4,aH,jf]
theorem Sj{ks:List Str}  : aV (ev G (.u5 ks cs) ρ M) P=aV (bW G cs ρ M) λds M=>ks.length=ds.length/\P (.d (.aj M.length)) (M++[.dK ((ks.map Sum.inr).zip ds)]):=by
 simp only[xP,aH,jf,bc]
theorem NM{ee:List C}{tg:List Nat}{cond:Option fL}  : aV (ev G (.comp k ee tg cond elt dB) ρ M) P=aV (dE G ee ρ M) λws M=>aV (iB k ws M) λit M=>aV (bp (λτ M=>bV G cond τ M) (λτ M=>(ev G elt τ M).bind own) it tg (dW M it) 0 (fb dB ρ) M []) P:=by simp only[sC,aH]
theorem Xy{P:List D->ak->Prop}:aV (bW G [] ρ M) P=P [] M:=by simp only[gK,fy,bc]
theorem Xz{c:C}{cs:List C}{P:List D->ak->Prop}:aV (bW G (c::cs) ρ M) P=aV (ev G c ρ M) λw M=>aV (own w M) λd M=>aV (bW G cs ρ M) λds M=>P (d::ds) M:=by simp only[gK,fy,aH,bc]
theorem XA{P:List W->ak->Prop}:aV (dE G [] ρ M) P=P [] M:=by simp only[kE,ja,bc]
theorem XB{c:C}{cs:List C}{P:List W->ak->Prop}:aV (dE G (c::cs) ρ M) P=aV (ev G c ρ M) λw M=>aV (dE G cs ρ M) λds M=>P (w::ds) M:=by simp only[kE,ja,aH,bc]
theorem Sk{c:C}{P:Bool->ak->Prop}:aV (d8 G (.val c) ρ M) P=aV (ev G c ρ M) λw M=>∃r,qg M w=some r/\P r M:=by
 simp only[sD,aH]
 congr 1;funext w M
 cases h:qg M w with
 | none=>simp only[reduceCtorEq,false_and,exists_false,aN]
 | some r=>simp only[wW,exists_eq_left',bc]
theorem Sl{a:fL}{P:Bool->ak->Prop}:aV (d8 G (.neg a) ρ M) P=aV (d8 G a ρ M) λr M=>P (!r) M:=by simp only[HY,aH,bc]
theorem NN{a:fL}{P:Bool->ak->Prop}:aV (fU G [a] ρ M) P=aV (d8 G a ρ M) P:=by simp only[lP,j3,aH,bc]
theorem NO{a:fL}{P:Bool->ak->Prop}:aV (fV G [a] ρ M) P=aV (d8 G a ρ M) P:=by simp only[lQ,j4,aH,bc]
theorem NP{a b:fL}{cs:List fL}{P:Bool->ak->Prop}:aV (fU G (a::b::cs) ρ M) P=aV (d8 G a ρ M) λr M=>if r then aV (fU G (b::cs) ρ M) P else P false M:=by
 rw[j3];simp only[aH]
 congr 1;funext r M
 cases r with
 | true=>rfl
 | false=>exact bc
theorem NQ{a b:fL}{cs:List fL}{P:Bool->ak->Prop}:aV (fV G (a::b::cs) ρ M) P=aV (d8 G a ρ M) λr M=>if r then P true M else aV (fV G (b::cs) ρ M) P:=by
 rw[j4];simp only[aH]
 congr 1;funext r M
 cases r with
 | true=>exact bc
 | false=>rfl
theorem NR{ts:List fL}{P:Bool->ak->Prop}:aV (d8 G (.d7 ts) ρ M) P=aV (fU G ts ρ M) P:=by simp only[D5]
theorem NS{ts:List fL}{P:Bool->ak->Prop}:aV (d8 G (.iy ts) ρ M) P=aV (fV G ts ρ M) P:=by simp only[D6]
end
section
variable {G:dN} {ρ:En} {M:ak} {nx:En->ak->Prop} {rt:W->ak->Prop} {bk ct:En->ak->Prop}
theorem NT:gA (j9 G (.fR i c) ρ M) nx rt bk ct=aV (ev G c ρ M) λw M=>aV (own w M) λd M=>nx (ρ.set i (some d)) M:=by simp only[vT,fw,aH,dQ]
theorem Sn:gA (j9 G (.put o i v) ρ M) nx rt bk ct=aV (ev G v ρ M) λw M=>aV (own w M) λd M=>aV (ev G o ρ M) λx M=>aV (ev G i ρ M) λy M=>aV (hU x y d M) λ_ M=>nx ρ M:=by simp only[zR,fw,aH,dQ]
theorem NU:gA (j9 G (.expr c) ρ M) nx rt bk ct=aV (ev G c ρ M) λ_ M=>nx ρ M:=by simp only[vV,fw,dQ]
theorem So:gA (j9 G (.ret c) ρ M) nx rt bk ct=aV (ev G c ρ M) rt:=by simp only[zS,fw,ib]
theorem XC:gA (j9 G (.iff t a b) ρ M) nx rt bk ct=aV (d8 G t ρ M) λr M=>if r then gA (cE G a ρ M) nx rt bk ct else gA (cE G b ρ M) nx rt bk ct:=by
 simp only[zT,fw]
 congr 1;funext r M
 cases r<;>rfl
theorem Sr:gA (j9 G (.bE tg k ee b) ρ M) nx rt bk ct=aV (dE G ee ρ M) λws M=>aV (iB k ws M) λit M=>gA (ej (λρ M=>cE G b ρ M) it tg (dW M it) 0 ρ M) nx rt bk ct:=by
 simp only[vW,fw,dm,aH]
theorem Ss:gA (cE G [] ρ M) nx rt bk ct=nx ρ M:=by simp only[vX,qP,dQ]
theorem NV:gA (cE G (s::ss) ρ M) nx rt bk ct=gA (j9 G s ρ M) (λρ M=>gA (cE G ss ρ M) nx rt bk ct) rt bk ct:=by simp only[vX,qP,IM]
end
theorem lX{body:En->ak->br}{it:It}{tg:List Nat}{ds:List D}{nx:En->ak->Prop}{rt:W->ak->Prop}{bk ct:En->ak->Prop}(I:Nat->En->ak->Prop)(hd:∀i ρ M,I i ρ M->i<=ds.length->itemAt M i it=some ds[i]?)(hs:∀i ρ M d,I i ρ M->ds[i]?=some d->∃ez,b_ tg d ρ=some ez/\gA (body ez M) (I (i+1)) rt nx (I (i+1)))(he:∀ρ M,I ds.length ρ M->nx ρ M):∀(f i:Nat)(ρ:En)(M:ak),I i ρ M->i+f=ds.length->gA (ej body it tg f i ρ M) nx rt bk ct
 | 0,i,ρ,M,h,e=>by
  unfold ej;have:i=ds.length:=∅;subst this;rw[hd _ _ _ h (aI _),jo (aI _)];dsimp only;rw[dQ];exact he _ _ h
 | f+1,i,ρ,M,h,e=>by
  unfold ej;have hi:i<ds.length:=∅;rw[hd _ _ _ h (nM hi),bx hi];obtain⟨ez,e1,e2⟩:=hs i ρ M ds[i] h (bx hi);dsimp only;rw[e1];dsimp only
  cases q:body ez M with
  | nx qR M2=>rw[q,dQ]at e2;exact lX I hd hs he f (i+1) qR M2 e2 ∅
  | ct qR M2=>rw[q,lW]at e2;exact lX I hd hs he f (i+1) qR M2 e2 ∅
  | bk qR M2=>rw[q,lV]at e2;dsimp only;rw[dQ];exact e2
  | rt w M2=>rw[q,ib]at e2;dsimp only;rw[ib];exact e2
  | af=>rw[q,dI]at e2;exact e2.elim
theorem sX{cond:En->ak->cK Bool}{elt:En->ak->cK D}{it:It}{tg:List Nat}{ds:List D}{P:W->ak->Prop}(I:Nat->En->ak->List D->Prop)(hd:∀i ρ M acc,I i ρ M acc->i<=ds.length->itemAt M i it=some ds[i]?)(hs:∀i ρ M acc d,I i ρ M acc->ds[i]?=some d->acc.length<sizeLine/\∃ez,b_ tg d ρ=some ez/\aV (cond ez M) λb M=>if b then aV (elt ez M) λx M=>I (i+1) ez M (acc++[x]) else I (i+1) ez M acc)(he:∀ρ M acc,I ds.length ρ M acc->P (.lv acc) M):∀(f i:Nat)(ρ:En)(M:ak)(acc:List D),I i ρ M acc->i+f=ds.length->aV (bp cond elt it tg f i ρ M acc) P
 | 0,i,ρ,M,acc,h,e=>by
  unfold bp;have:i=ds.length:=∅;subst this;rw[hd _ _ _ _ h (aI _),jo (aI _)];dsimp only;rw[bc];exact he _ _ _ h
 | f+1,i,ρ,M,acc,h,e=>by
  unfold bp;have hi:i<ds.length:=∅;rw[hd _ _ _ _ h (nM hi),bx hi];obtain⟨hl,ez,e1,e2⟩:=hs i ρ M acc ds[i] h (bx hi);dsimp only;rw[e1];dsimp only;rw[aw hl,aH];refine e2.imp λb M2 q=>?_
  cases b with
  | true =>
   rw[aw rfl]at q⊢;rw[aH];exact q.imp λx M3 q=>sX I hd hs he f (i+1) ez M3 _ q ∅
  | false =>
   rw[az (by simp)]at q⊢;exact sX I hd hs he f (i+1) ez M2 _ q ∅
noncomputable def eI{α:Type}(o:cK α)(P:α->ak->Prop):Prop:=match o with
 | .ok a M=>P a M
 | _=>False
theorem bN{α:Type}{o:cK α}{P:α->ak->Prop}:aV o P=eI o P:=by
 cases o with
 | ok a M=>rw[bc];rfl
 | err _ _=>rw[je];rfl
 | af=>rw[aN];rfl
noncomputable def B6(x:W)(A B:Prop):Prop:=match x with
 | .d (.bl true)=>A
 | .d (.bl false)=>B
 | _=>False
noncomputable def bK(b:Bool)(A B:Prop):Prop:=match b with
 | true=>A
 | false=>B
theorem zW:bK b A B=if b=true then A else B:=by cases b<;>simp[bK]
noncomputable def IQ(o:Option Bool)(P:Bool->Prop):Prop:=match o with
 | some r=>P r
 | none=>False
noncomputable def IS(o:Option (Option D))(P:D->Prop):Prop:=match o with
 | some (some d)=>P d
 | _=>False
noncomputable def Gn(o:Option En)(P:En->Prop):Prop:=match o with
 | some ρ=>P ρ
 | none=>False
noncomputable def Su(w:W)(P:Int->Prop):Prop:=match w with
 | .d (.int i)=>P i
 | _=>False
def EK:D->Bool
 | .aR=>true
 | _=>false
theorem iV:SeqAt.shaped (.int i)=true:=by unfold SeqAt.shaped;rw[wU,wX];rfl
theorem Sv:bh .eq (.d (.int i)) (.d (.int j)) M=.ok (i==j) M:=by
 unfold bh;have h1:∀i,jx M (.d (.int i))=some (.int i):=λi=>by show dD M 30 (.int i)=_;unfold dD;rfl
 simp only[h1,iV,jQ,eP,CO]
theorem Sw:bh .ne (.d (.int i)) (.d (.int j)) M=.ok (!(i==j)) M:=by
 unfold bh;have h1:∀i,jx M (.d (.int i))=some (.int i):=λi=>by show dD M 30 (.int i)=_;unfold dD;rfl
 simp only[h1,iV,jQ,eP,CO]
def NW(op:Mu)(x y:W)(M:ak)(P:W->ak->Prop):Prop:=match op,x,y with
 | .add,.d (.int i),.d (.int j)=>P (.d (.int (i+j))) M
 | .sub,.d (.int i),.d (.int j)=>P (.d (.int (i-j))) M
 | .mul,.d (.int i),.d (.int j)=>((-(2 ^ 64)<i/\i<2 ^ 64)\/(-(2 ^ 64)<j/\j<2 ^ 64))/\P (.d (.int (i*j))) M
 | .fdiv,.d (.int i),.d (.int j)=>(0<j/\j<1073741824)/\P (.d (.int (i / j))) M
 | .mod,.d (.int i),.d (.int j)=>0<j/\P (.d (.int (i % j))) M
 | .add,.d (.tup xs),.d (.tup ys)=>xs.length+ys.length<=sizeLine/\P (.d (.tup (xs++ys))) M
 | .add,.lv xs,.lv ys=>xs.length+ys.length<=sizeLine/\P (.lv (xs++ys)) M
 | op,x,y=>eI (oy op x y M) P
theorem oV{α:Type}{c:Prop}[Decidable c]{a:α}{M:ak}{P:α->ak->Prop}:eI (if c then .ok a M else .af) P=(c/\P a M):=by
 by_cases h:c
 ·rw[aw h];exact propext ⟨λq=>⟨h,q⟩,λq=>q.2⟩
 ·rw[az h];exact propext ⟨λq=>q.elim,λq=>absurd q.1 h⟩
theorem IT:eI (oy op x y M) P=NW op x y M P:=by
 rcases x with⟨_|_ | i | _ | xs | _|_⟩ | xs
 all_goals (first | (cases op<;>rfl) | skip)
 ·rcases y with⟨_|_ | j | _|_|_|_⟩|_<;>cases op<;>first | rfl | exact oV
 ·rcases y with⟨_|_|_|_ | ys | _|_⟩|_<;>cases op<;>first | rfl | exact oV
 ·rcases y with⟨_|_|_|_|_|_|_⟩ | ys<;>cases op<;>first | rfl | exact oV
def yb(op:Mx)(x y:W)(M:ak)(P:Bool->ak->Prop):Prop:=match op,x,y with
 | .eq,.d (.int i),.d (.int j)=>P (i==j) M
 | .ne,.d (.int i),.d (.int j)=>P (!(i==j)) M
 | .uc,.d d,_=>P (EK d) M
 | .fj,.d d,_=>P (!EK d) M
 | op,x,y=>eI (bh op x y M) P
theorem sY:eI (bh op x y M) P=yb op x y M P:=by
 cases op
 case eq=>rcases x with⟨_|_ | i | _|_|_|_⟩|_<;>first | rfl | (rcases y with⟨_|_ | j | _|_|_|_⟩|_<;>first | (rw[Sv];rfl) | rfl)
 case ne=>rcases x with⟨_|_ | i | _|_|_|_⟩|_<;>first | rfl | (rcases y with⟨_|_ | j | _|_|_|_⟩|_<;>first | (rw[Sw];rfl) | rfl)
 case uc=>rcases x with⟨_|_|_|_|_|_|_⟩|_<;>rfl
 case fj=>rcases x with⟨_|_|_|_|_|_|_⟩|_<;>rfl
 all_goals (first | rfl | (rcases x with⟨_|_|_|_|_|_|_⟩|_<;>rfl))
def B7(k:SK)(ws:List W)(M:ak)(P:It->ak->Prop):Prop:=match k,ws with
 | .eK,[.d (.int j)]=>(-(2 ^ 62)<=j/\j<2 ^ 62)/\P (.lx 0 j.toNat) M
 | .qf,[.d (.int i),.d (.int j)]=>(-(2 ^ 62)<=i/\i<2 ^ 62/\-(2 ^ 62)<=j/\j<2 ^ 62)/\P (.lx i (j-i).toNat) M
 | k,ws=>eI (iB k ws M) P
theorem zX:eI (iB k ws M) P=B7 k ws M P:=by
 unfold B7;split<;>first | rfl | exact oV
def IU(tp:Bool)(ws:List W)(M:ak)(P:W->ak->Prop):Prop:=match xN ws with
 | some (i,j)=>((-(2 ^ 62)<=i/\i<2 ^ 62/\-(2 ^ 62)<=j/\j<2 ^ 62)/\(j-i).toNat<=2 ^ 24)/\P (DX tp (Ro i (j-i).toNat)) M
 | none=>False
theorem IV:eI (HQ tp ws M) P=IU tp ws M P:=by
 unfold HQ IU
 cases xN ws with
 | none=>rfl
 | some ij=>exact oV
mutual
noncomputable def wE(G:dN):C->En->ak->(W->ak->Prop)->Prop
  | .ae i,ρ,M,P=>IS ρ[i]? λd=>P (.d d) M
  | .ai d,_,M,P=>P (.d d) M
  | .bin op a b,ρ,M,P=>wE G a ρ M λx M=>wE G b ρ M λy M=>NW op x y M P
  | .cmp op a b,ρ,M,P=>wE G a ρ M λx M=>wE G b ρ M λy M=>yb op x y M λr M=>P (.d (.bl r)) M
  | .chain o1 o2 a b c, ρ, M, P => wE G a ρ M fun x M => wE G b ρ M fun y M => yb o1 x y M fun r M =>
      bK r (wE G c ρ M λz M=>yb o2 y z M λr M=>P (.d (.bl r)) M) (P (.d (.bl false)) M)
  | .d7 cs,ρ,M,P=>B8 G cs ρ M P
  | .iy cs,ρ,M,P=>PF G cs ρ M P
  | .neg a,ρ,M,P=>wE G a ρ M λx M=>B6 x (P (.d (.bl false)) M) (P (.d (.bl true)) M)
  | .ite c a b,ρ,M,P=>wT G c ρ M λr M=>bK r (wE G a ρ M P) (wE G b ρ M P)
  | .tup cs,ρ,M,P=>EL G cs ρ M λds M=>ds.length<=sizeLine/\P (.d (.tup ds)) M
  | .lst cs,ρ,M,P=>EL G cs ρ M λds M=>ds.length<=sizeLine/\P (.lv ds) M
  | .sub a b,ρ,M,P=>wE G a ρ M λx M=>wE G b ρ M λy M=>eI (dy x y M) P
  | .pP a lo hi,ρ,M,P=>wE G a ρ M λx M=>wO G lo ρ M λl M=>wO G hi ρ M λh M=>eI (oz x l h M) P
  | .Cy a k,ρ,M,P=>wE G a ρ M λx M=>eI (lK x k M) P
  | .call f cs,ρ,M,P=>EL G cs ρ M λds M=>aV (G f ds M) P
  | .bi b cs,ρ,M,P=>B9 G cs ρ M λws M=>eI (kc b ws M) P
  | .me m o cs,ρ,M,P=>wE G o ρ M λx M=>(eX M x).isSome=true/\EL G cs ρ M λds M=>eI (mL m x ds M) P
  | .u5 ks cs,ρ,M,P=>EL G cs ρ M λds M=>ks.length=ds.length/\P (.d (.aj M.length)) (M++[.dK ((ks.map Sum.inr).zip ds)])
  | .lx tp cs,ρ,M,P=>B9 G cs ρ M λws M=>IU tp ws M P
  | .HN _ v,_,M,P=>P (.d (.int v)) M
  | .lI,_,M,P=>P (.d (.aj M.length)) (M++[.dT []])
  | .jY a b,ρ,M,P=>wE G a ρ M λx M=>wE G b ρ M λy M=>eI (mq x y M) P
  | .gJ ng a b,ρ,M,P=>wE G a ρ M λx M=>wE G b ρ M λy M=>eI (jE ng x y M) P
  | .g9 ng a,ρ,M,P=>wE G a ρ M λx M=>eI (zw ng x M) P
  | .sset a,ρ,M,P=>wE G a ρ M λx M=>eI (oB x M) P
  | .comp k ee tg cond elt dB,ρ,M,P=>B9 G ee ρ M λws M=>B7 k ws M λit M=>aV (bp (λτ M=>bV G cond τ M) (λτ M=>(ev G elt τ M).bind own) it tg (dW M it) 0 (fb dB ρ) M []) P
noncomputable def wT(G:dN):fL->En->ak->(Bool->ak->Prop)->Prop
 | .d7 ts,ρ,M,P=>NX G ts ρ M P
 | .iy ts,ρ,M,P=>NY G ts ρ M P
 | .neg a,ρ,M,P=>wT G a ρ M λr M=>P (!r) M
 | .val c,ρ,M,P=>wE G c ρ M λw M=>IQ (qg M w) λr=>P r M
noncomputable def B8(G:dN):List C->En->ak->(W->ak->Prop)->Prop
 | [],_,_,_=>False
 | c::cs,ρ,M,P=>match cs with
  | []=>wE G c ρ M P
  | _::_=>wE G c ρ M λx M=>B6 x (B8 G cs ρ M P) (P (.d (.bl false)) M)
noncomputable def PF(G:dN):List C->En->ak->(W->ak->Prop)->Prop
 | [],_,_,_=>False
 | c::cs,ρ,M,P=>match cs with
  | []=>wE G c ρ M P
  | _::_=>wE G c ρ M λx M=>B6 x (P (.d (.bl true)) M) (PF G cs ρ M P)
noncomputable def NX(G:dN):List fL->En->ak->(Bool->ak->Prop)->Prop
 | [],_,_,_=>False
 | c::cs,ρ,M,P=>match cs with
  | []=>wT G c ρ M P
  | _::_=>wT G c ρ M λr M=>bK r (NX G cs ρ M P) (P false M)
noncomputable def NY(G:dN):List fL->En->ak->(Bool->ak->Prop)->Prop
 | [],_,_,_=>False
 | c::cs,ρ,M,P=>match cs with
  | []=>wT G c ρ M P
  | _::_=>wT G c ρ M λr M=>bK r (P true M) (NY G cs ρ M P)
noncomputable def EL(G:dN):List C->En->ak->(List D->ak->Prop)->Prop
 | [],_,M,P=>P [] M
 | c::cs,ρ,M,P=>wE G c ρ M λw M=>eI (own w M) λd M=>EL G cs ρ M λds M=>P (d::ds) M
noncomputable def B9(G:dN):List C->En->ak->(List W->ak->Prop)->Prop
 | [],_,M,P=>P [] M
 | c::cs,ρ,M,P=>wE G c ρ M λw M=>B9 G cs ρ M λws M=>P (w::ws) M
noncomputable def wO(G:dN):Option C->En->ak->(Option Int->ak->Prop)->Prop
 | none,_,M,P=>P none M
 | some c,ρ,M,P=>wE G c ρ M λw M=>Su w λi=>P (some i) M
end
section
variable {G:dN} {lo hi:Option C} {cond:Option fL}
theorem NZ:wE G (.ae i) ρ M P=IS ρ[i]? λd=>P (.d d) M:=rfl
theorem N0:wE G (.bin op a b) ρ M P=wE G a ρ M λx M=>wE G b ρ M λy M=>NW op x y M P:=rfl
theorem N1:wE G (.cmp op a b) ρ M P=wE G a ρ M λx M=>wE G b ρ M λy M=>yb op x y M λr M=>P (.d (.bl r)) M:=rfl
theorem EM : wE G (.chain o1 o2 a b c) ρ M P = (wE G a ρ M fun x M => wE G b ρ M fun y M => yb o1 x y M fun r M =>
      bK r (wE G c ρ M λz M=>yb o2 y z M λr M=>P (.d (.bl r)) M) (P (.d (.bl false)) M)):=rfl
theorem N3:wE G (.neg a) ρ M P=wE G a ρ M λx M=>B6 x (P (.d (.bl false)) M) (P (.d (.bl true)) M):=rfl
theorem N4:wE G (.ite c a b) ρ M P=wT G c ρ M λr M=>bK r (wE G a ρ M P) (wE G b ρ M P):=rfl
theorem N5:wE G (.sub a b) ρ M P=wE G a ρ M λx M=>wE G b ρ M λy M=>eI (dy x y M) P:=rfl
theorem N6:wE G (.pP a lo hi) ρ M P=wE G a ρ M λx M=>wO G lo ρ M λl M=>wO G hi ρ M λh M=>eI (oz x l h M) P:=rfl
theorem N7:wE G (.Cy a k) ρ M P=wE G a ρ M λx M=>eI (lK x k M) P:=rfl
theorem Sx:wE G (.bi b cs) ρ M P=B9 G cs ρ M λws M=>eI (kc b ws M) P:=rfl
theorem Sy:wE G (.me m o cs) ρ M P=wE G o ρ M λx M=>(eX M x).isSome=true/\EL G cs ρ M λds M=>eI (mL m x ds M) P:=rfl
theorem N8:wE G (.lx tp cs) ρ M P=B9 G cs ρ M λws M=>IU tp ws M P:=rfl
theorem IW:wE G (.jY a b) ρ M P=wE G a ρ M λx M=>wE G b ρ M λy M=>eI (mq x y M) P:=rfl
theorem IX:wE G (.gJ ng a b) ρ M P=wE G a ρ M λx M=>wE G b ρ M λy M=>eI (jE ng x y M) P:=rfl
theorem IY:wE G (.g9 ng a) ρ M P=wE G a ρ M λx M=>eI (zw ng x M) P:=rfl
theorem IZ:wE G (.sset a) ρ M P=wE G a ρ M λx M=>eI (oB x M) P:=rfl
theorem I0:wE G (.comp k ee tg cond elt dB) ρ M P=B9 G ee ρ M λws M=>B7 k ws M λit M=>aV (bp (λτ M=>bV G cond τ M) (λτ M=>(ev G elt τ M).bind own) it tg (dW M it) 0 (fb dB ρ) M []) P:=rfl
theorem N9:wT G (.val c) ρ M P=wE G c ρ M λw M=>IQ (qg M w) λr=>P r M:=rfl
theorem EN:B8 G [] u0 u1 u2=False:=rfl
theorem qU : B8 G (c :: cs) ρ M P = (match cs with
    | []=>wE G c ρ M P
    | _::_=>wE G c ρ M λx M=>B6 x (B8 G cs ρ M P) (P (.d (.bl false)) M)):=rfl
theorem I_:PF G [] u0 u1 u2=False:=rfl
theorem vY : PF G (c :: cs) ρ M P = (match cs with
    | []=>wE G c ρ M P
    | _::_=>wE G c ρ M λx M=>B6 x (P (.d (.bl true)) M) (PF G cs ρ M P)):=rfl
theorem Ja:EL G [] u0 M P=P [] M:=rfl
theorem EO:EL G (c::cs) ρ M P=wE G c ρ M λw M=>eI (own w M) λd M=>EL G cs ρ M λds M=>P (d::ds) M:=rfl
theorem Jb:B9 G [] u0 M P=P [] M:=rfl
theorem ER:B9 G (c::cs) ρ M P=wE G c ρ M λw M=>B9 G cs ρ M λws M=>P (w::ws) M:=rfl
theorem Jc:wO G none u0 M P=P none M:=rfl
theorem Jd:wO G (some c) ρ M P=wE G c ρ M λw M=>Su w λi=>P (some i) M:=rfl
end
def kQ(G:dN)(o:Option fL)(ρ:En)(M:ak)(P:Bool->ak->Prop):Prop:=match o with
 | none=>P true M
 | some t=>wT G t ρ M P
mutual
theorem il:∀(c:C)(ρ:En)(M:ak)(P:W->ak->Prop),aV (ev G c ρ M) P=wE G c ρ M P
 | .ae i,ρ,M,P=>by
  simp only[DY,NZ];rcases ρ[i]? with _|_ | d
  ·exact aN
  ·exact aN
  ·exact bc
 | .ai d,ρ,M,P=>by rw[R_];rfl
 | .bin op a b,ρ,M,P=>by rw[Sa,il a];simp only[il b,bN,N0,IT]
 | .cmp op a b,ρ,M,P=>by rw[Sb,il a];simp only[il b,bN,N1,sY]
 | .chain o1 o2 a b c,ρ,M,P=>by
  simp only[vA,aH,EM];rw[il a]
  congr 1;funext x M
  rw[il b]
  congr 1;funext y M
  rw[bN,sY]
  congr 1;funext r M
  cases r with
  | true=>simp only[aH,bc,eP,il c];simp only[bN,sY];rfl
  | false=>simp[bc,bK]
 | .d7 cs,ρ,M,P=>by rw[HS,w_and cs];rfl
 | .iy cs,ρ,M,P=>by rw[HU,w_or cs];rfl
 | .neg a,ρ,M,P=>by
  simp only[MD,aH,N3];rw[il a]
  congr 1;funext x M
  rcases x with⟨_ | b | _|_|_|_|_⟩|_
  ·exact aN
  ·cases b<;>exact bc
  all_goals exact aN
 | .ite c a b,ρ,M,P=>by rw[Se,Je c];simp only[il a,il b,N4,zW]
 | .tup cs,ρ,M,P=>by rw[Sf,yc cs];rfl
 | .lst cs,ρ,M,P=>by rw[Sg,yc cs];rfl
 | .sub a b,ρ,M,P=>by rw[k_sub,il a];simp only[il b,bN,N5]
 | .pP a lo hi,ρ,M,P=>by rw[Sh,il a];simp only[Y8 lo,Y8 hi,bN,N6]
 | .Cy a k,ρ,M,P=>by rw[Si,il a];simp only[bN,N7]
 | .call f cs,ρ,M,P=>by rw[NL,yc cs];rfl
 | .bi b cs,ρ,M,P=>by rw[Xw,ES cs];simp only[bN,Sx]
 | .me m o cs,ρ,M,P=>by rw[Xx,il o];simp only[yc cs,bN,Sy]
 | .u5 ks cs,ρ,M,P=>by rw[Sj,yc cs];rfl
 | .lx tp cs,ρ,M,P=>by simp only[MH,aH,N8];rw[ES cs];simp only[bN,IV]
 | .HN x v,ρ,M,P=>by rw[MI];exact bc
 | .lI,ρ,M,P=>by rw[HV];exact bc
 | .jY a b,ρ,M,P=>by simp only[HW,aH,IW];rw[il a];simp only[il b,bN]
 | .gJ ng a b,ρ,M,P=>by simp only[zy,aH,IX];rw[il a];simp only[il b,bN]
 | .g9 ng a,ρ,M,P=>by simp only[zA,aH,IY];rw[il a];simp only[bN]
 | .sset a,ρ,M,P=>by simp only[HX,aH,IZ];rw[il a];simp only[bN]
 | .comp k ee tg cond elt dB,ρ,M,P=>by rw[NM,ES ee];simp only[bN,I0,zX]
theorem Je:∀(c:fL)(ρ:En)(M:ak)(P:Bool->ak->Prop),aV (d8 G c ρ M) P=wT G c ρ M P
 | .d7 cs,ρ,M,P=>by rw[NR,w_all cs];rfl
 | .iy cs,ρ,M,P=>by rw[NS,w_any cs];rfl
 | .neg a,ρ,M,P=>by rw[Sl,Je a];rfl
 | .val c,ρ,M,P=>by
  rw[Sk,il c];simp only[N9]
  congr 1;funext w M
  cases qg M w with
  | none=>simp[IQ]
  | some r=>simp[IQ]
theorem w_and:∀(cs:List C)(ρ:En)(M:ak)(P:W->ak->Prop),aV (jF G cs ρ M) P=B8 G cs ρ M P
 | [],ρ,M,P=>by rw[lN];exact aN
 | [c],ρ,M,P=>by simp only[lN,j2,EN,qU,aH,bc,il c]
 | c::b::cs,ρ,M,P=>by
  rw[j2,qU,aH,il c]
  congr 1;funext x M
  rw[<- w_and (b::cs)];rcases x with⟨_ | b | _|_|_|_|_⟩|_
  ·exact aN
  ·cases b with
   | true=>rfl
   | false=>exact bc
  all_goals exact aN
theorem w_or:∀(cs:List C)(ρ:En)(M:ak)(P:W->ak->Prop),aV (qh G cs ρ M) P=PF G cs ρ M P
 | [],ρ,M,P=>by rw[oC];exact aN
 | [c],ρ,M,P=>by simp only[oC,lO,I_,vY,aH,bc,il c]
 | c::b::cs,ρ,M,P=>by
  rw[lO,vY,aH,il c]
  congr 1;funext x M
  rw[<- w_or (b::cs)];rcases x with⟨_ | b | _|_|_|_|_⟩|_
  ·exact aN
  ·cases b with
   | true=>exact bc
   | false=>rfl
  all_goals exact aN
theorem w_all:∀(cs:List fL)(ρ:En)(M:ak)(P:Bool->ak->Prop),aV (fU G cs ρ M) P=NX G cs ρ M P
 | [],ρ,M,P=>by rw[lP];exact aN
 | [c],ρ,M,P=>by rw[NN,Je c];rfl
 | c::b::cs,ρ,M,P=>by rw[NP,Je c];simp only[w_all (b::cs),<- zW];rfl
theorem w_any:∀(cs:List fL)(ρ:En)(M:ak)(P:Bool->ak->Prop),aV (fV G cs ρ M) P=NY G cs ρ M P
 | [],ρ,M,P=>by rw[lQ];exact aN
 | [c],ρ,M,P=>by rw[NO,Je c];rfl
 | c::b::cs,ρ,M,P=>by rw[NQ,Je c];simp only[w_any (b::cs),<- zW];rfl
theorem yc:∀(cs:List C)(ρ:En)(M:ak)(P:List D->ak->Prop),aV (bW G cs ρ M) P=EL G cs ρ M P
 | [],ρ,M,P=>by rw[Xy];rfl
 | c::cs,ρ,M,P=>by rw[Xz,il c];simp only[yc cs,bN,Ja,EO]
theorem ES:∀(cs:List C)(ρ:En)(M:ak)(P:List W->ak->Prop),aV (dE G cs ρ M) P=B9 G cs ρ M P
 | [],ρ,M,P=>by rw[XA];rfl
 | c::cs,ρ,M,P=>by rw[XB,il c];simp only[ES cs,bN,Jb,ER]
theorem Y8:∀(o:Option C)(ρ:En)(M:ak)(P:Option Int->ak->Prop),aV (ud G o ρ M) P=wO G o ρ M P
 | none,ρ,M,P=>by rw[Xv];rfl
 | some c,ρ,M,P=>by
  simp only[oE,oF,aH,Jc,Jd];rw[il c]
  congr 1;funext x M
  rcases x with⟨_|_ | z | _|_|_|_⟩|_
  ·exact aN
  ·exact aN
  ·exact bc
  all_goals exact aN
end
theorem w_cond:aV (bV G o ρ M) P=kQ G o ρ M P:=by
 cases o with
 | none=>exact bc
 | some t=>exact Je t ρ M P
theorem vZ:aV ((ev G c ρ M).bind own) P=wE G c ρ M λw M=>eI (own w M) P:=by
 rw[aH,il];simp only[bN]
mutual
noncomputable def wS(G:dN):S->En->ak->(En->ak->Prop)->(W->ak->Prop)->(En->ak->Prop)->(En->ak->Prop)->Prop
 | .asg tg c,ρ,M,nx,_,_,_=>wE G c ρ M λw M=>eI (own w M) λd M=>Gn (b_ tg d ρ) λρ=>nx ρ M
 | .fR i c,ρ,M,nx,_,_,_=>wE G c ρ M λw M=>eI (own w M) λd M=>nx (ρ.set i (some d)) M
 | .put o i v,ρ,M,nx,_,_,_=>wE G v ρ M λw M=>eI (own w M) λd M=>wE G o ρ M λx M=>wE G i ρ M λy M=>eI (hU x y d M) λ_ M=>nx ρ M
 | .dput o i v,ρ,M,nx,_,_,_=>wE G v ρ M λw M=>eI (own w M) λd M=>wE G o ρ M λx M=>wE G i ρ M λy M=>eI (ik x y d M) λ_ M=>nx ρ M
 | .par i j a b,ρ,M,nx,_,_,_=>wE G a ρ M λw M=>eI (own w M) λx M=>wE G b ρ M λw M=>eI (own w M) λy M=>nx ((ρ.set i (some x)).set j (some y)) M
 | .expr c,ρ,M,nx,_,_,_=>wE G c ρ M λ_ M=>nx ρ M
 | .ret c,ρ,M,_,rt,_,_=>wE G c ρ M rt
 | .EF,_,M,_,rt,_,_=>rt (.d .aR) M
 | .iff t a b,ρ,M,nx,rt,bk,ct=>wT G t ρ M λr M=>bK r (dX G a ρ M nx rt bk ct) (dX G b ρ M nx rt bk ct)
 | .bE tg k ee b,ρ,M,nx,rt,bk,ct=>B9 G ee ρ M λws M=>B7 k ws M λit M=>gA (ej (λρ M=>cE G b ρ M) it tg (dW M it) 0 ρ M) nx rt bk ct
 | .Gm n t b,ρ,M,nx,rt,bk,ct=>gA (oU (λρ M=>d8 G t ρ M) (λρ M=>cE G b ρ M) n ρ M) nx rt bk ct
 | .never,_,_,_,_,_,_=>False
 | .pass,ρ,M,nx,_,_,_=>nx ρ M
 | .brk,ρ,M,_,_,bk,_=>bk ρ M
 | .cont,ρ,M,_,_,_,ct=>ct ρ M
noncomputable def dX(G:dN):List S->En->ak->(En->ak->Prop)->(W->ak->Prop)->(En->ak->Prop)->(En->ak->Prop)->Prop
 | [],ρ,M,nx,_,_,_=>nx ρ M
 | s::ss,ρ,M,nx,rt,bk,ct=>wS G s ρ M (λρ M=>dX G ss ρ M nx rt bk ct) rt bk ct
end
section
variable {G:dN} {lo hi:Option C} {cond:Option fL} {nx bk ct:En->ak->Prop} {rt:W->ak->Prop}
theorem N_:wS G (.asg tg c) ρ M nx u0 u1 u2=wE G c ρ M λw M=>eI (own w M) λd M=>Gn (b_ tg d ρ) λρ=>nx ρ M:=rfl
theorem Jf:wS G (.fR i c) ρ M nx u0 u1 u2=wE G c ρ M λw M=>eI (own w M) λd M=>nx (ρ.set i (some d)) M:=rfl
theorem Oa:wS G (.put o i v) ρ M nx u0 u1 u2=wE G v ρ M λw M=>eI (own w M) λd M=>wE G o ρ M λx M=>wE G i ρ M λy M=>eI (hU x y d M) λ_ M=>nx ρ M:=rfl
theorem Jg:wS G (.dput o i v) ρ M nx u0 u1 u2=wE G v ρ M λw M=>eI (own w M) λd M=>wE G o ρ M λx M=>wE G i ρ M λy M=>eI (ik x y d M) λ_ M=>nx ρ M:=rfl
theorem Ob:wS G (.par i j a b) ρ M nx u0 u1 u2=wE G a ρ M λw M=>eI (own w M) λx M=>wE G b ρ M λw M=>eI (own w M) λy M=>nx ((ρ.set i (some x)).set j (some y)) M:=rfl
theorem Oc:wS G (.iff t a b) ρ M nx rt bk ct=wT G t ρ M λr M=>bK r (dX G a ρ M nx rt bk ct) (dX G b ρ M nx rt bk ct):=rfl
theorem Jh:wS G (.bE tg k ee b) ρ M nx rt bk ct=B9 G ee ρ M λws M=>B7 k ws M λit M=>gA (ej (λρ M=>cE G b ρ M) it tg (dW M it) 0 ρ M) nx rt bk ct:=rfl
theorem Od:wS G (.Gm n t b) ρ M nx rt bk ct=gA (oU (λρ M=>d8 G t ρ M) (λρ M=>cE G b ρ M) n ρ M) nx rt bk ct:=rfl
end
mutual
theorem w_s:∀(s:S)(ρ:En)(M:ak)(nx:En->ak->Prop)(rt:W->ak->Prop)(bk ct:En->ak->Prop),gA (j9 G s ρ M) nx rt bk ct=wS G s ρ M nx rt bk ct
 | .asg tg c,ρ,M,nx,rt,bk,ct=>by
  simp only[zQ,fw,N_];rw[vZ]
  congr 1;funext w M
  congr 1;funext d M
  cases b_ tg d ρ with
  | none=>exact dI
  | some ρ=>exact dQ
 | .fR i c,ρ,M,nx,rt,bk,ct=>by rw[NT,il c];simp only[bN,Jf]
 | .put o i v,ρ,M,nx,rt,bk,ct=>by rw[Sn,il v];simp only[il o,il i,bN,Oa]
 | .dput o i v,ρ,M,nx,rt,bk,ct=>by
  simp only[vU,fw,Jg];rw[vZ];simp only[il o,il i,bN,dQ]
 | .par i j a b,ρ,M,nx,rt,bk,ct=>by
  simp only[IG,fw];rw[yc];show wE G a ρ M (λw M=>eI (own w M) λx M=>wE G b ρ M λw M=>eI (own w M) λy M=>gA (.nx ((ρ.set i (some x)).set j (some y)) M) nx rt bk ct)=_;simp only[dQ,Ob]
 | .expr c,ρ,M,nx,rt,bk,ct=>by rw[NU,il c];rfl
 | .ret c,ρ,M,nx,rt,bk,ct=>by rw[So,il c];rfl
 | .EF,ρ,M,nx,rt,bk,ct=>ib
 | .iff t a b,ρ,M,nx,rt,bk,ct=>by rw[XC,Je t];simp only[sZ a,sZ b,Oc,zW]
 | .bE tg k ee b,ρ,M,nx,rt,bk,ct=>by rw[Sr,ES ee];simp only[bN,Jh,zX]
 | .Gm n t b,ρ,M,nx,rt,bk,ct=>by simp only[zU,Od]
 | .never,ρ,M,nx,rt,bk,ct=>dI
 | .pass,ρ,M,nx,rt,bk,ct=>dQ
 | .brk,ρ,M,nx,rt,bk,ct=>lV
 | .cont,ρ,M,nx,rt,bk,ct=>lW
theorem sZ:∀(ss:List S)(ρ:En)(M:ak)(nx:En->ak->Prop)(rt:W->ak->Prop)(bk ct:En->ak->Prop),gA (cE G ss ρ M) nx rt bk ct=dX G ss ρ M nx rt bk ct
 | [],ρ,M,nx,rt,bk,ct=>Ss
 | s::ss,ρ,M,nx,rt,bk,ct=>by rw[NV,w_s s];simp only[sZ ss];rfl
end
theorem bF:aV (ar G n b ds M) P=dX G b (h_ n ds) M (λ_ M=>P (.d .aR) M) P (λ_ _=>False) (λ_ _=>False):=by
 rw[IP,sZ]
abbrev Fn:=List D->ak->cK W
noncomputable def Fr(w:Nat)(M M':ak):Prop:=M.length<=M'.length/\∀n,n<M.length->n≠w->M'[n]?=M[n]?
abbrev Ex(M M':ak):Prop:=Fr M.length M M'
theorem ay{M:ak}{n:Nat}{o:MO}(h:M[n]?=some o):n<M.length:=(bq.mp h).1
theorem aD{M X:ak}{n:Nat}{o:MO}(h:M[n]?=some o):(M++X)[n]?=some o:=by rw[jn (ay h)];exact h
theorem ao:(M++[o])[M.length]?=some o:=by simp
theorem au{M:ak}{n m:Nat}{o u:MO}(h:M[n]?=some o)(hn:n≠m):(M.set m u)[n]?=some o:=by rw[pU (dh hn)];exact h
theorem aK{M:ak}{n:Nat}{o u:MO}(h:M[n]?=some o):(M.set n u)[n]?=some u:=pS (ay h)
theorem Fr.refl(w:Nat)(M:ak):Fr w M M:=⟨aI _,λ_ _ _=>rfl⟩
theorem Fr.trans{w:Nat}{M M1 M2:ak}(a:Fr w M M1)(b:Fr w M1 M2):Fr w M M2:=⟨dr a.1 b.1,λn h k=>(b.2 n (gF h a.1) k).trans (a.2 n h k)⟩
theorem Fr.app{w:Nat}{M M1 X:ak}(a:Fr w M M1):Fr w M (M1++X):=⟨by have:=a.1;simp only[cC];omega,λn h k=>by rw[jn (gF h a.1)];exact a.2 n h k⟩
theorem Fr.set{w n:Nat}{M M1:ak}{o:MO}(a:Fr w M M1)(h:M.length<=n):Fr w M (M1.set n o):=⟨by rw[kh];exact a.1,λm hm k=>by rw[pU ∅];exact a.2 m hm k⟩
theorem Fr.Oe{w:Nat}{M M1:ak}{o:MO}(a:Fr w M M1):Fr w M (M1.set w o):=⟨by rw[kh];exact a.1,λm hm k=>by rw[pU (dh k)];exact a.2 m hm k⟩
theorem Fr.get{w n:Nat}{M M1:ak}{o:MO}(a:Fr w M M1)(h:M[n]?=some o)(k:n≠w):M1[n]?=some o:=(a.2 n (ay h) k).trans h
theorem Fr.back{w v:Nat}{M M1 M2:ak}(a:Fr w M M1)(b:Fr v M1 M2)(h:M.length<=v\/v=w):Fr w M M2:=⟨dr a.1 b.1,λn hn k=>(b.2 n (gF hn a.1) ∅).trans (a.2 n hn k)⟩
theorem Ex.refl(M:ak):Ex M M:=Fr.refl _ M
theorem Ex.get{n:Nat}{M M1:ak}{o:MO}(a:Ex M M1)(h:M[n]?=some o):M1[n]?=some o:=Fr.get a h (cH (ay h))
theorem Ex.trans{M M1 M2:ak}(a:Ex M M1)(b:Ex M1 M2):Ex M M2:=Fr.back a b (.inl a.1)
section
variable {M:ak} {n:Nat} {ds:List D} {i:Int} {x:D}
theorem zY(hi:0<=i)(h:ds[i.toNat]?=some x):UD ds i=some x:=by
 have hl:=(bq.mp h).1;unfold UD zc Dy;rw[aw hi,aw ∅];exact h
theorem bY(hM:M[n]?=some (.lst ds))(hi:0<=i)(h:ds[i.toNat]?=some x):dy (.d (.aj n)) (.d (.int i)) M=.ok (.d x) M:=by
 unfold dy bT;simp only[hM,zY hi h]
theorem s_(hi:0<=i)(h:ds[i.toNat]?=some x):dy (.lv ds) (.d (.int i)) M=.ok (.d x) M:=by
 unfold dy bT;simp only[zY hi h]
theorem mZ(hi:0<=i)(h:ds[i.toNat]?=some x):dy (.d (.tup ds)) (.d (.int i)) M=.ok (.d x) M:=by
 unfold dy bT;simp only[zY hi h]
theorem oW{m:Nat}(h:ds[m]?=some x):dy (.d (.tup ds)) (.d (.int m)) M=.ok (.d x) M:=mZ (Int.natCast_nonneg m) (by rw[jr];exact h)
theorem cb{m:Nat}(hM:M[n]?=some (.lst ds))(h:ds[m]?=some x):dy (.d (.aj n)) (.d (.int m)) M=.ok (.d x) M:=bY hM (Int.natCast_nonneg m) (by rw[jr];exact h)
theorem Of(hi:0<=i)(h:ds[i.toNat]?=some x):dy (.d (.ls ds)) (.d (.int i)) M=.ok (.d x) M:=by
 unfold dy bT;simp only[zY hi h]
theorem bQ(hM:M[n]?=some (.lst ds))(hl:ds.length<sizeLine):mL .append (.d (.aj n)) [x] M=.ok (.d .aR) (M.set n (.lst (ds++[x]))):=by
 unfold mL;simp only[hM,aw hl]
theorem v3(hM:M[n]?=some (.lst ds))(hl:ds.length<sizeLine)(h0:0<=i)(h1:i<=ds.length):mL .insert (.d (.aj n)) [.int i,x] M=.ok (.d .aR) (M.set n (.lst (ds.take i.toNat++x::ds.drop i.toNat))):=by
 unfold mL;simp only[hM];rw[aw ⟨hl,h0,h1⟩]
theorem bf(hM:M[n]?=some (.lst ds)):(eX M (.d (.aj n))).isSome=true:=by unfold eX;simp only[hM];rfl
theorem fx(hM:M[n]?=some (.lst ds)):kc .len [.d (.aj n)] M=.ok (.d (.int ds.length)) M:=by unfold kc bT;simp only[hM]
theorem cq(hM:M[n]?=some (.lst ds)):kc .tuple1 [.d (.aj n)] M=.ok (.d (.tup ds)) M:=by unfold kc bT;simp only[hM]
theorem oX(hM:M[n]?=some (.lst ds)):kc .list1 [.d (.aj n)] M=.ok (.lv ds) M:=by unfold kc bT;simp only[hM]
theorem d_(hM:M[n]?=some (.lst ds)):iB .seq [.d (.aj n)] M=.ok (.at n) M:=by
 unfold iB bT;simp only[hM];rfl
theorem ql(hM:M[n]?=some (.lst ds)):dW M (.at n)=ds.length:=by unfold dW;simp only[hM]
theorem jg(hM:M[n]?=some (.lst ds))(hm:m<ds.length):hU (.d (.aj n)) (.d (.int m)) x M=.ok () (M.set n (.lst (ds.set m x))):=by
 unfold hU;simp only[hM]
 have:Dy ds.length (m:Int)=some m:=by
  unfold Dy;rw[aw ∅,aw ∅];simp
 simp only[this]
theorem oY(hM:M[n]?=some (.lst ds))(hi:0<=i)(hm:i.toNat<ds.length):hU (.d (.aj n)) (.d (.int i)) x M=.ok () (M.set n (.lst (ds.set i.toNat x))):=by
 have:=jg (x:=x) hM hm;rw[show((i.toNat:Nat):Int)=i by omega]at this;exact this
end
theorem fJ(h:n<=1000):n<=sizeLine:=dr h (by decide)
theorem aO(h:n<=1000):n<sizeLine:=Lf h (by decide)
theorem bD{α:Type}{l:List α}{k:Nat}{x:α}(h:l[k]?=some x):l.take (k+1)=l.take k++[x]:=by
 rw[List.take_add_one,h];rfl
theorem tf{x:Str}(h:PyData.strOk x=true):SeqAt.shaped (.str x)=true:=by
 unfold SeqAt.shaped;rw[AI,h,AO];rfl
theorem zZ{x y:Str}:PyData.eqv (.str x) (.str y)=(x==y):=PyData.eqv.eq_6 x y
theorem ET{x:Str}:jx M (.d (.str x))=some (.str x):=by show dD M 30 (.str x)=_;unfold dD;rfl
theorem bG{x y:Str}(hx:PyData.strOk x=true)(hy:PyData.strOk y=true):bh .eq (.d (.str x)) (.d (.str y)) M=.ok (x==y) M:=by
 unfold bh;simp only[ET,tf hx,tf hy,jQ,eP,zZ]
theorem z0{x y:Str}(hx:PyData.strOk x=true)(hy:PyData.strOk y=true):bh .ne (.d (.str x)) (.d (.str y)) M=.ok (!(x==y)) M:=by
 unfold bh;simp only[ET,tf hx,tf hy,jQ,eP,zZ]
section
variable {G:dN} {b:List S} {tg:List Nat} {ρ:En} {M:ak} {nx:En->ak->Prop} {rt:W->ak->Prop} {bk ct:En->ak->Prop}
theorem f_{lo:Int}{n:Nat}(I:Nat->En->ak->Prop)(h0:I 0 ρ M)(hs:∀i ρ M,i<n->I i ρ M->Gn (b_ tg (.int (lo+i)) ρ) λρ=>dX G b ρ M (I (i+1)) rt nx (I (i+1)))(he:∀ρ M,I n ρ M->nx ρ M):gA (ej (λρ M=>cE G b ρ M) (.lx lo n) tg n 0 ρ M) nx rt bk ct:=by
 have aY:((List.range n).map λi=>D.int (lo+(i:Nat))).length=n:=by simp
 refine lX (ds:=(List.range n).map λi=>D.int (lo+(i:Nat))) I (λi ρ M _ hi=>?_) (λi ρ M d h e=>?_) (λρ M h=>he ρ M (by rw[aY]at h;exact h)) n 0 ρ M h0 (by rw[aY];omega)
 ·rw[aY]at hi;show some (if i<n then some (D.int (lo+i)) else none)=_;by_cases q:i<n
  ·rw[aw q];simp[q]
  ·rw[az q,jo (by rw[aY];omega)]
 ·have hi:i<n:=by have:=(bq.mp e).1;rw[aY]at this;exact this
  have:d=.int (lo+i):=by rw[bj,nI hi]at e;exact(cg e).symm
  subst this;have q:=hs i ρ M hi h
  cases e2:b_ tg (.int (lo+i)) ρ with
  | none=>rw[e2]at q;exact q.elim
  | some ez=>rw[e2]at q;exact⟨ez,rfl,by rw[sZ];exact q⟩
theorem EU(I:Nat->En->ak->Prop)(hs:∀f ρ M,I f ρ M->∃k,f=k+1/\wT G t ρ M λr M=>bK r (dX G b ρ M (I k) rt nx (I k)) (nx ρ M)):∀(f:Nat)(ρ:En)(M:ak),I f ρ M->gA (oU (λρ M=>d8 G t ρ M) (λρ M=>cE G b ρ M) f ρ M) nx rt bk ct
 | 0,ρ,M,h=>by
  obtain⟨k,e,_⟩:=hs 0 ρ M h;cases e
 | f+1,ρ,M,h=>by
  obtain⟨k,e,q⟩:=hs (f+1) ρ M h;cases e;rw[<- Je]at q;unfold oU;obtain⟨r,M1,e1,q⟩:=EJ q;rw[e1];dsimp only
  cases r with
  | true =>
   rw[aw rfl];have q:dX G b ρ M1 (I f) rt nx (I f):=q;rw[<- sZ]at q
   cases e2:cE G b ρ M1 with
   | nx qR M2=>rw[e2,dQ]at q;exact EU I hs f qR M2 q
   | ct qR M2=>rw[e2,lW]at q;exact EU I hs f qR M2 q
   | bk qR M2=>rw[e2,lV]at q;dsimp only;rw[dQ];exact q
   | rt w M2=>rw[e2,ib]at q;dsimp only;rw[ib];exact q
   | af=>rw[e2,dI]at q;exact q.elim
  | false =>
   rw[az (by simp),dQ];exact q
theorem gf(I:Nat->En->ak->Prop)(h0:I 0 ρ M)(hs:∀i ρ M d,ds[i]?=some d->I i ρ M->Gn (b_ tg d ρ) λρ=>dX G b ρ M (I (i+1)) rt nx (I (i+1)))(he:∀ρ M,I ds.length ρ M->nx ρ M):gA (ej (λρ M=>cE G b ρ M) (.items ds) tg ds.length 0 ρ M) nx rt bk ct :=
 lX (ds:=ds) I (λi ρ M _ _=>rfl) (λi ρ M d h e=>by
  have q:=hs i ρ M d e h
  cases e2:b_ tg d ρ with
  | none=>rw[e2]at q;exact q.elim
  | some ez=>rw[e2]at q;exact⟨ez,rfl,by rw[sZ];exact q⟩) he ds.length 0 ρ M h0 ∅
theorem B_(I:Nat->En->ak->Prop)(hM:∀i ρ M,I i ρ M->M[n]?=some (.lst ds))(h0:I 0 ρ M)(hs:∀i ρ M d,ds[i]?=some d->I i ρ M->Gn (b_ tg d ρ) λρ=>dX G b ρ M (I (i+1)) rt nx (I (i+1)))(he:∀ρ M,I ds.length ρ M->nx ρ M):gA (ej (λρ M=>cE G b ρ M) (.at n) tg (dW M (.at n)) 0 ρ M) nx rt bk ct:=by
 rw[ql (hM 0 ρ M h0)]
 exact lX (ds:=ds) I (λi ρ M h _=>by unfold itemAt;simp only[hM i ρ M h]) (λi ρ M d h e=>by
  have q:=hs i ρ M d e h
  cases e2:b_ tg d ρ with
  | none=>rw[e2]at q;exact q.elim
  | some ez=>rw[e2]at q;exact⟨ez,rfl,by rw[sZ];exact q⟩) he ds.length 0 ρ M h0 ∅
end
theorem oZ:∀(tg:List Nat)(ds:List D)(ρ:En)(i:Nat)(o:Option D),i∉tg->eD tg ds (ρ.set i o)=(eD tg ds ρ).map (·.set i o)
 | [],[],_,_,_,_=>rfl
 | [],_::_,_,_,_,_=>rfl
 | _::_,[],_,_,_,_=>rfl
 | j::tg,d::ds,ρ,i,o,h=>by
  have h1:i≠j:=λz=>h (by rw[z];exact dC);show eD tg ds ((ρ.set i o).set j (some d))=_;rw[List.set_comm _ _ h1,oZ tg ds _ i o λz=>h (dq _ z)];rfl
theorem ic:∀(tg:List Nat)(ds es:List D)(ρ ez:En),tg.Nodup->eD tg ds ρ=some ez->eD tg es ez=eD tg es ρ
 | [],[],[],_,_,_,e=>by cases e;rfl
 | [],[],_::_,_,_,_,e=>by cases e;rfl
 | [],_::_,_,_,_,_,e=>by cases e
 | _::_,[],_,_,_,_,e=>by cases e
 | j::tg,d::ds,[],ρ,ez,n,e=>rfl
 | j::tg,d::ds,f::es,ρ,ez,n,e=>by
  have n1:=rG.mp n;have e:eD tg ds (ρ.set j (some d))=some ez:=e;show eD tg es (ez.set j (some f))=eD tg es (ρ.set j (some f));have e2:=oZ tg ds (ρ.set j (some d)) j (some f) n1.1;rw[e,List.set_set]at e2;exact ic tg ds es _ _ n1.2 e2
theorem v5(n:tg.Nodup)(h:b_ tg d ρ=some ez):b_ tg e ez=b_ tg e ρ:=by
 match tg,n,h with
 | [i],_,h =>
  have h:some (ρ.set i (some d))=some ez:=h;cases h;show some ((ρ.set i (some d)).set i (some e))=some (ρ.set i (some e));rw[List.set_set]
 | [],_,h =>
  cases d<;>first | cases h | skip
  cases e<;>first | rfl | skip
  exact ic [] _ _ _ _ uo h
 | i::j::tg,n,h =>
  cases d<;>first | cases h | skip
  cases e<;>first | rfl | skip
  exact ic (i::j::tg) _ _ _ _ n h
section
variable {G:dN} {cond:Option fL} {elt:C} {tg:List Nat} {ρ:En} {M:ak} {P:W->ak->Prop}
theorem iW{ds:List D}(I:Nat->ak->List D->Prop)(n:tg.Nodup)(hit:∀i M acc,I i M acc->i<=ds.length->itemAt M i it=some ds[i]?)(h0:I 0 M [])(hs:∀i M acc d,ds[i]?=some d->I i M acc->acc.length<sizeLine/\Gn (b_ tg d ρ) λτ=>kQ G cond τ M λr M=>if r=true then wE G elt τ M λw M=>eI (own w M) λx M=>I (i+1) M (acc++[x]) else I (i+1) M acc)(he:∀M acc,I ds.length M acc->P (.lv acc) M){k:Nat}(hk:k=ds.length):aV (bp (λτ M=>bV G cond τ M) (λτ M=>(ev G elt τ M).bind own) it tg k 0 ρ M []) P:=by
 subst hk;refine sX (ds:=ds) (λi τ M acc=>I i M acc/\(τ=ρ\/∃d,b_ tg d ρ=some τ)) (λi τ M acc h hi=>hit i M acc h.1 hi) (λi τ M acc d h e=>?_) (λτ M acc h=>he M acc h.1) ds.length 0 ρ M [] ⟨h0,.inl rfl⟩ ∅;obtain⟨q1,q2⟩:=hs i M acc d e h.1
 have hb:b_ tg d τ=b_ tg d ρ:=by
  rcases h.2 with z | ⟨d',z⟩
  ·rw[z]
  ·exact v5 n z
 refine⟨q1,?_⟩
 cases e2:b_ tg d ρ with
 | none=>rw[e2]at q2;exact q2.elim
 | some KC =>
  rw[e2]at q2;refine⟨KC,by rw[hb,e2],?_⟩;have q2:kQ G cond KC M (λr M=>if r=true then wE G elt KC M λw M=>eI (own w M) λx M=>I (i+1) M (acc++[x]) else I (i+1) M acc):=q2;rw[<- w_cond]at q2;refine q2.imp λr M1 q3=>?_
  cases r with
  | true =>
   rw[aw rfl]at q3⊢;rw[vZ];rw[<- vZ]at q3⊢;exact q3.imp λx M2 q4=>⟨q4,.inr ⟨d,e2⟩⟩
  | false =>
   rw[az (by simp)]at q3⊢;exact⟨q3,.inr ⟨d,e2⟩⟩
theorem qV{it:It}{ds:List D}(f:D->Option D)(n:tg.Nodup)(hit:∀M',Ex M M'->∀i,i<=ds.length->itemAt M' i it=some ds[i]?)(hl:ds.length<=sizeLine)(hs:∀(i:Nat) M' d,ds[i]?=some d->Ex M M'->Gn (b_ tg d ρ) λτ=>kQ G cond τ M' λr M1=>if r=true then wE G elt τ M1 λw M1=>eI (own w M1) λx M1=>f d=some x/\Ex M M1 else f d=none/\Ex M M1)(he:∀M',Ex M M'->P (.lv (ds.filterMap f)) M'){k:Nat}(hk:k=ds.length):aV (bp (λτ M=>bV G cond τ M) (λτ M=>(ev G elt τ M).bind own) it tg k 0 ρ M []) P:=by
 refine iW (ds:=ds) (λi M' acc=>Ex M M'/\acc=(ds.take i).filterMap f) n (λi M' acc h hi=>hit M' h.1 i hi) ⟨Ex.refl M,rfl⟩ ?_ (λM' acc h=>?_) hk
 ·rintro i M' acc d hd ⟨h1,rfl⟩;have hi:=(bq.mp hd).1;refine⟨?_,?_⟩
  ·have:=List.length_filterMap_le f (ds.take i);rw[gW]at this;omega
  ·have q:=hs i M' d hd h1
   have e:∀o,f d=o->(ds.take (i+1)).filterMap f=(ds.take i).filterMap f++o.toList:=λo ho=>by
    rw[bD hd,List.filterMap_append];cases o<;>simp[lh,ho]
   cases e2:b_ tg d ρ with
   | none=>rw[e2]at q;exact q.elim
   | some KC =>
    rw[e2]at q;have q:kQ G cond KC M' (λr M1=>if r=true then wE G elt KC M1 λw M1=>eI (own w M1) λx M1=>f d=some x/\Ex M M1 else f d=none/\Ex M M1):=q;show kQ G cond KC M' (λr M1=>if r=true then wE G elt KC M1 λw M1=>eI (own w M1) λx M1=>Ex M M1/\(ds.take i).filterMap f++[x]=(ds.take (i+1)).filterMap f else Ex M M1/\(ds.take i).filterMap f=(ds.take (i+1)).filterMap f);rw[<- w_cond]at q⊢;refine q.imp λr M1 q3=>?_
    cases r with
    | true =>
     rw[aw rfl]at q3⊢;rw[<- vZ]at q3⊢;exact q3.imp λx M2 q4=>⟨q4.2,by rw[e _ q4.1];rfl⟩
    | false =>
     rw[az (by simp)]at q3⊢;exact⟨q3.2,by rw[e _ q3.1];simp⟩
 ·obtain⟨h1,rfl⟩:=h;rw[jO];exact he M' h1
theorem o_:∀M',Ex M M'->∀i,i<=ds.length->itemAt M' i (.items ds)=some ds[i]?:=λ_ _ _ _=>rfl
theorem pb{M:ak}{n:Nat}{ds:List D}(h:M[n]?=some (.lst ds)):∀M',Ex M M'->∀i,i<=ds.length->itemAt M' i (.at n)=some ds[i]?:=λM' e i _=>by unfold itemAt;simp only[Ex.get e h]
theorem Og{lo:Int}{n:Nat}:∀M',Ex M M'->∀i,i<=((List.range n).map λi=>D.int (lo+(i:Nat))).length->itemAt M' i (.lx lo n)=some ((List.range n).map λi=>D.int (lo+(i:Nat)))[i]?:=λM' e i hi=>by
 have aY:((List.range n).map λi=>D.int (lo+(i:Nat))).length=n:=by simp
 rw[aY]at hi;show some (if i<n then some (D.int (lo+i)) else none)=_;by_cases q:i<n
 ·rw[aw q];simp[q]
 ·rw[az q,jo (by rw[aY];omega)]
theorem Sz{lo:Int}{n:Nat}(I:Nat->ak->List D->Prop)(nd:tg.Nodup)(h0:I 0 M [])(hs:∀i M acc,i<n->I i M acc->acc.length<sizeLine/\Gn (b_ tg (.int (lo+i)) ρ) λτ=>kQ G cond τ M λr M=>if r=true then wE G elt τ M λw M=>eI (own w M) λx M=>I (i+1) M (acc++[x]) else I (i+1) M acc)(he:∀M acc,I n M acc->P (.lv acc) M):aV (bp (λτ M=>bV G cond τ M) (λτ M=>(ev G elt τ M).bind own) (.lx lo n) tg (dW M (.lx lo n)) 0 ρ M []) P:=by
 have aY:((List.range n).map λi=>D.int (lo+(i:Nat))).length=n:=by simp
 refine iW (ds:=(List.range n).map λi=>D.int (lo+(i:Nat))) I nd (λi M' acc _ hi=>Og M' (Ex.refl M') i hi) h0 (λi M' acc d e h=>?_) (λM' acc h=>he M' acc (by rw[aY]at h;exact h)) (by rw[aY];rfl);have hi:i<n:=by have:=(bq.mp e).1;rw[aY]at this;exact this
 have:d=.int (lo+i):=by rw[bj,nI hi]at e;exact(cg e).symm
 subst this;exact hs i M' acc hi h
end
end Ev
end
local macro_rules
  | `(tactic| nofun) => `(tactic| conv => whnf)
section
namespace Ev
open L2
open PySem PySem.Spec PyProof.Rows
def tj:List S:=[.bE [4] .seq [(.sub (.sub (.sub (.ae 0) (.ai (.int 0))) (.ae 1)) (.ai (.int 1)))] [.iff (.d7 [(.val (.cmp .eq (.sub (.ae 4) (.ai (.int 0))) (.ae 2))),(.val (.cmp .eq (.sub (.ae 4) (.ai (.int 1))) (.ae 3)))]) [.ret (.tup [(.sub (.ae 4) (.ai (.int 2))),(.sub (.ae 4) (.ai (.int 3))),(.sub (.ae 4) (.ai (.int 4)))])] []],.iff (.val (.cmp .eq (.ae 3) (.ai (.str "own")))) [.ret (.ai .aR)] [],.ret (.tup [(.ae 2),(.tup []),(.ai .aR)])]
noncomputable def EV:List S:=[.asg [2] (.bin .mul (.ai (.int 31)) (.ae 1)),.iff (.val (.cmp .gt (.bi .len [(.ae 0)]) (.ai (.int 0)))) [.asg [2] (.bin .add (.sub (.ae 0) (.bin .mod (.ae 1) (.bi .len [(.ae 0)]))) (.bin .mul (.ai (.int 7919)) (.bin .fdiv (.ae 1) (.bi .len [(.ae 0)]))))] [],.ret (.u5 ["cell","left","turn"] [(.ae 2),(.bin .mul (.bi .max2 [(.ai (.int 0)),(.ae 2)]) (.bi .vt [(.cmp .ge (.ae 2) (.bin .pow (.ai (.int 10)) (.ai (.int 18))))])),(.ai (.int 0))])]
noncomputable def z4:List S:=[.asg [2] (.sub (.ae 0) (.ai (.str "turn"))),.put (.ae 0) (.ai (.str "turn")) (.bin .add (.ae 2) (.ai (.int 1))),.asg [3] (.sub (.ae 0) (.ai (.str "left"))),.iff (.val (.cmp .gt (.ae 3) (.ai (.int 0)))) [.put (.ae 0) (.ai (.str "left")) (.bin .fdiv (.ae 3) (.ae 1)),.ret (.bin .mod (.ae 3) (.ae 1))] [],.asg [4] (.bin .add (.bin .add (.bin .mod (.sub (.ae 0) (.ai (.str "cell"))) (.ai (.int 2147483647))) (.bin .mul (.bin .mul (.ai (.int 31)) (.ae 2)) (.ae 2))) (.ai (.int 1))),.asg [5] (.bin .mod (.bin .mul (.ae 4) (.bin .add (.ai (.int 48271)) (.bin .mul (.ai (.int 40)) (.ae 2)))) (.ai (.int 2147483629))),.ret (.bin .mod (.bin .fdiv (.bin .mod (.bin .add (.bin .mul (.bin .fdiv (.ae 5) (.ai (.int 11))) (.ai (.int 69621))) (.ae 2)) (.ai (.int 998244353))) (.ai (.int 7))) (.ae 1))]
noncomputable def yd(aE:Nat):List S:=[.asg [2] (.lst []),.iff (.val (.cmp .gt (.ae 1) (.ai (.int 1)))) [.asg [3] (.lst [(.call aE [(.ae 0),(.ai (.int 4))]),(.bin .add (.ai (.int 1)) (.call aE [(.ae 0),(.ai (.int 5))])),(.ai (.int 8))]),.bE [4] .eK [(.sub (.ae 3) (.bin .fdiv (.call aE [(.ae 0),(.ai (.int 9))]) (.ai (.int 4))))] [.asg [5] (.call aE [(.ae 0),(.ae 1)]),.asg [6] (.bin .mod (.bin .add (.bin .add (.ae 5) (.ai (.int 1))) (.call aE [(.ae 0),(.bin .sub (.ae 1) (.ai (.int 1)))])) (.ae 1)),.expr (.me .append (.ae 2) [(.tup [(.ae 5),(.ae 6),(.sub (.lst [(.ai (.str "row")),(.ai (.str "heap"))]) (.call aE [(.ae 0),(.ai (.int 2))]))])])]] [],.ret (.bi .tuple1 [(.ae 2)])]
noncomputable def tm(aE:Nat):List S:=[.asg [1] (.lst [(.call aE [(.ae 0),(.ai (.int 100))])]),.asg [2] (.lst [(.call aE [(.ae 0),(.ai (.int 3))]),(.ai (.int 6))]),.bE [3] .eK [(.sub (.ae 2) (.bin .fdiv (.call aE [(.ae 0),(.ai (.int 16))]) (.ai (.int 15))))] [.asg [4] (.sub (.lst [(.call aE [(.ae 0),(.ai (.int 100))]),(.ae 3)]) (.call aE [(.ae 0),(.ai (.int 2))])),.iff (.val (.cmp .eN (.ae 4) (.ae 1))) [.expr (.me .append (.ae 1) [(.ae 4)])] []],.ret (.ae 1)]
noncomputable def ye(aE:Nat):List S:=[.asg [2] (.lst []),.bE [3] .eK [(.bin .mul (.sub (.lst [(.ai (.int 0)),(.ai (.int 0)),(.ai (.int 1)),(.ai (.int 1)),(.ai (.int 1)),(.ai (.int 2)),(.ai (.int 3))]) (.call aE [(.ae 0),(.ai (.int 7))])) (.bi .vt [(.cmp .gt (.bi .len [(.ae 1)]) (.ai (.int 0)))]))] [.asg [4] (.sub (.ae 1) (.call aE [(.ae 0),(.bi .len [(.ae 1)])])),.expr (.me .append (.ae 2) [(.tup [(.ae 4),(.sub (.ai (.str "abcz")) (.call aE [(.ae 0),(.ai (.int 4))]))])])],.ret (.bi .tuple1 [(.ae 2)])]
def yf(aE:Nat)(tq:Nat):List S:=[.asg [3] (.lst [(.ai .aR),(.ai .aR),(.ai .aR),(.ai (.str "x")),(.ai (.str "yes")),(.ai (.str "abcdefgh")),(.ai (.str "own")),(.ai (.str "a"))]),.asg [4] (.lst []),.bE [5] .seq [(.ae 1)] [.bE [6] .seq [(.tup [(.ai (.str "own")),(.ai (.str "a")),(.ai (.str "b")),(.ai (.str "z"))])] [.iff (.val (.cmp .gt (.call aE [(.ae 0),(.ai (.int 4))]) (.ai (.int 0)))) [.asg [7] (.sub (.ae 1) (.call aE [(.ae 0),(.bi .len [(.ae 1)])])),.asg [8] (.call tq [(.ae 0),(.ae 2)]),.asg [9] (.sub (.ae 3) (.call aE [(.ae 0),(.ai (.int 8))])),.asg [10] (.call aE [(.ae 0),(.bin .add (.bi .len [(.ae 4)]) (.ai (.int 1)))]),.expr (.me .insert (.ae 4) [(.ae 10),(.tup [(.ae 5),(.ae 6),(.ae 7),(.ae 8),(.ae 9)])])] []]],.ret (.bi .tuple1 [(.ae 4)])]
noncomputable def z5(cW:Nat)(aE:Nat)(j_:Nat)(d5:Nat)(e7:Nat):List S:=[.asg [1] (.call cW [(.ae 0),(.ai (.int 0))]),.asg [2] (.sub (.lst [(.ai (.int 2)),(.ai (.int 1)),(.ai (.int 3)),(.ai (.int 2)),(.ai (.int 4)),(.ai (.int 3))]) (.call aE [(.ae 1),(.ai (.int 6))])),.asg [3] (.call j_ [(.ae 1),(.ae 2)]),.asg [4] (.lst []),.bE [5] .eK [(.ae 2)] [.asg [1] (.call cW [(.ae 0),(.bin .add (.ai (.int 1)) (.ae 5))]),.asg [6] (.call d5 [(.ae 1)]),.fR 7 (.comp .eK [(.bi .len [(.ae 3)])] [1] (some (.val (.cmp .eq (.sub (.sub (.ae 3) (.ae 1)) (.ai (.int 0))) (.ae 2)))) (.ae 1) [none,none,some 5,some 3]),.asg [8] (.sub (.ae 6) (.call aE [(.ae 1),(.bi .len [(.ae 6)])])),.expr (.me .append (.ae 4) [(.tup [(.ae 8),(.call e7 [(.ae 1),(.ae 6),(.ae 7)])])])],.ret (.tup [(.bi .tuple1 [(.ae 4)]),(.ae 3)])]
def tu:List S:=[.fR 4 (.comp .seq [(.sub (.sub (.sub (.ae 0) (.ai (.int 0))) (.ae 1)) (.ai (.int 1)))] [1] (some (.val (.cmp .eq (.pP (.ae 1) none (some (.ai (.int 2)))) (.tup [(.ae 3),(.ae 2)])))) (.pP (.ae 1) (some (.ai (.int 2))) none) [none,none,some 3,some 2]),.iff (.val (.cmp .ne (.ae 4) (.lst []))) [.ret (.sub (.ae 4) (.ai (.int 0)))] [],.ret (.ite (.val (.cmp .eq (.ae 3) (.ai (.str "own")))) (.ai .aR) (.tup [(.ae 2),(.tup []),(.ai .aR)]))]
noncomputable def ip(c l t:Int):MO:=.dK [(Sum.inr ("cell" : Str),.int c),(Sum.inr ("left" : Str),.int l),(Sum.inr ("turn" : Str),.int t)]
section
variable {M:ak} {w:Nat} {c l t:Int}
theorem EW(h:M[w]?=some (ip c l t)):dy (.d (.aj w)) (.d (.str "cell")) M=.ok (.d (.int c)) M:=by
 unfold dy;simp only[h];rfl
theorem EX(h:M[w]?=some (ip c l t)):dy (.d (.aj w)) (.d (.str "left")) M=.ok (.d (.int l)) M:=by
 unfold dy;simp only[h];rfl
theorem EY(h:M[w]?=some (ip c l t)):dy (.d (.aj w)) (.d (.str "turn")) M=.ok (.d (.int t)) M:=by
 unfold dy;simp only[h];rfl
theorem EZ(h:M[w]?=some (ip c l t))(i:Int):hU (.d (.aj w)) (.d (.str "left")) (.int i) M=.ok () (M.set w (ip c i t)):=by
 unfold hU;simp only[h];rfl
theorem E1(h:M[w]?=some (ip c l t))(i:Int):hU (.d (.aj w)) (.d (.str "turn")) (.int i) M=.ok () (M.set w (ip c l i)):=by
 unfold hU;simp only[h];rfl
end
theorem Ji(h:M[w]?=some (ip c l t))(ht:0<=t/\t<2 ^ 40)(hl:0<=l)(hm:0<pd/\pd<1073741824):aV (ar G 6 z4 [.aj w,.int pd] M) λr M'=>∃i l',r=.d (.int i)/\0<=i/\i<pd/\0<=l'/\M'=M.set w (ip c l' (t+1)):=by
 have hw:w<M.length:=(bq.mp h).1;rw[bF];show dX G z4 [some (.aj w),some (.int pd),none,none,none,none] M _ _ _ _;have h1:(M.set w (ip c l (t+1)))[w]?=some (ip c l (t+1)):=pS hw;nofun;rw[EY h];nofun;rw[E1 h];nofun;rw[EX h1];nofun;by_cases hp:0<l
 ·rw[gk hp];nofun;refine⟨hm,?_⟩;nofun;rw[EZ h1];nofun;refine⟨hm.1,_,l / pd,rfl,GN _ ∅,GG _ hm.1,Int.ediv_nonneg hl ∅,?_⟩;rw[List.set_set]
 ·rw[eJ hp];nofun;rw[EW h1];nofun;refine⟨∅,?_⟩;nofun;refine⟨∅,?_⟩;nofun;refine⟨∅,?_⟩;nofun;refine⟨∅,?_⟩;nofun;refine⟨∅,?_⟩;nofun;refine⟨∅,?_⟩;nofun;refine⟨∅,?_⟩;nofun;refine⟨∅,?_⟩;nofun;refine⟨∅,?_⟩;nofun;refine⟨∅,?_⟩;nofun;exact⟨hm.1,_,l,rfl,GN _ ∅,GG _ hm.1,hl,rfl⟩
def WA(M:ak)(w:Nat)(T:Int):Prop:=∃c l t,M[w]?=some (ip c l t)/\0<=l/\0<=t/\t<=T
theorem WA.lt(h:WA M w T):w<M.length:=by obtain⟨c,l,t,h,_⟩:=h;exact ay h
theorem WA.app(h:WA M w T):WA (M++X) w T:=by obtain⟨c,l,t,h,q⟩:=h;exact⟨c,l,t,aD h,q⟩
theorem WA.set(h:WA M w T)(k:w≠n):WA (M.set n o) w T:=by obtain⟨c,l,t,h,q⟩:=h;exact⟨c,l,t,au h k,q⟩
theorem WA.mono(h:WA M w T)(k:T<=T2):WA M w T2:=by obtain⟨c,l,t,h,a,b,q⟩:=h;exact⟨c,l,t,h,a,b,Int.le_trans q k⟩
theorem WA.fr{M M1:ak}{w v:Nat}{T:Int}(h:WA M w T)(f:Fr v M M1)(k:w≠v):WA M1 w T:=by obtain⟨c,l,t,h,q⟩:=h;exact⟨c,l,t,f.get h k,q⟩
section
variable {M:ak} {n:Nat} {ds:List D} {i:Int} {x:D}
theorem Ca(hM:M[n]?=some (.lst ds)):mL .reverse (.d (.aj n)) [] M=.ok (.d .aR) (M.set n (.lst ds.reverse)):=by
 unfold mL;simp only[hM]
theorem mM{P:D->Prop}{k:Nat}(h:∀d∈ds,P d)(h0:0<=i)(h1:i<k)(hk:k=ds.length):∃d,ds[i.toNat]?=some d/\P d:=by
 have hl:i.toNat<ds.length:=∅;exact⟨ds[i.toNat],bx hl,h _ (rF hl)⟩
end
def e9(F:Fn):Prop:=∀(M:ak)(w:Nat)(T pd:Int),WA M w T->T<2 ^ 40->0<pd->pd<1073741824->aV (F [.aj w,.int pd] M) λr M'=>∃i,r=.d (.int i)/\0<=i/\i<pd/\WA M' w (T+1)/\Fr w M M'
theorem Oh:e9 (ar G 6 z4):=by
 intro M w T pd ⟨c,l,t,h,hl,h0,h1⟩ hT hm hm2;refine(Ji h ⟨h0,∅⟩ hl ⟨hm,hm2⟩).imp ?_;rintro r M' ⟨i,l',e,a,b,Y9,rfl⟩;exact⟨i,e,a,b,⟨c,l',t+1,aK h,Y9,∅,∅⟩,(Fr.refl w M).Oe⟩
def qW(F:Fn):Prop:=∀(M:ak)(ns:List Int)(k:Int),0<=k->k<2 ^ 40->ns.length<=63->aV (F [.ls (ns.map D.int),.int k] M) λr M'=>r=.d (.aj M.length)/\M'.length=M.length+1/\WA M' M.length 0/\Fr M.length M M'
theorem SA:qW (ar G 3 EV):=by
 intro M ns k hk PH lE;rw[bF];show dX G EV [some (.ls (ns.map D.int)),some (.int k),none] M _ _ _ _
 have fin:∀(c:Int)(b:Bool),WA (M++[MO.dK ((List.map Sum.inr [(("cell" : Str)),"left","turn"]).zip [D.int c,D.int ((if c>0 then c else 0)*if b=true then 1 else 0),D.int 0])]) M.length 0:=by
  intro c b;refine⟨c,_,0,ao,?_,p0 _,p0 _⟩;refine Int.mul_nonneg ?_ ?_<;>split<;>omega
 have hb:∀b:Bool,(-(2 ^ 64):Int)<(if b=true then 1 else 0)/\(if b=true then 1 else 0)<(2 ^ 64:Int):=λb=>by split<;>omega
 have aY:∀x:MO,(M++[x]).length=M.length+1:=λx=>by simp
 nofun;refine⟨∅,?_⟩;nofun;by_cases hp:(0:Int)<(ns.map D.int).length
 ·rw[gk hp];have hl:(ns.map D.int).length=ns.length:=aB _;have hr:0<=k % ((ns.map D.int).length:Int):=GN _ ∅;have Gi:k % ((ns.map D.int).length:Int)<((ns.map D.int).length:Int):=GG _ hp;have lg:(k % ((ns.map D.int).length:Int)).toNat<ns.length:=∅
  have hg:(ns.map D.int)[(k % ((ns.map D.int).length:Int)).toNat]?=some (.int ns[(k % ((ns.map D.int).length:Int)).toNat]):=by
   rw[bj,bx lg];rfl
  nofun;refine⟨∅,?_⟩;nofun;rw[Of hr hg];nofun;refine⟨⟨∅,∅⟩,?_⟩;nofun;refine⟨.inl ∅,?_⟩;nofun;refine⟨.inr (hb _),?_⟩;nofun;exact⟨rfl,rfl,aY _,fin _ _,(Fr.refl _ M).app⟩
 ·rw[eJ hp];nofun;refine⟨.inr (hb _),?_⟩;nofun;exact⟨rfl,rfl,aY _,fin _ _,(Fr.refl _ M).app⟩
noncomputable def qX(m:Int)(d:D):Prop:=∃a b k,d=.tup [.int a,.int b,.str k]/\0<=a/\a<m/\0<=b/\b<m/\a≠b/\(k = "row" \/ k = "heap")
def yg(F:Fn):Prop:=∀(M:ak)(w:Nat)(T m:Int),WA M w T->T<2 ^ 39->1<=m->m<=4->aV (F [.aj w,.int m] M) λr M'=>∃ds,r=.d (.tup ds)/\ds.length<=8/\(∀d∈ds,qX m d)/\WA M' w (T+100)/\Fr w M M'
theorem Oi(hD:e9 (G aE)):yg (ar G 7 (yd aE)):=by
 intro M w T m hw hT XD KD;have Hk:=hw.lt;rw[bF];show dX G (yd aE) [some (.aj w),some (.int m),none,none,none,none,none] M _ _ _ _;nofun;refine⟨(show(0:Nat)<=sizeLine by decide),?_⟩;nofun;by_cases hm:1<m
 ·rw[gk hm];have h0:(M++[MO.lst []])[M.length]?=some (.lst []):=ao;nofun;refine(hD _ w T 4 hw.app ∅ ∅ ∅).imp ?_;rintro r M1 ⟨i1,rfl,SD,UQ,Cb,f1⟩;nofun;refine(hD _ w _ 5 Cb ∅ ∅ ∅).imp ?_;rintro r M2 ⟨i2,rfl,UR,XE,v7,f2⟩;nofun;refine⟨(show(3:Nat)<=sizeLine by decide),?_⟩;have h2:M2[M.length]?=some (.lst []):=f2.get (f1.get h0 ∅) ∅;have l2:=ay h2;nofun;refine(hD _ w _ 9 v7.app ∅ ∅ ∅).imp ?_;rintro r M3 ⟨i3,rfl,i30,i31,z6,f3⟩;nofun;refine⟨⟨∅,∅⟩,?_⟩;have h3:M3[M.length]?=some (.lst []):=f3.get (aD h2) ∅;have XF:M3[M2.length]?=some (.lst [.int i1,.int (1+i2),.int 8]):=f3.get ao ∅;have kl:Fr w M M3:=(((Fr.refl w M).app.trans f1).trans f2).app.trans f3
  obtain⟨d,hd,j,e,US,hj8⟩:=mM (P:=λd=>∃j:Int,d=.int j/\0<=j/\j<=8) (ds:=[.int i1,.int (1+i2),.int 8]) (i:=i3 / 4) (k:=3) (by
   intro d hd;simp only[bU,lj,fP]at hd;rcases hd with rfl | rfl | rfl
   ·exact⟨_,rfl,∅,∅⟩
   ·exact⟨_,rfl,∅,∅⟩
   ·exact⟨_,rfl,∅,∅⟩) ∅ ∅ rfl
  subst e;nofun;rw[bY XF (show(0:Int)<=i3 / 4 by omega) hd];nofun;refine⟨⟨∅,∅⟩,?_⟩;refine f_ (n:=j.toNat) (λi ρ M'=>∃ds o4 o5 o6,ρ=[some (.aj w),some (.int m),some (.aj M.length),some (.aj M2.length),o4,o5,o6]/\M'[M.length]?=some (.lst ds)/\ds.length=i/\(∀d∈ds,qX m d)/\WA M' w (T+3+3*i)/\Fr w M M') ⟨[],none,none,none,rfl,h3,rfl,(by intro d h;cases h),z6.mono ∅,kl⟩ ?_ ?_
  ·rintro i ρ M4 hi ⟨ds,o4,o5,o6,rfl,h4,pQ,qo,lY,kR⟩;have Y_:(i:Int)<8:=∅;have SE:=ay h4;nofun;refine(hD _ w _ m lY ∅ ∅ ∅).imp ?_;rintro r M5 ⟨i5,rfl,SF,UT,pR,f5⟩;nofun;refine(hD _ w _ (m-1) pR ∅ ∅ ∅).imp ?_;rintro r M6 ⟨i6,rfl,PJ,SG,qq,f6⟩;nofun;have h6:M6[M.length]?=some (.lst ds):=f6.get (f5.get h4 ∅) ∅;refine⟨∅,?_⟩;nofun;refine⟨bf h6,?_⟩;nofun;refine⟨(show(2:Nat)<=sizeLine by decide),?_⟩;nofun;refine(hD _ w _ 2 qq ∅ ∅ ∅).imp ?_;rintro r M7 ⟨i7,rfl,SH,XG,Jj,f7⟩
   obtain⟨k,hk,k',e,Hr⟩:=mM (P:=λd=>∃k:Str,d=.str k/\(k = "row" \/ k = "heap")) (ds:=[.str "row",.str "heap"]) (i:=i7) (k:=2) (by
    intro d hd;simp only[bU,lj,fP]at hd;rcases hd with rfl | rfl
    ·exact⟨_,rfl,.inl rfl⟩
    ·exact⟨_,rfl,.inr rfl⟩) SH XG rfl
   subst e;nofun;rw[s_ SH hk];nofun;refine⟨(show(3:Nat)<=sizeLine by decide),?_⟩;have h7:M7[M.length]?=some (.lst ds):=f7.get h6 ∅;nofun;rw[bQ h7 (aO ∅)];refine⟨ds++[.tup [.int i5,.int ((i5+1+i6) % m),.str k']],_,_,_,rfl,aK h7,by simp[pQ],?_,?_,?_⟩
   ·intro d hd;rcases cj.mp hd with q | q
    ·exact qo d q
    ·have:d=.tup [.int i5,.int ((i5+1+i6) % m),.str k']:=by simpa using q
     subst this;have UU:m=2\/m=3\/m=4:=∅;refine⟨_,_,_,rfl,SF,UT,GN _ ∅,GG _ ∅,?_,Hr⟩;rcases UU with rfl | rfl | rfl<;>omega
   ·exact(Jj.set ∅).mono ∅
   ·exact(((kR.trans f5).trans f6).trans f7).set (aI _)
  ·rintro ρ M4 ⟨ds,o4,o5,o6,rfl,h4,pQ,qo,lY,kR⟩;nofun;rw[cq h4];exact⟨ds,rfl,∅,qo,lY.mono ∅,kR⟩
 ·rw[eJ hm];nofun;rw[cq ao];exact⟨[],rfl,by decide,(by intro d h;cases h),hw.app.mono ∅,(Fr.refl w M).app⟩
def yh(d:D):Prop:=∃i:Int,d=.int i/\0<=i/\i<100
theorem KG:∀{ds:List D},(∀d∈ds,yh d)->∃qs,bS M 30 ds=some qs/\qs.all SeqAt.shaped=true
 | [],_=>⟨[],by unfold bS;rfl,rfl⟩
 | d::ds,h=>by
  obtain⟨i,rfl,_,_⟩:=h d (dC ..);obtain⟨qs,e,k⟩:=KG (M:=M) (ds:=ds) λd hd=>h d (dq _ hd);refine⟨.int i::qs,by unfold bS;rw[e];unfold dD;rfl,?_⟩;rw[List.all_cons,iV,k];rfl
theorem E2(hM:M[n]?=some (.lst ds))(h:∀d∈ds,yh d)(hd:yh d):∃b,bh .eN (.d d) (.d (.aj n)) M=.ok b M:=by
 obtain⟨i,rfl,_,_⟩:=hd;obtain⟨qs,e,k⟩:=KG (M:=M) h;refine⟨!lJ (.int i) qs,?_⟩;unfold bh;have h1:jx M (.d (.int i))=some (.int i):=by show dD M 30 (.int i)=_;unfold dD;rfl
 have h2:bT M (.d (.aj n))=some (true,ds):=by unfold bT;simp only[hM]
 simp only[h1,h2,e,iV,k,jQ,eP]
def m8(F:Fn):Prop:=∀(M:ak)(w:Nat)(T:Int),WA M w T->T<2 ^ 39->aV (F [.aj w] M) λr M'=>∃n ds,r=.d (.aj n)/\M.length<=n/\M'[n]?=some (.lst ds)/\1<=ds.length/\ds.length<=7/\(∀d∈ds,yh d)/\WA M' w (T+100)/\Fr w M M'
theorem Jk(hD:e9 (G aE)):m8 (ar G 5 (tm aE)):=by
 intro M w T hw hT;have Hk:=hw.lt;rw[bF];show dX G (tm aE) [some (.aj w),none,none,none,none] M _ _ _ _;nofun;refine(hD _ w T 100 hw ∅ ∅ ∅).imp ?_;rintro r M1 ⟨i1,rfl,SD,UQ,Cb,f1⟩;nofun;refine⟨(show(1:Nat)<=sizeLine by decide),?_⟩;have l1:=f1.1;nofun;refine(hD _ w _ 3 Cb.app ∅ ∅ ∅).imp ?_;rintro r M2 ⟨i2,rfl,UR,XE,v7,f2⟩;nofun;refine⟨(show(2:Nat)<=sizeLine by decide),?_⟩;have h2:M2[M1.length]?=some (.lst [.int i1]):=f2.get ao ∅;have l2:=ay h2;nofun;refine(hD _ w _ 16 v7.app ∅ ∅ ∅).imp ?_;rintro r M3 ⟨i3,rfl,i30,i31,z6,f3⟩;nofun;refine⟨⟨∅,∅⟩,?_⟩;have h3:M3[M1.length]?=some (.lst [.int i1]):=f3.get (aD h2) ∅;have XF:M3[M2.length]?=some (.lst [.int i2,.int 6]):=f3.get ao ∅;have kl:Fr w M M3:=(f1.app.trans f2).app.trans f3
 obtain⟨d,hd,j,e,US,hj8⟩:=mM (P:=λd=>∃j:Int,d=.int j/\0<=j/\j<=6) (ds:=[.int i2,.int 6]) (i:=i3 / 15) (k:=2) (by
  intro d hd;simp only[bU,lj,fP]at hd;rcases hd with rfl | rfl
  ·exact⟨_,rfl,∅,∅⟩
  ·exact⟨_,rfl,∅,∅⟩) ∅ ∅ rfl
 subst e;nofun;rw[bY XF (show(0:Int)<=i3 / 15 by omega) hd];nofun;refine⟨⟨∅,∅⟩,?_⟩
 have XH:∀d∈[D.int i1],yh d:=by
  intro d h;have:d=.int i1:=by simpa using h
  subst this;exact⟨_,rfl,SD,UQ⟩
 refine f_ (n:=j.toNat) (λi ρ M'=>∃ds o3 o4,ρ=[some (.aj w),some (.aj M1.length),some (.aj M2.length),o3,o4]/\M'[M1.length]?=some (.lst ds)/\1<=ds.length/\ds.length<=i+1/\(∀d∈ds,yh d)/\WA M' w (T+3+2*i)/\Fr w M M') ⟨[.int i1],none,none,rfl,h3,aI _,aI _,XH,z6.mono ∅,kl⟩ ?_ ?_
 ·rintro i ρ M4 hi ⟨ds,o3,o4,rfl,h4,BJ,pQ,qo,lY,kR⟩;have Y_:(i:Int)<6:=∅;have SE:=ay h4;nofun;refine(hD _ w _ 100 lY ∅ ∅ ∅).imp ?_;rintro r M5 ⟨i5,rfl,SF,UT,pR,f5⟩;nofun;refine⟨(show(2:Nat)<=sizeLine by decide),?_⟩;nofun;refine(hD _ w _ 2 pR ∅ ∅ ∅).imp ?_;rintro r M6 ⟨i6,rfl,PJ,SG,qq,f6⟩
  obtain⟨d,hd,eL⟩:=mM (P:=yh) (ds:=[.int i5,.int (0+i)]) (i:=i6) (k:=2) (by
   intro d hd;simp only[bU,lj,fP]at hd;rcases hd with rfl | rfl
   ·exact⟨_,rfl,∅,∅⟩
   ·exact⟨_,rfl,∅,∅⟩) PJ SG rfl
  nofun;rw[s_ PJ hd];have h6:M6[M1.length]?=some (.lst ds):=f6.get (f5.get h4 ∅) ∅;nofun;obtain⟨b,hb⟩:=E2 h6 qo eL;rw[hb]
  cases b with
  | false=>exact⟨ds,_,_,rfl,h6,BJ,∅,qo,qq.mono ∅,(kR.trans f5).trans f6⟩
  | true =>
   nofun;refine⟨bf h6,?_⟩;nofun;rw[bQ h6 (aO ∅)];refine⟨ds++[d],_,_,rfl,aK h6,by simp,by simp;omega,?_,(qq.set ∅).mono ∅,((kR.trans f5).trans f6).set ∅⟩;intro x hx;rcases cj.mp hx with q | q
   ·exact qo x q
   ·have:x=d:=by simpa using q
    subst this;exact eL
 ·rintro ρ M4 ⟨ds,o3,o4,rfl,h4,BJ,pQ,qo,lY,kR⟩;exact⟨_,ds,rfl,l1,h4,BJ,∅,qo,lY.mono ∅,kR⟩
noncomputable def z7(P:Int->Prop)(d:D):Prop:=∃r c,d=.tup [.int r,.str c]/\P r/\(c = "a" \/ c = "b" \/ c = "c" \/ c = "z")
theorem Oj{M:ak}{i:Int}(h0:0<=i)(h1:i<4):∃c,dy (.d (.str "abcz")) (.d (.int i)) M=.ok (.d (.str c)) M/\(c = "a" \/ c = "b" \/ c = "c" \/ c = "z"):=by
 have:i=0\/i=1\/i=2\/i=3:=∅;rcases this with rfl | rfl | rfl | rfl
 ·exact⟨"a",rfl,.inl rfl⟩
 ·exact⟨"b",rfl,.inr (.inl rfl)⟩
 ·exact⟨"c",rfl,.inr (.inr (.inl rfl))⟩
 ·exact⟨"z",rfl,.inr (.inr (.inr rfl))⟩
def yi(F:Fn):Prop:=∀(P:Int->Prop)(M:ak)(w nw:Nat)(T:Int)(dA:List D),WA M w T->T<2 ^ 39+10000->M[nw]?=some (.lst dA)->nw≠w->(∀d∈dA,∃r,d=.int r/\P r)->dA.length<=100 ->
 aV (F [.aj w,.aj nw] M) λr M'=>∃ds,r=.d (.tup ds)/\ds.length<=3/\(∀d∈ds,z7 P d)/\WA M' w (T+20)/\Fr w M M'
theorem Ol(hD:e9 (G aE)):yi (ar G 5 (ye aE)):=by
 intro P M w nw T dA hw hT hn mj hP SI;have Hk:=hw.lt;have wJ:=ay hn;rw[bF];show dX G (ye aE) [some (.aj w),some (.aj nw),none,none,none] M _ _ _ _;nofun;refine⟨(show(0:Nat)<=sizeLine by decide),?_⟩;nofun;refine⟨(show(7:Nat)<=sizeLine by decide),?_⟩;nofun;refine(hD _ w T 7 hw.app ∅ ∅ ∅).imp ?_;rintro r M1 ⟨i1,rfl,SD,UQ,Cb,f1⟩
 obtain⟨d,hd,j,e,US,Za⟩:=mM (P:=λd=>∃j:Int,d=.int j/\0<=j/\j<=3) (ds:=[.int 0,.int 0,.int 1,.int 1,.int 1,.int 2,.int 3]) (i:=i1) (k:=7) (by
  intro d hd;simp only[bU,lj,fP]at hd;rcases hd with rfl | rfl | rfl | rfl | rfl | rfl | rfl<;>exact⟨_,rfl,∅,∅⟩) SD UQ rfl
 subst e;nofun;rw[s_ SD hd];have h1:M1[nw]?=some (.lst dA):=f1.get (aD hn) mj;have ho:M1[M.length]?=some (.lst []):=f1.get ao ∅;have PK:Fr w M M1:=(Fr.refl w M).app.trans f1;nofun;rw[fx h1];nofun;refine⟨.inl ∅,?_⟩
 have hj:0<=j*(if decide ((0:Int)<dA.length)=true then 1 else 0)/\j*(if decide ((0:Int)<dA.length)=true then 1 else 0)<=3/\(0<j*(if decide ((0:Int)<dA.length)=true then 1 else 0)->(0:Int)<dA.length):=by
  by_cases q:(0:Int)<dA.length
  ·simp only[gk q,eP,Int.mul_one];exact⟨US,Za,λ_=>q⟩
  ·simp only[eJ q];simp
 generalize XI:j*(if decide ((0:Int)<dA.length)=true then 1 else 0)=jj at hj;obtain⟨US,Za,hj1⟩:=hj;have SJ:j*(if decide ((dA.length:Int)>0)=true then 1 else 0)=jj:=XI;nofun;refine⟨⟨by first | omega | (rw[SJ];omega) | (show _<=j*(if decide ((0:Int)<dA.length)=true then 1 else 0);rw[XI];omega),by first | omega | (rw[SJ];omega) | (show j*(if decide ((0:Int)<dA.length)=true then 1 else 0)<_;rw[XI];omega)⟩,?_⟩;refine f_ (n:=jj.toNat) (λi ρ M'=>∃ds o3 o4,ρ=[some (.aj w),some (.aj nw),some (.aj M.length),o3,o4]/\M'[M.length]?=some (.lst ds)/\ds.length=i/\(∀d∈ds,z7 P d)/\WA M' w (T+1+2*i)/\Fr w M M') ⟨[],none,none,rfl,ho,rfl,(by intro d h;cases h),Cb.mono ∅,PK⟩ ?_ ?_
 ·rintro i ρ M4 hi ⟨ds,o3,o4,rfl,h4,pQ,qo,lY,kR⟩;have hwp:(0:Int)<dA.length:=hj1 ∅;have Jl:M4[nw]?=some (.lst dA):=kR.get hn mj;nofun;rw[fx Jl];nofun;refine(hD _ w _ _ lY ∅ hwp ∅).imp ?_;rintro r M5 ⟨i5,rfl,SF,UT,pR,f5⟩;have hn5:M5[nw]?=some (.lst dA):=f5.get Jl mj;obtain⟨d,hd,r,e,hPr⟩:=mM (ds:=dA) (i:=i5) (k:=dA.length) hP SF UT rfl;subst e;nofun;rw[bY hn5 SF hd];have h5:M5[M.length]?=some (.lst ds):=f5.get h4 ∅;nofun;refine⟨bf h5,?_⟩;nofun;refine(hD _ w _ 4 pR ∅ ∅ ∅).imp ?_;rintro r6 M6 ⟨i6,rfl,PJ,SG,qq,f6⟩;obtain⟨c,hc,Bb⟩:=Oj (M:=M6) PJ SG;nofun;rw[hc];nofun;refine⟨(show(2:Nat)<=sizeLine by decide),?_⟩;have h6:M6[M.length]?=some (.lst ds):=f6.get h5 ∅;nofun;rw[bQ h6 (aO ∅)];refine⟨ds++[.tup [.int r,.str c]],_,_,rfl,aK h6,by simp[pQ],?_,(qq.set ∅).mono ∅,((kR.trans f5).trans f6).set (aI _)⟩;intro x hx;rcases cj.mp hx with q | q
  ·exact qo x q
  ·have:x=.tup [.int r,.str c]:=by simpa using q
   subst this;exact⟨_,_,rfl,hPr,Bb⟩
 ·rintro ρ M4 ⟨ds,o3,o4,rfl,h4,pQ,qo,lY,kR⟩;nofun;rw[cq h4];exact⟨ds,rfl,∅,qo,lY.mono ∅,kR⟩
def z8(d:D):Prop:=d=.aR\/∃x:Str,d=.str x/\(x = "x" \/ x = "yes" \/ x = "abcdefgh" \/ x = "own" \/ x = "a")
def E3(d:D):Prop:=∃x:Str,d=.str x/\(x = "own" \/ x = "a" \/ x = "b" \/ x = "z")
def kS(P:Int->Prop)(d:D):Prop:=∃s c a sends wd,d=.tup [s,c,a,.tup sends,wd]/\yh s/\E3 c/\yh a/\sends.length<=3/\(∀x∈sends,z7 P x)/\z8 wd
def tw(F:Fn):Prop:=∀(P:Int->Prop)(M:ak)(w ns nw:Nat)(T:Int)(z9 dA:List D),WA M w T->T<2 ^ 39->M[ns]?=some (.lst z9)->ns≠w->M[nw]?=some (.lst dA)->nw≠w->(∀d∈z9,yh d)->1<=z9.length->z9.length<=7->(∀d∈dA,∃r,d=.int r/\P r)->dA.length<=100 ->
 aV (F [.aj w,.aj ns,.aj nw] M) λr M'=>∃ds,r=.d (.tup ds)/\ds.length<=28/\(∀d∈ds,kS P d)/\WA M' w (T+1000)/\Fr w M M'
theorem Om(hD:e9 (G aE))(hS:yi (G tq)):tw (ar G 11 (yf aE tq)):=by
 intro P M w ns nw T sm dA hw hT hs Ra hn mj eL WY Jm hP SI;have Hk:=hw.lt;have wJ:=ay hn;have x9:=ay hs;rw[bF];show dX G (yf aE tq) [some (.aj w),some (.aj ns),some (.aj nw),none,none,none,none,none,none,none,none] M _ _ _ _;nofun;refine⟨(show(8:Nat)<=sizeLine by decide),?_⟩;nofun;refine⟨(show(0:Nat)<=sizeLine by decide),?_⟩;have hsA:((M++[MO.lst [.aR,.aR,.aR,.str "x",.str "yes",.str "abcdefgh",.str "own",.str "a"]])++[MO.lst []])[ns]?=some (.lst sm):=aD (aD hs)
 have hwd:∀d∈[D.aR,.aR,.aR,.str "x",.str "yes",.str "abcdefgh",.str "own",.str "a"],z8 d:=by
  intro d hd;simp only[bU,lj,fP]at hd;rcases hd with rfl | rfl | rfl | rfl | rfl | rfl | rfl | rfl
  ·exact .inl rfl
  ·exact .inl rfl
  ·exact .inl rfl
  ·exact .inr ⟨_,rfl,.inl rfl⟩
  ·exact .inr ⟨_,rfl,.inr (.inl rfl)⟩
  ·exact .inr ⟨_,rfl,.inr (.inr (.inl rfl))⟩
  ·exact .inr ⟨_,rfl,.inr (.inr (.inr (.inl rfl)))⟩
  ·exact .inr ⟨_,rfl,.inr (.inr (.inr (.inr rfl)))⟩
 have hA1:((M++[MO.lst [.aR,.aR,.aR,.str "x",.str "yes",.str "abcdefgh",.str "own",.str "a"]])++[MO.lst []])[M.length]?=some (.lst [.aR,.aR,.aR,.str "x",.str "yes",.str "abcdefgh",.str "own",.str "a"]):=aD ao
 have Zb:((M++[MO.lst [.aR,.aR,.aR,.str "x",.str "yes",.str "abcdefgh",.str "own",.str "a"]])++[MO.lst []])[M.length+1]?=some (.lst []):=by
  have:=ao (M:=M++[MO.lst [.aR,.aR,.aR,.str "x",.str "yes",.str "abcdefgh",.str "own",.str "a"]]) (o:=MO.lst []);simpa using this
 have aY:(M++[MO.lst [.aR,.aR,.aR,.str "x",.str "yes",.str "abcdefgh",.str "own",.str "a"]]).length=M.length+1:=by simp
 nofun;rw[aY];generalize hWW:([.aR,.aR,.aR,.str "x",.str "yes",.str "abcdefgh",.str "own",.str "a"]:List D)=WW at *;have hW8:WW.length=8:=by rw[<- hWW];rfl
 rw[d_ hsA]
 refine B_ (n:=ns) (ds:=sm) (λi ρ M'=>∃ds o5 o6 o7 o8 o9 fM,ρ=[some (.aj w),some (.aj ns),some (.aj nw),some (.aj M.length),some (.aj (M.length+1)),o5,o6,o7,o8,o9,fM]/\M'[M.length]?=some (.lst WW)/\M'[M.length+1]?=some (.lst ds)/\ds.length<=4*i/\(∀d∈ds,kS P d)/\WA M' w (T+100*i)/\Fr w M M')
  (by rintro i ρ M' ⟨ds,_,_,_,_,_,_,_,_,_,_,_,_,f⟩;exact f.get hs Ra) ⟨[],none,none,none,none,none,none,rfl,hA1,Zb,lr _,(by intro d h;cases h),(hw.app.app).mono ∅,((Fr.refl w M).app).app⟩ ?_ ?_
 ·rintro i ρ M4 d hd ⟨ds,o5,o6,o7,o8,o9,fM,rfl,Zc,h4,pQ,qo,lY,kR⟩;have hi:i<sm.length:=(bq.mp hd).1;have hdS:yh d:=eL d (dw hd);nofun;refine⟨(show(4:Nat)<=sizeLine by decide),?_⟩
  refine gf (ds:=[.str "own",.str "a",.str "b",.str "z"]) (λj ρ M'=>∃ds o6 o7 o8 o9 fM,ρ=[some (.aj w),some (.aj ns),some (.aj nw),some (.aj M.length),some (.aj (M.length+1)),some d,o6,o7,o8,o9,fM]/\M'[M.length]?=some (.lst WW)/\M'[M.length+1]?=some (.lst ds)/\ds.length<=4*i+j/\(∀d∈ds,kS P d)/\WA M' w (T+100*i+25*j)/\Fr w M M')
   ⟨ds,o6,o7,o8,o9,fM,rfl,Zc,h4,∅,qo,lY.mono ∅,kR⟩ ?_ ?_
  ·rintro j ρ M5 c hc ⟨ds,o6,o7,o8,o9,fM,rfl,UW,h5,Cv,UX,pR,mh⟩;have hj:j<4:=(bq.mp hc).1
   have hcC:E3 c:=by
    have hm:=dw hc;simp only[bU,lj,fP]at hm;rcases hm with rfl | rfl | rfl | rfl
    ·exact⟨_,rfl,.inl rfl⟩
    ·exact⟨_,rfl,.inr (.inl rfl)⟩
    ·exact⟨_,rfl,.inr (.inr (.inl rfl))⟩
    ·exact⟨_,rfl,.inr (.inr (.inr rfl))⟩
   nofun;refine(hD _ w _ 4 pR ∅ ∅ ∅).imp ?_;rintro r6 M6 ⟨i6,rfl,PJ,SG,qq,f6⟩;nofun;by_cases hp:0<i6
   ·rw[gk hp];have yj:Fr w M M6:=mh.trans f6;have UY:M6[ns]?=some (.lst sm):=yj.get hs Ra;nofun;rw[fx UY];nofun;refine(hD _ w _ _ qq ∅ ∅ ∅).imp ?_;rintro r7 M7 ⟨i7,rfl,SH,XG,Jj,f7⟩;have Ht:Fr w M M7:=yj.trans f7;obtain⟨a,ha,haS⟩:=mM (P:=yh) (ds:=sm) (i:=i7) (k:=sm.length) eL SH XG rfl;nofun;rw[bY (Ht.get hs Ra) SH ha];nofun;refine(hS P M7 w nw _ dA Jj ∅ (Ht.get hn mj) mj hP SI).imp ?_;rintro r8 M8 ⟨sd,rfl,XJ,m_,SM,f8⟩;have fr8:Fr w M M8:=Ht.trans f8;nofun;refine(hD _ w _ 8 SM ∅ ∅ ∅).imp ?_;rintro r9 M9 ⟨i9,rfl,Zd,i91,Ze,f9⟩;have fr9:Fr w M M9:=fr8.trans f9;have Zf:M9[M.length]?=some (.lst WW):=f9.get (f8.get (f7.get (f6.get UW ∅) ∅) ∅) ∅;have h9:M9[M.length+1]?=some (.lst ds):=f9.get (f8.get (f7.get (f6.get h5 ∅) ∅) ∅) ∅;obtain⟨wd,XM,XN⟩:=mM (P:=z8) (ds:=WW) (i:=i9) (k:=8) hwd Zd i91 hW8.symm;nofun;rw[bY Zf Zd XM];nofun;rw[fx h9];nofun;refine(hD _ w _ _ Ze ∅ ∅ ∅).imp ?_;rintro rA MA ⟨iA,rfl,iA0,iA1,hwA,fA⟩;have frA:Fr w M MA:=fr9.trans fA;have hA:MA[M.length+1]?=some (.lst ds):=fA.get h9 ∅;nofun;refine⟨bf hA,?_⟩;nofun;refine⟨(show(5:Nat)<=sizeLine by decide),?_⟩;nofun;rw[v3 hA (aO ∅) iA0 ∅];refine⟨ds.take iA.toNat++.tup [d,c,a,.tup sd,wd]::ds.drop iA.toNat,_,_,_,_,_,rfl,au (fA.get Zf ∅) ∅,aK hA,?_,?_,(hwA.set ∅).mono ∅,frA.set ∅⟩
    ·rw[cC,jt,gW,GK];omega
    ·intro x hx
     have hx:x=.tup [d,c,a,.tup sd,wd]\/x∈ds:=by
      rcases cj.mp hx with q | q
      ·exact .inr (rq q)
      ·rcases bU.mp q with q | q
       ·exact .inl q
       ·exact .inr (List.mem_of_mem_drop q)
     rcases hx with rfl | hx
     ·exact⟨_,_,_,_,_,rfl,hdS,hcC,haS,XJ,m_,XN⟩
     ·exact UX x hx
   ·rw[eJ hp];exact⟨ds,_,_,_,_,_,rfl,f6.get UW ∅,f6.get h5 ∅,∅,UX,qq.mono ∅,mh.trans f6⟩
  ·rintro ρ M5 ⟨ds,o6,o7,o8,o9,fM,rfl,UW,h5,Cv,UX,pR,mh⟩;have e4:[D.str "own",D.str "a",D.str "b",D.str "z"].length=4:=rfl;rw[e4]at Cv pR;exact⟨ds,_,_,_,_,_,_,rfl,UW,h5,∅,UX,pR.mono ∅,mh⟩
 ·rintro ρ M4 ⟨ds,o5,o6,o7,o8,o9,fM,rfl,Zc,h4,pQ,qo,lY,kR⟩;nofun;rw[cq h4];exact⟨ds,rfl,∅,qo,lY.mono ∅,kR⟩
noncomputable def tx(bg:List D)(m:Nat)(r:Int):Prop:=0<=r/\∃b k,bg[r.toNat]?=some (.tup [.int m,b,k])
def E4(bg:List D)(m:Nat)(d:D):Prop:=∃st cX,d=.tup [st,.tup cX]/\yh st/\cX.length<=28/\∀y∈cX,kS (tx bg m) y
def KH(d:D):Prop:=∃bw bg,d=.tup [.tup bw,.tup bg]/\1<=bw.length/\bw.length<=4/\bg.length<=8/\(∀x∈bg,qX bw.length x)/\∀m x,bw[m]?=some x->E4 bg m x
def E5(F:Fn):Prop:=∀(M:ak)(ns:List Int),ns.length<=63->aV (F [.ls (ns.map D.int)] M) λr M'=>∃d,r=.d d/\KH d/\Fr M.length M M'
theorem Fr.none{w:Nat}{M M1 M2:ak}(a:Fr M.length M M1)(b:Fr w M1 M2)(h:M.length<=w):Fr M.length M M2:=⟨dr a.1 b.1,λn hn k=>(b.2 n (gF hn a.1) ∅).trans (a.2 n hn k)⟩
theorem E6{m:Int}{bg:List D}{i:Nat}(h:∀x∈bg,qX m x)(hi:i<bg.length):∃a b k,bg[i]?=some (.tup [.int a,.int b,.str k]):=by
 obtain⟨a,b,k,e,_⟩:=h bg[i] (rF hi);exact⟨a,b,k,by rw[bx hi,e]⟩
noncomputable def z_:C:=.comp .eK [.bi .len [.ae 3]] [1] (some (.val (.cmp .eq (.sub (.sub (.ae 3) (.ae 1)) (.ai (.int 0))) (.ae 2)))) (.ae 1) [none,none,some 5,some 3]
theorem Jn{G:dN}{ρ:En}{M:ak}{m:Int}{i:Nat}{bg:List D}{P:W->ak->Prop}(h5:ρ[5]?=some (some (.int i)))(h3:ρ[3]?=some (some (.tup bg)))(SN:bg.length<=8)(Hl:∀x∈bg,qX m x)(q:∀dA,dA.length<=8->(∀d∈dA,∃r,d=.int r/\tx bg i r)->P (.lv dA) M):wE G z_ ρ M P:=by
 unfold z_;nofun;rw[h3];nofun;refine⟨⟨∅,∅⟩,?_⟩;rw[show fb [none,none,some 5,some 3] ρ=[none,none,some (.int i),some (.tup bg)] by unfold fb;simp only[fO,pZ,Option.bind_none,Option.bind_some,h5,h3,Option.join_some]];refine Sz (n:=(bg.length:Int).toNat) (λk M' acc=>M=M'/\acc.length<=k/\∀d∈acc,∃r,d=.int r/\tx bg i r) (by decide) ⟨rfl,aI _,(by intro d h;cases h)⟩ ?_ ?_
 ·rintro k M7 acc hk ⟨rfl,u7,PL⟩;have Hr:k<bg.length:=∅;refine⟨aO ∅,?_⟩;obtain⟨a,b,kk,hrk⟩:=E6 Hl Hr;have SO:bg[((0:Int)+(k:Nat)).toNat]?=some (.tup [.int a,.int b,.str kk]):=by rw[show((0:Int)+(k:Nat)).toNat=k by omega];exact hrk
  nofun;rw[mZ (show(0:Int)<=0+(k:Nat) by omega) SO];nofun
  cases q:(a==(i:Int))with
  | true =>
   have q:a=i:=by simpa using q
   subst q;refine⟨rfl,by simp;omega,?_⟩;intro d hd;rcases cj.mp hd with z | z
   ·exact PL d z
   ·have:d=.int (0+k):=by simpa using z
    subst this;exact⟨_,rfl,∅,.int b,.str kk,SO⟩
  | false=>exact⟨rfl,∅,PL⟩
 ·rintro M7 dA ⟨rfl,u7,PL⟩;exact q dA ∅ PL
def KI(cW aE d5 e7:Nat):List S:=[.asg [1] (.call cW [(.ae 0),(.bin .add (.ai (.int 1)) (.ae 5))]),.asg [6] (.call d5 [(.ae 1)]),.fR 7 z_,.asg [8] (.sub (.ae 6) (.call aE [(.ae 1),(.bi .len [(.ae 6)])])),.expr (.me .append (.ae 4) [(.tup [(.ae 8),(.call e7 [(.ae 1),(.ae 6),(.ae 7)])])])]
theorem Cc{G:dN}{cW aE d5 e7:Nat}(hW:qW (G cW))(hD:e9 (G aE))(SQ:m8 (G d5))(XO:tw (G e7)){ns:List Int}(lE:ns.length<=63){m:Int}{i:Nat}{bg bw:List D}{M4:ak}{n3:Nat}{o1 d2 o6 o7 o8:Option D}{nx:En->ak->Prop}{rt:W->ak->Prop}{bk ct:En->ak->Prop}(hi:i<4)(SN:bg.length<=8)(Hl:∀x∈bg,qX m x)(h4:M4[n3]?=some (.lst bw))(pQ:bw.length=i)(q:∀o1 o6 o7 o8 M9 x,E4 bg i x->Fr n3 M4 M9->M9[n3]?=some (.lst (bw++[x]))->nx [some (.ls (ns.map D.int)),o1,d2,some (.tup bg),some (.aj n3),some (.int i),o6,o7,o8] M9):dX G (KI cW aE d5 e7) [some (.ls (ns.map D.int)),o1,d2,some (.tup bg),some (.aj n3),some (.int i),o6,o7,o8] M4 nx rt bk ct:=by
 have l4:=ay h4;nofun;refine(hW M4 ns (1+i) ∅ ∅ lE).imp ?_;rintro r M5 ⟨rfl,Cv,pR,f5⟩;nofun;refine(SQ M5 _ _ pR ∅).imp ?_;rintro r M6 ⟨n6,st,rfl,UZ,h6,WY,Jm,eL,qq,f6⟩;have l6:=ay h6;show wE G z_ [some (.ls (ns.map D.int)),some (.aj M4.length),d2,some (.tup bg),some (.aj n3),some (.int i),some (.aj n6),o7,o8] M6 _;refine Jn (m:=m) (i:=i) (by rfl) (by rfl) SN Hl λdA hl PL=>?_;nofun;have h7:(M6++[MO.lst dA])[n6]?=some (.lst st):=aD h6;rw[fx h7];nofun;refine(hD _ _ _ _ qq.app ∅ ∅ ∅).imp ?_;rintro r8 M8 ⟨i8,rfl,Zg,i81,SM,f8⟩;have Jl:n6≠M4.length:=∅;have h8:M8[n6]?=some (.lst st):=f8.get h7 Jl;have h8w:M8[M6.length]?=some (.lst dA):=f8.get ao ∅;obtain⟨s0,hs0,XQ⟩:=mM (P:=yh) (ds:=st) (i:=i8) (k:=st.length) eL Zg i81 rfl;nofun;rw[bY h8 Zg hs0];nofun;have h5R:M5[n3]?=some (.lst bw):=f5.get h4 ∅;have h6R:M6[n3]?=some (.lst bw):=f6.get h5R ∅;have Zh:M8[n3]?=some (.lst bw):=f8.get (aD h6R) ∅;refine⟨bf Zh,?_⟩;nofun;refine(XO (tx bg i) M8 M4.length n6 M6.length _ st dA SM ∅ h8 Jl h8w ∅ eL WY Jm PL ∅).imp ?_;rintro r9 M9 ⟨mv,rfl,KJ,XR,Ze,f9⟩;nofun;refine⟨(show(2:Nat)<=sizeLine by decide),?_⟩;have Zi:M9[n3]?=some (.lst bw):=f9.get Zh ∅;nofun;rw[bQ Zi (aO ∅)];refine q _ _ _ _ _ (.tup [s0,.tup mv]) ⟨_,_,rfl,XQ,KJ,XR⟩ ?_ (aK Zi);have g5:Fr M4.length M4 M9:=(((f5.none f6 (aI _)).app).none f8 (aI _)).none f9 (aI _);refine⟨by rw[kh];exact g5.1,λn hn k=>?_⟩;rw[pU (dh k)];exact g5.2 n hn ∅
theorem SS{G:dN}{cW aE j_ d5 e7:Nat}(hW:qW (G cW))(hD:e9 (G aE))(hR:yg (G j_))(SQ:m8 (G d5))(XO:tw (G e7)):E5 (ar G 9 (z5 cW aE j_ d5 e7)):=by
 intro M ns lE;rw[bF];show dX G (z5 cW aE j_ d5 e7) [some (.ls (ns.map D.int)),none,none,none,none,none,none,none,none] M _ _ _ _;have hb:z5 cW aE j_ d5 e7=[.asg [1] (.call cW [(.ae 0),(.ai (.int 0))]),.asg [2] (.sub (.lst [(.ai (.int 2)),(.ai (.int 1)),(.ai (.int 3)),(.ai (.int 2)),(.ai (.int 4)),(.ai (.int 3))]) (.call aE [(.ae 1),(.ai (.int 6))])),.asg [3] (.call j_ [(.ae 1),(.ae 2)]),.asg [4] (.lst []),.bE [5] .eK [(.ae 2)] (KI cW aE d5 e7),.ret (.tup [(.bi .tuple1 [(.ae 4)]),(.ae 3)])]:=rfl;rw[hb];nofun;refine(hW M ns 0 ∅ ∅ lE).imp ?_;rintro r M1 ⟨rfl,BJ,Cb,f1⟩;nofun;refine⟨(show(6:Nat)<=sizeLine by decide),?_⟩;nofun;refine(hD _ _ _ 6 Cb ∅ ∅ ∅).imp ?_;rintro r M2 ⟨i2,rfl,UR,XE,v7,f2⟩
 obtain⟨d,hd,m,e,XD,KD⟩:=mM (P:=λd=>∃j:Int,d=.int j/\1<=j/\j<=4) (ds:=[.int 2,.int 1,.int 3,.int 2,.int 4,.int 3]) (i:=i2) (k:=6) (by
  intro d hd;simp only[bU,lj,fP]at hd;rcases hd with rfl | rfl | rfl | rfl | rfl | rfl<;>exact⟨_,rfl,∅,∅⟩) UR XE rfl
 subst e;nofun;rw[s_ UR hd];nofun;refine(hR _ _ _ m v7 ∅ XD KD).imp ?_;rintro r M3 ⟨bg,rfl,SN,Hl,z6,f3⟩;nofun;refine⟨(show(0:Nat)<=sizeLine by decide),?_⟩;nofun;refine⟨⟨∅,∅⟩,?_⟩;have kl:Fr M.length M M3:=(f1.trans f2).trans f3;have l3:=kl.1
 refine f_ (n:=m.toNat) (λi ρ M'=>∃bw o1 o5 o6 o7 o8,ρ=[some (.ls (ns.map D.int)),o1,some (.int m),some (.tup bg),some (.aj M3.length),o5,o6,o7,o8]/\M'[M3.length]?=some (.lst bw)/\bw.length=i/\(∀k x,bw[k]?=some x->E4 bg k x)/\Fr M.length M M')
  ⟨[],_,none,none,none,none,rfl,ao,rfl,(by intro k x h;simp at h),kl.app⟩ ?_ ?_
 ·rintro i ρ M4 hi ⟨bw,o1,o5,o6,o7,o8,rfl,h4,pQ,qo,kR⟩;rw[show(0:Int)+(i:Int)=i by omega];refine Cc hW hD SQ XO lE (m:=m) (i:=i) ∅ SN Hl h4 pQ λp1 p6 p7 p8 M9 x hx f9 h9=>?_;refine⟨bw++[x],_,_,_,_,_,rfl,h9,by simp[pQ],?_,kR.none f9 l3⟩;intro k y hk;by_cases Hr:k<bw.length
  ·rw[jn Hr]at hk;exact qo k y hk
  ·have hkk:k=bw.length:=by have:=(bq.mp hk).1;simp at this;omega
   subst hkk;simp at hk;subst hk;rw[pQ];exact hx
 ·rintro ρ M4 ⟨bw,o1,o5,o6,o7,o8,rfl,h4,pQ,qo,kR⟩;nofun;rw[cq h4];nofun;refine⟨(show(2:Nat)<=sizeLine by decide),_,rfl,⟨bw,bg,rfl,∅,∅,SN,?_,qo⟩,kR⟩;have:(bw.length:Int)=m:=∅;rw[this];exact Hl
theorem Oo(a b:Str):PyData.strOk (a++b)=(PyData.strOk a&&PyData.strOk b):=by
 show(a.cps++b.cps).all _=_;rw[Array.all_append];rfl
noncomputable def Tx(b:Nat)(x:Str):Prop:=x.length<=b/\PyData.strOk x=true
theorem Tx.app{x y:Str}(h:Tx a x)(k:Tx b y):Tx (a+b) (x++y):=⟨by rw[strLen_append];have:=h.1;have:=k.1;omega,by rw[Oo,h.2,k.2];rfl⟩
theorem Tx.mono{x:Str}(h:Tx a x)(k:a<=b):Tx b x:=⟨dr h.1 k,h.2⟩
theorem Aa{b:Nat}:∀{l:List Str},(∀x∈l,Tx b x)->Tx (l.length*(b+2)) ((Str.ofString ", ").join l)
 | [],_=>by rw[Str.join.eq_1];exact⟨lr _,⋯⟩
 | [x],h=>by rw[Str.join.eq_2];exact(h x (dC ..)).mono (by simp)
 | x::y::r,h=>by
  rw[Str.join.eq_3 _ _ _ (λq=>by cases q)];have h1:=h x (dC ..);have h2:=Aa (l:=y::r) λz hz=>h z (dq _ hz);have h3:Tx 2 (Str.ofString ", "):=⟨⋯,⋯⟩;refine((h1.app h3).app h2).mono ?_;rw[jt (a:=x),Nat.add_mul];omega
theorem E7{l:List Str}(h:∀x∈l,Tx b x):Tx (l.length*(b+2)+3) (tupleText l):=by
 unfold tupleText;have h1:Tx 1 (Str.ofString "("):=⟨⋯,⋯⟩
 have h2:Tx 2 (Str.ofString (if (l.length==1)=true then ",)" else ")")):=by
  split<;>exact⟨⋯,⋯⟩
 exact((h1.app (Aa h)).app h2).mono ∅
theorem Ab:∀{l:List Str}{n a:Nat}{x:Str},Tx a x->(∀x∈l,Tx b x)->Tx (a+l.length*(b+2)) (textFrom n x l)
 | [],_,_,_,h,_=>by rw[textFrom.eq_1];exact h.mono (by simp)
 | t::ts,n,a,x,h,k=>by
  rw[textFrom.eq_2];have h2:Tx 2 (Str.ofString (if n>0 then ", " else "")):=by split<;>exact⟨⋯,⋯⟩
  refine(Ab (l:=ts) (n:=n+1) ((h.app h2).app (k t (dC ..))) λz hz=>k z (dq _ hz)).mono ?_;rw[jt,Nat.add_mul];omega
theorem Jo{l:List Str}(h:∀x∈l,Tx b x):Tx (l.length*(b+2)+2) (listText l):=by
 unfold listText;have h1:Tx 1 (Str.ofString "["):=⟨⋯,⋯⟩;have h2:Tx 1 (Str.ofString "]"):=⟨⋯,⋯⟩;exact((Ab h1 h).app h2).mono ∅
def ue(b h:Nat)(p:PyData):Prop:=p.canLay0=true/\p.showable=true/\p.depth<=h/\Tx b p.shown
def Sm(b h:Nat)(d:D):Prop:=∃p:PyData,(∀M n,h<=n->dD M n d=some p)/\ue b h p
theorem Sm.mono(x:Sm b h d)(hb:b<=c)(hk:h<=k):Sm c k d:=by
 obtain⟨p,e,q1,q2,q3,q4⟩:=x;exact⟨p,λM n hn=>e M n ∅,q1,q2,∅,q4.mono hb⟩
theorem Sm.aR:Sm 4 0 .aR:=⟨.none,λM n _=>by cases n<;>(unfold dD;rfl),PyData.canLay0.eq_1,PyData.showable.eq_1,rJ PyData.depth.eq_4,by rw[PyData.shown.eq_1];exact⟨⋯,⋯⟩⟩
theorem yk:∀i:Fin 100,(Str.ofString (toString ((i.val:Nat):Int))).length<=2/\PyData.strOk (Str.ofString (toString ((i.val:Nat):Int)))=true/\(PyData.int ((i.val:Nat):Int)).showable=true:=⋯
theorem Sm.int(h0:0<=i)(h1:i<100):Sm 2 0 (.int i):=by
 have q:=yk ⟨i.toNat,∅⟩;have e:((i.toNat:Nat):Int)=i:=∅;simp only[e]at q;exact⟨.int i,λM n _=>by cases n<;>(unfold dD;rfl),wU i,q.2.2,rJ (wX i),by rw[PyData.shown.eq_3];exact⟨q.1,q.2.1⟩⟩
theorem Sm.str{x:Str}(h:PyData.strOk x=true)(k:Tx b (reprText x)):Sm b 0 (.str x) :=
 ⟨.str x,λM n _=>by cases n<;>(unfold dD;rfl),(AI x).trans h,PyData.showable.eq_3 x,rJ (AO x),by rw[PyData.shown.eq_4];exact k⟩
theorem ue.all:∀{ps:List PyData},(∀p∈ps,ue b h p)->PyData.canLayAll0 ps=true/\PyData.showableAll ps=true/\PyData.depthAll ps<=h/\(∀x∈PyData.shownAll ps,Tx b x)/\(PyData.shownAll ps).length=ps.length
 | [],_=>⟨wL,PyData.showableAll.eq_1,by rw[wQ];omega,by rw[PyData.shownAll.eq_1];intro x h;(cases h),by rw[PyData.shownAll.eq_1];rfl⟩
 | p::ps,q=>by
  obtain⟨a1,a2,a3,a4,a5⟩:=ue.all (ps:=ps) λp hp=>q p (dq _ hp);obtain⟨b1,b2,b3,b4⟩:=q p (dC ..);refine⟨by rw[wM,a1,b1];rfl,by rw[PyData.showableAll.eq_2,a2,b2];rfl,by rw[wR];omega,?_,by rw[PyData.shownAll.eq_2,jt,a5,jt]⟩;rw[PyData.shownAll.eq_2];intro x hx;rcases bU.mp hx with rfl | hx
  ·exact b4
  ·exact a4 x hx
theorem ue.tup(q:∀p∈ps,ue b h p)(hk:ps.length<=k):ue (k*(b+2)+3) (h+1) (.tuple ps):=by
 obtain⟨a1,a2,a3,a4,a5⟩:=ue.all q;refine⟨(AJ ps).trans a1,(PyData.showable.eq_6 ps).trans a2,by rw[AQ];omega,?_⟩;rw[PyData.shown.eq_6];refine(E7 a4).mono ?_;rw[a5];exact Nat.add_le_add_right (GC _ hk) _
theorem ue.list(q:∀p∈ps,ue b h p)(hk:ps.length<=k):ue (k*(b+2)+2) (h+1) (.list ps):=by
 obtain⟨a1,a2,a3,a4,a5⟩:=ue.all q;refine⟨(PyData.canLay0.eq_5 ps).trans a1,(PyData.showable.eq_5 ps).trans a2,by rw[PyData.depth.eq_1];omega,?_⟩;rw[PyData.shown.eq_5];refine(Jo a4).mono ?_;rw[a5];exact Nat.add_le_add_right (GC _ hk) _
theorem Sm.ds:∀{ds:List D},(∀d∈ds,Sm b h d)->∃ps,(∀M n,h<=n->bS M n ds=some ps)/\(∀p∈ps,ue b h p)/\ps.length=ds.length
 | [],_=>⟨[],λM n _=>by unfold bS;rfl,(by intro p h;cases h),rfl⟩
 | d::ds,q=>by
  obtain⟨ps,e,a,l⟩:=Sm.ds (ds:=ds) λd hd=>q d (dq _ hd);obtain⟨p,ep,ap⟩:=q d (dC ..);refine⟨p::ps,λM n hn=>by unfold bS;rw[ep M n hn,e M n hn],?_,by simp[l]⟩;intro x hx;rcases bU.mp hx with rfl | hx
  ·exact ap
  ·exact a x hx
theorem Sm.tup{b h k:Nat}{ds:List D}(q:∀d∈ds,Sm b h d)(hk:ds.length<=k):Sm (k*(b+2)+3) (h+1) (.tup ds):=by
 obtain⟨ps,e,a,l⟩:=Sm.ds q;refine⟨.tuple ps,λM n hn=>?_,ue.tup a ∅⟩;obtain⟨n,rfl⟩:∃m,n=m+1:=⟨n-1,∅⟩;unfold dD;rw[e M n ∅];rfl
theorem ue.shaped(q:ue b h p)(hh:h<=40):SeqAt.shaped p=true:=by
 unfold SeqAt.shaped;rw[q.1,Bool.true_and];exact gk (by have:=q.2.2.1;omega)
theorem E8(q:∀d∈ds,Sm b h d)(hl:ds.length<=1000)(hb:b<=1000)(hh:h<=20):∃x,PyData.strOk x=true/\∀M n,M[n]?=some (.lst ds)->kc .ou [.d (.aj n)] M=.ok (.d (.str x)) M:=by
 obtain⟨ps,e,a,l⟩:=Sm.ds q;obtain⟨q1,q2,q3,q4,q5⟩:=ue.list (k:=1000) a ∅;refine⟨(PyData.list ps).shown,q5,λM n hM=>?_⟩;unfold kc
 have:jx M (.d (.aj n))=some (.list ps):=by
  show dD M 30 (.aj n)=_;unfold dD
  try simp only[hM]
  rw[e M 29 ∅];rfl
 try simp only[this]
 have zg:1000*(b+2)+2<=sizeLine:=dr (show 1000*(b+2)+2<=1002002 by omega) (by decide);rw[aw ⟨q2,∅,dr q4 zg⟩]
noncomputable def pe(s:Int)(c:Str):D->Bool
 | .tup (.int s'::.str c'::_)=>s'==s&&c'==c
 | _=>false
def E9:D->D
 | .tup (_::_::r)=>.tup r
 | d=>d
def Gp(cX:List D)(s:Int)(c:Str):D:=match cX.find? (pe s c)with
 | some d=>E9 d
 | none=>if c == "own" then .aR else .tup [.int s,.tup [],.aR]
theorem cw:PyData.strOk "own" = true:=⋯
theorem v8{x:Str} (h:x = "own" \/ x = "a" \/ x = "b" \/ x = "z"):PyData.strOk x=true:=by
 rcases h with rfl | rfl | rfl | rfl<;>decide +kernel
theorem Oq{c c':Str}(hc:PyData.strOk c=true)(Bb:PyData.strOk c'=true):bh .eq (.d (.tup [.int s',.str c'])) (.d (.tup [.int s,.str c])) M=.ok (s'==s&&c'==c) M:=by
 have h1:∀(s:Int)(c:Str),jx M (.d (.tup [.int s,.str c]))=some (.tuple [.int s,.str c]):=λs c=>by
  show dD M 30 (.tup [.int s,.str c])=_
  try simp only[dD,bS,CN]
 have h2:∀(s:Int){c:Str},PyData.strOk c=true->SeqAt.shaped (.tuple [.int s,.str c])=true:=λs c h=>by
  unfold SeqAt.shaped
  try simp only[AJ,wM,wL,wU,AI,h,AQ,wR,wQ,wX,AO]
  rfl
 unfold bh
 try simp only[h1,h2 _ hc,h2 _ Bb,jQ,eP,PyData.eqv.eq_8,PyData.eqvAll.eq_2,CI,CO,PyData.eqv.eq_6,Bool.and_true]
theorem Cd{α:Type}{p:α->Bool}{l:List α}{k:Nat}{x:α}(h:l[k]?=some x)(hn:(l.take k).find? p=none)(hp:p x=true):l.find? p=some x:=by
 have hk:=(bq.mp h).1
 have e:l=l.take k++(x::l.drop (k+1)):=by
  have:l.drop k=x::l.drop (k+1):=by
   rw[List.drop_eq_getElem_cons hk]
   congr 1
   rw[bx hk]at h;exact cg h
  rw[<- this,Le]
 rw[e,Lk,hn];simp[hp]
def kT(F:Fn):Prop:=∀(P:Int->Prop)(M:ak)(bw bg cX:List D)(st:D)(m:Nat)(s:Int)(c:Str),bw[m]?=some (.tup [st,.tup cX])->(∀y∈cX,kS P y)->PyData.strOk c=true ->
 aV (F [.tup [.tup bw,.tup bg],.int m,.int s,.str c] M) λr M'=>M=M'/\r=.d (Gp cX s c)
theorem E_{ds:List D}{m:Nat}{x:D}(h:ds[m]?=some x):ds[((m:Nat):Int).toNat]?=some x:=by rw[jr];exact h
theorem Jp{G:dN}:kT (ar G 5 tj):=by
 intro P M bw bg cX st m s c hm KJ hc;rw[bF];show dX G tj [some (.tup [.tup bw,.tup bg]),some (.int m),some (.int s),some (.str c),none] M _ _ _ _;nofun;rw[mZ (M:=M) (ds:=bw) (i:=(m:Nat)) ∅ (E_ hm)];nofun;refine gf (ds:=cX) (λk ρ M'=>∃o4,M=M'/\ρ=[some (.tup [.tup bw,.tup bg]),some (.int m),some (.int s),some (.str c),o4]/\(cX.take k).find? (pe s c)=none) ⟨none,rfl,rfl,by simp⟩ ?_ ?_
 ·rintro k ρ M' d hd ⟨o4,rfl,rfl,qY⟩;obtain⟨s',c',a,sd,wd,rfl,⟨i,rfl,_,_⟩,⟨cx,rfl,XS⟩,_⟩:=KJ d (dw hd)
  have Po:(i==s&&cx==c)=false->(cX.take (k+1)).find? (pe s c)=none:=λq=>by
   rw[bD hd,Lk,qY]
   try simp only[gX,pe,q]
   rfl
  nofun
  cases q:(i==s)with
  | true =>
   nofun;rw[bG (v8 XS) hc]
   cases q2:(cx==c)with
   | true =>
    nofun;refine⟨(show(3:Nat)<=sizeLine by decide),rfl,?_⟩;unfold Gp;rw[Cd hd qY (by simp[pe,q,q2])];rfl
   | false=>exact⟨_,rfl,rfl,Po (by simp[q2])⟩
  | false=>exact⟨_,rfl,rfl,Po (by simp[q])⟩
 ·rintro ρ M' ⟨o4,rfl,rfl,qY⟩;rw[jO]at qY;nofun;rw[bG hc cw]
  cases q:(c == "own")with
  | true =>
   refine⟨rfl,?_⟩;unfold Gp;rw[qY];show _=W.d (if (c == "own")=true then _ else _);rw[q];rfl
  | false =>
   nofun;refine⟨(show(0:Nat)<=sizeLine by decide),?_⟩;nofun;refine⟨(show(3:Nat)<=sizeLine by decide),rfl,?_⟩;unfold Gp;rw[qY];show _=W.d (if (c == "own")=true then _ else _);rw[q];rfl
theorem Jq(h:z8 d):Sm 12 0 d:=by
 rcases h with rfl | ⟨x,rfl,h⟩
 ·exact Sm.aR.mono (by decide) (by decide)
 ·rcases h with rfl | rfl | rfl | rfl | rfl<;>exact Sm.str ⋯ ⟨⋯,⋯⟩
theorem SU(h:yh d):Sm 2 0 d:=by
 obtain⟨i,rfl,h0,h1⟩:=h;exact Sm.int h0 h1
theorem Jr(hP:∀r,P r->0<=r/\r<100)(h:z7 P d):Sm 20 1 d:=by
 obtain⟨r,c,rfl,h1,h2⟩:=h;have hc:Sm 3 0 (.str c):=by rcases h2 with rfl | rfl | rfl | rfl<;>exact Sm.str ⋯ ⟨⋯,⋯⟩
 refine(Sm.tup (b:=3) (h:=0) (k:=2) (ds:=[.int r,.str c]) ?_ (aI 2)).mono (by decide) (by decide);intro d hd;simp only[bU,lj,fP]at hd;rcases hd with rfl | rfl
 ·exact(Sm.int (hP r h1).1 (hP r h1).2).mono (by decide) (by decide)
 ·exact hc
theorem Ot(hP:∀r,P r->0<=r/\r<100)(h:kS P d):Sm 300 3 (E9 d):=by
 obtain⟨s,c,a,sd,wd,rfl,_,_,ha,hl,m_,hw⟩:=h;show Sm 300 3 (.tup [a,.tup sd,wd]);have h1:Sm 69 2 (.tup sd):=Sm.tup (b:=20) (h:=1) (k:=3) (λx hx=>Jr hP (m_ x hx)) hl;refine(Sm.tup (b:=69) (h:=2) (k:=3) (ds:=[a,.tup sd,wd]) ?_ (aI 3)).mono (by decide) (by decide);intro d hd;simp only[bU,lj,fP]at hd;rcases hd with rfl | rfl | rfl
 ·exact(SU ha).mono (by decide) (by decide)
 ·exact h1
 ·exact(Jq hw).mono (by decide) (by decide)
theorem Fb(hM:M[n]?=some (.lst ds))(q:∀d∈ds,Sm b h d)(hl:ds.length<=1000)(hh:h<=20):bh .ne (.d (.aj n)) (.lv []) M=.ok (!ds.isEmpty) M:=by
 obtain⟨ps,e,a,l⟩:=Sm.ds q
 have h1:jx M (.d (.aj n))=some (.list ps):=by
  show dD M 30 (.aj n)=_;unfold dD
  try simp only[hM]
  rw[e M 29 ∅];rfl
 have h2:jx M (.lv [])=some (.list []):=by show(bS M 30 []).map _=_;unfold bS;rfl
 have h3:=(ue.list (k:=1000) a ∅).shaped ∅;have h4:SeqAt.shaped (.list [])=true:=⋯;unfold bh
 try simp only[h1,h2,h3,h4,jQ,eP,PyData.eqv.eq_7]
 cases ds with
 | nil =>
  have:ps=[]:=K2 l;subst this;rw[CI];rfl
 | cons d ds =>
  cases ps with
  | nil=>simp at l
  | cons p ps =>
   have:PyData.eqvAll (p::ps) []=false:=by simp only[PyData.eqvAll]
   rw[this];rfl
def nc(F:Fn):Prop:=∀(P:Int->Prop)(M:ak)(bw bg cX:List D)(st:D)(m:Nat)(s:Int)(c:Str),(∀r,P r->0<=r/\r<100)->bw[m]?=some (.tup [st,.tup cX])->(∀y∈cX,kS P y)->cX.length<=28->PyData.strOk c=true ->
 aV (F [.tup [.tup bw,.tup bg],.int m,.int s,.str c] M) λr M'=>Fr M.length M M'/\r=.d (Gp cX s c)
theorem v9{α:Type}{p:α->Bool}{l:List α}{k:Nat}{x:α}(h:l[k]?=some x):(l.take (k+1)).filter p=(l.take k).filter p++(if p x then [x] else []):=by
 rw[bD h,List.filter_append];cases q:p x<;>simp[q]
theorem v_{α:Type}{p:α->Bool}{l:List α}:l.find? p=(l.filter p).head?:=by
 induction l with
 | nil=>rfl
 | cons x l ih =>
  cases q:p x
  ·rw[List.find?_cons_of_neg (by simp[q]),List.filter_cons_of_neg (by simp[q])];exact ih
  ·rw[List.find?_cons_of_pos q,List.filter_cons_of_pos q];rfl
theorem Js{G:dN}:nc (ar G 5 tu):=by
 intro P M bw bg cX st m s c hP hm KJ U0 hc;rw[bF];show dX G tu [some (.tup [.tup bw,.tup bg]),some (.int m),some (.int s),some (.str c),none] M _ _ _ _;nofun;rw[mZ (M:=M) (ds:=bw) (i:=(m:Nat)) ∅ (E_ hm)];nofun;refine iW (ds:=cX) (λk M' acc=>M=M'/\acc=((cX.take k).filter (pe s c)).map E9/\acc.length<=k) (by decide) (λi M' acc _ _=>rfl) ⟨rfl,by simp,aI _⟩ ?_ ?_ rfl
 ·rintro k M' acc d hd ⟨rfl,Ce,u7⟩;have hk:=(bq.mp hd).1;refine⟨aO ∅,?_⟩;obtain⟨s',c',a,sd,wd,rfl,⟨i,rfl,_,_⟩,⟨cx,rfl,XS⟩,_⟩:=KJ d (dw hd);have hn:=v9 (p:=pe s c) hd;nofun;refine⟨(show(2:Nat)<=sizeLine by decide),?_⟩;show eI (bh .eq (.d (.tup [.int i,.str cx])) (.d (.tup [.int s,.str c])) M) _;rw[Oq hc (v8 XS)]
  cases q:(i==s&&cx==c)with
  | true =>
   nofun;refine⟨rfl,?_,by simp;omega⟩;rw[hn,aw (show pe s c (.tup [.int i,.str cx,a,.tup sd,wd])=true from q),eA,Ce];rfl
  | false =>
   refine⟨rfl,?_,∅⟩;rw[hn,az (show ¬pe s c (.tup [.int i,.str cx,a,.tup sd,wd])=true from λz=>by rw[show pe s c (.tup [.int i,.str cx,a,.tup sd,wd])=false from q]at z;cases z),lq,Ce]
 ·rintro M' told ⟨rfl,Ce,u7⟩;rw[jO]at Ce;have hM:(M++[MO.lst told])[M.length]?=some (.lst told):=ao
  have hsm:∀d∈told,Sm 300 3 d:=by
   intro d hd;rw[Ce]at hd;obtain⟨y,hy,rfl⟩:=dg.mp hd;exact Ot hP (KJ y (wY.mp hy |>.1))
  nofun;refine⟨(show(0:Nat)<=sizeLine by decide),?_⟩;nofun;rw[Fb hM hsm ∅ (by decide)]
  have ym:Gp cX s c=told.head?.getD (if c == "own" then .aR else .tup [.int s,.tup [],.aR]):=by
   unfold Gp;rw[v_,Ce,List.head?_map];cases (cX.filter (pe s c)).head? <;> rfl
  cases told with
  | cons d r =>
   nofun;rw[bY hM (i:=0) (x:=d) (p0 0) rfl];exact⟨(Fr.refl _ M).app,by rw[ym];rfl⟩
  | nil =>
   nofun;rw[bG hc cw];have ym:Gp cX s c=if (c == "own")=true then .aR else .tup [.int s,.tup [],.aR]:=ym
   cases q:(c == "own")with
   | true =>
    rw[q]at ym;exact⟨(Fr.refl _ M).app,by rw[ym];rfl⟩
   | false =>
    rw[q]at ym;nofun;refine⟨(show(0:Nat)<=sizeLine by decide),?_⟩;nofun;refine⟨(show(3:Nat)<=sizeLine by decide),(Fr.refl _ M).app,?_⟩;rw[ym];rfl
section
variable {M:ak} {n:Nat} {ds:List D} {i:Int} {x:D}
abbrev iD(ks:List Int):List D:=ks.map D.int
theorem nh:∀(ks:List Int),bS M k (iD ks)=some (ks.map PyData.int)
 | []=>by show bS M k []=_;unfold bS;rfl
 | i::ks=>by
  show bS M k (.int i::iD ks)=_;unfold bS;have:dD M k (.int i)=some (.int i):=by cases k<;>(unfold dD;rfl)
  rw[this,nh ks];rfl
theorem ni:∀(ks:List Int),(ks.map PyData.int).all SeqAt.shaped=true
 | []=>rfl
 | i::ks=>by
  show(SeqAt.shaped (.int i)&&(ks.map PyData.int).all SeqAt.shaped)=true;rw[iV,ni ks];rfl
theorem nj:∀(ks:List Int),lJ (.int i) (ks.map PyData.int)=decide (i∈ks)
 | []=>by simp[lJ]
 | k::ks=>by
  show(PyData.eqv (.int k) (.int i)||lJ (.int i) (ks.map PyData.int))=_;rw[nj ks,CO];by_cases h:k=i
  ·subst h;simp
  ·have h2:(k==i)=false:=pV.mpr h;rw[h2,Bool.false_or];by_cases h3:i∈ks
   ·rw[gk h3,gk (dq _ h3)]
   ·rw[eJ h3,eJ (λz=>by
     rcases bU.mp z with z | z
     ·exact h z.symm
     ·exact h3 z)]
theorem yn:jx M (.d (.int i))=some (.int i):=by show dD M 30 (.int i)=_;unfold dD;rfl
theorem Fc:bh .eN (.d (.int i)) (.d (.tup (iD ks))) M=.ok (!decide (i∈ks)) M:=by
 unfold bh;simp only[yn,bT,nh,iV,ni,jQ,eP,nj]
theorem Ou(h:M[n]?=some (.lst (iD ks))):bh .eN (.d (.int i)) (.d (.aj n)) M=.ok (!decide (i∈ks)) M:=by
 unfold bh;simp only[yn,bT,h,nh,iV,ni,jQ,eP,nj]
end
end Ev
end
section
namespace Ev
open PySem
noncomputable def yo:List S:=[.ret (.d7 [(.bi (.xJ .int) [(.ae 0)]),(.neg (.bi (.xJ .bool) [(.ae 0)]))])]
noncomputable def yp(ie:Nat):List S:=[.ret (.d7 [(.call ie [(.ae 0)]),(.chain .le .lt (.ai (.int 0)) (.ae 0) (.ae 1))])]
noncomputable def Fd:List S:=[.ret (.d7 [(.bi (.xJ .str) [(.ae 0)]),(.cmp .eq (.bi .len [(.ae 0)]) (.ai (.int 1))),(.chain .le .le (.ai (.str "a")) (.ae 0) (.ai (.str "z")))])]
noncomputable def yq:List S:=[.ret (.bi .list1 [(.sub (.sub (.sub (.ae 0) (.ai (.int 1))) (.ae 1)) (.ai (.int 1)))])]
def yt(lZ:Nat)(Ac:Nat)(ie:Nat):List S:=[.iff (.iy [(.neg (.val (.bi (.xJ .tuple) [(.ae 1)]))),(.val (.cmp .eN (.bi .len [(.ae 1)]) (.tup [(.ai (.int 2)),(.ai (.int 3))])))]) [.ret (.ai (.bl false))] [],.iff (.val (.cmp .eq (.bi .len [(.ae 1)]) (.ai (.int 2)))) [.ret (.d7 [(.cmp .eq (.sub (.ae 1) (.ai (.int 0))) (.ai (.str "own"))),(.call lZ [(.sub (.ae 1) (.ai (.int 1))),(.bi .len [(.sub (.ae 0) (.ai (.int 0)))])])])] [],.iff (.val (.cmp .eq (.sub (.ae 1) (.ai (.int 0))) (.ai (.str "hear")))) [.ret (.d7 [(.call lZ [(.sub (.ae 1) (.ai (.int 1))),(.bi .len [(.sub (.ae 0) (.ai (.int 0)))])]),(.call Ac [(.sub (.ae 1) (.ai (.int 2)))])])] [],.ret (.d7 [(.cmp .eq (.sub (.ae 1) (.ai (.int 0))) (.ai (.str "come"))),(.call lZ [(.sub (.ae 1) (.ai (.int 1))),(.bi .len [(.sub (.ae 0) (.ai (.int 1)))])]),(.call ie [(.sub (.ae 1) (.ai (.int 2)))])])]
noncomputable def Fe:List S:=[.iff (.val (.cmp .eq (.sub (.ae 1) (.ai (.int 0))) (.ai (.str "come")))) [.ret (.sub (.sub (.sub (.ae 0) (.ai (.int 1))) (.sub (.ae 1) (.ai (.int 1)))) (.ai (.int 1)))] [],.ret (.sub (.ae 1) (.ai (.int 1)))]
def Ov(dR:Nat):List S:=[.asg [3] (.call dR [(.ae 1),(.ae 2)]),.iff (.val (.cmp .eq (.sub (.sub (.sub (.ae 0) (.ai (.int 1))) (.ae 2)) (.ai (.int 2))) (.ai (.str "row")))) [.asg [3] (.pP (.ae 3) none (some (.ai (.int 1))))] [],.ret (.comp .seq [(.ae 3)] [1,2] none (.ae 1) [none,none,none])]
def Ow(tB:Nat)(kAnswer:Nat)(Jt:Nat):List S:=[.iff (.neg (.val (.call tB [(.ae 0),(.ae 2)]))) [.ret (.ai (.bl false))] [],.iff (.val (.cmp .eq (.sub (.ae 2) (.ai (.int 0))) (.ai (.str "own")))) [.ret (.cmp .fj (.call kAnswer [(.ae 0),(.sub (.ae 2) (.ai (.int 1))),(.sub (.sub (.ae 1) (.ai (.int 0))) (.sub (.ae 2) (.ai (.int 1)))),(.ai (.str "own"))]) (.ai .aR))] [],.iff (.val (.cmp .eq (.sub (.ae 2) (.ai (.int 0))) (.ai (.str "come")))) [.ret (.cmp .isin (.sub (.ae 2) (.ai (.int 2))) (.call Jt [(.ae 0),(.ae 1),(.sub (.ae 2) (.ai (.int 1)))]))] [],.ret (.ai (.bl true))]
def yu(dR:Nat):List S:=[.iff (.val (.cmp .eq (.sub (.ae 1) (.ai (.int 0))) (.ai (.str "own")))) [.ret (.ai (.str "own"))] [],.iff (.val (.cmp .eq (.sub (.ae 1) (.ai (.int 0))) (.ai (.str "hear")))) [.ret (.sub (.ae 1) (.ai (.int 2)))] [],.ret (.sub (.bi .qK [(.call dR [(.ae 0),(.sub (.ae 1) (.ai (.int 1)))])]) (.sub (.ae 1) (.ai (.int 2))))]
def Ff:List S:=[.ret (.tup [(.sub (.ae 0) (.ai (.int 0))),(.bi .tuple1 [(.comp .seq [(.sub (.ae 0) (.ai (.int 1)))] [1] (some (.val (.cmp .ne (.sub (.ae 1) (.ai (.int 0))) (.ae 2)))) (.ae 1) [none,none,some 1])])])]
noncomputable def Fg:List S:=[.ret (.tup [(.bin .add (.sub (.ae 0) (.ai (.int 0))) (.ai (.int 1))),(.bin .add (.sub (.ae 0) (.ai (.int 1))) (.tup [(.tup [(.sub (.ae 0) (.ai (.int 0))),(.ae 1)])]))])]
def Fh(gO:Nat)(kAnswer:Nat)(pf:Nat)(wa:Nat)(jM:Nat):List S:=[.asg [3] (.call gO [(.ae 0),(.ae 2)]),.asg [4] (.call kAnswer [(.ae 0),(.ae 3),(.sub (.sub (.ae 1) (.ai (.int 0))) (.ae 3)),(.call pf [(.ae 1),(.ae 2)])]),.asg [5] (.bi .list1 [(.sub (.ae 1) (.ai (.int 0)))]),.put (.ae 5) (.ae 3) (.sub (.ae 4) (.ai (.int 0))),.asg [6] (.bi .list1 [(.sub (.ae 1) (.ai (.int 1)))]),.iff (.val (.cmp .eq (.sub (.ae 2) (.ai (.int 0))) (.ai (.str "come")))) [.put (.ae 6) (.sub (.ae 2) (.ai (.int 1))) (.call wa [(.sub (.ae 6) (.sub (.ae 2) (.ai (.int 1)))),(.sub (.ae 2) (.ai (.int 2)))])] [],.bE [7,8] .seq [(.sub (.ae 4) (.ai (.int 1)))] [.put (.ae 6) (.ae 7) (.call jM [(.sub (.ae 6) (.ae 7)),(.ae 8)])],.asg [9] (.ai .aR),.iff (.val (.cmp .fj (.sub (.ae 4) (.ai (.int 2))) (.ai .aR))) [.asg [9] (.tup [(.ae 3),(.sub (.ae 4) (.ai (.int 2)))])] [],.ret (.tup [(.tup [(.bi .tuple1 [(.ae 5)]),(.bi .tuple1 [(.ae 6)])]),(.ae 9)])]
def tF:List S:=[.asg [2] (.lst []),.bE [3] .eK [(.bi .len [(.sub (.ae 0) (.ai (.int 1)))])] [.asg [4] (.bi .list1 [(.sub (.sub (.sub (.ae 1) (.ai (.int 1))) (.ae 3)) (.ai (.int 1)))]),.iff (.val (.cmp .eq (.sub (.sub (.sub (.ae 0) (.ai (.int 1))) (.ae 3)) (.ai (.int 2))) (.ai (.str "row")))) [.asg [4] (.pP (.ae 4) none (some (.ai (.int 1))))] [],.asg [2] (.bin .add (.ae 2) (.comp .seq [(.ae 4)] [1,2] none (.tup [(.ae 3),(.ae 1),(.ae 2)]) [none,none,none,some 3]))],.ret (.ae 2)]
def yv(wb:Nat)(eU:Nat):List S:=[.iff (.val (.cmp .ne (.sub (.ae 2) (.ai (.int 0))) (.ai (.str "come")))) [.asg [3] (.sub (.ae 2) (.ai (.int 1))),.ret (.call wb [(.ae 0),(.ae 3),(.sub (.sub (.ae 1) (.ai (.int 0))) (.ae 3)),(.sub (.Cy (.ae 2) 2) (.ai (.int (-1))))])] [],.bE [4,5,6] .seq [(.call eU [(.ae 0),(.ae 1)])] [.iff (.val (.cmp .eq (.tup [(.ae 4),(.ae 5)]) (.pP (.ae 2) (some (.ai (.int 1))) none))) [.asg [3] (.sub (.sub (.sub (.ae 0) (.ai (.int 1))) (.ae 4)) (.ai (.int 1))),.ret (.call wb [(.ae 0),(.ae 3),(.sub (.sub (.ae 1) (.ai (.int 0))) (.ae 3)),(.ae 6)])] []],.ret (.ai .aR)]
noncomputable def yw:List S:=[.ret (.ite (.val (.cmp .eq (.sub (.ae 1) (.ai (.int 0))) (.ai (.str "come")))) (.sub (.sub (.sub (.ae 0) (.ai (.int 1))) (.sub (.ae 1) (.ai (.int 1)))) (.ai (.int 1))) (.sub (.ae 1) (.ai (.int 1))))]
def yx(bB:Nat)(gB:Nat):List S:=[.asg [3,4,5] (.call bB [(.ae 0),(.ae 1),(.ae 2)]),.asg [6] (.call gB [(.ae 0),(.ae 2)]),.asg [7] (.bi .list1 [(.sub (.ae 1) (.ai (.int 0)))]),.put (.ae 7) (.ae 6) (.ae 3),.fR 9 (.comp .seq [(.sub (.ae 1) (.ai (.int 1)))] [1] none (.lst [(.sub (.ae 1) (.ai (.int 0))),(.bi .list1 [(.sub (.ae 1) (.ai (.int 1)))])]) [none,none]),.iff (.val (.cmp .eq (.sub (.ae 2) (.ai (.int 0))) (.ai (.str "come")))) [.asg [8] (.sub (.ae 9) (.sub (.ae 2) (.ai (.int 1)))),.put (.ae 8) (.ai (.int 1)) (.comp .seq [(.sub (.ae 8) (.ai (.int 1)))] [1] (some (.val (.cmp .ne (.sub (.ae 1) (.ai (.int 0))) (.sub (.ae 2) (.ai (.int 2)))))) (.ae 1) [none,none,some 2])] [],.bE [10,11] .seq [(.ae 4)] [.expr (.me .append (.sub (.sub (.ae 9) (.ae 10)) (.ai (.int 1))) [(.tup [(.sub (.sub (.ae 9) (.ae 10)) (.ai (.int 0))),(.ae 11)])]),.put (.sub (.ae 9) (.ae 10)) (.ai (.int 0)) (.bin .add (.sub (.sub (.ae 9) (.ae 10)) (.ai (.int 0))) (.ai (.int 1)))],.asg [12] (.bi .tuple1 [(.comp .seq [(.ae 9)] [1] none (.tup [(.sub (.ae 1) (.ai (.int 0))),(.bi .tuple1 [(.sub (.ae 1) (.ai (.int 1)))])]) [none,none])]),.ret (.tup [(.tup [(.bi .tuple1 [(.ae 7)]),(.ae 12)]),(.ite (.val (.cmp .uc (.ae 5) (.ai .aR))) (.ai .aR) (.tup [(.ae 6),(.ae 5)]))])]
noncomputable def yy(aE:Nat):List S:=[.asg [2] (.lst [(.ai (.int 0)),(.call aE [(.ae 0),(.ai (.int 6))]),(.call aE [(.ae 0),(.bin .sub (.bin .pow (.ai (.int 10)) (.ai (.int 9))) (.ai (.int 1000)))])]),.asg [3] (.sub (.ae 2) (.bin .fdiv (.call aE [(.ae 0),(.ai (.int 5))]) (.ai (.int 2)))),.asg [4] (.lst []),.asg [5] (.ae 3),.bE [6] .eK [(.bi .min2 [(.ae 3),(.call aE [(.ae 0),(.ai (.int 4))])])] [.asg [5] (.bin .sub (.bin .sub (.ae 5) (.ai (.int 1))) (.bin .mul (.bi .vt [(.cmp .eq (.ae 1) (.ai (.str "heap")))]) (.call aE [(.ae 0),(.ai (.int 3))]))),.iff (.val (.cmp .ge (.ae 5) (.ai (.int 0)))) [.expr (.me .insert (.ae 4) [(.ai (.int 0)),(.tup [(.ae 5),(.sub (.ai (.str "abcz")) (.call aE [(.ae 0),(.ai (.int 4))]))])])] []],.ret (.tup [(.ae 3),(.bi .tuple1 [(.ae 4)])])]
def tH(cW:Nat)(aE:Nat)(ph:Nat):List S:=[.asg [2] (.call cW [(.ae 0),(.ai (.int 5))]),.asg [3] (.bi .tuple1 [(.comp .seq [(.sub (.ae 1) (.ai (.int 1)))] [1] none (.tup [(.ai (.int 0)),(.tup [])]) [none,none])]),.asg [4] (.bi .tuple1 [(.comp .seq [(.sub (.ae 1) (.ai (.int 0)))] [1] none (.sub (.ae 1) (.ai (.int 0))) [none,none])]),.iff (.val (.cmp .gt (.call aE [(.ae 2),(.ai (.int 3))]) (.ai (.int 0)))) [.asg [3] (.bi .tuple1 [(.comp .seq [(.sub (.ae 1) (.ai (.int 1)))] [1] none (.call ph [(.ae 2),(.sub (.ae 1) (.ai (.int 2)))]) [none,none,some 2])]),.iff (.val (.cmp .eq (.call aE [(.ae 2),(.ai (.int 4))]) (.ai (.int 0)))) [.asg [4] (.bi .tuple1 [(.comp .seq [(.sub (.ae 1) (.ai (.int 0)))] [1] none (.call aE [(.ae 2),(.ai (.int 100))]) [none,none,some 2])])] []] [],.ret (.tup [(.ae 4),(.ae 3)])]
def yz(eU:Nat)(bB:Nat)(aE:Nat):List S:=[.fR 3 (.comp .seq [(.call eU [(.ae 1),(.ae 2)])] [1,2,3] none (.tup [(.ai (.str "come")),(.ae 1),(.ae 2)]) [none,none,none,none]),.asg [4] (.lst []),.bE [5] .eK [(.bi .len [(.sub (.ae 1) (.ai (.int 0)))])] [.iff (.val (.cmp .fj (.call bB [(.ae 1),(.ae 2),(.tup [(.ai (.str "own")),(.ae 5)])]) (.ai .aR))) [.expr (.me .append (.ae 4) [(.tup [(.ai (.str "own")),(.ae 5)])])] []],.asg [6] (.call aE [(.ae 0),(.ai (.int 8))]),.iff (.d7 [(.val (.cmp .ne (.ae 3) (.lst []))),(.val (.cmp .lt (.ae 6) (.ai (.int 4))))]) [.ret (.sub (.ae 3) (.call aE [(.ae 0),(.bi .len [(.ae 3)])]))] [],.iff (.d7 [(.val (.cmp .ne (.ae 4) (.lst []))),(.val (.cmp .lt (.ae 6) (.ai (.int 7))))]) [.ret (.sub (.ae 4) (.call aE [(.ae 0),(.bi .len [(.ae 4)])]))] [],.ret (.tup [(.ai (.str "hear")),(.call aE [(.ae 0),(.bi .len [(.sub (.ae 1) (.ai (.int 0)))])]),(.sub (.ai (.str "abcz")) (.call aE [(.ae 0),(.ai (.int 4))]))])]
end Ev
end
section
namespace Ev
open L2
open PySem PySem.Spec PyProof.Rows
structure Mv where
 s:Int
 c:Str
 a:Int
 sd:List (Int×Str)
 w:Option Str
structure Fm where
 ru:List (Int×List Mv)
 ro:List (Int×Int×Str)
structure Sd where
 st:List Int
 ld:List (Int×List (Int×Str))
def pD(p:Int×Str):D:=.tup [.int p.1,.str p.2]
def Ox:Option Str->D
 | none=>.aR
 | some x=>.str x
noncomputable def KL(m:Mv):D:=.tup [.int m.s,.str m.c,.int m.a,.tup (m.sd.map pD),Ox m.w]
def Cf(r:Int×List Mv):D:=.tup [.int r.1,.tup (r.2.map KL)]
noncomputable def Ad(r:Int×Int×Str):D:=.tup [.int r.1,.int r.2.1,.str r.2.2]
def dO(f:Fm):D:=.tup [.tup (f.ru.map Cf),.tup (f.ro.map Ad)]
noncomputable def iX(l:Int×List (Int×Str)):D:=.tup [.int l.1,.tup (l.2.map pD)]
def du(s:Sd):D:=.tup [.tup (s.st.map D.int),.tup (s.ld.map iX)]
inductive Dn where
 | own (m:Nat) | dJ (m:Nat) (c:Str) | bu (r:Nat) (k:Int)
def df:Dn->D
 | .own m=>.tup [.str "own",.int m]
 | .dJ m c=>.tup [.str "hear",.int m,.str c]
 | .bu r k=>.tup [.str "come",.int r,.int k]
noncomputable def eO(s:Str):Prop:=s = "a" \/ s = "b" \/ s = "c" \/ s = "z"
theorem eO.ok{s:Str}(h:eO s):PyData.strOk s=true/\(s == "own")=false:=by
 rcases h with rfl | rfl | rfl | rfl<;>exact⟨⋯,⋯⟩
def Oy(w:Option Str):Prop:=∀x,w=some x->x = "x" \/ x = "yes" \/ x = "abcdefgh" \/ x = "own" \/ x = "a"
structure Cg (ro:List (Int×Int×Str)) (m:Nat) (y:Mv):Prop where
 s:0<=y.s/\y.s<100
 c:y.c = "own" \/ y.c = "a" \/ y.c = "b" \/ y.c = "z"
 a:0<=y.a/\y.a<100
 l:y.sd.length<=3
 sd:∀p∈y.sd,eO p.2/\0<=p.1/\∃r,ro[p.1.toNat]?=some r/\r.1=m
 w:Oy y.w
structure Fi (n:Nat) (r:Int×Int×Str):Prop where
 a:0<=r.1/\r.1<n
 b:0<=r.2.1/\r.2.1<n
 ab:r.1≠r.2.1
 k:r.2.2 = "row" \/ r.2.2 = "heap"
structure cN (f:Fm):Prop where
 l1:1<=f.ru.length
 l4:f.ru.length<=4
 l8:f.ro.length<=8
 ro:∀r∈f.ro,Fi f.ru.length r
 ru:∀m x,f.ru[m]?=some x->(0<=x.1/\x.1<100)/\x.2.length<=28/\∀y∈x.2,Cg f.ro m y
structure gP (N:Nat) (l:Int×List (Int×Str)):Prop where
 s:0<=l.1/\l.1<=1000000000+N
 n:l.2.length<=N
 p:∀p∈l.2,eO p.2/\0<=p.1/\p.1<l.1
 r:l.2.Pairwise λp q=>p.1<q.1
structure bR (f:Fm) (N:Nat) (s:Sd):Prop where
 ls:s.st.length=f.ru.length
 st:∀x∈s.st,0<=x/\x<100
 ll:s.ld.length=f.ro.length
 ld:∀l∈s.ld,gP N l
def dY(f:Fm):Dn->Prop
 | .own m=>m<f.ru.length
 | .dJ m c=>m<f.ru.length/\eO c
 | .bu r _=>r<f.ro.length
theorem typed{α:Type}{toD:α->D}:∀{ds:List D}{Q:Nat->α->Prop},(∀m x,ds[m]?=some x->∃a,x=toD a/\Q m a)->∃as:List α,ds=as.map toD/\∀m a,as[m]?=some a->Q m a
  | [],Q,_=>⟨[],rfl,λm a h=>by simp at h⟩
  | d::ds,Q,h=>by
    obtain⟨as,e,q⟩:=typed (toD:=toD) (ds:=ds) (Q:=λm a=>Q (m+1) a) λm x hx=>h (m+1) x (by simpa using hx);obtain⟨a,e0,q0⟩:=h 0 d (by simp);refine⟨a::as,by rw[fO,<- e,e0],λm b hb=>?_⟩
    cases m with
    | zero => have : a = b := by simpa using hb
              subst this;exact q0
    | succ m=>exact q m b (by simpa using hb)
theorem tJ{α:Type}{toD:α->D}{ds:List D}{Q:α->Prop}(h:∀x∈ds,∃a,x=toD a/\Q a):∃as:List α,ds=as.map toD/\∀a∈as,Q a:=by
 obtain⟨as,e,q⟩:=typed (toD:=toD) (ds:=ds) (Q:=λ_ a=>Q a) λm x hx=>h x (dw hx);exact⟨as,e,λa ha=>by obtain⟨i,hi,rfl⟩:=rn.mp ha;exact q i _ (bx hi)⟩
theorem yA{d:D}(h:KH d):∃f,d=dO f/\cN f:=by
 obtain⟨bw,bg,rfl,h1,h4,h8,Hl,hru⟩:=h
 obtain⟨ro,rfl,hro⟩:=tJ (toD:=Ad) (ds:=bg) (Q:=Fi bw.length) λx hx=>by
  obtain⟨a,b,k,rfl,a0,a1,b0,b1,ab,hk⟩:=Hl x hx;exact⟨(a,b,k),rfl,⟨a0,a1⟩,⟨b0,b1⟩,ab,hk⟩
 obtain⟨ru,e,hr⟩:=typed (toD:=Cf) (ds:=bw) (Q:=λm x=>(0<=x.1/\x.1<100)/\x.2.length<=28/\∀y∈x.2,Cg ro m y) λm x hx=>by
  obtain⟨st,cX,rfl,⟨i,rfl,i0,i1⟩,hl,hm⟩:=hru m x hx
  obtain⟨mv,rfl,KJ⟩:=tJ (toD:=KL) (ds:=cX) (Q:=Cg ro m) λy hy=>by
   obtain⟨s,c,a,sd,wd,rfl,⟨s',rfl,s0,s1⟩,⟨c',rfl,hc⟩,⟨a',rfl,a0,a1⟩,hl,m_,hw⟩:=hm y hy
   obtain⟨sd',rfl,hs⟩:=tJ (toD:=pD) (ds:=sd) (Q:=λp=>eO p.2/\0<=p.1/\∃r,ro[p.1.toNat]?=some r/\r.1=(m:Int)) λz hz=>by
    obtain⟨r,c,rfl,⟨r0,b,k,hr⟩,hc⟩:=m_ z hz;rw[bj]at hr
    cases e:ro[r.toNat]? with
    | none=>rw[e]at hr;cases hr
    | some q =>
     rw[e]at hr;have hr:Ad q=.tup [.int m,b,k]:=cg hr;refine⟨(r,c),rfl,hc,r0,q,e,?_⟩;unfold Ad at hr;simp only[D.tup.injEq,List.cons.injEq,D.int.injEq]at hr;exact hr.1
   have SV:∃w,wd=Ox w/\Oy w:=by
    rcases hw with rfl | ⟨x,rfl,hx⟩
    ·exact⟨none,rfl,λx h=>by cases h⟩
    ·exact⟨some x,rfl,λy h=>by cases h;exact hx⟩
   obtain⟨w,rfl,v7⟩:=SV;exact⟨⟨s',c',a',sd',w⟩,rfl,⟨s0,s1⟩,hc,⟨a0,a1⟩,by simpa using hl,hs,v7⟩
  exact⟨(i,mv),rfl,⟨i0,i1⟩,by simpa using hl,KJ⟩
 subst e;rw[aB]at h1 h4;exact⟨⟨ru,ro⟩,rfl,h1,h4,by simpa using h8,by simpa using hro,hr⟩
def an(mv:List Mv)(s:Int)(c:Str):Option (Int×List (Int×Str)×Option Str):=match mv.find? λm=>m.s==s&&m.c==c with
 | some m=>some (m.a,m.sd,m.w)
 | none=>if c == "own" then none else some (s,[],none)
noncomputable def SW:Option (Int×List (Int×Str)×Option Str)->D
 | none=>.aR
 | some (a,sd,w)=>.tup [.int a,.tup (sd.map pD),Ox w]
noncomputable def iY(o:Str)(ps:List (Int×Str)):List (Int×Str):=if (o == "row")=true then ps.take 1 else ps
def qZ(f:Fm)(m:Nat):List Mv:=(f.ru.getD m (0,[])).2
def cO(f:Fm)(r:Nat):Int×Int×Str:=f.ro.getD r (0,0,"")
noncomputable def load(s:Sd)(r:Nat):Int×List (Int×Str):=s.ld.getD r (0,[])
def mc(f:Fm):Dn->Nat
 | .own m=>m
 | .dJ m _=>m
 | .bu r _=>(cO f r).2.1.toNat
def cs(f:Fm)(s:Sd):Dn->Option Str
 | .own _=>some "own"
 | .dJ _ c=>some c
 | .bu r k=>((iY (cO f r).2.2 (load s r).2).find? λp=>p.1==k).map (·.2)
def rp(f:Fm)(s:Sd)(d:Dn):Option (Int×List (Int×Str)×Option Str):=(cs f s d).bind λc=>an (qZ f (mc f d)) (s.st.getD (mc f d) 0) c
def cn(f:Fm)(s:Sd)(d:Dn):Bool:=(rp f s d).isSome
noncomputable def less(l:Int×List (Int×Str))(k:Int):Int×List (Int×Str):=(l.1,l.2.filter λp=>!(p.1==k))
noncomputable def more(l:Int×List (Int×Str))(c:Str):Int×List (Int×Str):=(l.1+1,l.2++[(l.1,c)])
def cY(ld:List (Int×List (Int×Str))):Dn->List (Int×List (Int×Str))
 | .bu r k=>ld.set r (less (ld.getD r (0,[])) k)
 | _=>ld
def cP(ld:List (Int×List (Int×Str)))(sd:List (Int×Str)):List (Int×List (Int×Str)):=sd.foldl (λld p=>ld.set p.1.toNat (more (ld.getD p.1.toNat (0,[])) p.2)) ld
def SX(f:Fm)(s:Sd)(d:Dn)(x:Int×List (Int×Str)×Option Str):Sd:=⟨s.st.set (mc f d) x.1,cP (cY s.ld d) x.2.1⟩
def SY(f:Fm)(d:Dn)(x:Int×List (Int×Str)×Option Str):D:=match x.2.2 with
 | none=>.aR
 | some w=>.tup [.int (mc f d),.str w]
theorem pq{α β:Type}{g:α->β}{p:β->Bool}{q:α->Bool}(h:∀a,p (g a)=q a):∀l:List α,(l.map g).find? p=(l.find? q).map g
 | []=>rfl
 | a::l=>by
  have:=pq h l;rw[fO,gX,gX,h a,this];cases q a<;>rfl
theorem Fj{mv:List Mv}{s:Int}{c:Str}:Gp (mv.map KL) s c=SW (an mv s c):=by
 unfold Gp an;rw[pq (q:=λm=>m.s==s&&m.c==c) (λa=>rfl)]
 cases mv.find? (λm=>m.s==s&&m.c==c)with
 | none =>
  show(if (c == "own")=true then D.aR else .tup [.int s,.tup [],.aR])=_;cases hc:(c == "own")<;>rfl
 | some m=>rfl
theorem Cg.md{ro:List (Int×Int×Str)}(h:Cg ro m y):kS (λr=>0<=r/\r<ro.length) (KL y):=by
 refine⟨_,_,_,_,_,rfl,⟨_,rfl,h.s⟩,⟨_,rfl,h.c⟩,⟨_,rfl,h.a⟩,by simpa using h.l,?_,?_⟩
 ·intro d hd;obtain⟨p,hp,rfl⟩:=dg.mp hd;obtain⟨h1,h2,r,h3,_⟩:=h.sd p hp;refine⟨_,_,rfl,⟨h2,?_⟩,h1⟩;have:=(bq.mp h3).1;omega
 ·cases hw:y.w with
  | none=>exact .inl rfl
  | some x=>exact .inr ⟨x,rfl,h.w x hw⟩
theorem cN.at(h:cN f)(hm:m<f.ru.length):(f.ru.map Cf)[m]?=some (.tup [.int (f.ru.getD m (0,[])).1,.tup ((qZ f m).map KL)]):=by
 unfold qZ;rw[bj,iC,bx hm];rfl
theorem cN.mv(h:cN f)(hm:m<f.ru.length):(qZ f m).length<=28/\∀y∈qZ f m,Cg f.ro m y:=by
 unfold qZ;rw[iC,bx hm];exact(h.ru m _ (bx hm)).2
theorem cN.Zj(h:cN f)(hm:m<f.ru.length):∀y∈(qZ f m).map KL,kS (λr=>0<=r/\r<f.ro.length) y:=by
 intro y hy;obtain⟨z,hz,rfl⟩:=dg.mp hy;exact((h.mv hm).2 z hz).md
theorem cN.rd(h:cN f)(hr:r<f.ro.length):(f.ro.map Ad)[r]?=some (.tup [.int (cO f r).1,.int (cO f r).2.1,.str (cO f r).2.2])/\Fi f.ru.length (cO f r):=by
 unfold cO;rw[bj,iC,bx hr];exact⟨rfl,h.ro _ (rF hr)⟩
theorem bR.Ci(h:bR f N s)(hr:r<f.ro.length):(s.ld.map iX)[r]?=some (.tup [.int (load s r).1,.tup ((load s r).2.map pD)])/\gP N (load s r):=by
 have S0:r<s.ld.length:=by rw[h.ll];exact hr
 unfold load;rw[bj,iC,bx S0];exact⟨rfl,h.ld _ (rF S0)⟩
theorem bR.PM(h:bR f N s)(hm:m<f.ru.length):(s.st.map D.int)[m]?=some (.int (s.st.getD m 0))/\0<=s.st.getD m 0/\s.st.getD m 0<100:=by
 have UU:m<s.st.length:=by rw[h.ls];exact hm
 rw[bj,iC,bx UU];exact⟨rfl,h.st _ (rF UU)⟩
theorem Fi.ok{r:Int×Int×Str}(h:Fi n r):PyData.strOk r.2.2=true:=by
 rcases h.k with e | e<;>rw[e]<;>decide +kernel
theorem dY.mc(h:cN f)(k:dY f d):mc f d<f.ru.length:=by
 cases d with
 | own m=>exact k
 | dJ m c=>exact k.1
 | bu r i =>
  have:=(h.rd k).2.b;show(cO f r).2.1.toNat<_;omega
theorem tK{c:Str}(h:eO c):∃x,an mv s c=some x:=by
 unfold an
 cases mv.find? (λm=>m.s==s&&m.c==c)with
 | some m=>exact⟨_,rfl⟩
 | none=>rw[h.ok.2];exact⟨_,rfl⟩
structure Fl (f:Fm) (m:Nat) (x:Int×List (Int×Str)×Option Str):Prop where
 a:0<=x.1/\x.1<100
 l:x.2.1.length<=3
 sd:∀p∈x.2.1,eO p.2/\0<=p.1/\∃r,f.ro[p.1.toNat]?=some r/\r.1=m
 w:Oy x.2.2
theorem S1(h:cN f)(hm:m<f.ru.length)(hs:0<=s/\s<100){c:Str}{x:Int×List (Int×Str)×Option Str}(e:an (qZ f m) s c=some x):Fl f m x:=by
 unfold an at e
 cases q:(qZ f m).find? (λm=>m.s==s&&m.c==c)with
 | some y =>
  rw[q]at e;cases e;have:=(h.mv hm).2 y (Gy q);exact⟨this.a,this.l,this.sd,this.w⟩
 | none =>
  rw[q]at e;dsimp only at e;split at e
  ·cases e
  ·cases e;exact⟨hs,by simp,(by intro p hp;cases hp),(by intro x h;cases h)⟩
theorem wc(h:cN f)(k:bR f N s)(hd:dY f d){x:Int×List (Int×Str)×Option Str}(e:rp f s d=some x):Fl f (mc f d) x:=by
 unfold rp at e
 cases q:cs f s d with
 | none=>rw[q]at e;cases e
 | some c=>rw[q]at e;exact S1 h (hd.mc h) (k.PM (hd.mc h)).2 e
theorem cF:PyData.strOk "hear" = true:=⋯
theorem aL:PyData.strOk "come" = true:=⋯
theorem Fo:PyData.strOk "row" = true:=⋯
theorem Ju:PyData.strOk "heap" = true:=⋯
theorem yB:(("own" : Str) == "come")=false:=⋯
theorem we:(("hear" : Str) == "come")=false:=⋯
theorem tL:(("come" : Str) == "come")=true:=⋯
theorem Oz:(("own" : Str) == "own")=true:=⋯
theorem S2:(("hear" : Str) == "own")=false:=⋯
theorem S3:(("come" : Str) == "own")=false:=⋯
theorem S4:(("hear" : Str) == "hear")=true:=⋯
theorem S5:(("come" : Str) == "hear")=false:=⋯
theorem s1:(1:Nat)<=sizeLine:=by decide
theorem s2:(2:Nat)<=sizeLine:=by decide
theorem s3:(3:Nat)<=sizeLine:=by decide
theorem s0:(0:Nat)<=sizeLine:=by decide
theorem e_{ds:List D}{m:Nat}{x:D}(h:ds[m]?=some x):dy (.d (.tup ds)) (.d (.int m)) M=.ok (.d x) M:=oW h
def mz(F:Fn):Prop:=∀(M:ak)(f:Fm)(d:Dn),cN f->dY f d->aV (F [dO f,df d] M) λr M'=>M=M'/\r=.d (.int (mc f d))
theorem S6:mz (ar G 2 Fe):=by
 intro M f d hf hd;rw[bF];show dX G Fe [some (dO f),some (df d)] M _ _ _ _
 cases d with
 | own m=>nofun;rw[bG cw aL,yB];exact⟨rfl,rfl⟩
 | dJ m c=>nofun;rw[bG cF aL,we];exact⟨rfl,rfl⟩
 | bu r k =>
  obtain⟨h1,h2⟩:=hf.rd hd;nofun;rw[bG aL aL,tL];nofun;rw[e_ h1];refine⟨rfl,?_⟩;show W.d (D.int _)=_;have:=h2.b
  congr 2
  show(cO f r).2.1=(((cO f r).2.1.toNat:Nat):Int);omega
theorem OA:mz (ar G 2 yw):=by
 intro M f d hf hd;rw[bF];show dX G yw [some (dO f),some (df d)] M _ _ _ _
 cases d with
 | own m=>nofun;rw[bG cw aL,yB];exact⟨rfl,rfl⟩
 | dJ m c=>nofun;rw[bG cF aL,we];exact⟨rfl,rfl⟩
 | bu r k =>
  obtain⟨h1,h2⟩:=hf.rd hd;nofun;rw[bG aL aL,tL];nofun;rw[e_ h1];refine⟨rfl,?_⟩;show W.d (D.int _)=_;have:=h2.b
  congr 2
  show(cO f r).2.1=(((cO f r).2.1.toNat:Nat):Int);omega
def tM(F:Fn):Prop:=∀(M:ak)(i:Int),aV (F [.int i] M) λr M'=>M=M'/\r=.d (.bl true)
theorem OB:tM (ar G 1 yo):=by
 intro M i;rw[bF];show dX G yo [some (.int i)] M _ _ _ _;nofun;exact⟨rfl,rfl⟩
def yC(F:Fn):Prop:=∀(M:ak)(i n:Nat),i<n->aV (F [.int i,.int n] M) λr M'=>M=M'/\r=.d (.bl true)
theorem OC(hW:tM (G ie)):yC (ar G 2 (yp ie)):=by
 intro M i n h;rw[bF];show dX G (yp ie) [some (.int i),some (.int n)] M _ _ _ _;nofun;refine(hW M i).imp ?_;rintro r M1 ⟨rfl,rfl⟩;nofun;rw[gk (show(i:Int)<n by omega)];exact⟨rfl,rfl⟩
def Fp(F:Fn):Prop:=∀(M:ak)(c:Str),eO c->aV (F [.str c] M) λr M'=>M=M'/\r=.d (.bl true)
theorem S7:Fp (ar G 1 Fd):=by
 intro M c h;rw[bF];show dX G Fd [some (.str c)] M _ _ _ _;rcases h with rfl | rfl | rfl | rfl<;>(nofun;exact⟨rfl,rfl⟩)
theorem ni2:bh .eN (.d (.int 2)) (.d (.tup [.int 2,.int 3])) M=.ok false M:=Fc (ks:=[2,3])
theorem Zk:bh .eN (.d (.int 3)) (.d (.tup [.int 2,.int 3])) M=.ok false M:=Fc (ks:=[2,3])
def yD(F:Fn):Prop:=∀(M:ak)(f:Fm)(d:Dn),cN f->dY f d->aV (F [dO f,df d] M) λr M'=>M=M'/\r=.d (.bl true)
theorem OD(hB:yC (G lZ))(hS:Fp (G Ac))(hW:tM (G ie)):yD (ar G 2 (yt lZ Ac ie)):=by
 intro M f d hf hd;rw[bF];show dX G (yt lZ Ac ie) [some (dO f),some (df d)] M _ _ _ _
 cases d with
 | own m =>
  nofun;refine⟨s2,?_⟩;nofun;rw[show(([D.str "own",D.int m].length:Nat):Int)=2 from rfl,ni2];nofun;rw[bG cw cw,Oz];nofun;exact hB M m _ (by rw[aB];exact hd)
 | dJ m c =>
  nofun;refine⟨s2,?_⟩;nofun;rw[show(([D.str "hear",D.int m,D.str c].length:Nat):Int)=3 from rfl,Zk];nofun;rw[bG cF cF,S4];nofun;refine(hB M m _ (by rw[aB];exact hd.1)).imp ?_;rintro r M1 ⟨rfl,rfl⟩;nofun;exact hS M c hd.2
 | bu r k =>
  nofun;refine⟨s2,?_⟩;nofun;rw[show(([D.str "come",D.int r,D.int k].length:Nat):Int)=3 from rfl,Zk];nofun;rw[bG aL cF,S5];nofun;rw[bG aL aL,tL];nofun;refine(hB M r _ (by rw[aB];exact hd)).imp ?_;rintro r M1 ⟨rfl,rfl⟩;nofun;exact hW M k
theorem S8(hA:kT F)(hf:cN f)(hm:m<f.ru.length){c:Str}(hc:PyData.strOk c=true):aV (F [dO f,.int m,.int s,.str c] M) λr M'=>M=M'/\r=.d (SW (an (qZ f m) s c)):=by
 refine(hA _ M (f.ru.map Cf) (f.ro.map Ad) ((qZ f m).map KL) _ m s c (hf.at hm) (hf.Zj hm) hc).imp λr M' ⟨e1,e2⟩=>⟨e1,?_⟩;rw[e2,Fj]
theorem Fq(hA:nc F)(hf:cN f)(hm:m<f.ru.length){c:Str}(hc:PyData.strOk c=true):aV (F [dO f,.int m,.int s,.str c] M) λr M'=>Ex M M'/\r=.d (SW (an (qZ f m) s c)):=by
 refine(hA _ M (f.ru.map Cf) (f.ro.map Ad) ((qZ f m).map KL) _ m s c ?_ (hf.at hm) (hf.Zj hm) (by rw[aB];exact(hf.mv hm).1) hc).imp λr M' ⟨e1,e2⟩=>⟨e1,?_⟩
 ·intro r h;have:=hf.l8;exact⟨h.1,∅⟩
 ·rw[e2,Fj]
def pw(F:Fn):Prop:=∀(M:ak)(f:Fm)(N:Nat)(s:Sd)(r:Nat),bR f N s->r<f.ro.length->aV (F [du s,.int r] M) λo M'=>M=M'/\o=.lv ((load s r).2.map pD)
theorem OE:pw (ar G 2 yq):=by
 intro M f N s r hs hr;rw[bF];show dX G yq [some (du s),some (.int r)] M _ _ _ _;nofun;rw[e_ (hs.Ci hr).1];exact⟨rfl,rfl⟩
theorem XT:cutD ds none (some 1)=ds.take 1:=by
 unfold cutD;have e1:HT.eG ds.length 0 none=0:=rfl
 have e2:HT.eG ds.length ds.length (some 1)=min 1 ds.length:=by
  show(if (1:Int)<0 then ((1:Int)+(ds.length:Int)).toNat else min (1:Int).toNat ds.length)=min 1 ds.length;rw[az (by decide)];rfl
 rw[e1,e2];cases ds<;>simp
theorem S9(h:M[n]?=some (.lst ds)):oz (.d (.aj n)) none (some 1) M=.ok (.lv (ds.take 1)) M:=by
 unfold oz;simp only[bT,h,XT]
theorem Jv{o:Str}{ps:List (Int×Str)}(h:ps.length<=N):(iY o ps).length<=N:=by
 unfold iY;split
 ·rw[gW];omega
 ·exact h
theorem Ae{o:Str}{ps:List (Int×Str)}{p:Int×Str}(h:p∈iY o ps):p∈ps:=by
 unfold iY at h;split at h
 ·exact rq h
 ·exact h
noncomputable def S_:D->Option D
 | .tup [.int i,_]=>some (.int i)
 | _=>none
theorem Af:∀qs:List (Int×Str),(qs.map pD).filterMap S_=(qs.map (·.1)).map D.int
 | []=>rfl
 | q::qs=>by
  have:=Af qs;rw[fO,lh,this];rfl
def OF(F:Fn):Prop:=∀(M:ak)(f:Fm)(N:Nat)(s:Sd)(r:Nat),cN f->bR f N s->N<=900->r<f.ro.length->aV (F [dO f,du s,.int r] M) λo M'=>o=.lv (((iY (cO f r).2.2 (load s r).2).map (·.1)).map D.int)/\Ex M M'
theorem wg{G:dN}{M M0:ak}{n:Nat}{ρ:En}{qs:List (Int×Str)}(hM:M[n]?=some (.lst (qs.map pD)))(hl:qs.length<=900){P:W->ak->Prop}(q:∀M',Ex M M'->P (.lv ((qs.map (·.1)).map D.int)) M')(XU:ρ.length=3){k:Nat}(hk:k=(qs.map pD).length):aV (bp (λτ M=>bV G none τ M) (λτ M=>(ev G (.ae 1) τ M).bind own) (.at n) [1,2] k 0 ρ M []) P:=by
 refine qV (ds:=qs.map pD) S_ (by decide) (pb hM) (by rw[aB];exact fJ ∅) ?_ ?_ hk
 ·intro i M' d hd f;rw[bj]at hd
  cases e:qs[i]? with
  | none=>rw[e]at hd;cases hd
  | some p =>
   rw[e]at hd;cases hd;rcases ρ with _|⟨a,_|⟨b,_|⟨c,_|_⟩⟩⟩<;>simp at XU;show _/\_;exact⟨rfl,f⟩
 ·intro M' f;rw[Af];exact q M' f
theorem XW{G:dN}{dR:Nat}(hW:pw (G dR)):OF (ar G 4 (Ov dR)):=by
 intro M f N s r hf hs hN hr;obtain⟨h1,h2⟩:=hf.rd hr;obtain⟨h3,h4⟩:=hs.Ci hr;have h5:=h4.n;rw[bF];show dX G (Ov dR) [some (dO f),some (du s),some (.int r),none] M _ _ _ _;nofun;refine(hW M f N s r hs hr).imp ?_;rintro o M2 ⟨rfl,rfl⟩;nofun;have hM:(M++[MO.lst ((load s r).2.map pD)])[M.length]?=some (.lst ((load s r).2.map pD)):=ao;rw[e_ h1];nofun;rw[bG h2.ok Fo]
 cases hq:((cO f r).2.2 == "row")with
 | true =>
  nofun;rw[S9 hM];nofun;have OG:((M++[MO.lst ((load s r).2.map pD)])++[MO.lst (((load s r).2.map pD).take 1)])[(M++[MO.lst ((load s r).2.map pD)]).length]?=some (.lst (((load s r).2.take 1).map pD)):=by rw[List.map_take];exact ao
  rw[d_ OG];refine wg (M0:=M) OG (by rw[gW];omega) (λM' fr=>?_) rfl (ql OG);refine⟨?_,Ex.trans (Fr.app (Fr.app (Ex.refl M))) fr⟩;unfold iY;rw[hq,aw rfl]
 | false =>
  nofun;rw[d_ hM];refine wg (M0:=M) hM ∅ (λM' fr=>?_) rfl (ql hM);refine⟨?_,Ex.trans (Fr.app (Ex.refl M)) fr⟩;unfold iY;rw[hq,az (by simp)]
theorem gP.mono{l:Int×List (Int×Str)}(h:gP N l)(k:N<=N2):gP N2 l:=⟨⟨h.s.1,by have:=h.s.2;omega⟩,by have:=h.n;omega,h.p,h.r⟩
theorem gP.less{l:Int×List (Int×Str)}(h:gP N l)(k:Int):gP N (less l k) :=
 ⟨h.s,dr (List.length_filter_le _ _) h.n,λp hp=>h.p p (wY.mp hp).1,h.r.filter _⟩
theorem gP.more{l:Int×List (Int×Str)}(h:gP N l){c:Str}(hc:eO c):gP (N+1) (more l c):=by
 refine⟨⟨by show 0<=l.1+1;have:=h.s;omega,by show l.1+1<=_;have:=h.s;omega⟩,by show(l.2++_).length<=_;rw[cC];have:=h.n;simp;omega,?_,?_⟩
 ·intro p hp;rcases cj.mp hp with q | q
  ·obtain⟨a,b,c⟩:=h.p p q;exact⟨a,b,by show p.1<l.1+1;omega⟩
  ·have:p=(l.1,c):=by simpa using q
   subst this;exact⟨hc,h.s.1,by show l.1<l.1+1;omega⟩
 ·show(l.2++[(l.1,c)]).Pairwise _;rw[List.pairwise_append];refine⟨h.r,List.pairwise_singleton _ _,λp hp q hq=>?_⟩;have:q=(l.1,c):=by simpa using hq
  subst this;exact(h.p p hp).2.2
theorem tN{α:Type}{P:α->Prop}{l:List α}{i:Nat}{x:α}(h:∀y∈l,P y)(hx:P x):∀y∈l.set i x,P y:=λy hy=>by
 rcases List.mem_or_eq_of_mem_set hy with z | z
 ·exact h y z
 ·rw[z];exact hx
theorem gQ{α:Type}{P:α->Prop}{l:List α}{i:Nat}{d:α}(h:∀y∈l,P y)(hi:i<l.length):P (l.getD i d):=by
 rw[iC,bx hi];exact h _ (rF hi)
theorem q_{ld:List (Int×List (Int×Str))}{d:Dn}:(cY ld d).length=ld.length:=by
 cases d<;>simp[cY]
theorem px{N:Nat}{ld:List (Int×List (Int×Str))}{d:Dn}(h:∀l∈ld,gP N l)(hd:∀r k,d=.bu r k->r<ld.length):∀l∈cY ld d,gP N l:=by
 cases d with
 | own m=>exact h
 | dJ m c=>exact h
 | bu r k=>exact tN h ((gQ h (hd r k rfl)).less k)
theorem kU{sd:List (Int×Str)}:∀{ld:List (Int×List (Int×Str))},(cP ld sd).length=ld.length:=by
 induction sd with
 | nil=>intro ld;rfl
 | cons p sd ih =>
  intro ld;show(cP (ld.set p.1.toNat (more (ld.getD p.1.toNat (0,[])) p.2)) sd).length=_;rw[ih,kh]
theorem l0{ld:List (Int×List (Int×Str))}{sd:List (Int×Str)}{p:Int×Str}:cP ld (sd++[p])=(cP ld sd).set p.1.toNat (more ((cP ld sd).getD p.1.toNat (0,[])) p.2):=by
 unfold cP;rw[Lj];rfl
theorem nk{N:Nat}{sd:List (Int×Str)}:∀{ld:List (Int×List (Int×Str))}{n:Nat},(∀l∈ld,gP N l)->(∀p∈sd,eO p.2/\p.1.toNat<ld.length)->sd.length<=n->∀l∈cP ld sd,gP (N+n) l:=by
 induction sd generalizing N with
 | nil=>intro ld n h _ _ l hl;exact(h l hl).mono ∅
 | cons p sd ih =>
  intro ld n h hp hn;obtain⟨n,rfl⟩:∃m,n=m+1:=⟨n-1,by simp at hn;omega⟩;have h0:=hp p dC;rw[show N+(n+1)=N+1+n by omega];refine ih (N:=N+1) (ld:=ld.set p.1.toNat (more (ld.getD p.1.toNat (0,[])) p.2)) (n:=n) (tN (λy hy=>(h y hy).mono ∅) ((gQ h h0.2).more h0.1)) (λq hq=>?_) (by simp at hn;omega);rw[kh];exact hp q (dq _ hq)
theorem Fl.in{x:Int×List (Int×Str)×Option Str}(h:Fl f m x):∀p∈x.2.1,eO p.2/\p.1.toNat<f.ro.length:=λp hp=>by
 obtain⟨a,b,r,c,_⟩:=h.sd p hp;exact⟨a,(bq.mp c).1⟩
theorem bR.SX{f:Fm}{N:Nat}{s:Sd}{d:Dn}(h:bR f N s)(hd:dY f d){x:Int×List (Int×Str)×Option Str}(hx:Fl f (mc f d) x):bR f (N+3) (SX f s d x):=by
 have hl:(cY s.ld d).length=f.ro.length:=by rw[q_,h.ll]
 refine⟨by show(s.st.set _ _).length=_;rw[kh];exact h.ls,tN h.st hx.a,by show(cP _ _).length=_;rw[kU];exact hl,?_⟩;refine nk (px h.ld λr k e=>?_) (λp hp=>by rw[hl];exact hx.in p hp) hx.l;subst e;rw[h.ll];exact hd
theorem Ta{o:Option (Int×List (Int×Str)×Option Str)}:(!EK (SW o))=o.isSome:=by
 cases o with
 | none=>rfl
 | some x=>obtain⟨a,b,c⟩:=x;rfl
theorem Ft{ps:List (Int×Str)}{k:Int}:(ps.find? λp=>p.1==k).isSome=decide (k∈ps.map (·.1)):=by
 rw[Bool.eq_iff_iff,List.find?_isSome,rD,dg];constructor
 ·rintro⟨p,hp,e⟩;exact⟨p,hp,by simpa using e⟩
 ·rintro⟨p,hp,e⟩;exact⟨p,hp,by simpa using e⟩
theorem jh:cs f s (.bu r k)=((iY (cO f r).2.2 (load s r).2).find? λp=>p.1==k).map (·.2):=rfl
theorem Fv(hs:bR f N s)(hr:r<f.ro.length){c:Str}(h:cs f s (.bu r k)=some c):eO c:=by
 rw[jh]at h
 cases q:(iY (cO f r).2.2 (load s r).2).find? (λp=>p.1==k)with
 | none=>rw[q]at h;cases h
 | some p =>
  rw[q]at h;cases h;exact((hs.Ci hr).2.p p (Ae (Gy q))).1
theorem Ag{N:Nat}(hs:bR f N s){r:Nat}(hr:r<f.ro.length){k:Int}:cn f s (.bu r k)=decide (k∈(iY (cO f r).2.2 (load s r).2).map (·.1)):=by
 rw[<- Ft];unfold cn rp
 cases q:cs f s (.bu r k)with
 | none =>
  rw[jh]at q
  cases z:(iY (cO f r).2.2 (load s r).2).find? (λp=>p.1==k)with
  | none=>rfl
  | some p=>rw[z]at q;cases q
 | some c =>
  obtain⟨x,hx⟩:=tK (mv:=qZ f (mc f (.bu r k))) (s:=s.st.getD (mc f (.bu r k)) 0) (Fv hs hr q);rw[show((some c).bind λc=>an (qZ f (mc f (.bu r k))) (s.st.getD (mc f (.bu r k)) 0) c)=some x from hx];rw[jh]at q
  cases z:(iY (cO f r).2.2 (load s r).2).find? (λp=>p.1==k)with
  | none=>rw[z]at q;cases q
  | some p=>rfl
theorem OH:bh .isin (.d (.int i)) (.lv (iD ks)) M=.ok (decide (i∈ks)) M:=by
 unfold bh;simp only[yn,bT,nh,iV,ni,jQ,eP,nj]
def OI(F:Fn):Prop:=∀(M:ak)(f:Fm)(N:Nat)(s:Sd)(d:Dn),cN f->bR f N s->N<=900->dY f d->aV (F [dO f,du s,df d] M) λr M'=>Ex M M'/\r=.d (.bl (cn f s d))
theorem XX(hP:yD (G tB))(hA:kT (G kAnswer))(hM:OF (G Jt)):OI (ar G 3 (Ow tB kAnswer Jt)):=by
 intro M f N s d hf hs hN hd;rw[bF];show dX G (Ow tB kAnswer Jt) [some (dO f),some (du s),some (df d)] M _ _ _ _;nofun;refine(hP M f d hf hd).imp ?_;rintro r M1 ⟨rfl,rfl⟩
 cases d with
 | own m =>
  nofun;rw[bG cw cw,Oz];nofun;rw[e_ (hs.PM hd).1];nofun;refine(S8 hA hf hd cw).imp ?_;rintro r M2 ⟨rfl,rfl⟩;nofun;refine⟨Ex.refl _,?_⟩;rw[Ta];rfl
 | dJ m c =>
  nofun;rw[bG cF cw,S2];nofun;rw[bG cF aL,we];nofun;refine⟨Ex.refl _,?_⟩;obtain⟨x,hx⟩:=tK (mv:=qZ f m) (s:=s.st.getD m 0) hd.2;show W.d (.bl true)=.d (.bl (an (qZ f m) (s.st.getD m 0) c).isSome);rw[hx];rfl
 | bu r k =>
  nofun;rw[bG aL cw,S3];nofun;rw[bG aL aL,tL];nofun;refine(hM M f N s r hf hs hN hd).imp ?_;rintro o M2 ⟨rfl,f2⟩;nofun;rw[show((iY (cO f r).2.2 (load s r).2).map (·.1)).map D.int=iD ((iY (cO f r).2.2 (load s r).2).map (·.1)) from rfl,OH];exact⟨f2,by rw[Ag hs hd]⟩
def U1(p:Int×Str):bH×D:=(Sum.inl p.1,.str p.2)
theorem Jw{acc:List (bH×D)}{k:bH}{d:D}(h:∀a∈acc,a.1≠k):cR acc k d=acc++[(k,d)]:=by
 unfold cR;rw[az];intro z;rw[List.any_eq_true]at z;obtain⟨a,ha,e⟩:=z;exact h a ha (AN e)
theorem wj:∀{ps:List (Int×Str)}{acc:List (bH×D)},(∀p∈ps,∀a∈acc,a.1≠(Sum.inl p.1:bH))->(ps.Pairwise λp q=>p.1<q.1)->BV acc (ps.map pD)=some (acc++ps.map U1)
 | [],acc,_,_=>by rw[pZ,pZ,lq];rfl
 | p::ps,acc,h,hr=>by
  obtain⟨r1,r2⟩:=rB.mp hr;show BV (cR acc (Sum.inl p.1) (.str p.2)) (ps.map pD)=_;rw[Jw (h p dC),wj (ps:=ps) ?_ r2,rC]
  ·rfl
  ·intro q hq a ha;rcases cj.mp ha with z | z
   ·exact h q (dq _ hq) a z
   ·have:a=(Sum.inl p.1,.str p.2):=by simpa using z
    subst this;intro e;have e:=Sum.inl.inj e;have:=r1 q hq;omega
theorem Cj{M:ak}{ps:List (Int×Str)}(h:ps.Pairwise λp q=>p.1<q.1):kc .qK [.lv (ps.map pD)] M=.ok (.d (.aj M.length)) (M++[.dK (ps.map U1)]):=by
 unfold kc;simp only[iz,bT];rw[wj (acc:=[]) (λp _ a ha=>by cases ha) h];rfl
theorem OJ{M:ak}{n:Nat}{ps:List (Int×Str)}{k:Int}{p:Int×Str}(hM:M[n]?=some (.dK (ps.map U1)))(h:(ps.find? λp=>p.1==k)=some p):dy (.d (.aj n)) (.d (.int k)) M=.ok (.d (.str p.2)) M:=by
 have e:de (ps.map U1) (Sum.inl k:bH)=some (.str p.2):=by
  unfold de;rw[pq (q:=λp=>p.1==k) (λa=>by show decide ((Sum.inl a.1:bH)=Sum.inl k)=_;rw[CW]),h];rfl
 unfold dy;simp only[hM,bT,e]
theorem Fw{o:Str}{ps:List (Int×Str)}{p:Int×Str}(h:((iY o ps).find? λp=>p.1==k)=some p):(ps.find? λp=>p.1==k)=some p:=by
 unfold iY at h;split at h
 ·cases ps with
  | nil=>cases h
  | cons q ps =>
   rw[show(q::ps).take 1=[q] from rfl]at h;rw[gX]at h⊢
   cases z:(q.1==k)with
   | true=>rw[z]at h;exact h
   | false=>rw[z]at h;cases h
 ·exact h
def yE(F:Fn):Prop:=∀(M:ak)(f:Fm)(N:Nat)(s:Sd)(d:Dn)(c:Str),cN f->bR f N s->dY f d->cs f s d=some c->aV (F [du s,df d] M) λr M'=>Ex M M'/\r=.d (.str c)
theorem OK(hW:pw (G dR)):yE (ar G 2 (yu dR)):=by
 intro M f N s d c hf hs hd hc;rw[bF];show dX G (yu dR) [some (du s),some (df d)] M _ _ _ _
 cases d with
 | own m =>
  cases hc;nofun;rw[bG cw cw,Oz];exact⟨Ex.refl _,rfl⟩
 | dJ m c' =>
  cases hc;nofun;rw[bG cF cw,S2];nofun;rw[bG cF cF,S4];exact⟨Ex.refl _,rfl⟩
 | bu r k =>
  nofun;rw[bG aL cw,S3];nofun;rw[bG aL cF,S5];nofun;refine(hW M f N s r hs hd).imp ?_;rintro o M1 ⟨rfl,rfl⟩;nofun;rw[Cj (hs.Ci hd).2.r];nofun;rw[jh]at hc
  cases q:(iY (cO f r).2.2 (load s r).2).find? (λp=>p.1==k)with
  | none=>rw[q]at hc;cases hc
  | some p =>
   rw[q]at hc;cases hc;rw[OJ ao (Fw q)];exact⟨(Ex.refl M).app,rfl⟩
noncomputable def OL(k:Int):D->Option D
 | .tup [.int i,x]=>if (i==k)=true then none else some (.tup [.int i,x])
 | _=>none
theorem wk:∀ps:List (Int×Str),(ps.map pD).filterMap (OL k)=(ps.filter λp=>!(p.1==k)).map pD
 | []=>rfl
 | p::ps=>by
  have:=wk (k:=k) ps;rw[fO,lh,List.filter_cons,this];rw[show OL k (pD p)=if (p.1==k)=true then none else some (pD p) from rfl];cases p.1==k<;>rfl
theorem wm{G:dN}{M:ak}{it:It}{ρ:En}{ps:List (Int×Str)}{k:Int}{cond:fL}(hit:∀M',Ex M M'->∀i,i<=(ps.map pD).length->itemAt M' i it=some (ps.map pD)[i]?)(hl:ps.length<=1000){P:W->ak->Prop}(hc:∀(M':ak)(p:Int×Str)(Q:Bool->ak->Prop),p∈ps->Q (!(p.1==k)) M'->kQ G (some cond) (ρ.set 1 (some (pD p))) M' Q)(XU:1<ρ.length)(q:∀M',Ex M M'->P (.lv ((ps.filter λp=>!(p.1==k)).map pD)) M'){n:Nat}(hn:n=(ps.map pD).length):aV (bp (λτ M=>bV G (some cond) τ M) (λτ M=>(ev G (.ae 1) τ M).bind own) it [1] n 0 ρ M []) P:=by
 refine qV (ds:=ps.map pD) (OL k) (by decide) hit (by rw[aB];exact fJ hl) ?_ ?_ hn
 ·intro i M' d hd f;rw[bj]at hd
  cases e:ps[i]? with
  | none=>rw[e]at hd;cases hd
  | some p =>
   rw[e]at hd;cases hd;show kQ G (some cond) (ρ.set 1 (some (pD p))) M' _;refine hc M' p _ (dw e) ?_
   have hv:∀Q:D->Prop,Q (pD p)->IS (ρ.set 1 (some (pD p)))[1]? Q:=λQ h=>by
    rw[pS XU];exact h
   cases z:(p.1==k)with
   | true =>
    show _/\_;refine⟨?_,f⟩;show(if (p.1==k)=true then none else _)=_;rw[z];rfl
   | false =>
    show IS (ρ.set 1 (some (pD p)))[1]? _;refine hv _ ?_;refine⟨?_,f⟩;show(if (p.1==k)=true then none else _)=_;rw[z];rfl
 ·intro M' f;rw[wk];exact q M' f
def Fx(F:Fn):Prop:=∀(M:ak)(l:Int×List (Int×Str))(k:Int),l.2.length<=1000->aV (F [iX l,.int k] M) λr M'=>Ex M M'/\r=.d (iX (less l k))
theorem Tc{G:dN}:Fx (ar G 2 Ff):=by
 intro M l k hl;rw[bF];show dX G Ff [some (iX l),some (.int k)] M _ _ _ _;nofun;refine wm (ps:=l.2) (k:=k) (it:=.items (l.2.map pD)) o_ hl ?_ ?_ (λM' f=>?_) rfl
 ·intro M' p Q _ h;exact h
 ·show 1<3;decide
 nofun;exact⟨s2,f,rfl⟩
def Ah(F:Fn):Prop:=∀(M:ak)(l:Int×List (Int×Str))(c:Str),l.2.length<=1000->aV (F [iX l,.str c] M) λr M'=>M=M'/\r=.d (iX (more l c))
theorem Td:Ah (ar G 2 Fg):=by
 intro M l c hl;rw[bF];show dX G Fg [some (iX l),some (.str c)] M _ _ _ _;nofun;refine⟨s2,s1,?_⟩;nofun;refine⟨dr (show(l.2.map pD).length+1<=1001 by rw[aB];omega) (by decide),?_⟩;nofun;refine⟨s2,rfl,?_⟩;show W.d (.tup [.int (l.1+1),.tup (l.2.map pD++[pD (l.1,c)])])=_;unfold more iX;rw[eA];rfl
theorem Te{ld:List (Int×List (Int×Str))}{r:Nat}(h:r<ld.length):(ld.map iX)[r]?=some (iX (ld.getD r (0,[]))):=by
 rw[bj,iC,bx h];rfl
def mB(F:Fn):Prop:=∀(M:ak)(f:Fm)(N:Nat)(s:Sd)(d:Dn)(x:Int×List (Int×Str)×Option Str),cN f->bR f N s->N<=900->dY f d->rp f s d=some x->aV (F [dO f,du s,df d] M) λr M'=>Ex M M'/\r=.d (.tup [du (SX f s d x),SY f d x])
def Tf(jM:Nat):List S:=[.bE [7,8] .seq [(.sub (.ae 4) (.ai (.int 1)))] [.put (.ae 6) (.ae 7) (.call jM [(.sub (.ae 6) (.ae 7)),(.ae 8)])],.asg [9] (.ai .aR),.iff (.val (.cmp .fj (.sub (.ae 4) (.ai (.int 2))) (.ai .aR))) [.asg [9] (.tup [(.ae 3),(.sub (.ae 4) (.ai (.int 2)))])] [],.ret (.tup [(.tup [(.bi .tuple1 [(.ae 5)]),(.bi .tuple1 [(.ae 6)])]),(.ae 9)])]
noncomputable def OM(m:Nat):Option Str->D
 | none=>.aR
 | some w=>.tup [.int m,.str w]
theorem l7{G:dN}{jM:Nat}(Tg:Ah (G jM)){M0 M:ak}{n5 n6 m N:Nat}{o0 o1 o2 o7 o8 o9:Option D}{a:Int}{sd:List (Int×Str)}{w:Option Str}{st:List Int}{ld:List (Int×List (Int×Str))}{nx:En->ak->Prop}{rt:W->ak->Prop}{bk ct:En->ak->Prop}(h5:M[n5]?=some (.lst (st.map D.int)))(h6:M[n6]?=some (.lst (ld.map iX)))(mj:n5≠n6)(Th:M0.length<=n6)(fr:Ex M0 M)(PB:∀l∈ld,gP N l)(hN:N<=900)(m_:∀p∈sd,eO p.2/\0<=p.1/\p.1.toNat<ld.length)(h3:sd.length<=3)(q:∀M',Ex M0 M'->rt (.d (.tup [.tup [.tup (st.map D.int),.tup ((cP ld sd).map iX)],OM m w])) M'):dX G (Tf jM) [o0,o1,o2,some (.int m),some (.tup [.int a,.tup (sd.map pD),Ox w]),some (.aj n5),some (.aj n6),o7,o8,o9] M nx rt bk ct:=by
 nofun;refine gf (ds:=sd.map pD) (λi ρ M'=>∃o7 o8,ρ=[o0,o1,o2,some (.int m),some (.tup [.int a,.tup (sd.map pD),Ox w]),some (.aj n5),some (.aj n6),o7,o8,o9]/\M'[n5]?=some (.lst (st.map D.int))/\M'[n6]?=some (.lst ((cP ld (sd.take i)).map iX))/\Ex M0 M') ⟨_,_,rfl,h5,h6,fr⟩ ?_ ?_
 ·rintro i ρ M' dd cu ⟨o7,o8,rfl,g5,g6,Jx⟩;rw[bj]at cu
  cases e:sd[i]? with
  | none=>rw[e]at cu;cases cu
  | some p =>
   rw[e]at cu;cases cu;obtain⟨p1,p2,p3⟩:=m_ p (dw e);have hi:=(bq.mp e).1;have Cz:p.1.toNat<(cP ld (sd.take i)).length:=by rw[kU];exact p3
   have bJ:=nk (n:=i) PB (λq hq=>⟨(m_ q (rq hq)).1,(m_ q (rq hq)).2.2⟩) (by rw[gW];omega:(sd.take i).length<=i);have Hm:=gQ (d:=((0:Int),([]:List (Int×Str)))) bJ Cz;have U2:=Hm.n;nofun;rw[bY g6 p2 (Te Cz)];nofun;refine(Tg M' _ p.2 ∅).imp ?_;rintro r M2 ⟨rfl,rfl⟩;nofun;rw[oY g6 p2 (by rw[aB];exact Cz)];refine⟨_,_,rfl,au g5 mj,?_,Jx.set Th⟩;rw[aK g6,bD e,l0,<- AX]
 ·rintro ρ M' ⟨o7,o8,rfl,g5,g6,Jx⟩;rw[aB,jO]at g6
  cases w with
  | none =>
   nofun;rw[cq g5];nofun;rw[cq g6];nofun;exact⟨s2,s2,q M' Jx⟩
  | some x =>
   nofun;refine⟨s2,?_⟩;nofun;rw[cq g5];nofun;rw[cq g6];nofun;exact⟨s2,s2,q M' Jx⟩
theorem Ti{G:dN}{gO kAnswer pf wa jM:Nat}(Tj:mz (G gO))(hA:kT (G kAnswer))(hC:yE (G pf))(hL:Fx (G wa))(Tg:Ah (G jM)):mB (ar G 10 (Fh gO kAnswer pf wa jM)):=by
 intro M f N s d x hf hs hN hd hx;have hm:=hd.mc hf;have Jy:=wc hf hs hd hx
 obtain⟨c,hc,XY⟩:∃c,cs f s d=some c/\an (qZ f (mc f d)) (s.st.getD (mc f d) 0) c=some x:=by
  unfold rp at hx
  cases q:cs f s d with
  | none=>rw[q]at hx;cases hx
  | some c=>rw[q]at hx;exact⟨c,rfl,hx⟩
 have hco:PyData.strOk c=true:=by
  cases d with
  | own m=>cases hc;exact cw
  | dJ m c'=>cases hc;exact hd.2.ok.1
  | bu r k=>exact(Fv hs hd hc).ok.1
 obtain⟨a,sd,w⟩:=x;rw[bF];show dX G (Fh gO kAnswer pf wa jM) [some (dO f),some (du s),some (df d),none,none,none,none,none,none,none] M _ _ _ _;nofun;refine(Tj M f d hf hd).imp ?_;rintro r M1 ⟨rfl,rfl⟩;nofun;rw[e_ (hs.PM hm).1];nofun;refine(hC M f N s d c hf hs hd hc).imp ?_;rintro r M1 ⟨f1,rfl⟩;nofun;refine(S8 hA hf hm hco).imp ?_;rintro r M2 ⟨rfl,rfl⟩;rw[XY];nofun;have eL:mc f d<(s.st.map D.int).length:=by rw[aB,hs.ls];exact hm
 rw[jg ao eL];nofun;have g5:((M1++[MO.lst (s.st.map D.int)]).set M1.length (.lst ((s.st.map D.int).set (mc f d) (.int a))))[M1.length]?=some (.lst ((s.st.set (mc f d) a).map D.int)):=by rw[aK ao,AX]
 have mh:Ex M ((M1++[MO.lst (s.st.map D.int)]).set M1.length (.lst ((s.st.map D.int).set (mc f d) (.int a)))):=Fr.set (Fr.app f1) f1.1;have BJ:=f1.1;generalize (M1++[MO.lst (s.st.map D.int)]).set M1.length (.lst ((s.st.map D.int).set (mc f d) (.int a)))=M5 at g5 mh⊢;have g6:(M5++[MO.lst (s.ld.map iX)])[M5.length]?=some (.lst (s.ld.map iX)):=ao;have XZ:(M5++[MO.lst (s.ld.map iX)])[M1.length]?=some (.lst ((s.st.set (mc f d) a).map D.int)):=aD g5;have lg:=ay g5;have Cv:=mh.1
 have m_:∀(ld:List (Int×List (Int×Str))),ld.length=f.ro.length->∀p∈sd,eO p.2/\0<=p.1/\p.1.toNat<ld.length:=λld hl p hp=>by
  obtain⟨a,b,r,c,_⟩:=Jy.sd p hp;exact⟨a,b,by rw[hl];exact(bq.mp c).1⟩
 have CA:SY f d (a,sd,w)=OM (mc f d) w:=by cases w<;>rfl
 rw[CA]
 cases d with
 | own m =>
  nofun;rw[bG cw aL,yB];refine l7 Tg (M0:=M) (ld:=s.ld) (N:=N) XZ g6 ∅ Cv (Fr.app mh) hs.ld hN (m_ _ hs.ll) Jy.l λM' fr=>⟨fr,rfl⟩
 | dJ m c' =>
  nofun;rw[bG cF aL,we];refine l7 Tg (M0:=M) (ld:=s.ld) (N:=N) XZ g6 ∅ Cv (Fr.app mh) hs.ld hN (m_ _ hs.ll) Jy.l λM' fr=>⟨fr,rfl⟩
 | bu r k =>
  have hr:r<s.ld.length:=by rw[hs.ll];exact hd
  have Hm:=gQ (d:=((0:Int),([]:List (Int×Str)))) hs.ld hr;have U2:=Hm.n;nofun;rw[bG aL aL,tL];nofun;rw[cb g6 (Te hr)];nofun;refine(hL _ _ k ∅).imp ?_;rintro o M7 ⟨f7,rfl⟩;nofun;have Zl:=Ex.get f7 g6;rw[jg Zl (by rw[aB];exact hr)];refine l7 Tg (M0:=M) (ld:=cY s.ld (.bu r k)) (N:=N) (au (Ex.get f7 XZ) ∅) ?_ ∅ Cv ?_ (px hs.ld λr' k' e=>by cases e;exact hr) hN (m_ _ (by rw[q_];exact hs.ll)) Jy.l λM' fr=>⟨fr,rfl⟩
  ·rw[aK Zl,<- AX];rfl
  ·exact Fr.set (Ex.trans (Fr.app mh) f7) Cv
noncomputable def tD(x:Nat×Int×Str):D:=.tup [.int x.1,.int x.2.1,.str x.2.2]
def fl(f:Fm)(s:Sd):Nat->List (Nat×Int×Str)
 | 0=>[]
 | n+1=>fl f s n++(iY (cO f n).2.2 (load s n).2).map λp=>(n,p.1,p.2)
theorem tP{x:Nat×Int×Str}:∀n,x∈fl f s n↔x.1<n/\(x.2.1,x.2.2)∈iY (cO f x.1).2.2 (load s x.1).2
 | 0=>by simp[fl]
 | n+1=>by
  obtain⟨r,k,c⟩:=x;show(r,k,c)∈fl f s n++_↔_;rw[cj,tP n,dg];constructor
  ·rintro(⟨h1,h2⟩|⟨p,hp,e⟩)
   ·exact⟨by show r<n+1;have:r<n:=h1;omega,h2⟩
   ·cases e;exact⟨by show n<n+1;omega,hp⟩
  ·rintro⟨h1,h2⟩;by_cases q:r=n
   ·subst q;exact .inr ⟨(k,c),h2,rfl⟩
   ·exact .inl ⟨by show r<n;have:r<n+1:=h1;omega,h2⟩
theorem yF(hs:bR f N s):∀n,n<=f.ro.length->(fl f s n).length<=N*n
 | 0,_=>by simp[fl]
 | n+1,h=>by
  have h1:=yF hs n ∅;have h2:=Jv (o:=(cO f n).2.2) (hs.Ci (r:=n) ∅).2.n;show(fl f s n++_).length<=_;rw[cC,aB,Nat.mul_succ];omega
theorem Ai(h:M[n]?=some (.lst xs))(hl:xs.length+ys.length<=sizeLine):oy .add (.d (.aj n)) (.lv ys) M=.ok (.lv (xs++ys)) M:=by
 unfold oy;simp only[eX,h];rw[aw hl]
noncomputable def Tn(r:Nat):D->Option D
 | .tup [.int i,x]=>some (.tup [.int r,.int i,x])
 | _=>none
theorem Aj:∀qs:List (Int×Str),(qs.map pD).filterMap (Tn r)=(qs.map λp=>(r,p.1,p.2)).map tD
 | []=>rfl
 | q::qs=>by
  have:=Aj (r:=r) qs;rw[fO,lh,this];rfl
theorem wq{G:dN}{M:ak}{n r:Nat}{qs:List (Int×Str)}(hM:M[n]?=some (.lst (qs.map pD)))(hl:qs.length<=900){P:W->ak->Prop}(q:∀M',Ex M M'->P (.lv ((qs.map λp=>(r,p.1,p.2)).map tD)) M'){k:Nat}(hk:k=(qs.map pD).length):aV (bp (λτ M=>bV G none τ M) (λτ M=>(ev G (.tup [(.ae 3),(.ae 1),(.ae 2)]) τ M).bind own) (.at n) [1,2] k 0 [none,none,none,some (.int r)] M []) P:=by
 refine qV (ds:=qs.map pD) (Tn r) (by decide) (pb hM) (by rw[aB];exact fJ ∅) ?_ ?_ hk
 ·intro i M' d hd f;rw[bj]at hd
  cases e:qs[i]? with
  | none=>rw[e]at hd;cases hd
  | some p =>
   rw[e]at hd;cases hd;nofun;exact⟨s3,rfl,f⟩
 ·intro M' f;rw[Aj];exact q M' f
def nq(F:Fn):Prop:=∀(M:ak)(f:Fm)(N:Nat)(s:Sd),cN f->bR f N s->N<=900->aV (F [dO f,du s] M) λr M'=>∃n,r=.d (.aj n)/\M.length<=n/\M'[n]?=some (.lst ((fl f s f.ro.length).map tD))/\Ex M M'
theorem Jz:nq (ar G 5 tF):=by
 intro M f N s hf hs hN;have h8:=hf.l8;rw[bF];show dX G tF [some (dO f),some (du s),none,none,none] M _ _ _ _;nofun;refine⟨s0,?_⟩;nofun;refine⟨⟨by rw[aB];omega,by rw[aB];omega⟩,?_⟩;refine f_ (n:=((f.ro.map Ad).length:Int).toNat) (λi ρ M'=>∃o3 o4 n,ρ=[some (dO f),some (du s),some (.aj n),o3,o4]/\M.length<=n/\M'[n]?=some (.lst ((fl f s i).map tD))/\Ex M M') ⟨_,_,M.length,rfl,aI _,ao,(Ex.refl M).app⟩ ?_ ?_
 ·rintro i ρ M1 hi ⟨o3,o4,n,rfl,wJ,hn,f1⟩;have hi:i<f.ro.length:=by rw[aB]at hi;omega
  obtain⟨h1,h2⟩:=hf.rd hi;obtain⟨h3,h4⟩:=hs.Ci hi;have h5:=h4.n;have X0:=yF hs i ∅;rw[show(0:Int)+(i:Int)=((i:Nat):Int) by omega];nofun;rw[e_ h3];nofun;have hM:(M1++[MO.lst ((load s i).2.map pD)])[M1.length]?=some (.lst ((load s i).2.map pD)):=ao;rw[e_ h1];nofun;rw[bG h2.ok Fo];have To:M.length<=M1.length:=f1.1;have hNi:N*i<=900*8:=CQ hN ∅
  cases hq:((cO f i).2.2 == "row")with
  | true =>
   nofun;rw[S9 hM];nofun;have OG:((M1++[MO.lst ((load s i).2.map pD)])++[MO.lst (((load s i).2.map pD).take 1)])[(M1++[MO.lst ((load s i).2.map pD)]).length]?=some (.lst (((load s i).2.take 1).map pD)):=by rw[List.map_take];exact ao
   have zf:((M1++[MO.lst ((load s i).2.map pD)])++[MO.lst (((load s i).2.map pD).take 1)])[n]?=some (.lst ((fl f s i).map tD)):=aD (aD hn);have f2:Ex M ((M1++[MO.lst ((load s i).2.map pD)])++[MO.lst (((load s i).2.map pD).take 1)]):=Fr.app (Fr.app f1);have X1:iY (cO f i).2.2 (load s i).2=(load s i).2.take 1:=by unfold iY;rw[hq,aw rfl]
   rw[d_ OG];refine wq (r:=i) OG (by rw[gW];omega) (λM' fr=>?_) (ql OG);nofun;rw[Ai (Ex.get fr zf) (dr (show _<=900*8+1000 by simp only[aB,gW];omega) (by decide))];have f3:=Ex.trans f2 fr;refine⟨_,_,M'.length,rfl,f3.1,?_,Fr.app f3⟩;rw[<- eA,<- X1];exact ao
  | false =>
   nofun;have zf:(M1++[MO.lst ((load s i).2.map pD)])[n]?=some (.lst ((fl f s i).map tD)):=aD hn;have X1:iY (cO f i).2.2 (load s i).2=(load s i).2:=by unfold iY;rw[hq,az (by simp)]
   rw[d_ hM];refine wq (r:=i) hM ∅ (λM' fr=>?_) (ql hM);nofun;rw[Ai (Ex.get fr zf) (dr (show _<=900*8+1000 by simp only[aB];omega) (by decide))];have f3:Ex M M':=Ex.trans (Fr.app f1) fr;refine⟨_,_,M'.length,rfl,f3.1,?_,Fr.app f3⟩;rw[<- eA];show _=some (MO.lst ((fl f s i++(iY (cO f i).2.2 (load s i).2).map λp=>(i,p.1,p.2)).map tD));rw[X1];exact ao
 ·rintro ρ M1 ⟨o3,o4,n,rfl,wJ,hn,f1⟩;nofun;rw[show((f.ro.map Ad).length:Int).toNat=f.ro.length by rw[aB];omega]at hn;exact⟨n,rfl,wJ,hn,f1⟩
theorem JA:bh .eq (.d (.tup [.int a,.int b])) (.d (.tup [.int c,.int d])) M=.ok (a==c&&b==d) M:=by
 have h1:∀(s c:Int),jx M (.d (.tup [.int s,.int c]))=some (.tuple [.int s,.int c]):=λs c=>by
  show dD M 30 (.tup [.int s,.int c])=_
  try simp only[dD,bS,CN]
 have h2:∀(s c:Int),SeqAt.shaped (.tuple [.int s,.int c])=true:=λs c=>by
  unfold SeqAt.shaped
  try simp only[AJ,wM,wL,wU,AQ,wR,wQ,wX]
  rfl
 unfold bh
 try simp only[h1,h2,jQ,eP,PyData.eqv.eq_8,PyData.eqvAll.eq_2,CI,CO,Bool.and_true]
theorem Tp:lK (.d (.tup [a,b])) 2 M=.ok (.d (.tup [a])) M:=by
 unfold lK;have e:ef [a,b] 2=[a]:=by simp[ef,Builtin.Slice.sliceAdjust,Builtin.Slice.slicePlaces]
 try simp only[e]
 rw[aw ⟨.inl trivial,(show(1:Nat)<=sizeLine by decide)⟩]
theorem Tq:lK (.d (.tup [a,b,c])) 2 M=.ok (.d (.tup [a,c])) M:=by
 unfold lK;have e:ef [a,b,c] 2=[a,c]:=by simp[ef,Builtin.Slice.sliceAdjust,Builtin.Slice.slicePlaces,CP]
 try simp only[e]
 rw[aw ⟨.inl trivial,(show(2:Nat)<=sizeLine by decide)⟩]
theorem rf{c:Str}:∀{ps:List (Int×Str)},(ps.Pairwise λp q=>p.1<q.1)->(k,c)∈ps->(ps.find? λp=>p.1==k)=some (k,c)
 | [],_,h=>by cases h
 | p::ps,hr,h=>by
  obtain⟨r1,r2⟩:=rB.mp hr;rw[gX];rcases bU.mp h with z | z
  ·rw[<- z];simp
  ·have:=r1 _ z
   have mj:(p.1==k)=false:=by
    have:p.1<k:=this;simp;omega
   rw[mj];exact rf r2 z
theorem Fy{o:Str}{ps:List (Int×Str)}(h:ps.Pairwise λp q=>p.1<q.1):(iY o ps).Pairwise λp q=>p.1<q.1:=by
 unfold iY;split
 ·exact h.take
 ·exact h
theorem Tr(hs:bR f N s)(hr:r<f.ro.length){c:Str}(h:(k,c)∈iY (cO f r).2.2 (load s r).2):cs f s (.bu r k)=some c:=by
 rw[jh,rf (Fy (hs.Ci hr).2.r) h];rfl
theorem ON(h:∀c,(k,c)∉iY (cO f r).2.2 (load s r).2):cs f s (.bu r k)=none:=by
 rw[jh]
 cases q:(iY (cO f r).2.2 (load s r).2).find? (λp=>p.1==k)with
 | none=>rfl
 | some p =>
  have h1:=Gy q;have h2:p.1=k:=by simpa using List.find?_some q
  obtain⟨k',c⟩:=p;cases h2;exact absurd h1 (h c)
def l9(F:Fn):Prop:=∀(M:ak)(f:Fm)(N:Nat)(s:Sd)(d:Dn),cN f->bR f N s->N<=900->dY f d->aV (F [dO f,du s,df d] M) λr M'=>Ex M M'/\r=.d (SW (rp f s d))
theorem OO(hL:nc (G wb))(hC:nq (G eU)):l9 (ar G 7 (yv wb eU)):=by
 intro M f N s d hf hs hN hd;rw[bF];show dX G (yv wb eU) [some (dO f),some (du s),some (df d),none,none,none,none] M _ _ _ _
 cases d with
 | own m =>
  nofun;rw[z0 cw aL,yB];nofun;rw[e_ (hs.PM hd).1];nofun;rw[show lK (.d (df (.own m))) 2 M=.ok (.d (.tup [.str "own"])) M from Tp];nofun;exact Fq hL hf hd cw
 | dJ m c =>
  nofun;rw[z0 cF aL,we];nofun;rw[e_ (hs.PM hd.1).1];nofun;rw[show lK (.d (df (.dJ m c))) 2 M=.ok (.d (.tup [.str "hear",.str c])) M from Tq];nofun;exact Fq hL hf hd.1 hd.2.ok.1
 | bu r k =>
  have hd:r<f.ro.length:=hd;nofun;rw[z0 aL aL,tL];nofun;refine(hC M f N s hf hs hN).imp ?_;rintro o M1 ⟨n,rfl,wJ,hn,f1⟩;nofun;rw[d_ hn];refine B_ (n:=n) (ds:=(fl f s f.ro.length).map tD) (λj ρ M'=>∃o3 o4 o5 o6,M1=M'/\ρ=[some (dO f),some (du s),some (.tup [.str "come",.int r,.int k]),o3,o4,o5,o6]/\∀c,(r,k,c)∉(fl f s f.ro.length).take j) (by rintro j ρ M' ⟨_,_,_,_,e,_⟩;rw[<- e];exact hn) ⟨_,_,_,_,rfl,rfl,(by intro s h;cases h)⟩ ?_ ?_
  ·rintro j ρ M' dd cu ⟨o3,o4,o5,o6,rfl,rfl,JB⟩;rw[bj]at cu
   cases e:(fl f s f.ro.length)[j]? with
   | none=>rw[e]at cu;cases cu
   | some x =>
    rw[e]at cu;cases cu;obtain⟨r',k',c⟩:=x;obtain⟨g1,g2⟩:=(tP f.ro.length).mp (dw e);have g1:r'<f.ro.length:=g1;have g2:(k',c)∈iY (cO f r').2.2 (load s r').2:=g2;nofun;refine⟨s2,?_⟩;show eI (bh .eq (.d (.tup [.int (r':Nat),.int k'])) (.d (.tup [.int (r:Nat),.int k])) M1) _;rw[JA]
    cases hq:(((r':Int)==(r:Int))&&(k'==k))with
    | true =>
     rw[aU,jP,jP]at hq;have er:r'=r:=∅;subst er;obtain⟨_,rfl⟩:=hq;obtain⟨h1,h2⟩:=hf.rd g1;have hb:=h2.b;have hm:=dY.mc hf (d:=.bu r' k') g1;have em:(cO f r').2.1=((mc f (.bu r' k'):Nat):Int):=by show _=(((cO f r').2.1.toNat:Nat):Int);omega
     nofun;rw[e_ h1];nofun;rw[em,e_ (hs.PM hm).1];nofun;refine(Fq hL hf hm ((hs.Ci g1).2.p _ (Ae g2)).1.ok.1).imp λo M2 ⟨f2,e2⟩=>⟨Ex.trans f1 f2,?_⟩;rw[e2];unfold rp;rw[Tr hs g1 g2];rfl
    | false =>
     refine⟨_,_,_,_,rfl,rfl,λc' Bb=>?_⟩;rw[bD e]at Bb;rcases cj.mp Bb with z | z
     ·exact JB c' z
     ·have z:(r,k,c')=(r',k',c):=by simpa using z
      cases z;simp at hq
  ·rintro ρ M' ⟨o3,o4,o5,o6,rfl,rfl,JB⟩;rw[aB,jO]at JB;refine⟨f1,?_⟩;show W.d .aR=_;unfold rp;rw[ON λc hc=>JB c ((tP _).mpr ⟨hd,hc⟩)];rfl
noncomputable def fS(a b:Int):List Int:=(List.range (b-a).toNat).map λk=>a+((k:Nat):Int)
theorem kW(h:b<=a):fS a b=[]:=by
 unfold fS;rw[show(b-a).toNat=0 by omega];rfl
theorem ji(h:a<b):fS a b=a::fS (a+1) b:=by
 unfold fS;obtain⟨n,hn⟩:∃n,(b-a).toNat=n+1:=⟨(b-a).toNat-1,∅⟩;rw[hn,show(b-(a+1)).toNat=n by omega,List.range_succ_eq_map,fO,AW];refine congr (lu List.cons (by simp)) (List.map_congr_left λk _=>?_);show a+((k+1:Nat):Int)=a+1+(k:Int);omega
def cT(l:Int×List (Int×Str)):List Int:=l.2.map (·.1)
def Fz(l:Int×List (Int×Str)):Prop:=cT l=fS (l.1-(l.2.length:Int)) l.1
def yG(F:Fn):Prop:=∀(M:ak)(w:Nat)(T:Int)(o:Str),WA M w T->T<10000->PyData.strOk o=true->aV (F [.aj w,.str o] M) λr M'=>∃l,r=.d (iX l)/\gP 4 l/\((o == "heap")=false->Fz l)/\WA M' w (T+20)/\Fr w M M'
theorem OP(hD:e9 (G aE)):yG (ar G 7 (yy aE)):=by
 intro M w T o hw hT ho;rw[bF];show dX G (yy aE) [some (.aj w),some (.str o),none,none,none,none,none] M _ _ _ _;nofun;refine(hD M w T 6 hw ∅ ∅ ∅).imp ?_;rintro r M1 ⟨a,rfl,a0,a1,Cb,f1⟩;nofun;refine(hD M1 w _ (10 ^ 9-1000) Cb ∅ ∅ ∅).imp ?_;rintro r M2 ⟨b,rfl,b0,b1,v7,f2⟩;nofun;refine⟨s3,?_⟩;nofun;have hA:(M2++[MO.lst [.int 0,.int a,.int b]])[M2.length]?=some (.lst [.int 0,.int a,.int b]):=ao;have z6:WA (M2++[MO.lst [.int 0,.int a,.int b]]) w (T+1+1):=v7.app;have f3:Fr w M (M2++[MO.lst [.int 0,.int a,.int b]]):=(f1.trans f2).app;have To:M.length<=M2.length:=(f1.trans f2).1;have Hk:=v7.lt;generalize M2++[MO.lst [.int 0,.int a,.int b]]=M3 at hA z6 f3⊢;refine(hD M3 w _ 5 z6 ∅ ∅ ∅).imp ?_;rintro r M4 ⟨c,rfl,c0,c1,lY,f4⟩;nofun;refine⟨⟨∅,∅⟩,?_⟩;have hA4:=f4.get hA ∅
 obtain⟨d,hd,s,rfl,s0',s1'⟩:∃d,[D.int 0,.int a,.int b][(c / 2).toNat]?=some d/\∃s:Int,d=.int s/\0<=s/\s<1000000000:=mM (ds:=[D.int 0,.int a,.int b]) (k:=3) (λd hd=>by
  simp only[bU,lj,fP]at hd;rcases hd with rfl | rfl | rfl
  ·exact⟨0,rfl,∅,∅⟩
  ·exact⟨a,rfl,∅,∅⟩
  ·exact⟨b,rfl,∅,∅⟩) ∅ ∅ rfl
 nofun;rw[bY hA4 (i:=c / 2) ∅ hd];nofun;refine⟨s0,?_⟩;nofun;have f5:=f3.trans f4;refine(hD (M4++[MO.lst []]) w _ 4 lY.app ∅ ∅ ∅).imp ?_;rintro r M5 ⟨g,rfl,g0,g1,pR,f6⟩;nofun;have hmn:0<=(if g<s then g else s)/\(if g<s then g else s)<=3/\(if g<s then g else s)<=s:=by split<;>omega
 generalize (if g<s then g else s)=mn at hmn;refine⟨⟨∅,∅⟩,?_⟩;have KD:M.length<=M4.length:=f5.1;have SE:=lY.lt;refine f_ (n:=mn.toNat) (λi ρ M'=>∃o2 x6 ls,∃ps:List (Int×Str),ρ=[some (.aj w),some (.str o),o2,some (.int s),some (.aj M4.length),some (.int ls),x6]/\M'[M4.length]?=some (.lst (ps.map pD))/\ps.length<=i/\(∀p∈ps,eO p.2/\0<=p.1/\p.1<s/\ls<=p.1)/\(ps.Pairwise λp q=>p.1<q.1)/\ls<=s/\WA M' w (T+5+2*i)/\Fr w M M'/\((o == "heap")=false->ls=s-(i:Int)/\ps.length=i/\ps.map (·.1)=fS ls s)) ⟨_,_,_,[],rfl,f6.get ao ∅,aI _,(by intro p h;cases h),.nil,p0 _,pR.mono ∅,f5.app.trans f6,λ_=>⟨∅,rfl,(kW (p0 _)).symm⟩⟩ ?_ ?_
 ·rintro i ρ M6 hi ⟨o2,x6,ls,ps,rfl,hn,rW,Ts,U3,Zm,qq,f7,ht⟩;nofun;rw[bG ho Ju];nofun;refine(hD M6 w _ 3 qq ∅ ∅ ∅).imp ?_;rintro r M7 ⟨h,rfl,h0,h1,Jj,f8⟩;have X2:=f8.get hn ∅;nofun;have Ke:0<=(if (o == "heap")=true then (1:Int) else 0)/\(if (o == "heap")=true then (1:Int) else 0)<=1:=by split<;>omega
  refine⟨.inr ⟨∅,∅⟩,?_⟩;have hmul:0<=(if (o == "heap")=true then (1:Int) else 0)*h:=Int.mul_nonneg Ke.1 h0;have hz:(o == "heap")=false->(if (o == "heap")=true then (1:Int) else 0)*h=0:=λq=>by rw[q];simp
  generalize (if (o == "heap")=true then (1:Int) else 0)*h=mm at hmul hz;nofun;by_cases X3:0<=ls-1-mm
  ·rw[gk X3];nofun;refine⟨bf X2,?_⟩;nofun;refine(hD M7 w _ 4 Jj ∅ ∅ ∅).imp ?_;rintro r M8 ⟨q,rfl,q0,q1,SM,f9⟩;have Zn:=f9.get X2 ∅;obtain⟨ch,Cr,JC⟩:=Oj (M:=M8) q0 q1;nofun;rw[Cr];nofun;refine⟨s2,?_⟩;nofun;rw[v3 (x:=.tup [.int (ls-1-mm),.str ch]) (i:=0) Zn (aO (by rw[aB];omega)) ∅ ∅];refine⟨_,_,_,(ls-1-mm,ch)::ps,rfl,?_,by simp;omega,?_,?_,∅,(SM.set ∅).mono ∅,((f7.trans f8).trans f9).set ∅,λq=>?_⟩
   ·rw[aK Zn];simp[pD]
   ·intro p hp;rcases bU.mp hp with rfl | hp
    ·exact⟨JC,X3,by show ls-1-mm<s;omega,p0 _⟩
    ·obtain⟨a1,a2,a3,a4⟩:=Ts p hp;exact⟨a1,a2,a3,∅⟩
   ·refine rB.mpr ⟨λp hp=>?_,U3⟩;obtain⟨a1,a2,a3,a4⟩:=Ts p hp;show ls-1-mm<p.1;omega
   ·have z:=hz q;obtain⟨t1,t2,t3⟩:=ht q;refine⟨∅,by simp[t2],?_⟩;show(ls-1-mm)::ps.map (·.1)=_;rw[t3,z,Int.sub_zero,ji (a:=ls-1) ∅,show ls-1+1=ls by omega]
  ·rw[eJ X3]
   refine⟨_,_,_,ps,rfl,X2,∅,λp hp=>?_,U3,∅,Jj.mono ∅,f7.trans f8,λq=>by
    have z:=hz q;obtain⟨t1,t2,t3⟩:=ht q;omega⟩
   obtain⟨a1,a2,a3,a4⟩:=Ts p hp;exact⟨a1,a2,a3,∅⟩
 ·rintro ρ M6 ⟨o2,x6,ls,ps,rfl,hn,rW,Ts,U3,Zm,qq,f7,ht⟩;nofun;rw[cq hn];nofun;refine⟨s2,(s,ps),rfl,⟨⟨s0',by show s<=_;omega⟩,by show ps.length<=4;omega,λp hp=>?_,U3⟩,λq=>?_,qq.mono ∅,f7⟩
  ·obtain⟨a1,a2,a3,a4⟩:=Ts p hp;exact⟨a1,a2,a3⟩
  ·obtain⟨t1,t2,t3⟩:=ht q;show ps.map (·.1)=fS (s-(ps.length:Int)) s;rw[t3,t2,<- t1]
theorem iZ{α:Type}{P:α->Prop}{acc:List α}{x:α}(h:∀y∈acc,P y)(hx:P x):∀y∈acc++[x],P y:=by
 intro y hy;rcases cj.mp hy with z | z
 ·exact h y z
 ·have:y=x:=by simpa using z
  subst this;exact hx
theorem wt:itemAt M i (.items ds)=some ds[i]?:=rfl
def Tl(f:Fm)(s:Sd):Prop:=∀r,r<f.ro.length->((cO f r).2.2 == "heap")=false->Fz (load s r)
def OQ(f:Fm)(ls:List (Int×List (Int×Str))):Prop:=∀(j:Nat) l,ls[j]?=some l->((cO f j).2.2 == "heap")=false->Fz l
theorem OQ.snoc{f:Fm}{ls:List (Int×List (Int×Str))}{l:Int×List (Int×Str)}(h:OQ f ls) (k:((cO f ls.length).2.2 == "heap")=false->Fz l):OQ f (ls++[l]):=λj x e q=>by
 rcases ir j ls.length with z | z
 ·rw[jn z]at e;exact h j x e q
 ·rw[mD z]at e
  have hj:j=ls.length:=by
   have:=(bq.mp e).1;simp only[jt,w4]at this;omega
  subst hj;simp at e;subst e;exact k q
theorem OQ.tl{st:List Int}{ls:List (Int×List (Int×Str))}(h:OQ f ls)(hl:ls.length=f.ro.length):Tl f ⟨st,ls⟩:=λr hr q=>h r _ (by
 show ls[r]?=some (ls.getD r (0,[]));rw[iC,bx ∅];rfl) q
theorem Tt:Fz (0,[]):=rfl
def tQ(F:Fn):Prop:=∀(M:ak)(ns:List Int)(f:Fm),ns.length<=63->cN f->aV (F [.ls (ns.map D.int),dO f] M) λr M'=>∃s,r=.d (du s)/\bR f 4 s/\Tl f s/\Ex M M'
theorem JD{G:dN}{cW aE ph:Nat}(hW:qW (G cW))(hD:e9 (G aE))(hL:yG (G ph)):tQ (ar G 5 (tH cW aE ph)):=by
 intro M ns f lE hf;have h8:=hf.l8;have h4:=hf.l4;rw[bF];show dX G (tH cW aE ph) [some (.ls (ns.map D.int)),some (dO f),none,none,none] M _ _ _ _;nofun;refine(hW M ns 5 ∅ ∅ lE).imp ?_;rintro r M1 ⟨rfl,BJ,Cb,f1⟩;nofun;refine iW (ds:=f.ro.map Ad) (λi M' acc=>M1=M'/\∃ls:List (Int×List (Int×Str)),acc=ls.map iX/\ls.length=i/\(∀l∈ls,gP 4 l)/\OQ f ls) (by decide) (λi M' acc _ _=>wt) ⟨rfl,[],rfl,rfl,(by intro l h;cases h),(by intro j l h;simp at h)⟩ ?_ ?_ rfl
 ·rintro i M' acc d hd ⟨rfl,ls,rfl,rg,KN,CA⟩;have hi:=(bq.mp hd).1;rw[aB]at hi;refine⟨aO (by rw[aB];omega),?_⟩;nofun;refine⟨s0,s2,rfl,ls++[(0,[])],by simp[iX],by simp[rg],iZ KN ⟨⟨p0 _,by show(0:Int)<=_;omega⟩,by simp,(by intro p h;cases h),.nil⟩,CA.snoc λ_=>Tt⟩
 rintro M' acc ⟨rfl,ls,rfl,rg,KN,CA⟩;rw[aB]at rg;nofun;refine iW (ds:=f.ru.map Cf) (λi M' acc=>M1=M'/\∃st:List Int,acc=st.map D.int/\st.length=i/\∀l∈st,0<=l/\l<100) (by decide) (λi M' acc _ _=>wt) ⟨rfl,[],rfl,rfl,(by intro l h;cases h)⟩ ?_ ?_ rfl
 ·rintro i M' acc d hd ⟨rfl,st,rfl,x9,KO⟩;have hi:=(bq.mp hd).1;rw[aB]at hi;refine⟨aO (by rw[aB];omega),?_⟩;rw[bj,bx hi]at hd;cases hd;have hr:=(hf.ru i _ (bx hi)).1;nofun;refine⟨rfl,st++[f.ru[i].1],by simp,by simp[x9],iZ KO hr⟩
 rintro M' acc ⟨rfl,st,rfl,x9,KO⟩;rw[aB]at x9;nofun;refine(hD M1 M.length 0 3 Cb ∅ ∅ ∅).imp ?_;rintro r M2 ⟨a,rfl,a0,a1,v7,f2⟩;nofun;by_cases ha:0<a
 ·rw[gk ha];nofun;refine iW (ds:=f.ro.map Ad) (λi M' acc=>(WA M' M.length (1+20*i)/\Fr M.length M M')/\∃ls:List (Int×List (Int×Str)),acc=ls.map iX/\ls.length=i/\(∀l∈ls,gP 4 l)/\OQ f ls) (by decide) (λi M' acc _ _=>wt) ⟨⟨v7.mono ∅,f1.trans f2⟩,[],rfl,rfl,(by intro l h;cases h),(by intro j l h;simp at h)⟩ ?_ ?_ rfl
  ·rintro i M' acc d hd ⟨⟨z6,f3⟩,ls,rfl,rg,KN,CA⟩;have hi:=(bq.mp hd).1;rw[aB]at hi;refine⟨aO (by rw[aB];omega),?_⟩;rw[(hf.rd hi).1]at hd;cases hd;nofun;refine(hL M' M.length _ _ z6 ∅ (hf.rd hi).2.ok).imp ?_;rintro r M4 ⟨l,rfl,hl,ht,lY,f4⟩;nofun;refine⟨⟨lY.mono ∅,f3.trans f4⟩,ls++[l],by simp,by simp[rg],iZ KN hl,CA.snoc (by rw[rg];exact ht)⟩
  rintro M3 acc ⟨⟨z6,f3⟩,ls,rfl,rg,KN,CA⟩;rw[aB]at rg z6;nofun;refine(hD M3 M.length _ 4 z6 ∅ ∅ ∅).imp ?_;rintro r M4 ⟨b,rfl,b0,b1,lY,f4⟩;nofun
  cases hb:(b==(0:Int))with
  | true =>
   nofun;refine iW (ds:=f.ru.map Cf) (λi M' acc=>(WA M' M.length (300+i)/\Fr M.length M M')/\∃st:List Int,acc=st.map D.int/\st.length=i/\∀l∈st,0<=l/\l<100) (by decide) (λi M' acc _ _=>wt) ⟨⟨lY.mono ∅,f3.trans f4⟩,[],rfl,rfl,(by intro l h;cases h)⟩ ?_ ?_ rfl
   ·rintro i M' acc d hd ⟨⟨pR,f5⟩,st,rfl,x9,KO⟩;have hi:=(bq.mp hd).1;rw[aB]at hi;refine⟨aO (by rw[aB];omega),?_⟩;nofun;refine(hD M' M.length _ 100 pR ∅ ∅ ∅).imp ?_;rintro r M6 ⟨c,rfl,c0,c1,qq,f6⟩;nofun;refine⟨⟨qq.mono ∅,f5.trans f6⟩,st++[c],by simp,by simp[x9],iZ KO ⟨c0,c1⟩⟩
   rintro M5 acc ⟨⟨pR,f5⟩,st,rfl,x9,KO⟩;rw[aB]at x9;nofun;exact⟨s2,⟨st,ls⟩,rfl,⟨x9,KO,rg,KN⟩,CA.tl rg,f5⟩
  | false =>
   nofun;exact⟨s2,⟨st,ls⟩,rfl,⟨x9,KO,rg,KN⟩,CA.tl rg,f3.trans f4⟩
 ·rw[eJ ha];nofun;exact⟨s2,⟨st,ls⟩,rfl,⟨x9,KO,rg,KN⟩,CA.tl rg,f1.trans f2⟩
abbrev U4:=List (Int×List (Int×Str))
structure LA (M0 M:ak) (n7 n9:Nat) (as b:Nat->Nat) (st:List Int) (ld:U4):Prop where
 h7:M[n7]?=some (.lst (st.map D.int))
 h9:M[n9]?=some (.lst ((List.range ld.length).map λi=>D.aj (as i)))
 hl:∀i l,ld[i]?=some l->M[as i]?=some (.lst [.int l.1,.aj (b i)])/\M[b i]?=some (.lst (l.2.map pD))
 d1:∀i j,i<ld.length->j<ld.length->as i≠b j
 d2:∀i j,i<ld.length->j<ld.length->i≠j->as i≠as j/\b i≠b j
 d3:∀i,i<ld.length->as i≠n7/\b i≠n7/\as i≠n9/\b i≠n9
 ge:∀i,i<ld.length->M0.length<=as i/\M0.length<=b i
 fr:Ex M0 M
section
variable {M0 M:ak} {n7 n9:Nat} {as b:Nat->Nat} {st:List Int} {ld:U4}
theorem LA.Zo(h:LA M0 M n7 n9 as b st ld)(hr:r<ld.length):dy (.d (.aj n9)) (.d (.int r)) M=.ok (.d (.aj (as r))) M :=
 cb h.h9 (by rw[bj,nI hr];rfl)
theorem LA.Tu(h:LA M0 M n7 n9 as b st ld)(h0:0<=i)(hr:i.toNat<ld.length):dy (.d (.aj n9)) (.d (.int i)) M=.ok (.d (.aj (as i.toNat))) M:=by
 have:=h.Zo hr;rw[Int.toNat_of_nonneg h0]at this;exact this
theorem LA.ex(h:LA M0 M n7 n9 as b st ld)(f:Ex M M'):LA M0 M' n7 n9 as b st ld :=
 ⟨Ex.get f h.h7,Ex.get f h.h9,λi l hi=>⟨Ex.get f (h.hl i l hi).1,Ex.get f (h.hl i l hi).2⟩,h.d1,h.d2,h.d3,h.ge,Ex.trans h.fr f⟩
theorem LA.app(h:LA M0 M n7 n9 as b st ld){l:Int×List (Int×Str)}(hr:ld[r]?=some l)(c:Str):LA M0 ((M.set (b r) (.lst (l.2.map pD++[pD (l.1,c)]))).set (as r) (.lst [.int (l.1+1),.aj (b r)])) n7 n9 as b st (ld.set r (more l c)):=by
 have lg:=(bq.mp hr).1;obtain⟨g1,g2⟩:=h.hl r l hr;obtain⟨a7,b7,a9,b9⟩:=h.d3 r lg;have PC:=h.d1 r r lg lg;obtain⟨ga,gb⟩:=h.ge r lg;have aY:(ld.set r (more l c)).length=ld.length:=kh;refine⟨au (au h.h7 (dh b7)) (dh a7),?_,λi l' hi=>?_,by rw[aY];exact h.d1,by rw[aY];exact h.d2,by rw[aY];exact h.d3,by rw[aY];exact h.ge,Fr.set (Fr.set h.fr gb) ga⟩
 ·rw[aY];exact au (au h.h9 (dh b9)) (dh a9)
 ·have PN:i<ld.length:=by rw[<- aY];exact(bq.mp hi).1
  by_cases e:i=r
  ·subst e;rw[pS lg]at hi;cases hi;refine⟨aK (au g1 PC),?_⟩;refine au (u:=.lst [.int (l.1+1),.aj (b i)]) (m:=as i) ?_ (dh PC);rw[aK g2];unfold more;rw[eA];rfl
  ·rw[pU (dh e)]at hi;obtain⟨k1,k2⟩:=h.hl i l' hi;obtain⟨x1,x2⟩:=h.d2 i r PN lg e;exact⟨au (au k1 (h.d1 i r PN lg)) x1,au (au k2 x2) (dh (h.d1 r i lg PN))⟩
theorem LA.cut(h:LA M0 M n7 n9 as b st ld){l:Int×List (Int×Str)}(hr:ld[r]?=some l)(k:Int):LA M0 ((M++[MO.lst ((less l k).2.map pD)]).set (as r) (.lst [.int l.1,.aj M.length])) n7 n9 as (λi=>if i=r then M.length else b i) st (ld.set r (less l k)):=by
 have lg:=(bq.mp hr).1;obtain⟨g1,g2⟩:=h.hl r l hr;obtain⟨a7,b7,a9,b9⟩:=h.d3 r lg;obtain⟨ga,gb⟩:=h.ge r lg;have aY:(ld.set r (less l k)).length=ld.length:=kh;have aM:∀i,i<ld.length->as i<M.length:=λi hi=>ay (h.hl i _ (bx hi)).1;have bM:∀i,i<ld.length->b i<M.length:=λi hi=>ay (h.hl i _ (bx hi)).2;have m7:=ay h.h7;have m9:=ay h.h9;have hmr:=aM r lg;refine⟨au (aD h.h7) (dh a7),?_,λi l' hi=>?_,?_,?_,?_,?_,Fr.set (Fr.app h.fr) ga⟩
 ·rw[aY];exact au (aD h.h9) (dh a9)
 ·have PN:i<ld.length:=by rw[<- aY];exact(bq.mp hi).1
  by_cases e:i=r
  ·subst e;rw[pS lg]at hi;cases hi;simp only[eP];exact⟨aK (aD g1),au ao ∅⟩
  ·rw[pU (dh e)]at hi;obtain⟨k1,k2⟩:=h.hl i l' hi;obtain⟨x1,x2⟩:=h.d2 i r PN lg e;simp only[az e];exact⟨au (aD k1) x1,au (aD k2) (dh (h.d1 r i lg PN))⟩
 ·rw[aY];intro i j hi hj;have:=aM i hi;split
  ·omega
  ·exact h.d1 i j hi hj
 ·rw[aY];intro i j hi hj Ri;have:=bM i hi;have:=bM j hj;obtain⟨x1,x2⟩:=h.d2 i j hi hj Ri;refine⟨x1,?_⟩;split<;>split<;>first | omega | exact x2
 ·rw[aY];intro i hi;obtain⟨x1,x2,x3,x4⟩:=h.d3 i hi;refine⟨x1,?_,x3,?_⟩
  ·split
   ·omega
   ·exact x2
  ·split
   ·omega
   ·exact x4
 ·rw[aY];intro i hi;obtain⟨x1,x2⟩:=h.ge i hi;refine⟨x1,?_⟩;have:=h.fr.1;split
  ·exact this
  ·exact x2
end
def Tv:List S:=[.bE [10,11] .seq [(.ae 4)] [.expr (.me .append (.sub (.sub (.ae 9) (.ae 10)) (.ai (.int 1))) [(.tup [(.sub (.sub (.ae 9) (.ae 10)) (.ai (.int 0))),(.ae 11)])]),.put (.sub (.ae 9) (.ae 10)) (.ai (.int 0)) (.bin .add (.sub (.sub (.ae 9) (.ae 10)) (.ai (.int 0))) (.ai (.int 1)))],.asg [12] (.bi .tuple1 [(.comp .seq [(.ae 9)] [1] none (.tup [(.sub (.ae 1) (.ai (.int 0))),(.bi .tuple1 [(.sub (.ae 1) (.ai (.int 1)))])]) [none,none])]),.ret (.tup [(.tup [(.bi .tuple1 [(.ae 7)]),(.ae 12)]),(.ite (.val (.cmp .uc (.ae 5) (.ai .aR))) (.ai .aR) (.tup [(.ae 6),(.ae 5)]))])]
theorem pz{G:dN}{M0 M:ak}{n7 n9 m N:Nat}{as b:Nat->Nat}{o0 o1 o2 o3 o8 fM fN mC:Option D}{sd:List (Int×Str)}{w:Option Str}{st:List Int}{ld:U4}{nx:En->ak->Prop}{rt:W->ak->Prop}{bk ct:En->ak->Prop}(hA:LA M0 M n7 n9 as b st ld)(PB:∀l∈ld,gP N l)(hN:N<=900)(m_:∀p∈sd,eO p.2/\0<=p.1/\p.1.toNat<ld.length)(h3:sd.length<=3)(h8:ld.length<=8)(q:∀M',Ex M0 M'->rt (.d (.tup [.tup [.tup (st.map D.int),.tup ((cP ld sd).map iX)],OM m w])) M'):dX G Tv [o0,o1,o2,o3,some (.tup (sd.map pD)),some (Ox w),some (.int m),some (.aj n7),o8,some (.aj n9),fM,fN,mC] M nx rt bk ct:=by
 nofun;refine gf (ds:=sd.map pD) (λi ρ M'=>∃fM fN,ρ=[o0,o1,o2,o3,some (.tup (sd.map pD)),some (Ox w),some (.int m),some (.aj n7),o8,some (.aj n9),fM,fN,mC]/\LA M0 M' n7 n9 as b st (cP ld (sd.take i))) ⟨_,_,rfl,hA⟩ ?_ ?_
 ·rintro i ρ M' dd cu ⟨fM,fN,rfl,hA⟩;rw[bj]at cu
  cases e:sd[i]? with
  | none=>rw[e]at cu;cases cu
  | some p =>
   rw[e]at cu;cases cu;obtain⟨p1,p2,p3⟩:=m_ p (dw e);have hi:=(bq.mp e).1;have Cz:p.1.toNat<(cP ld (sd.take i)).length:=by rw[kU];exact p3
   have bJ:=nk (n:=i) PB (λq hq=>⟨(m_ q (rq hq)).1,(m_ q (rq hq)).2.2⟩) (by rw[gW];omega:(sd.take i).length<=i);have Hm:=gQ (d:=((0:Int),([]:List (Int×Str)))) bJ Cz;have U2:=Hm.n;have yH:(cP ld (sd.take i))[p.1.toNat]?=some ((cP ld (sd.take i)).getD p.1.toNat (0,[])):=by rw[iC,bx Cz];rfl
   have U5:cP ld (sd.take (i+1))=(cP ld (sd.take i)).set p.1.toNat (more ((cP ld (sd.take i)).getD p.1.toNat (0,[])) p.2):=by rw[bD e,l0]
   rw[U5];generalize (cP ld (sd.take i)).getD p.1.toNat (0,[])=l at Hm U2 yH⊢;obtain⟨g1,g2⟩:=hA.hl _ _ yH;have PC:=hA.d1 _ _ Cz Cz;nofun;rw[hA.Tu p2 Cz];nofun;rw[bY g1 (i:=1) (x:=.aj (b p.1.toNat)) (by decide) rfl];nofun;refine⟨bf g2,?_⟩;nofun;rw[hA.Tu p2 Cz];nofun;rw[bY g1 (i:=0) (x:=.int l.1) (by decide) rfl];nofun;refine⟨s2,?_⟩;nofun;rw[bQ g2 (aO (by rw[aB];omega))];nofun;have k9:(M'.set (b p.1.toNat) (.lst (l.2.map pD++[.tup [.int l.1,.str p.2]])))[n9]?=some (.lst ((List.range (cP ld (sd.take i)).length).map λi=>D.aj (as i))):=au hA.h9 (dh (hA.d3 _ Cz).2.2.2);have ka:(M'.set (b p.1.toNat) (.lst (l.2.map pD++[.tup [.int l.1,.str p.2]])))[as p.1.toNat]?=some (.lst [.int l.1,.aj (b p.1.toNat)]):=au g1 PC;have Zp:dy (.d (.aj n9)) (.d (.int p.1)) (M'.set (b p.1.toNat) (.lst (l.2.map pD++[.tup [.int l.1,.str p.2]])))=.ok (.d (.aj (as p.1.toNat))) (M'.set (b p.1.toNat) (.lst (l.2.map pD++[.tup [.int l.1,.str p.2]]))):=bY k9 p2 (by rw[bj,nI Cz];rfl);rw[Zp];nofun;rw[bY ka (i:=0) (x:=.int l.1) (by decide) rfl];nofun;rw[Zp];nofun;rw[oY (i:=0) ka (by decide) (show 0<2 by decide)];exact⟨_,_,rfl,hA.app yH p.2⟩
 ·rintro ρ M' ⟨fM,fN,rfl,hA⟩;rw[aB,jO]at hA;have bJ:=nk (n:=3) PB (λq hq=>⟨(m_ q hq).1,(m_ q hq).2.2⟩) h3;have aY:(cP ld sd).length=ld.length:=kU;nofun;rw[d_ hA.h9];refine iW (ds:=(List.range (cP ld sd).length).map λi=>D.aj (as i)) (λi M2 acc=>M'=M2/\acc=((cP ld sd).take i).map iX) (by decide) (λi M2 acc h hi=>pb hA.h9 M2 (by rw[<- h.1];exact Ex.refl _) i hi) ⟨rfl,rfl⟩ ?_ ?_ (ql hA.h9)
  ·rintro i M2 acc dd cu ⟨rfl,rfl⟩;have hi:=(bq.mp cu).1;rw[aB,mI]at hi;rw[bj,nI hi]at cu;cases cu;obtain⟨g1,g2⟩:=hA.hl i _ (bx hi);refine⟨aO (by rw[aB,gW];omega),?_⟩;nofun;rw[bY g1 (i:=0) (x:=.int (cP ld sd)[i].1) (by decide) rfl];nofun;rw[bY g1 (i:=1) (x:=.aj (b i)) (by decide) rfl];nofun;rw[cq g2];nofun;refine⟨s2,rfl,?_⟩;rw[bD (bx hi),eA];rfl
  rintro M2 acc ⟨rfl,rfl⟩;rw[aB,mI,jO];nofun;rw[cq hA.h7]
  cases w with
  | none =>
   nofun;exact⟨s2,s2,q M' hA.fr⟩
  | some x =>
   nofun;refine⟨s2,s2,s2,q M' hA.fr⟩
theorem OR{G:dN}{bB gB:Nat}(hA:l9 (G bB))(Tj:mz (G gB)):mB (ar G 13 (yx bB gB)):=by
 intro M f N s d x hf hs hN hd hx;have hm:=hd.mc hf;have Jy:=wc hf hs hd hx;have h8:=hf.l8;have rg:=hs.ll;obtain⟨a,sd,w⟩:=x;rw[bF];show dX G (yx bB gB) [some (dO f),some (du s),some (df d),none,none,none,none,none,none,none,none,none,none] M _ _ _ _;nofun;refine(hA M f N s d hf hs hN hd).imp ?_;rintro r M1 ⟨f1,e⟩;rw[hx]at e;subst e;nofun;refine(Tj M1 f d hf hd).imp ?_;rintro r M2 ⟨rfl,rfl⟩;nofun;have eL:mc f d<(s.st.map D.int).length:=by rw[aB,hs.ls];exact hm
 rw[jg ao eL];nofun;have g7:((M1++[MO.lst (s.st.map D.int)]).set M1.length (.lst ((s.st.map D.int).set (mc f d) (.int a))))[M1.length]?=some (.lst ((s.st.set (mc f d) a).map D.int)):=by rw[aK ao,AX]
 have Ht:Ex M ((M1++[MO.lst (s.st.map D.int)]).set M1.length (.lst ((s.st.map D.int).set (mc f d) (.int a)))):=Fr.set (Fr.app f1) f1.1;have BJ:=f1.1;have hm7:=ay g7;generalize (M1++[MO.lst (s.st.map D.int)]).set M1.length (.lst ((s.st.map D.int).set (mc f d) (.int a)))=M5 at g7 Ht hm7⊢;have Tw:=Ht.1
 have m_:∀(ld:U4),ld.length=f.ro.length->∀p∈sd,eO p.2/\0<=p.1/\p.1.toNat<ld.length:=λld hl p hp=>by
  obtain⟨a,b,r,c,_⟩:=Jy.sd p hp;exact⟨a,b,by rw[hl];exact(bq.mp c).1⟩
 have CA:SY f d (a,sd,w)=OM (mc f d) w:=by cases w<;>rfl
 rw[CA];refine iW (ds:=s.ld.map iX) (λi M' acc=>acc=(List.range i).map (λj=>D.aj (M5.length+2*j+1))/\M'.length=M5.length+2*i/\(∀j l,j<i->s.ld[j]?=some l->M'[M5.length+2*j+1]?=some (.lst [.int l.1,.aj (M5.length+2*j)])/\M'[M5.length+2*j]?=some (.lst (l.2.map pD)))/\Ex M5 M') (by decide) (λi M' acc _ _=>wt) ⟨rfl,rfl,(by intro j l h;omega),Ex.refl _⟩ ?_ ?_ rfl
 ·rintro i M' acc dd cu ⟨rfl,hl,hj,fr⟩;have hi:=(bq.mp cu).1;rw[aB]at hi;rw[bj,bx hi]at cu;cases cu;refine⟨aO (by rw[aB,mI];omega),?_⟩;nofun;refine⟨s2,?_⟩;nofun;have Cu:(M'++[MO.lst (s.ld[i].2.map pD)]).length=M5.length+2*i+1:=by rw[cC,hl];rfl
  refine⟨?_,by rw[cC,Cu];simp;omega,?_,Fr.app (Fr.app fr)⟩
  ·rw[CP,eA,Cu];rfl
  ·intro j l hji U6;by_cases e:j=i
   ·subst e;rw[bx hi]at U6;cases U6;rw[<- Cu,<- hl];exact⟨ao,aD ao⟩
   ·obtain⟨k1,k2⟩:=hj j l ∅ U6;exact⟨aD (aD k1),aD (aD k2)⟩
 rintro M6 acc ⟨rfl,hl,hj,fr⟩;rw[aB]at hl hj⊢
 have KP:LA M (M6++[MO.lst ((List.range s.ld.length).map λj=>D.aj (M5.length+2*j+1))]) M1.length M6.length (λj=>M5.length+2*j+1) (λj=>M5.length+2*j) (s.st.set (mc f d) a) s.ld:=by
  refine⟨aD (Ex.get fr g7),ao,λi l hi=>?_,λi j hi hj=>?_,λi j hi hj Ri=>⟨?_,?_⟩,λi hi=>⟨?_,?_,?_,?_⟩,λi hi=>⟨?_,?_⟩,Fr.app (Ex.trans Ht fr)⟩
  ·obtain⟨k1,k2⟩:=hj i l (bq.mp hi).1 hi;exact⟨aD k1,aD k2⟩
  all_goals (try dsimp only)
  all_goals omega
 cases d with
 | own m =>
  nofun;rw[bG cw aL,yB];exact pz KP hs.ld hN (m_ _ rg) Jy.l ∅ λM2 f2=>⟨f2,rfl⟩
 | dJ m c' =>
  nofun;rw[bG cF aL,we];exact pz KP hs.ld hN (m_ _ rg) Jy.l ∅ λM2 f2=>⟨f2,rfl⟩
 | bu r k =>
  have hr:r<s.ld.length:=by rw[hs.ll];exact hd
  have Hm:=gQ (d:=((0:Int),([]:List (Int×Str)))) hs.ld hr;have U2:=Hm.n;have yH:s.ld[r]?=some (s.ld.getD r (0,[])):=by rw[iC,bx hr];rfl
  have hle:cY s.ld (.bu r k)=s.ld.set r (less (s.ld.getD r (0,[])) k):=rfl;nofun;rw[bG aL aL,tL];generalize M6++[MO.lst ((List.range s.ld.length).map λj=>D.aj (M5.length+2*j+1))]=M7 at KP⊢;obtain⟨as,b,KP⟩:∃as b,LA M M7 M1.length M6.length as b (s.st.set (mc f (.bu r k)) a) s.ld:=⟨_,_,KP⟩;nofun;rw[KP.Zo hr];obtain⟨g1,g2⟩:=KP.hl _ _ yH;nofun;rw[bY g1 (i:=1) (x:=.aj (b r)) (by decide) rfl];nofun;rw[d_ g2];refine wm (ps:=(s.ld.getD r (0,[])).2) (k:=k) (it:=.at (b r)) (pb g2) ∅ ?_ ?_ (λM8 f8=>?_) (ql g2)
  ·intro M' p Q _ h;exact h
  ·show 1<3;decide
  have Zq:=KP.ex f8;have g1':=(Zq.hl _ _ yH).1;nofun;rw[oY (i:=1) (aD g1') (by decide) (show 1<2 by decide)];have hA9:=Zq.cut yH k;refine pz hA9 (px (d:=.bu r k) hs.ld λr' k' e=>by cases e;exact hr) hN (m_ _ (by rw[kh];exact rg)) Jy.l (by rw[kh];omega) λM2 f2=>⟨f2,rfl⟩
def Ak:Dn->PyData
 | .own m=>.tuple [.str "own",.int m]
 | .dJ m c=>.tuple [.str "hear",.int m,.str c]
 | .bu r k=>.tuple [.str "come",.int r,.int k]
theorem Tz(h:1<=n):dD M n (df d)=some (Ak d):=by
 obtain⟨n,rfl⟩:∃m,n=m+1:=⟨n-1,∅⟩;cases d<;>(show dD M (n+1) (.tup _)=_;try simp only[dD,bS,CN];try rfl)
theorem yI(h:1<=n):∀ds:List Dn,bS M n (ds.map df)=some (ds.map Ak)
 | []=>by rw[pZ];unfold bS;rfl
 | d::ds=>by
  rw[fO];unfold bS;rw[Tz h,yI h ds];rfl
def TB:Dn->Prop
 | .dJ _ c=>PyData.strOk c=true
 | _=>True
theorem dY.s(h:dY f d):TB d:=by
 cases d with
 | own m=>trivial
 | dJ m c=>exact h.2.ok.1
 | bu r k=>trivial
theorem OS(h:TB d):PyData.canLay0 (Ak d)=true/\PyData.depth (Ak d)<=1:=by
 cases d with
 | own m =>
  unfold Ak;simp only[AJ,wM,wL,wU,AI,cw,AQ,wR,wQ,wX,AO];decide
 | dJ m c =>
  have h:PyData.strOk c=true:=h;unfold Ak;simp only[AJ,wM,wL,wU,AI,cF,h,AQ,wR,wQ,wX,AO];decide
 | bu r k =>
  unfold Ak;simp only[AJ,wM,wL,wU,AI,aL,AQ,wR,wQ,wX,AO];decide
theorem Al:∀{ds:List Dn},(∀d∈ds,TB d)->PyData.canLayAll0 (ds.map Ak)=true/\PyData.depthAll (ds.map Ak)<=1
 | [],_=>by rw[pZ,wL,wQ];decide
 | d::ds,h=>by
  obtain⟨a1,a2⟩:=OS (h d dC);obtain⟨b1,b2⟩:=Al (ds:=ds) λx hx=>h x (dq _ hx);rw[fO,wM,wR,a1,b1];exact⟨rfl,∅⟩
theorem FA{ds:List Dn}(h:∀d∈ds,TB d):SeqAt.shaped (.list (ds.map Ak))=true:=by
 obtain⟨a,b⟩:=Al h;unfold SeqAt.shaped;rw[PyData.canLay0.eq_5,a,PyData.depth.eq_1,Bool.true_and];exact gk ∅
theorem FC{n:Nat}{ds:List Dn}(hM:M[n]?=some (.lst (ds.map df)))(h:∀d∈ds,TB d):bh .ne (.d (.aj n)) (.lv []) M=.ok (!ds.isEmpty) M:=by
 have h1:jx M (.d (.aj n))=some (.list (ds.map Ak)):=by
  show dD M 30 (.aj n)=_;unfold dD
  try simp only[hM]
  rw[yI (by decide) ds];rfl
 have h2:jx M (.lv [])=some (.list []):=by show(bS M 30 []).map _=_;unfold bS;rfl
 have h3:=FA h;have h4:SeqAt.shaped (.list [])=true:=⋯;unfold bh
 try simp only[h1,h2,h3,h4,jQ,eP,PyData.eqv.eq_7]
 cases ds with
 | nil=>rw[pZ,CI];rfl
 | cons d ds =>
  have:PyData.eqvAll (Ak d::ds.map Ak) []=false:=by simp only[PyData.eqvAll]
  rw[fO,this];rfl
noncomputable def Zr:D->Option D
 | .tup [a,b,_]=>some (.tup [.str "come",a,b])
 | _=>none
def cm(f:Fm)(s:Sd):List Dn:=(fl f s f.ro.length).map λx=>.bu x.1 x.2.1
theorem FD:∀l:List (Nat×Int×Str),(l.map tD).filterMap Zr=(l.map λx=>Dn.bu x.1 x.2.1).map df
 | []=>rfl
 | x::l=>by
  have:=FD l;rw[fO,lh,this];rfl
theorem FE(hs:bR f N s)(h:d∈cm f s):dY f d/\cn f s d=true:=by
 obtain⟨⟨r,k,c⟩,hx,rfl⟩:=dg.mp h;obtain⟨h1,h2⟩:=(tP _).mp hx;refine⟨h1,?_⟩;rw[Ag hs h1];exact gk (dg.mpr ⟨_,h2,rfl⟩)
theorem FF(hf:cN f)(hs:bR f N s)(hN:N<=900):(cm f s).length<=7200:=by
 unfold cm;rw[aB];exact dr (yF hs _ (aI _)) (CQ hN hf.l8)
theorem JE(hM:M[n]?=some (.lst ((fl f s f.ro.length).map tD)))(hl:(fl f s f.ro.length).length<=7200)(q:∀M',Ex M M'->P (.lv ((cm f s).map df)) M')(hk:k=((fl f s f.ro.length).map tD).length):aV (bp (λτ M=>bV G none τ M) (λτ M=>(ev G (.tup [(.ai (.str "come")),(.ae 1),(.ae 2)]) τ M).bind own) (.at n) [1,2,3] k 0 [none,none,none,none] M []) P:=by
 refine qV (ds:=(fl f s f.ro.length).map tD) Zr (by decide) (pb hM) (by rw[aB];exact dr hl (by decide)) ?_ ?_ hk
 ·intro i M' d hd fr;rw[bj]at hd
  cases e:(fl f s f.ro.length)[i]? with
  | none=>rw[e]at hd;cases hd
  | some p =>
   rw[e]at hd;cases hd;nofun;exact⟨s3,rfl,fr⟩
 ·intro M' fr;rw[FD];exact q M' fr
theorem WA.ex(h:WA M w T)(f:Ex M M'):WA M' w T:=h.fr f (by have:=h.lt;omega)
theorem KQ{ds:List Dn}{i:Int}(h0:0<=i)(h1:i<ds.length):∃d,d∈ds/\(ds.map df)[i.toNat]?=some (df d):=by
 have hl:i.toNat<ds.length:=∅;exact⟨ds[i.toNat],rF hl,by rw[bj,bx hl];rfl⟩
def yJ(F:Fn):Prop:=∀(M:ak)(w:Nat)(T:Int)(f:Fm)(N:Nat)(s:Sd),WA M w T->T<10000->cN f->bR f N s->N<=900->aV (F [.aj w,dO f,du s] M) λr M'=>∃d,r=.d (df d)/\dY f d/\cn f s d=true/\Fr w M M'
theorem OT{eU bB aE:Nat}(hC:nq (G eU))(hA:l9 (G bB))(hD:e9 (G aE)):yJ (ar G 7 (yz eU bB aE)):=by
  intro M w T f N s hw hT hf hs hN;have h4:=hf.l4;have h1:=hf.l1;have Hk:=hw.lt;rw[bF];show dX G (yz eU bB aE) [some (.aj w),some (dO f),some (du s),none,none,none,none] M _ _ _ _;nofun;refine(hC M f N s hf hs hN).imp ?_;rintro o M1 ⟨n,rfl,wJ,hn,f1⟩;nofun;rw[d_ hn];refine JE hn (by have:=FF hf hs hN;unfold cm at this;rw[aB]at this;exact this) (λM2 f2=>?_) (ql hn);have TC:=Ex.trans f1 f2;nofun;refine⟨s0,?_⟩;nofun;refine⟨⟨by rw[aB];omega,by rw[aB];omega⟩,?_⟩;have Ct:(M2++[MO.lst ((cm f s).map df)])[M2.length]?=some (.lst ((cm f s).map df)):=ao;have Cu:=TC.1;have mN:Fr w M (M2++[MO.lst ((cm f s).map df)]):=Fr.app ((Fr.refl w M).back TC (.inl (aI _)));have v7:WA (M2++[MO.lst ((cm f s).map df)]) w T:=(hw.ex TC).app;have aY:(M2++[MO.lst ((cm f s).map df)]).length=M2.length+1:=by simp
  generalize (M2++[MO.lst ((cm f s).map df)])=M3 at Ct mN v7 aY⊢;generalize M2.length=n3 at Ct Cu aY⊢;refine f_ (n:=((f.ru.map Cf).length:Int).toNat) (λi ρ M'=>∃o5,∃ms:List Dn,ρ=[some (.aj w),some (dO f),some (du s),some (.aj n3),some (.aj M3.length),o5,none]/\M'[n3]?=some (.lst ((cm f s).map df))/\M'[M3.length]?=some (.lst (ms.map df))/\ms.length<=i/\(∀d∈ms,dY f d/\cn f s d=true)/\WA M' w T/\Fr w M M') ⟨_,[],rfl,aD Ct,ao,aI _,(by intro d h;cases h),v7.app,mN.app⟩ ?_ ?_
  · rintro i ρ M' hi ⟨o5,ms,rfl,hc,hm,To,PQ,SV,Jx⟩;have hi:i<f.ru.length:=by rw[aB]at hi;omega
    have bJ:dY f (.own i):=hi;rw[show(0:Int)+(i:Int)=((i:Nat):Int) by omega];nofun;refine⟨s2,?_⟩;nofun;refine(hA M' f N s (.own i) hf hs hN bJ).imp ?_;rintro r M4 ⟨f4,rfl⟩;have Zs:=Ex.get f4 hc;have KD:=Ex.get f4 hm;have kR:=Jx.back f4 (.inl Jx.1);have lY:=SV.ex f4;nofun;rw[Ta]
    cases hcn:(rp f s (.own i)).isSome with
    | true =>
      nofun;refine⟨bf KD,?_⟩;nofun;refine⟨s2,?_⟩;nofun;rw[bQ KD (aO (by rw[aB];omega))];refine⟨_,ms++[.own i],rfl,au Zs ∅,?_,by simp;omega,iZ (x:=Dn.own i) PQ ⟨bJ,hcn⟩,lY.set (by have:=mN.1;omega),kR.set (by have:=mN.1;omega)⟩;rw[aK KD,eA];rfl
    | false =>
      exact⟨_,ms,rfl,Zs,KD,∅,PQ,lY,kR⟩
  rintro ρ M' ⟨o5,ms,rfl,hc,hm,To,PQ,SV,Jx⟩;have To:ms.length<=4:=by rw[aB]at To;omega
  have UN:=FF hf hs hN;have hM3:=mN.1;nofun;refine(hD M' w T 8 SV ∅ ∅ ∅).imp ?_;rintro r M5 ⟨wy,rfl,y0,y1,pR,f5⟩;have X4:=f5.get hc ∅;have X5:=f5.get hm ∅;have mh:=Jx.trans f5;nofun;refine⟨s0,?_⟩;nofun;rw[FC X4 λd hd=>(FE hs hd).1.s]
  have second : dX G [.iff (.d7 [(.val (.cmp .ne (.ae 4) (.lst []))), (.val (.cmp .lt (.ae 6) (.ai (.int 7))))]) [.ret (.sub (.ae 4) (.call aE [(.ae 0), (.bi .len [(.ae 4)])]))] [], .ret (.tup [(.ai (.str "hear")), (.call aE [(.ae 0), (.bi .len [(.sub (.ae 1) (.ai (.int 0)))])]), (.sub (.ai (.str "abcz")) (.call aE [(.ae 0), (.ai (.int 4))]))])]
      [some (.aj w),some (dO f),some (du s),some (.aj n3),some (.aj M3.length),o5,some (.int wy)] M5 (λρ M'=>∃d,W.d D.aR=.d (df d)/\dY f d/\cn f s d=true/\Fr w M M') (λr M'=>∃d,r=.d (df d)/\dY f d/\cn f s d=true/\Fr w M M') (λ_ _=>False) (λ_ _=>False):=by
    have KR : dX G [.ret (.tup [(.ai (.str "hear")), (.call aE [(.ae 0), (.bi .len [(.sub (.ae 1) (.ai (.int 0)))])]), (.sub (.ai (.str "abcz")) (.call aE [(.ae 0), (.ai (.int 4))]))])]
        [some (.aj w),some (dO f),some (du s),some (.aj n3),some (.aj M3.length),o5,some (.int wy)] M5 (λρ M'=>∃d,W.d D.aR=.d (df d)/\dY f d/\cn f s d=true/\Fr w M M') (λr M'=>∃d,r=.d (df d)/\dY f d/\cn f s d=true/\Fr w M M') (λ_ _=>False) (λ_ _=>False):=by
      nofun;refine(hD M5 w _ ((f.ru.map Cf).length:Int) pR ∅ (by rw[aB];omega) (by rw[aB];omega)).imp ?_;rintro r M6 ⟨i,rfl,i0,i1,qq,f6⟩;nofun;refine(hD M6 w _ 4 qq ∅ ∅ ∅).imp ?_;rintro r M7 ⟨j,rfl,j0,j1,Jj,f7⟩;obtain⟨c,hc,JC⟩:=Oj (M:=M7) j0 j1;nofun;rw[hc];nofun;rw[aB]at i1;refine⟨s3,.dJ i.toNat c,?_,⟨∅,JC⟩,?_,(mh.trans f6).trans f7⟩
      · show W.d (.tup [.str "hear",.int i,.str c])=.d (.tup [.str "hear",.int (i.toNat:Nat),.str c]);rw[Int.toNat_of_nonneg i0]
      · obtain⟨x,hx⟩:=tK (mv:=qZ f i.toNat) (s:=s.st.getD i.toNat 0) JC;show(an (qZ f i.toNat) (s.st.getD i.toNat 0) c).isSome=true;rw[hx];rfl
    nofun;refine⟨s0,?_⟩;nofun;rw[FC X5 λd hd=>(PQ d hd).1.s]
    cases ms with
    | nil=>exact KR
    | cons d0 ms =>
      nofun;by_cases hy:wy<7
      · rw[gk hy];nofun;rw[fx X5];nofun;refine(hD M5 w _ (((d0::ms).map df).length:Int) pR ∅ (by rw[aB,jt];omega) (by rw[aB];omega)).imp ?_;rintro r M6 ⟨i,rfl,i0,i1,qq,f6⟩;rw[aB]at i1;obtain⟨d,hd,hg⟩:=KQ i0 i1;nofun;rw[bY (f6.get X5 ∅) i0 hg];exact⟨d,rfl,(PQ d hd).1,(PQ d hd).2,mh.trans f6⟩
      · rw[eJ hy];exact KR
  cases Zt:(cm f s).isEmpty with
  | true=>exact second
  | false =>
    nofun;by_cases hy:wy<4
    · rw[gk hy];nofun;rw[fx X4];nofun
      have hpos:0<(cm f s).length:=by
        cases hz:cm f s with
        | nil=>rw[hz]at Zt;cases Zt
        | cons a b=>simp
      refine(hD M5 w _ (((cm f s).map df).length:Int) pR ∅ (by rw[aB];omega) (by rw[aB];omega)).imp ?_;rintro r M6 ⟨i,rfl,i0,i1,qq,f6⟩;rw[aB]at i1;obtain⟨d,hd,hg⟩:=KQ i0 i1;nofun;rw[bY (f6.get X4 ∅) i0 hg];exact⟨d,rfl,(FE hs hd).1,(FE hs hd).2,mh.trans f6⟩
    · rw[eJ hy];exact second
end Ev
end
section
namespace Ev
open PySem
noncomputable def yK(JF:Nat)(Am:Nat):List S:=[.asg [3] (.lst []),.asg [4] (.ae 1),.bE [5,6] .enum [(.ae 2)] [.iff (.neg (.val (.call JF [(.ae 0),(.ae 4),(.ae 6)]))) [.never] [],.asg [7] (.call Am [(.ae 0),(.ae 4),(.ae 6)]),.asg [4] (.sub (.ae 7) (.ai (.int 0))),.expr (.me .append (.ae 3) [(.ae 7)])],.ret (.ae 3)]
noncomputable def tR(cW:Nat)(aE:Nat)(tS:Nat)(cz:Nat):List S:=[.asg [4] (.call cW [(.ae 0),(.ai (.int 6))]),.asg [5] (.lst []),.asg [6] (.lst [(.call aE [(.ae 4),(.ai (.int 13))]),(.bin .add (.ai (.int 6)) (.call aE [(.ae 4),(.ai (.int 13))])),(.bin .sub (.ae 3) (.call aE [(.ae 4),(.ai (.int 4))]))]),.bE [7] .eK [(.sub (.ae 6) (.bin .fdiv (.call aE [(.ae 4),(.ai (.int 9))]) (.ai (.int 4))))] [.asg [8] (.call tS [(.call cW [(.ae 0),(.bin .add (.ai (.int 7)) (.ae 7))]),(.ae 1),(.ae 2)]),.expr (.me .append (.ae 5) [(.ae 8)]),.asg [2] (.sub (.call cz [(.ae 1),(.ae 2),(.ae 8)]) (.ai (.int 0)))],.ret (.ae 5)]
end Ev
end
section
namespace Ev
open L2
open PySem PySem.Spec PyProof.Rows
def yL(f:Fm)(s:Sd)(d:Dn):Int×List (Int×Str)×Option Str:=(rp f s d).getD (0,[],none)
def cy(f:Fm)(s:Sd)(d:Dn):Sd:=SX f s d (yL f s d)
def fin(f:Fm)(s:Sd)(ds:List Dn):Sd:=ds.foldl (cy f) s
def tr(f:Fm):Sd->List Dn->List (Sd×Nat×Option Str)
 | _,[]=>[]
 | s,d::ds=>(cy f s d,mc f d,(yL f s d).2.2)::tr f (cy f s d) ds
def dZ(f:Fm):Sd->List Dn->Prop
 | _,[]=>True
 | s,d::ds=>(dY f d/\cn f s d=true)/\dZ f (cy f s d) ds
theorem tT:fin f s (a++b)=fin f (fin f s a) b:=by unfold fin;rw[Lj]
theorem nr:∀{a b:List Dn}{s:Sd},dZ f s (a++b)↔dZ f s a/\dZ f (fin f s a) b
 | [],b,s=>⟨λh=>⟨trivial,h⟩,λh=>h.2⟩
 | d::a,b,s=>by
  show _/\dZ f (cy f s d) (a++b)↔(_/\dZ f (cy f s d) a)/\dZ f (fin f (cy f s d) a) b;rw[nr (a:=a)];constructor
  ·rintro⟨h1,h2,h3⟩;exact⟨⟨h1,h2⟩,h3⟩
  ·rintro⟨⟨h1,h2⟩,h3⟩;exact⟨h1,h2,h3⟩
theorem FG:∀{a b:List Dn}{s:Sd},tr f s (a++b)=tr f s a++tr f (fin f s a) b
 | [],b,s=>rfl
 | d::a,b,s=>by
  show _::tr f (cy f s d) (a++b)=_;rw[FG (a:=a)];rfl
theorem tU:∀{a:List Dn}{s:Sd},(tr f s a).length=a.length
 | [],s=>rfl
 | d::a,s=>by show(tr f (cy f s d) a).length+1=_;rw[tU];rfl
theorem FH{α:Type}{l:List α}{i:Nat}{x:α}(h:l[i]?=some x):l=l.take i++x::l.drop (i+1):=by
 obtain⟨hi,rfl⟩:=bq.mp h;rw[<- List.drop_eq_getElem_cons hi,Le]
theorem i4(h:dZ f s ds)(hi:ds[i]?=some d):dY f d/\cn f (fin f s (ds.take i)) d=true:=by
 rw[FH hi,nr]at h;exact h.2.1
theorem gR(h:dZ f s ds):dZ f s (ds.take i):=by
 rw[<- Le i ds,nr]at h;exact h.1
theorem pA(h:cn f s d=true):rp f s d=some (yL f s d):=by
 unfold cn at h;obtain⟨x,e⟩:=uh.mp h;unfold yL;rw[e];rfl
theorem bR.cy(hf:cN f)(h:bR f N s)(hd:dY f d)(hc:cn f s d=true):bR f (N+3) (cy f s d):=h.SX hd (wc hf h hd (pA hc))
theorem bR.fin(hf:cN f):∀{ds:List Dn}{N:Nat}{s:Sd},bR f N s->dZ f s ds->bR f (N+3*ds.length) (fin f s ds)
 | [],N,s,h,_=>h
 | d::ds,N,s,h,k=>by
  have:=bR.fin hf (h.cy hf k.1.1 k.1.2) k.2;rw[show N+3*(d::ds).length=N+3+3*ds.length by rw[jt];omega];exact this
def PR(x:Sd×Nat×Option Str):D:=.tup [du x.1,OM x.2.1 x.2.2]
section
variable {G:dN} {b:List S} {tg:List Nat} {ρ:En} {M:ak} {nx:En->ak->Prop} {rt:W->ak->Prop} {bk ct:En->ak->Prop}
theorem pB(I:Nat->En->ak->Prop)(hM:∀i ρ M,I i ρ M->M[n]?=some (.lst ds))(h0:I 0 ρ M)(hs:∀i ρ M d,ds[i]?=some d->I i ρ M->Gn (b_ tg (.tup [.int i,d]) ρ) λρ=>dX G b ρ M (I (i+1)) rt nx (I (i+1)))(he:∀ρ M,I ds.length ρ M->nx ρ M){k:Nat}(hk:k=ds.length):gA (ej (λρ M=>cE G b ρ M) (.jZ n) tg k 0 ρ M) nx rt bk ct:=by
 subst hk;have aY:(ds.mapIdx λi d=>D.tup [.int (i:Nat),d]).length=ds.length:=by simp
 refine lX (ds:=ds.mapIdx λi d=>D.tup [.int (i:Nat),d]) I (λi ρ M h _=>?_) (λi ρ M d h e=>?_) (λρ M h=>he ρ M (by rw[aY]at h;exact h)) ds.length 0 ρ M h0 (by rw[aY];omega)
 ·unfold itemAt;simp only[hM i ρ M h];rw[List.getElem?_mapIdx]
 ·rw[List.getElem?_mapIdx]at e
  cases e3:ds[i]? with
  | none=>rw[e3]at e;cases e
  | some d' =>
   rw[e3]at e;cases e;have q:=hs i ρ M d' e3 h
   cases e2:b_ tg (.tup [.int i,d']) ρ with
   | none=>rw[e2]at q;exact q.elim
   | some ez=>rw[e2]at q;exact⟨ez,rfl,by rw[sZ];exact q⟩
end
theorem yM(hM:M[n]?=some (.lst ds)):iB .enum [.d (.aj n)] M=.ok (.jZ n) M:=by
 unfold iB bT;simp only[hM];rfl
theorem pC(hM:M[n]?=some (.lst ds)):dW M (.jZ n)=ds.length:=by unfold dW;simp only[hM]
theorem X6{x:Int×List (Int×Str)×Option Str}:SY f d x=OM (mc f d) x.2.2:=by
 obtain⟨a,sd,w⟩:=x;cases w<;>rfl
def yN(F:Fn):Prop:=∀(M:ak)(f:Fm)(N:Nat)(s:Sd)(ds:List Dn)(n:Nat),cN f->bR f N s->N+3*ds.length<=890->dZ f s ds->M[n]?=some (.lst (ds.map df))->aV (F [dO f,du s,.aj n] M) λr M'=>∃n',r=.d (.aj n')/\M.length<=n'/\M'[n']?=some (.lst ((tr f s ds).map PR))/\Ex M M'
theorem OU(hC:OI (G JF))(hO:mB (G Am)):yN (ar G 8 (yK JF Am)):=by
 intro M f N s ds n hf hs hN hr hn;rw[bF];show dX G (yK JF Am) [some (dO f),some (du s),some (.aj n),none,none,none,none,none] M _ _ _ _;nofun;refine⟨s0,?_⟩;nofun;have yO:(M++[MO.lst []])[n]?=some (.lst (ds.map df)):=aD hn;rw[yM yO];refine pB (n:=n) (ds:=ds.map df) (λi ρ M'=>∃o5 o6 o7,ρ=[some (dO f),some (du s),some (.aj n),some (.aj M.length),some (du (fin f s (ds.take i))),o5,o6,o7]/\M'[M.length]?=some (.lst ((tr f s (ds.take i)).map PR))/\Ex M M') (by rintro i ρ M' ⟨_,_,_,_,_,fr⟩;exact Ex.get fr hn) ⟨_,_,_,rfl,ao,(Ex.refl M).app⟩ ?_ ?_ (pC yO)
 ·rintro i ρ M' dd cu ⟨o5,o6,o7,rfl,hL,fr⟩;rw[bj]at cu
  cases e:ds[i]? with
  | none=>rw[e]at cu;cases cu
  | some d =>
   rw[e]at cu;cases cu;have hi:=(bq.mp e).1;obtain⟨k1,k2⟩:=i4 hr e;have Gq:=bR.fin hf hs (gR (i:=i) hr);have PU:(ds.take i).length=i:=by rw[gW];omega
   rw[PU]at Gq;have hx:=pA k2;nofun;refine(hC M' f _ _ d hf Gq ∅ k1).imp ?_;rintro r M2 ⟨f2,e2⟩;rw[k2]at e2;subst e2;nofun;refine(hO M2 f _ _ d _ hf Gq ∅ k1 hx).imp ?_;rintro r M3 ⟨f3,rfl⟩;have An:=Ex.get f3 (Ex.get f2 hL);nofun;refine⟨bf An,?_⟩;nofun;rw[bQ An (aO (by rw[aB,tU,PU];omega))];have U5:ds.take (i+1)=ds.take i++[d]:=bD e;refine⟨some (.int i),some (df d),some (.tup [du (cy f (fin f s (ds.take i)) d),SY f d (yL f (fin f s (ds.take i)) d)]),?_,?_,Fr.set (Ex.trans (Ex.trans fr f2) f3) (aI _)⟩
   ·rw[U5,tT];rfl
   ·rw[aK An,U5,FG,eA,X6];rfl
 ·rintro ρ M' ⟨o5,o6,o7,rfl,hL,fr⟩;rw[aB,jO]at hL;nofun;exact⟨_,rfl,aI _,hL,fr⟩
theorem KS:∀{ds:List Dn}{s:Sd}{i:Nat}{x:Sd×Nat×Option Str},(tr f s ds)[i]?=some x->x.1=fin f s (ds.take (i+1))
 | [],s,i,x,h=>by simp[tr]at h
 | d::ds,s,0,x,h=>by
  have h:(cy f s d,mc f d,(yL f s d).2.2)=x:=by simpa[tr]using h
  rw[<- h];rfl
 | d::ds,s,i+1,x,h=>by
  have h:(tr f (cy f s d) ds)[i]?=some x:=by simpa[tr]using h
  have q:=KS (ds:=ds) (s:=cy f s d) (i:=i) h;rw[q];rfl
def tV(F:Fn):Prop:=∀(M:ak)(ns:List Int)(f:Fm)(s:Sd)(most:Int),ns.length<=63->cN f->bR f 4 s->18<=most->most<=60->aV (F [.ls (ns.map D.int),dO f,du s,.int most] M) λr M'=>∃n,∃ds:List Dn,r=.d (.aj n)/\M.length<=n/\M'[n]?=some (.lst (ds.map df))/\dZ f s ds/\(ds.length:Int)<=most/\Ex M M'
theorem JG(hW:qW (G cW))(hD:e9 (G aE))(hNx:yJ (G tS))(hDo:mB (G cz)):tV (ar G 9 (tR cW aE tS cz)):=by
 intro M ns f s most lE hf hs hm0 XD;rw[bF];show dX G (tR cW aE tS cz) [some (.ls (ns.map D.int)),some (dO f),some (du s),some (.int most),none,none,none,none,none] M _ _ _ _;nofun;refine(hW M ns 6 ∅ ∅ lE).imp ?_;rintro r M1 ⟨rfl,BJ,Cb,f1⟩;nofun;refine⟨s0,?_⟩;nofun;have JH:(M1++[MO.lst []])[M1.length]?=some (.lst []):=ao;refine(hD _ M.length 0 13 Cb.app ∅ ∅ ∅).imp ?_;rintro r M2 ⟨a,rfl,a0,a1,v7,f2⟩;nofun;refine(hD M2 M.length _ 13 v7 ∅ ∅ ∅).imp ?_;rintro r M3 ⟨b,rfl,b0,b1,z6,f3⟩;nofun;refine(hD M3 M.length _ 4 z6 ∅ ∅ ∅).imp ?_;rintro r M4 ⟨c,rfl,c0,c1,lY,f4⟩;nofun;refine⟨s3,?_⟩;nofun;have KU:M4[M1.length]?=some (.lst []):=f4.get (f3.get (f2.get JH ∅) ∅) ∅;have l4:=ay KU;refine(hD _ M.length _ 9 lY.app ∅ ∅ ∅).imp ?_;rintro r M5 ⟨g,rfl,g0,g1,pR,f5⟩;have hA5:M5[M4.length]?=some (.lst [.int a,.int (6+b),.int (most-c)]):=f5.get ao ∅;have KW:M5[M1.length]?=some (.lst []):=f5.get (aD KU) ∅;have mh:Ex M M5:=((((f1.app).trans f2).trans f3).trans f4).app.trans f5;nofun;refine⟨⟨∅,∅⟩,?_⟩
 obtain⟨d,hd,j,rfl,j0,j1⟩:∃d,[D.int a,.int (6+b),.int (most-c)][(g / 4).toNat]?=some d/\∃j:Int,d=.int j/\0<=j/\j<=most:=mM (ds:=[D.int a,.int (6+b),.int (most-c)]) (k:=3) (λd hd=>by
  simp only[bU,lj,fP]at hd;rcases hd with rfl | rfl | rfl
  ·exact⟨_,rfl,∅,∅⟩
  ·exact⟨_,rfl,∅,∅⟩
  ·exact⟨_,rfl,∅,∅⟩) ∅ ∅ rfl
 nofun;rw[bY hA5 (i:=g / 4) ∅ hd];nofun;refine⟨⟨∅,∅⟩,?_⟩;have hm:M.length<=M1.length:=f1.1;refine f_ (n:=j.toNat) (λi ρ M'=>∃o7 o8,∃ds:List Dn,ρ=[some (.ls (ns.map D.int)),some (dO f),some (du (fin f s ds)),some (.int most),some (.aj M.length),some (.aj M1.length),some (.aj M4.length),o7,o8]/\M'[M1.length]?=some (.lst (ds.map df))/\ds.length=i/\dZ f s ds/\Ex M M') ⟨_,_,[],rfl,KW,rfl,trivial,mh⟩ ?_ ?_
 ·rintro i ρ M6 hi ⟨o7,o8,ds,rfl,U7,U8,U9,yj⟩;have UY:=bR.fin hf hs U9;have hi60:(i:Int)<60:=∅;nofun;refine(hW M6 ns (7+(0+(i:Int))) ∅ ∅ lE).imp ?_;rintro r M7 ⟨rfl,Tw,Jj,f7⟩;have l6:=ay U7;nofun;refine(hNx M7 M6.length 0 f _ _ Jj ∅ hf UY ∅).imp ?_;rintro r M8 ⟨d,rfl,Zu,hd2,f8⟩;have Zv:Ex M6 M8:=f7.trans f8;have X7:=Ex.get Zv U7;nofun;refine⟨bf X7,?_⟩;nofun;rw[bQ X7 (aO (by rw[aB];omega))];nofun;have hx:=pA hd2;refine(hDo _ f _ _ d _ hf UY ∅ Zu hx).imp ?_;rintro r M9 ⟨f9,rfl⟩;refine⟨some (.int (0+(i:Int))),some (df d),ds++[d],?_,?_,by simp[U8],?_,?_⟩
  ·rw[tT];rfl
  ·refine Ex.get f9 ?_;rw[aK X7,eA];rfl
  ·rw[nr];exact⟨U9,⟨Zu,hd2⟩,trivial⟩
  ·exact Ex.trans (Fr.set (Ex.trans yj Zv) hm) f9
 ·rintro ρ M6 ⟨o7,o8,ds,rfl,U7,U8,U9,yj⟩;exact⟨_,ds,rfl,hm,U7,U9,∅,yj⟩
end Ev
end
section
namespace Ev
open PySem
end Ev
end
section
namespace Ev
open L2
open PySem PySem.Spec PyProof.Rows
theorem FI(h1:a<=b)(h2:b<=c):fS a b++fS b c=fS a c:=by
 obtain⟨n,hn⟩:∃n:Nat,b=a+n:=⟨(b-a).toNat,∅⟩;subst hn;clear h1
 induction n generalizing a with
 | zero=>rw[show a+((0:Nat):Int)=a by omega,kW (p0 _)];rfl
 | succ n ih =>
  have e:a+((n+1:Nat):Int)=a+1+(n:Int):=∅;rw[e]at h2⊢;rw[ji (a:=a) (b:=a+1+n) ∅,ji (a:=a) (b:=c) ∅,List.cons_append,ih h2]
theorem FJ:fS a (a+1)=[a]:=by rw[ji ∅,kW ∅]
theorem pE{α:Type}{l:List α}{i j:Nat}{x d:α}(h:i<l.length):(l.set i x).getD j d=if i=j then x else l.getD j d:=by
 rw[iC,iC,Ll];by_cases q:i=j
 ·rw[aw q,aw q,aw ∅];rfl
 ·rw[az q,az q]
theorem l_:∀(sd:List (Int×Str))(ld:List (Int×List (Int×Str)))(r:Nat),(∀p∈sd,0<=p.1/\p.1.toNat<ld.length)->(ld.getD r (0,[])).1<=((cP ld sd).getD r (0,[])).1/\cT ((cP ld sd).getD r (0,[]))=cT (ld.getD r (0,[]))++fS (ld.getD r (0,[])).1 ((cP ld sd).getD r (0,[])).1/\(cP ld sd).length=ld.length
 | [],ld,r,_=>⟨p0 _,by rw[show cP ld []=ld from rfl,kW (p0 _),lq],rfl⟩
 | p::sd,ld,r,h=>by
  have hp:=h p (dC ..);have hl:(ld.set p.1.toNat (more (ld.getD p.1.toNat (0,[])) p.2)).length=ld.length:=kh;obtain⟨i1,i2,i3⟩:=l_ sd (ld.set p.1.toNat (more (ld.getD p.1.toNat (0,[])) p.2)) r λq hq=>by rw[hl];exact h q (dq _ hq)
  have e:cP ld (p::sd)=cP (ld.set p.1.toNat (more (ld.getD p.1.toNat (0,[])) p.2)) sd:=rfl;rw[e,i2,i3];rw[pE hp.2]at i1⊢;by_cases q:p.1.toNat=r
  ·rw[aw q]at i1⊢;subst q;have hm:(more (ld.getD p.1.toNat (0,[])) p.2).1=(ld.getD p.1.toNat (0,[])).1+1:=rfl;have hn:cT (more (ld.getD p.1.toNat (0,[])) p.2)=cT (ld.getD p.1.toNat (0,[]))++[(ld.getD p.1.toNat (0,[])).1]:=by unfold cT more;rw[eA];rfl
   rw[hm]at i1⊢;rw[hn];refine⟨∅,?_,hl⟩;have e2:=FI (a:=(ld.getD p.1.toNat (0,[])).1) (b:=(ld.getD p.1.toNat (0,[])).1+1) ∅ i1;rw[FJ]at e2;rw[rC,e2]
  ·rw[az q]at i1⊢;exact⟨i1,rfl,hl⟩
def U_(s:Sd)(d:Dn)(r:Nat):Int×List (Int×Str):=match d with
 | .bu q k=>if q=r then less (load s r) k else load s r
 | _=>load s r
theorem yP{f:Fm}{N:Nat}{s:Sd}{d:Dn}(hs:bR f N s)(hd:dY f d)(r:Nat):(cY s.ld d).getD r (0,[])=U_ s d r/\(cY s.ld d).length=s.ld.length:=by
 cases d with
 | own m=>exact⟨rfl,rfl⟩
 | dJ m c=>exact⟨rfl,rfl⟩
 | bu q k =>
  have hq:q<s.ld.length:=by rw[hs.ll];exact hd
  refine⟨?_,kh⟩;show(s.ld.set q (less (s.ld.getD q (0,[])) k)).getD r (0,[])=_;rw[pE hq];show _=if q=r then less (load s r) k else load s r
  by_cases z:q=r
  ·subst z;rw[aw rfl,aw rfl];rfl
  ·rw[az z,az z];rfl
theorem pF(hf:cN f)(hs:bR f N s)(hd:dY f d)(hc:cn f s d=true)(r:Nat):(load s r).1<=(load (cy f s d) r).1/\cT (load (cy f s d) r)=cT (U_ s d r)++fS (load s r).1 (load (cy f s d) r).1:=by
 have ax:=wc hf hs hd (pA hc);obtain⟨e1,e2⟩:=yP hs hd r
 have hb:∀p∈(yL f s d).2.1,0<=p.1/\p.1.toNat<(cY s.ld d).length:=λp hp=>by
  obtain⟨_,h2,x,h3,_⟩:=ax.sd p hp;refine⟨h2,?_⟩;rw[e2,hs.ll];exact(bq.mp h3).1
 obtain⟨i1,i2,_⟩:=l_ (yL f s d).2.1 (cY s.ld d) r hb
 have h1:(U_ s d r).1=(load s r).1:=by
  cases d with
  | own m=>rfl
  | dJ m c=>rfl
  | bu q k =>
   show(if q=r then less (load s r) k else load s r).1=_;split<;>rfl
 rw[e1,h1]at i1 i2;exact⟨i1,i2⟩
theorem kX{f:Fm}{s:Sd}{r:Nat}{k:Int}(hc:cn f s (.bu r k)=true):k∈cT (load s r)/\(((cO f r).2.2 == "row")=true->(load s r).2.head?.map (·.1)=some k):=by
 unfold cn rp at hc
 cases q:cs f s (.bu r k)with
 | none=>rw[q]at hc;exact absurd hc aT
 | some c =>
  have q:((iY (cO f r).2.2 (load s r).2).find? λp=>p.1==k).map (·.2)=some c:=q
  cases z:(iY (cO f r).2.2 (load s r).2).find? λp=>p.1==k with
  | none=>rw[z]at q;cases q
  | some p =>
   have hm:=Gy z;have hk:p.1=k:=eq_of_beq (show(p.1==k)=true from List.find?_some (p:=λp:Int×Str=>p.1==k) z);refine⟨?_,λho=>?_⟩
   ·unfold iY at hm;refine dg.mpr ⟨p,?_,hk⟩;split at hm
    ·exact rq hm
    ·exact hm
   ·unfold iY at hm;rw[aw ho]at hm
    cases hl:(load s r).2 with
    | nil=>rw[hl]at hm;cases hm
    | cons a l =>
     rw[hl]at hm;have:p=a:=by simpa using hm
     rw[<- this];simp[hk]
theorem ints_map:∀l:List Int,iQ (l.map D.int)=some l
 | []=>rfl
 | i::l=>by
  show(iQ (l.map D.int)).map (i::·)=_;rw[ints_map l];rfl
structure pG (M:ak) (n:Nat) (as:List Nat) (g:Nat->List Int):Prop where
 at':M[n]?=some (.lst (as.map D.aj))
 nd:as.Nodup
 na:n∉as
 av:∀(r a:Nat),as[r]?=some a->M[a]?=some (.lst ((g r).map D.int))
theorem pG.ex(h:pG M n as g)(f:Ex M M'):pG M' n as g:=⟨Ex.get f h.at',h.nd,h.na,λr a e=>Ex.get f (h.av r a e)⟩
theorem pG.to(h:pG M n as g)(e:∀r,r<as.length->g r=g2 r):pG M n as g2:=⟨h.at',h.nd,h.na,λr a q=>by rw[<- e r (bq.mp q).1];exact h.av r a q⟩
theorem pG.upd(h:pG M n as g)(e:as[r]?=some a)(ks:List Int):pG (M.set a (.lst (ks.map D.int))) n as (λq=>if q=r then ks else g q):=by
 have ha:=h.av r a e;refine⟨au h.at' (λz=>h.na (by rw[z];exact dw e)),h.nd,h.na,λq b eq=>?_⟩;by_cases z:q=r
 ·subst z;rw[e]at eq;cases eq;rw[aw rfl];exact aK ha
 ·rw[az z];refine au (h.av q b eq) λzz=>z ?_;subst zz;have h1:=bq.mp e;have h2:=bq.mp eq;have nn:=Gx.mp h.nd;rcases GI q r with w | w | w
  ·exact absurd (h2.2.trans h1.2.symm) (nn q r h2.1 h1.1 w)
  ·exact w
  ·exact absurd (h1.2.trans h2.2.symm) (nn r q h1.1 h2.1 w)
theorem pG.sub(h:pG M n as g)(hr:r<as.length):∃a,as[r]?=some a/\dy (.d (.aj n)) (.d (.int (r:Nat))) M=.ok (.d (.aj a)) M/\M[a]?=some (.lst ((g r).map D.int)):=by
 have e:as[r]?=some as[r]:=bx hr;refine⟨as[r],e,cb h.at' (by rw[bj,e];rfl),h.av r _ e⟩
end Ev
end
section
namespace Ev
open PySem
def Ao(gO:Nat):List S:=[.fR 2 (.comp .seq [(.sub (.ae 0) (.ai (.int 0)))] [1] none (.ai (.int 0)) [none,none]),.asg [3] (.lst []),.bE [4] .seq [(.ae 1)] [.asg [5] (.call gO [(.ae 0),(.ae 4)]),.expr (.me .append (.ae 3) [(.tup [(.ae 5),(.sub (.ae 2) (.ae 5))])]),.put (.ae 2) (.ae 5) (.bin .add (.sub (.ae 2) (.ae 5)) (.ai (.int 1)))],.ret (.ae 3)]
noncomputable def FK:List S:=[.asg [2] (.lst []),.bE [3] .eK [(.bi .len [(.sub (.ae 0) (.ai (.int 1)))])] [.bE [4] .qf [(.sub (.sub (.sub (.ae 0) (.ai (.int 1))) (.ae 3)) (.ai (.int 0))),(.sub (.sub (.sub (.ae 1) (.ai (.int 1))) (.ae 3)) (.ai (.int 0)))] [.expr (.me .append (.ae 2) [(.tup [(.ae 3),(.ae 4)])])]],.ret (.ae 2)]
def wu(dR:Nat)(pH:Nat)(gC:Nat):List S:=[.asg [3] .lI,.bE [4] .eK [(.bi .len [(.sub (.ae 0) (.ai (.int 1)))])] [.bE [5,6] .seq [(.call dR [(.ae 1),(.ae 4)])] [.dput (.ae 3) (.tup [(.ae 4),(.ae 5)]) (.tup [(.ai .aR),(.ai .aR)])]],.asg [7] (.ae 1),.bE [8,9] .enum [(.call pH [(.ae 0),(.ae 1),(.ae 2)])] [.asg [10] (.sub (.ae 2) (.ae 8)),.iff (.val (.cmp .eq (.sub (.ae 10) (.ai (.int 0))) (.ai (.str "come")))) [.asg [11] (.tup [(.sub (.ae 10) (.ai (.int 1))),(.sub (.ae 10) (.ai (.int 2)))]),.dput (.ae 3) (.ae 11) (.tup [(.sub (.jY (.ae 3) (.ae 11)) (.ai (.int 0))),(.ae 8)])] [],.bE [11] .seq [(.call gC [(.ae 7),(.sub (.ae 9) (.ai (.int 0)))])] [.dput (.ae 3) (.ae 11) (.tup [(.ae 8),(.ai .aR)])],.asg [7] (.sub (.ae 9) (.ai (.int 0)))],.ret (.ae 3)]
end Ev
end
section
namespace Ev
open L2
open PySem PySem.Spec PyProof.Rows
abbrev Kv:=List (List bH×D)
abbrev Lm:=Nat->Int->Option (Option Nat×Option Nat)
def k2(r:Nat)(k:Int):List bH:=[Sum.inl (r:Int),Sum.inl k]
def oD:Option Nat->D
 | none=>.aR
 | some n=>.int n
def Ck(x:Option Nat×Option Nat):D:=.tup [oD x.1,oD x.2]
theorem yQ(h:k2 r k=k2 r' k'):r=r'/\k=k':=by
 unfold k2 at h;simp only[List.cons.injEq,Sum.inl.injEq]at h;exact⟨∅,h.2.1⟩
theorem FL{κ:Type}[DecidableEq κ]{ah:List (κ×D)}{k:κ}:(de ah k).isSome=true↔k∈ah.map (·.1):=by
 unfold de;rw[wV,List.find?_isSome,dg];constructor
 ·rintro⟨p,h1,h2⟩;exact⟨p,h1,AN h2⟩
 ·rintro⟨p,h1,h2⟩;exact⟨p,h1,gk h2⟩
theorem rT{κ:Type}[DecidableEq κ]{ah:List (κ×D)}{k k':κ}{v:D}:(k≠k'->de (ah.map λkv=>if kv.1=k then (kv.1,v) else kv) k'=de ah k')/\(k=k'->k∈ah.map (·.1)->de (ah.map λkv=>if kv.1=k then (kv.1,v) else kv) k'=some v):=by
 induction ah with
 | nil=>exact⟨λ_=>rfl,λ_ h=>by cases h⟩
 | cons p ah ih =>
  obtain⟨i1,i2⟩:=ih;unfold de at i1 i2⊢;rw[fO,gX,gX];by_cases hp:p.1=k
  ·rw[aw hp];refine⟨λhk=>?_,λhk _=>?_⟩
   ·have h1:decide (p.1=k')=false:=eJ λh=>hk (hp.symm.trans h);simp only[h1];exact i1 hk
   ·subst hk;simp only[hp,decide_true];rfl
  ·rw[az hp];refine⟨λhk=>?_,λhk hm=>?_⟩
   ·cases q:decide (p.1=k')with
    | true=>rfl
    | false=>exact i1 hk
   ·subst hk;simp only[eJ hp];refine i2 rfl ?_;rw[fO]at hm;rcases bU.mp hm with z | z
    ·exact absurd z.symm hp
    ·exact z
theorem nu{κ:Type}[DecidableEq κ]{ah:List (κ×D)}{k:κ}:(ah.any λkv=>decide (kv.1=k))=true↔k∈ah.map (·.1):=by
 rw[List.any_eq_true,dg];constructor
 ·rintro⟨p,h1,h2⟩;exact⟨p,h1,AN h2⟩
 ·rintro⟨p,h1,h2⟩;exact⟨p,h1,gk h2⟩
theorem JI{κ:Type}[DecidableEq κ]{ah:List (κ×D)}{k k':κ}{v:D}(h:k∉ah.map (·.1)):de (ah++[(k,v)]) k'=if k=k' then some v else de ah k':=by
 have e:de (ah++[(k,v)]) k'=((ah.find? λp=>decide (p.1=k')).or ([(k,v)].find? λp=>decide (p.1=k'))).map (·.2):=by
  unfold de;rw[Lk]
 rw[e];by_cases hk:k=k'
 ·subst hk;rw[aw rfl,List.find?_eq_none.mpr (λp hp q=>h (dg.mpr ⟨p,hp,AN q⟩))];simp
 ·rw[az hk]
  have:([(k,v)].find? λp=>decide (p.1=k'))=none:=by
   rw[gX];have:decide ((k,v).1=k')=false:=eJ hk;simp only[this];rfl
  rw[this,Option.or_none];rfl
theorem tW{κ:Type}[DecidableEq κ]{ah:List (κ×D)}{k k':κ}{v:D}:de (cR ah k v) k'=if k=k' then some v else de ah k':=by
 unfold cR;by_cases h:k∈ah.map (·.1)
 ·rw[aw (nu.mpr h)];by_cases hk:k=k'
  ·rw[rT.2 hk h,aw hk]
  ·rw[rT.1 hk,az hk]
 ·rw[az (λz=>h (nu.mp z)),JI h]
theorem Ap{κ:Type}[DecidableEq κ]{ah:List (κ×D)}{k:κ}{v:D}(h:k∈ah.map (·.1)):(cR ah k v).map (·.1)=ah.map (·.1):=by
 unfold cR;rw[aw (nu.mpr h),AW];refine List.map_congr_left λp _=>?_;show(if p.1=k then (p.1,v) else p).1=p.1;split<;>rfl
theorem wz{κ:Type}[DecidableEq κ]{ah:List (κ×D)}{k:κ}{v:D}(h:k∉ah.map (·.1)):(cR ah k v).map (·.1)=ah.map (·.1)++[k]:=by
 unfold cR;rw[az (λz=>h (nu.mp z)),eA];rfl
theorem jk{κ:Type}[DecidableEq κ]{ah:List (κ×D)}{k:κ}{v:D}:(cR ah k v).length<=ah.length+1:=by
 unfold cR;split
 ·rw[aB];omega
 ·rw[cC];exact aI _
structure gh (ah:Kv) (L:Lm):Prop where
 nd:(ah.map (·.1)).Nodup
 ky:∀k∈ah.map (·.1),∃r n x,k=k2 r n/\L r n=some x
 gt:∀r k,de ah (k2 r k)=(L r k).map Ck
noncomputable def putL(L:Lm)(r:Nat)(k:Int)(x:Option Nat×Option Nat):Lm:=λr' k'=>if r=r'/\k=k' then some x else L r' k'
theorem gh.nil:gh [] λ_ _=>none:=⟨uo,λk h=>(by cases h),λ_ _=>rfl⟩
theorem gh.put{ah:Kv}{L:Lm}(h:gh ah L)(r:Nat)(k:Int)(x:Option Nat×Option Nat):gh (cR ah (k2 r k) (Ck x)) (putL L r k x):=by
 refine⟨?_,λi_ hk=>?_,λr' k'=>?_⟩
 ·by_cases z:k2 r k∈ah.map (·.1)
  ·rw[Ap z];exact h.nd
  ·rw[wz z,uj];exact⟨h.nd,by simp,λa ha b hb e=>z (by rw[<- gj.mp hb,<- e];exact ha)⟩
 ·have hk:i_=k2 r k\/i_∈ah.map (·.1):=by
   by_cases z:k2 r k∈ah.map (·.1)
   ·rw[Ap z]at hk;exact .inr hk
   ·rw[wz z]at hk;rcases cj.mp hk with z | z
    ·exact .inr z
    ·exact .inl (gj.mp z)
  rcases hk with rfl | z
  ·exact⟨r,k,x,rfl,aw ⟨rfl,rfl⟩⟩
  ·obtain⟨r',k',y,e,q⟩:=h.ky i_ z;subst e;by_cases hc:r=r'/\k=k'
   ·exact⟨r',k',x,rfl,aw hc⟩
   ·exact⟨r',k',y,rfl,(az hc).trans q⟩
 ·rw[tW];unfold putL;by_cases hc:r=r'/\k=k'
  ·obtain⟨rfl,rfl⟩:=hc;rw[aw rfl,aw ⟨rfl,rfl⟩];rfl
  ·rw[az hc,az (λz=>hc (yQ z)),h.gt]
theorem gh.congr(h:gh ah L)(e:∀r k,L r k=L' r k):gh ah L':=by
 have:L=L':=by funext r k;exact e r k
 rw[<- this];exact h
theorem jl{α:Type}[DecidableEq α]:∀{a b:List α},a.Nodup->(∀x∈a,x∈b)->a.length<=b.length
 | [],b,_,_=>lr _
 | x::a,b,h,s=>by
  have hx:=s x dC;obtain⟨h1,h2⟩:=rG.mp h;have:=jl (a:=a) (b:=b.erase x) h2 λy hy=>(List.mem_erase_of_ne (show y≠x from λe=>h1 (by rw[<- e];exact hy))).mpr (s y (dq _ hy));rw[List.length_erase_of_mem hx]at this;have hb:=List.length_pos_of_mem hx;rw[jt];omega
theorem gh.mem{ah:Kv}{L:Lm}(h:gh ah L){r:Nat}{k:Int}:k2 r k∈ah.map (·.1)↔(L r k).isSome=true:=by
 rw[<- FL,h.gt,wV]
def L0(f:Fm)(s:Sd):Lm:=λr k=>if r<f.ro.length/\k∈cT (load s r) then some (none,none) else none
def kY(d:Dn)(i:Nat)(L:Lm):Lm:=match d with
 | .bu q n=>putL L q n (((L q n).getD (none,none)).1,some i)
 | _=>L
def OV(s s':Sd)(i:Nat)(L:Lm):Lm:=λr k=>if (load s r).1<=k/\k<(load s' r).1 then some (some i,none) else L r k
def PV(f:Fm)(s:Sd)(d:Dn)(i:Nat)(L:Lm):Lm:=OV s (cy f s d) i (kY d i L)
def eW(f:Fm)(s:Sd)(ds:List Dn):Nat->Lm
 | 0=>L0 f s
 | i+1=>match ds[i]? with
  | some d=>PV f (fin f s (ds.take i)) d i (eW f s ds i)
  | none=>eW f s ds i
theorem gT(h:ds[i]?=some d):eW f s ds (i+1)=PV f (fin f s (ds.take i)) d i (eW f s ds i):=by
 show(match ds[i]? with
  | some d=>PV f (fin f s (ds.take i)) d i (eW f s ds i)
  | none=>eW f s ds i)=_
 rw[h]
theorem pI{ds:List Dn}{i:Nat}(h:ds[i]?=some d):fin f s (ds.take (i+1))=cy f (fin f s (ds.take i)) d:=by
 rw[bD h,tT];rfl
theorem Aq(hf:cN f){ds:List Dn}{N:Nat}(hs:bR f N s)(hr:dZ f s ds):∀i,i<=ds.length->∀r k,r<f.ro.length->k∈cT (load (fin f s (ds.take i)) r)->(eW f s ds i r k).isSome=true
 | 0,_,r,k,h1,h2=>by
  show(if r<f.ro.length/\k∈cT (load s r) then some (none,none) else none:Option (Option Nat×Option Nat)).isSome=true;rw[aw ⟨h1,h2⟩];rfl
 | i+1,hi,r,k,h1,h2=>by
  have e:ds[i]?=some ds[i]:=bx ∅;rw[gT e];rw[pI e]at h2;obtain⟨k1,k2⟩:=i4 hr e;obtain⟨h3,h4⟩:=pF hf (bR.fin hf hs (gR (i:=i) hr)) k1 k2 r;rw[h4]at h2;show(if _/\_ then some (some i,none) else kY ds[i] i (eW f s ds i) r k).isSome=true;split
  ·rfl
  ·rename_i hn
   have hk:k∈cT (load (fin f s (ds.take i)) r):=by
    rcases cj.mp h2 with z | z
    ·generalize ds[i]=d at z
     cases d with
     | own m=>exact z
     | dJ m c=>exact z
     | bu q n =>
      have z:k∈cT (if q=r then less (load (fin f s (ds.take i)) r) n else load (fin f s (ds.take i)) r):=z;split at z
      ·unfold cT less at z;obtain⟨p,hp,rfl⟩:=dg.mp z;exact dg.mpr ⟨p,(wY.mp hp).1,rfl⟩
      ·exact z
    ·unfold fS at z;obtain⟨j,hj,rfl⟩:=dg.mp z;rw[rH]at hj;exact absurd ⟨∅,∅⟩ hn
   have ih:=Aq hf hs hr i ∅ r k h1 hk;generalize ds[i]=d
   cases d with
   | own m=>exact ih
   | dJ m c=>exact ih
   | bu q n =>
    show(if q=r/\n=k then some _ else eW f s ds i r k).isSome=true;split
    ·rfl
    ·exact ih
theorem FN(h:n<=1000000):n<sizeLine:=Lf h (by decide)
theorem Ar{n r:Nat}{k:Int}{d:D}(hM:M[n]?=some (.dT ah))(hl:ah.length<=1000000):ik (.d (.aj n)) (.d (.tup [.int r,.int k])) d M=.ok () (M.set n (.dT (cR ah (k2 r k) d))):=by
 unfold ik;simp only[hM,show xO (.d (.tup [.int r,.int k]))=some (k2 r k) from rfl];rw[aw (FN hl)]
theorem KY(hM:Mz M (.d (.aj n))=some ah)(hg:de ah (k2 r k)=some d):mq (.d (.aj n)) (.d (.tup [.int r,.int k])) M=.ok (.d d) M:=by
 unfold mq;simp only[hM,show xO (.d (.tup [.int r,.int k]))=some (k2 r k) from rfl,hg]
theorem OW(hM:M[n]?=some (.dT ah)):Mz M (.d (.aj n))=some ah:=by unfold Mz;simp only[hM]
def PX(p:Nat×Int):D:=.tup [.int p.1,.int p.2]
def qr(s s':Sd)(r:Nat):List (Nat×Int):=(fS (load s r).1 (load s' r).1).map λk=>(r,k)
def As(s s':Sd)(n:Nat):List (Nat×Int):=(List.range n).flatMap (qr s s')
theorem wA:As s s' (n+1)=As s s' n++qr s s' n:=by
 unfold As;rw[CP,List.flatMap_append];simp
theorem kZ:(fS a b).length=(b-a).toNat:=by unfold fS;simp
theorem JJ{a b:Int}{j:Nat}(h:j<(b-a).toNat):(fS a b)[j]?=some (a+(j:Int)):=by
 unfold fS;rw[bj,nI h];rfl
theorem k0:k∈fS a b↔a<=k/\k<b:=by
 unfold fS;rw[dg];constructor
 ·rintro⟨j,hj,rfl⟩;rw[rH]at hj;omega
 ·rintro⟨h1,h2⟩;exact⟨(k-a).toNat,rH.mpr ∅,∅⟩
theorem Au:(r,k)∈As s s' n↔r<n/\(load s r).1<=k/\k<(load s' r).1:=by
 unfold As qr;rw[List.mem_flatMap];constructor
 ·rintro⟨q,hq,h⟩;obtain⟨j,hj,e⟩:=dg.mp h;cases e;exact⟨rH.mp hq,k0.mp hj⟩
 ·rintro⟨h1,h2⟩;exact⟨r,rH.mpr h1,dg.mpr ⟨k,k0.mpr h2,rfl⟩⟩
theorem tX{B:Nat}:∀{n:Nat},(∀r,r<n->(load s' r).1-(load s r).1<=B)->(As s s' n).length<=n*B
 | 0,_=>lr _
 | n+1,h=>by
  rw[wA,cC,Nat.add_mul];have h1:=tX (n:=n) λr hr=>h r ∅;have h2:=h n ∅;unfold qr;rw[aB,kZ];omega
def tY(F:Fn):Prop:=∀(M:ak)(f:Fm)(N N':Nat)(s s':Sd),cN f->bR f N s->bR f N' s'->N<=900->N'<=900->(∀r,r<f.ro.length->(load s' r).1-(load s r).1<=900)->aV (F [du s,du s'] M) λr M'=>∃n,r=.d (.aj n)/\M.length<=n/\M'[n]?=some (.lst ((As s s' f.ro.length).map PX))/\Ex M M'
theorem OX:tY (ar G 5 FK):=by
 intro M f N N' s s' hf hs Gq hN hN' hd;have h8:=hf.l8;rw[bF];show dX G FK [some (.tup [.tup (s.st.map D.int),.tup (s.ld.map iX)]),some (.tup [.tup (s'.st.map D.int),.tup (s'.ld.map iX)]),none,none,none] M _ _ _ _;nofun;refine⟨s0,?_⟩;nofun;have hl:((s.ld.map iX).length:Int).toNat=f.ro.length:=by rw[jr,aB,hs.ll]
 refine⟨⟨∅,by rw[aB,hs.ll];omega⟩,?_⟩;rw[hl];refine f_ (n:=f.ro.length) (λi ρ M'=>∃o3 o4,ρ=[some (.tup [.tup (s.st.map D.int),.tup (s.ld.map iX)]),some (.tup [.tup (s'.st.map D.int),.tup (s'.ld.map iX)]),some (.aj M.length),o3,o4]/\M'[M.length]?=some (.lst ((As s s' i).map PX))/\Ex M M') ⟨_,_,rfl,ao,(Ex.refl M).app⟩ ?_ ?_
 ·rintro i ρ M' hi ⟨o3,o4,rfl,hL,fr⟩;obtain⟨e1,l1⟩:=hs.Ci hi;obtain⟨e2,l2⟩:=Gq.Ci hi;rw[show(0:Int)+(i:Int)=((i:Nat):Int) by omega];nofun;rw[oW e1];nofun;rw[oW e2];nofun;have b1:=l1.s;have b2:=l2.s;have b3:=hd i hi;refine⟨⟨∅,∅,∅,∅⟩,?_⟩;refine f_ (n:=((load s' i).1-(load s i).1).toNat) (λj ρ M'=>∃o4,ρ=[some (.tup [.tup (s.st.map D.int),.tup (s.ld.map iX)]),some (.tup [.tup (s'.st.map D.int),.tup (s'.ld.map iX)]),some (.aj M.length),some (.int i),o4]/\M'[M.length]?=some (.lst ((As s s' i++(qr s s' i).take j).map PX))/\Ex M M') ⟨_,rfl,by rw[w6,lq];exact hL,fr⟩ ?_ ?_
  ·rintro j ρ M2 hj ⟨o4,rfl,rh,mN⟩;have hb:=tX (s:=s) (s':=s') (B:=900) (n:=i) λr hr=>hd r ∅
   have By:((qr s s' i).take j).length<=900:=by
    rw[gW];unfold qr;rw[aB,kZ];omega
   have Y_:i*900<=8*900:=GC _ ∅;nofun;refine⟨bf rh,?_⟩;nofun;refine⟨s2,?_⟩;nofun;rw[bQ rh (FN (by rw[aB,cC];omega))];refine⟨_,rfl,?_,Fr.set mN (aI _)⟩
   have hat:(qr s s' i)[j]?=some (i,(load s i).1+(j:Int)):=by
    unfold qr;rw[bj,JJ hj];rfl
   rw[aK rh,bD hat,<- rC,eA (l₂:=[_])];rfl
  ·rintro ρ M2 ⟨o4,rfl,rh,mN⟩;refine⟨_,_,rfl,?_,mN⟩;rw[wA];rw[K9 (by unfold qr;rw[aB,kZ];exact aI _)]at rh;exact rh
 ·rintro ρ M' ⟨o3,o4,rfl,hL,fr⟩;nofun;exact⟨_,rfl,aI _,hL,fr⟩
theorem FO(hf:cN f)(hs:bR f N s)(hd:dY f d)(hc:cn f s d=true)(hr:r<f.ro.length):(load (cy f s d) r).1-(load s r).1<=(N+3:Nat):=by
 obtain⟨h1,h2⟩:=pF hf hs hd hc r;have h3:=((hs.cy hf hd hc).Ci hr).2.n;have h4:=lu List.length h2;rw[cC,kZ]at h4;unfold cT at h4;rw[aB,aB]at h4;omega
def Lb(s:Sd)(i j:Nat):Lm:=λr k=>if (r<i/\k∈cT (load s r))\/(r=i/\k∈(cT (load s i)).take j) then some (none,none) else none
theorem gh.lb0:gh [] (Lb s 0 0):=gh.nil.congr λr k=>by
 unfold Lb;rw[az];rintro(h | h)
 ·omega
 ·rw[w6]at h;cases h.2
theorem gh.lbp(h:gh ah (Lb s i j))(e:(cT (load s i))[j]?=some k):gh (cR ah (k2 i k) (Ck (none,none))) (Lb s i (j+1)):=(h.put i k (none,none)).congr λr' k'=>by
 unfold putL Lb;rw[bD e];by_cases hc:i=r'/\k=k'
 ·obtain⟨rfl,rfl⟩:=hc;rw[aw ⟨rfl,rfl⟩,aw (.inr ⟨rfl,cj.mpr (.inr dC)⟩)]
 ·rw[az hc];by_cases h2:(r'<i/\k'∈cT (load s r'))\/(r'=i/\k'∈(cT (load s i)).take j)
  ·rw[aw h2,aw (h2.imp_right λz=>⟨z.1,cj.mpr (.inl z.2)⟩)]
  ·rw[az h2,az];rintro(z | ⟨z1,z2⟩)
   ·exact h2 (.inl z)
   ·rcases cj.mp z2 with z | z
    ·exact h2 (.inr ⟨z1,z⟩)
    ·exact hc ⟨z1.symm,(gj.mp z).symm⟩
theorem gh.lbn(h:gh ah (Lb s i j))(e:(cT (load s i)).length<=j):gh ah (Lb s (i+1) 0):=h.congr λr k=>by
 unfold Lb;rw[K9 e,w6];by_cases h2:(r<i/\k∈cT (load s r))\/(r=i/\k∈cT (load s i))
 ·rw[aw h2,aw];rcases h2 with z | ⟨rfl,z⟩
  ·exact .inl ⟨∅,z.2⟩
  ·exact .inl ⟨∅,z⟩
 ·rw[az h2,az];rintro(⟨z1,z2⟩|⟨_,z⟩)
  ·rcases ir r i with q | q
   ·exact h2 (.inl ⟨q,z2⟩)
   ·have:r=i:=∅;subst this;exact h2 (.inr ⟨rfl,z2⟩)
  ·cases z
theorem gh.lbe(h:gh ah (Lb s f.ro.length 0)):gh ah (L0 f s):=h.congr λr k=>by
 unfold Lb L0;by_cases h2:r<f.ro.length/\k∈cT (load s r)
 ·rw[aw (.inl h2),aw h2]
 ·rw[az h2,az];rintro(z | ⟨_,z⟩)
  ·exact h2 z
  ·rw[w6]at z;cases z
noncomputable def Ls(L:Lm)(i:Nat)(ps:List (Nat×Int)):Lm:=λr k=>if (r,k)∈ps then some (some i,none) else L r k
theorem gh.ls0(h:gh ah L):gh ah (Ls L i []):=h.congr λr k=>by
 unfold Ls;rw[az (by simp)]
theorem gh.lsp(h:gh ah (Ls L i ps)):gh (cR ah (k2 r k) (Ck (some i,none))) (Ls L i (ps++[(r,k)])):=(h.put r k (some i,none)).congr λr' k'=>by
 unfold putL Ls;by_cases hc:r=r'/\k=k'
 ·obtain⟨rfl,rfl⟩:=hc;rw[aw ⟨rfl,rfl⟩,aw (cj.mpr (.inr dC))]
 ·rw[az hc];by_cases h2:(r',k')∈ps
  ·rw[aw h2,aw (cj.mpr (.inl h2))]
  ·rw[az h2,az];intro z;rcases cj.mp z with z | z
   ·exact h2 z
   ·have:=gj.mp z;cases this;exact hc ⟨rfl,rfl⟩
theorem wB(hs:bR f N s)(h:¬r<f.ro.length):load s r=(0,[]):=by
 unfold load;rw[iC,jo (by rw[hs.ll];omega)];rfl
theorem gh.lse(hs:bR f N s)(Gq:bR f N' s')(h:gh ah (Ls L i (As s s' f.ro.length))):gh ah (OV s s' i L):=h.congr λr k=>by
 unfold Ls OV;by_cases h2:(load s r).1<=k/\k<(load s' r).1
 ·rw[aw h2,aw (Au.mpr ⟨?_,h2⟩)];rcases ir r f.ro.length with q | q
  ·exact q
  ·rw[wB hs ∅,wB Gq ∅]at h2;have:=h2.1;have:=h2.2;omega
 ·rw[az h2,az (λz=>h2 (Au.mp z).2)]
def pJ(F:Fn):Prop:=∀(M:ak)(f:Fm)(N:Nat)(s:Sd)(ds:List Dn)(n:Nat),cN f->bR f N s->N+3*ds.length<=890->ds.length<=60->dZ f s ds->M[n]?=some (.lst (ds.map df))->aV (F [dO f,du s,.aj n] M) λr M'=>∃n' ah,r=.d (.aj n')/\M.length<=n'/\M'[n']?=some (.dT ah)/\gh ah (eW f s ds ds.length)/\Ex M M'
def FP(gC:Nat):List S:=[.bE [11] .seq [(.call gC [(.ae 7),(.sub (.ae 9) (.ai (.int 0)))])] [.dput (.ae 3) (.ae 11) (.tup [(.ae 8),(.ai .aR)])],.asg [7] (.sub (.ae 9) (.ai (.int 0)))]
theorem JK{r j:Nat}{p:Int×Str}(h:(load s r).2[j]?=some p):(cT (load s r))[j]?=some p.1:=by
 unfold cT;rw[bj,h];rfl
theorem FQ{l:Int×List (Int×Str)}:(cT l).length=l.2.length:=by unfold cT;rw[aB]
theorem TH(hM:M[n]?=some (.dT ah))(hl:ah.length<=1000000):ik (.d (.aj n)) (.d (PX (r,k))) d M=.ok () (M.set n (.dT (cR ah (k2 r k) d))):=Ar hM hl
theorem JL(hB:tY (G gC))(hf:cN f)(hs:bR f N s)(hN:N+3<=900)(hd:dY f d)(hc:cn f s d=true)(hL:M[nL]?=some (.dT ah))(hk:ah.length<=500000)(hr:gh ah (kY d i L))(hx:Ex M0 M)(hl:M0.length<=nL){nx:En->ak->Prop}{rt:W->ak->Prop}{bk ct:En->ak->Prop}(hn:∀M' yR fN,M'[nL]?=some (.dT yR)->yR.length<=ah.length+7200->gh yR (PV f s d i L)->Fr nL M M'->nx [e0,e1,e2,some (.aj nL),o4,o5,o6,some (du (cy f s d)),some (.int i),some (.tup [du (cy f s d),w]),fM,fN] M'):dX G (FP gC) [e0,e1,e2,some (.aj nL),o4,o5,o6,some (du s),some (.int i),some (.tup [du (cy f s d),w]),fM,fN] M nx rt bk ct:=by
 have h8:=hf.l8;have Gq:=hs.cy hf hd hc;have qc:∀r,r<f.ro.length->(load (cy f s d) r).1-(load s r).1<=900:=λr hr=>by have:=FO hf hs hd hc hr;omega
 have x9:=tX (s:=s) (s':=cy f s d) (B:=900) (n:=f.ro.length) qc;have h89:f.ro.length*900<=8*900:=GC _ h8;nofun;refine(hB M f N (N+3) s (cy f s d) hf hs Gq ∅ hN qc).imp ?_;rintro r M1 ⟨n1,rfl,BJ,yO,f1⟩;have JH:=Ex.get f1 hL;have lL:=ay hL;nofun;rw[d_ yO];refine B_ (n:=n1) (ds:=(As s (cy f s d) f.ro.length).map PX) (λj ρ M'=>∃fN PY,ρ=[e0,e1,e2,some (.aj nL),o4,o5,o6,some (du s),some (.int i),some (.tup [du (cy f s d),w]),fM,fN]/\M'[n1]?=some (.lst ((As s (cy f s d) f.ro.length).map PX))/\M'[nL]?=some (.dT PY)/\PY.length<=ah.length+j/\gh PY (Ls (kY d i L) i ((As s (cy f s d) f.ro.length).take j))/\Fr nL M M') (by rintro j ρ M' ⟨_,_,_,h,_⟩;exact h) ⟨_,ah,rfl,yO,JH,aI _,hr.ls0,Fr.back (Fr.refl nL M) f1 (.inl (aI _))⟩ ?_ ?_
 ·rintro j ρ M2 dd cu ⟨fN,PY,rfl,zf,rh,PH,Gi,mN⟩;rw[bj]at cu
  cases e:(As s (cy f s d) f.ro.length)[j]? with
  | none=>rw[e]at cu;cases cu
  | some p =>
   rw[e]at cu;cases cu;have hj:=(bq.mp e).1;obtain⟨r,k⟩:=p;nofun;refine⟨s2,?_⟩;nofun;rw[TH rh ∅];refine⟨_,_,rfl,au zf ∅,aK rh,dr jk ∅,?_,Fr.Oe mN⟩;rw[bD e];exact Gi.lsp
 ·rintro ρ M2 ⟨fN,PY,rfl,zf,rh,PH,Gi,mN⟩;rw[aB]at PH Gi;rw[jO]at Gi;nofun;exact hn M2 PY _ rh ∅ (Gi.lse hs Gq) mN
theorem FR{dR pH gC:Nat}(hW:pw (G dR))(hS:yN (G pH))(hB:tY (G gC)):pJ (ar G 12 (wu dR pH gC)):=by
 intro M f N s ds n hf hs hN Cm hr hn;have h8:=hf.l8;rw[bF];show dX G (wu dR pH gC) [some (.tup [.tup (f.ru.map Cf),.tup (f.ro.map Ad)]),some (du s),some (.aj n),none,none,none,none,none,none,none,none,none] M _ _ _ _;have hl:((f.ro.map Ad).length:Int).toNat=f.ro.length:=by rw[jr,aB]
 have lM:=ay hn;nofun;refine⟨⟨∅,by rw[aB];omega⟩,?_⟩;rw[hl];refine f_ (n:=f.ro.length) (λi ρ M'=>∃o4 o5 o6 ah,ρ=[some (dO f),some (du s),some (.aj n),some (.aj M.length),o4,o5,o6,none,none,none,none,none]/\M'[M.length]?=some (.dT ah)/\ah.length<=i*N/\gh ah (Lb s i 0)/\Ex M M') ⟨_,_,_,[],rfl,ao,lr _,gh.lb0,(Ex.refl M).app⟩ ?_ ?_
 ·rintro i ρ M1 hi ⟨o4,o5,o6,ah,rfl,hL,hk,hR,fr⟩;have hiN:i*N<=8*890:=CQ ∅ ∅;obtain⟨e1,l1⟩:=hs.Ci hi;have ln:=l1.n;rw[show(0:Int)+(i:Int)=((i:Nat):Int) by omega];nofun;refine(hW M1 f N s i hs hi).imp ?_;rintro o M2 ⟨rfl,rfl⟩;nofun;refine gf (ds:=(load s i).2.map pD) (λj ρ M'=>∃o5 o6 kv,ρ=[some (dO f),some (du s),some (.aj n),some (.aj M.length),some (.int i),o5,o6,none,none,none,none,none]/\M'[M.length]?=some (.dT kv)/\kv.length<=i*N+j/\gh kv (Lb s i j)/\Ex M M') ⟨_,_,ah,rfl,hL,hk,hR,fr⟩ ?_ ?_
  ·rintro j ρ M2 dd cu ⟨o5,o6,kv,rfl,rh,PH,Va,mN⟩;rw[bj]at cu
   cases e:(load s i).2[j]? with
   | none=>rw[e]at cu;cases cu
   | some p =>
    rw[e]at cu;cases cu;have hj:=(bq.mp e).1;obtain⟨k,c⟩:=p;nofun;refine⟨s2,?_⟩;nofun;refine⟨s2,?_⟩;nofun;rw[Ar rh ∅];exact⟨_,_,_,rfl,aK rh,dr jk ∅,Va.lbp (JK e),Fr.set mN (aI _)⟩
  ·rintro ρ M2 ⟨o5,o6,kv,rfl,rh,PH,Va,mN⟩;rw[aB]at PH Va;exact⟨_,_,_,kv,rfl,rh,by rw[Nat.add_mul];omega,Va.lbn (by rw[FQ];exact aI _),mN⟩
 ·rintro ρ M1 ⟨o4,o5,o6,ah,rfl,hL,hk,hR,fr⟩;have hR:=hR.lbe;have yO:=Ex.get fr hn;have hkN:f.ro.length*N<=8*890:=CQ h8 ∅;nofun;refine(hS M1 f N s ds n hf hs hN hr yO).imp ?_;rintro o M2 ⟨n2,rfl,Cu,zf,f2⟩;have lM1:=fr.1;have lL:=ay hL;have rh:=Ex.get f2 hL;nofun;rw[yM zf];refine pB (n:=n2) (ds:=(tr f s ds).map PR) (λi ρ M'=>∃o4 o5 o6 o8 o9 fM fN ah,ρ=[some (dO f),some (du s),some (.aj n),some (.aj M.length),o4,o5,o6,some (du (fin f s (ds.take i))),o8,o9,fM,fN]/\M'[n2]?=some (.lst ((tr f s ds).map PR))/\M'[M.length]?=some (.dT ah)/\ah.length<=8000+7201*i/\gh ah (eW f s ds i)/\Ex M M') (by rintro i ρ M' ⟨_,_,_,_,_,_,_,_,_,h,_⟩;exact h) ⟨_,_,_,_,_,_,_,ah,rfl,zf,rh,∅,hR,Ex.trans fr f2⟩ ?_ ?_ (pC zf)
  ·rintro i ρ M3 dd cu ⟨o4,o5,o6,o8,o9,fM,fN,ah,rfl,OY,An,WU,OZ,kl⟩;rw[bj]at cu
   cases e:(tr f s ds)[i]? with
   | none=>rw[e]at cu;cases cu
   | some x =>
    rw[e]at cu;cases cu;have hx:=KS e;have hi:=(bq.mp e).1;rw[tU]at hi;have ed:ds[i]?=some ds[i]:=bx hi;obtain⟨k1,k2⟩:=i4 hr ed;have X8:=Aq hf hs hr i ∅;have hLn:=gT (f:=f) (s:=s) ed;rw[pI ed]at hx;have X9:=pI (f:=f) (s:=s) ed;have TJ:=bR.fin hf hs (gR (i:=i) hr);have PU:(ds.take i).length=i:=by rw[gW];omega
    rw[PU]at TJ;have X_:=Ex.get kl hn;have BY:(ds.map df)[i]?=some (df ds[i]):=by rw[bj,ed];rfl
    obtain⟨t,m,wd⟩:=x;have hx:t=cy f (fin f s (ds.take i)) ds[i]:=hx;subst hx;generalize hgd:ds[i]=d at *
    have Cn:∀(M4:ak)(kv:Kv)(fM fN:Option D),M4[M.length]?=some (.dT kv)->kv.length<=8001+7201*i->gh kv (kY d i (eW f s ds i))->M4[n2]?=some (.lst ((tr f s ds).map PR))->Ex M M4->∀rt bk ct,dX G (FP gC) [some (dO f),some (du s),some (.aj n),some (.aj M.length),o4,o5,o6,some (du (fin f s (ds.take i))),some (.int i),some (.tup [du (cy f (fin f s (ds.take i)) d),OM m wd]),fM,fN] M4 (λρ M'=>∃o4 o5 o6 o8 o9 fM fN ah,ρ=[some (dO f),some (du s),some (.aj n),some (.aj M.length),o4,o5,o6,some (du (fin f s (ds.take (i+1)))),o8,o9,fM,fN]/\M'[n2]?=some (.lst ((tr f s ds).map PR))/\M'[M.length]?=some (.dT ah)/\ah.length<=8000+7201*(i+1)/\gh ah (eW f s ds (i+1))/\Ex M M') rt bk ct:=by
     intro M4 kv fM fN h1 h2 h3 h4 h5 rt bk ct;refine JL hB hf TJ ∅ k1 k2 h1 ∅ h3 h5 (aI _) ?_;intro M5 kv5 fN g1 g2 g3 g4;rw[X9,hLn];exact⟨_,_,_,_,_,_,_,kv5,rfl,g4.get h4 ∅,g1,∅,g3,Fr.back h5 g4 (.inl (aI _))⟩
    nofun;rw[cb X_ BY];nofun
    cases d with
    | own m =>
     nofun;rw[bG cw aL,yB];exact Cn M3 ah _ _ An ∅ OZ OY kl _ _ _
    | dJ m c =>
     nofun;rw[bG cF aL,we];exact Cn M3 ah _ _ An ∅ OZ OY kl _ _ _
    | bu r k =>
     have hd:=X8 r k k1 (kX k2).1;obtain⟨x,hx⟩:=uh.mp hd;have hg:de ah (Ev.k2 r k)=some (Ck x):=by rw[OZ.gt,hx];rfl
     nofun;rw[bG aL aL,tL];nofun;refine⟨s2,?_⟩;nofun;rw[KY (OW An) hg];nofun;refine⟨s2,?_⟩;nofun;rw[Ar An ∅];refine Cn (M3.set M.length (.dT (cR ah (Ev.k2 r k) (Ck (x.1,some i))))) _ _ _ (aK An) (dr jk ∅) ?_ (au OY ∅) (Fr.set kl (aI _)) _ _ _;have:=OZ.put r k (x.1,some i);show gh _ (putL (eW f s ds i) r k (((eW f s ds i r k).getD (none,none)).1,some i));rw[hx];exact this
  ·rintro ρ M3 ⟨o4,o5,o6,o8,o9,fM,fN,ah,rfl,OY,An,WU,OZ,kl⟩;rw[aB,tU]at OZ;nofun;exact⟨_,ah,rfl,aI _,An,OZ,kl⟩
abbrev TK:=List (Int×List (Int×Str))
def ma(l:Int×List (Int×Str)):D:=.int l.1
def Yb:D->Option D
 | .tup (x::_)=>some x
 | _=>none
theorem Av:∀ld:TK,(ld.map iX).filterMap Yb=ld.map ma
 | []=>rfl
 | l::ld=>by
  show D.int l.1::(ld.map iX).filterMap Yb=_;rw[Av ld];rfl
theorem yS{ld:TK}{r:Nat}(h:r<ld.length):(ld.map ma)[r]?=some (.int (ld.getD r (0,[])).1):=by
 rw[bj,iC,bx h];rfl
theorem Aw:cutD [a,b,c] (some 1) none=[b,c]:=rfl
def Gr(f:Fm)(ds:List Dn):List Nat:=ds.map (mc f)
def Vb(f:Fm)(ds:List Dn)(i:Nat):D:=.tup [.int (mc f (ds.getD i (.own 0))),.int ((Gr f (ds.take i)).count (mc f (ds.getD i (.own 0))):Nat)]
def uf(f:Fm)(ds:List Dn)(i:Nat):List D:=(List.range i).map (Vb f ds)
def mO(f:Fm)(ds:List Dn)(i:Nat):List D:=(List.range f.ru.length).map λm=>D.int ((Gr f (ds.take i)).count m:Nat)
theorem FT:uf f ds (i+1)=uf f ds i++[Vb f ds i]:=by
 unfold uf;rw[CP,eA];rfl
theorem tZ:(uf f ds i).length=i:=by unfold uf;rw[aB,mI]
theorem t5(h:m<f.ru.length):(mO f ds i)[m]?=some (.int ((Gr f (ds.take i)).count m:Nat)):=by
 unfold mO;rw[bj,nI h];rfl
theorem nv:(mO f ds i).length=f.ru.length:=by unfold mO;rw[aB,mI]
theorem FU{ds:List Dn}{i:Nat}(e:ds[i]?=some d):Gr f (ds.take (i+1))=Gr f (ds.take i)++[mc f d]:=by
 unfold Gr;rw[bD e,eA];rfl
theorem FV{ds:List Dn}{i:Nat}(e:ds[i]?=some d):(mO f ds i).set (mc f d) (.int (((Gr f (ds.take i)).count (mc f d):Nat)+1:Int))=mO f ds (i+1):=by
 refine AM λm=>?_;rw[Ll,nv];by_cases hm:m<f.ru.length
 ·rw[t5 hm,t5 hm,FU e,List.count_append];by_cases z:mc f d=m
  ·subst z;rw[aw rfl,aw hm,List.count_singleton_self];rfl
  ·rw[az z,List.count_singleton,az (by simpa using z)];rfl
 ·have h1:(mO f ds i)[m]?=none:=jo (by rw[nv];omega);have h2:(mO f ds (i+1))[m]?=none:=jo (by rw[nv];omega);rw[h1,h2];by_cases z:mc f d=m
  ·rw[aw z,az ∅]
  ·rw[az z]
theorem FW:(f.ru.map Cf).filterMap (λ_=>some (D.int 0))=mO f ds 0:=by
 unfold mO;rw[w6,List.filterMap_map];show f.ru.filterMap (λ_=>some (D.int 0))=(List.range f.ru.length).map λm=>D.int 0;refine AM λj=>?_;rw[show(λ_:Int×List Mv=>some (D.int 0))=some∘(λ_=>D.int 0) from rfl,List.filterMap_eq_map,bj,bj];rcases ir j f.ru.length with h | h
 ·rw[nI h,bx h];rfl
 ·rw[jo (l:=f.ru) h,jo (l:=List.range f.ru.length) (by rw[mI];exact h)];rfl
theorem TL(e:ds[i]?=some d):Vb f ds i=.tup [.int (mc f d),.int ((Gr f (ds.take i)).count (mc f d):Nat)]:=by
 unfold Vb;rw[iC,e];rfl
inductive O0 (M:ak) (ds:List Dn):D->Prop where
 | l {n:Nat} (h:M[n]?=some (.lst (ds.map df))):O0 M ds (.aj n)
 | t:O0 M ds (.tup (ds.map df))
def t6(F:Fn):Prop:=∀(M:ak)(f:Fm)(ds:List Dn)(x:D),cN f->(∀d∈ds,dY f d)->ds.length<=60->O0 M ds x->aV (F [dO f,x] M) λr M'=>∃n',r=.d (.aj n')/\M.length<=n'/\M'[n']?=some (.lst (uf f ds ds.length))/\Ex M M'
noncomputable def O1(gO:Nat):List S:=[.asg [5] (.call gO [(.ae 0),(.ae 4)]),.expr (.me .append (.ae 3) [(.tup [(.ae 5),(.sub (.ae 2) (.ae 5))])]),.put (.ae 2) (.ae 5) (.bin .add (.sub (.ae 2) (.ae 5)) (.ai (.int 1)))]
theorem JM(hM:mz (G gO)):t6 (ar G 6 (Ao gO)):=by
 intro M f ds x hf hd Cm hx;have h4:=hf.l4;rw[bF];show dX G (Ao gO) [some (.tup [.tup (f.ru.map Cf),.tup (f.ro.map Ad)]),some x,none,none,none,none] M _ _ _ _;nofun;refine qV (ds:=f.ru.map Cf) (λ_=>some (.int 0)) (by decide) o_ (fJ (by rw[aB];omega)) ?_ ?_ rfl
 ·intro j M' dd cu fr;nofun;exact⟨rfl,fr⟩
 intro M1 f1;rw[FW (ds:=ds)];nofun;refine⟨s0,?_⟩;nofun;have lM:=f1.1;have hC:(M1++[MO.lst (mO f ds 0)]++[MO.lst []])[M1.length]?=some (.lst (mO f ds 0)):=aD ao;have hE:(M1++[MO.lst (mO f ds 0)]++[MO.lst []])[(M1++[MO.lst (mO f ds 0)]).length]?=some (.lst (uf f ds 0)):=ao;have fr:Ex M (M1++[MO.lst (mO f ds 0)]++[MO.lst []]):=Fr.app (Fr.app f1);have mj:M1.length≠(M1++[MO.lst (mO f ds 0)]).length:=by rw[cC];simp
 have hle:M.length<=(M1++[MO.lst (mO f ds 0)]).length:=by rw[cC];omega
 generalize (M1++[MO.lst (mO f ds 0)]).length=nE at hE mj hle⊢;generalize M1++[MO.lst (mO f ds 0)]++[MO.lst []]=M2 at hC hE fr⊢;generalize M1.length=nC at hC mj lM⊢
 have step:∀(i:Nat)(ρ:En)(M':ak)(dd:D)(rt:W->ak->Prop)(bk:En->ak->Prop),(ds.map df)[i]?=some dd->(∃o4 o5,ρ=[some (dO f),some x,some (.aj nC),some (.aj nE),o4,o5]/\M'[nC]?=some (.lst (mO f ds i))/\M'[nE]?=some (.lst (uf f ds i))/\Ex M M')->Gn (b_ [4] dd ρ) λρ=>dX G (O1 gO) ρ M' (λρ M'=>∃o4 o5,ρ=[some (dO f),some x,some (.aj nC),some (.aj nE),o4,o5]/\M'[nC]?=some (.lst (mO f ds (i+1)))/\M'[nE]?=some (.lst (uf f ds (i+1)))/\Ex M M') rt bk (λρ M'=>∃o4 o5,ρ=[some (dO f),some x,some (.aj nC),some (.aj nE),o4,o5]/\M'[nC]?=some (.lst (mO f ds (i+1)))/\M'[nE]?=some (.lst (uf f ds (i+1)))/\Ex M M'):=by
  rintro i ρ M3 dd rt bk cu ⟨o4,o5,rfl,Mp,JN,kl⟩;rw[bj]at cu
  cases e:ds[i]? with
  | none=>rw[e]at cu;cases cu
  | some d =>
   rw[e]at cu;cases cu;have hi:=(bq.mp e).1;have Zw:=hd d (dw e);have hm:=Zw.mc hf;nofun;refine(hM M3 f d hf Zw).imp ?_;rintro r M4 ⟨rfl,rfl⟩;nofun;refine⟨bf JN,?_⟩;nofun;rw[cb Mp (t5 hm)];nofun;refine⟨s2,?_⟩;nofun;rw[bQ JN (aO (by rw[tZ];omega))];have zi:(M3.set nE (.lst (uf f ds i++[.tup [.int (mc f d),.int ((Gr f (ds.take i)).count (mc f d):Nat)]])))[nC]?=some (.lst (mO f ds i)):=au Mp mj;nofun;rw[cb zi (t5 hm)];nofun;rw[jg zi (by rw[nv];exact hm),FV e];refine⟨_,_,rfl,aK zi,au ?_ (dh mj),Fr.set (Fr.set kl hle) lM⟩;rw[aK JN,FT,TL e]
 cases hx with
 | l h =>
  rename_i n
  have TM:n≠nC/\n≠nE:=by have:=ay h;omega
  have h2:=Ex.get fr h;rw[d_ h2];refine B_ (n:=n) (ds:=ds.map df) (λi ρ M'=>∃o4 o5,ρ=[some (dO f),some (.aj n),some (.aj nC),some (.aj nE),o4,o5]/\M'[nC]?=some (.lst (mO f ds i))/\M'[nE]?=some (.lst (uf f ds i))/\Ex M M') (by rintro i ρ M' ⟨_,_,_,_,_,h3⟩;exact Ex.get h3 h) ⟨_,_,rfl,hC,hE,fr⟩ (λi ρ M' dd h1 h2=>step i ρ M' dd _ _ h1 h2) ?_;rintro ρ M3 ⟨o4,o5,rfl,Mp,JN,kl⟩;rw[aB]at JN;nofun;exact⟨_,rfl,hle,JN,kl⟩
 | t =>
  refine gf (ds:=ds.map df) (λi ρ M'=>∃o4 o5,ρ=[some (dO f),some (.tup (ds.map df)),some (.aj nC),some (.aj nE),o4,o5]/\M'[nC]?=some (.lst (mO f ds i))/\M'[nE]?=some (.lst (uf f ds i))/\Ex M M') ⟨_,_,rfl,hC,hE,fr⟩ (λi ρ M' dd h1 h2=>step i ρ M' dd _ _ h1 h2) ?_;rintro ρ M3 ⟨o4,o5,rfl,Mp,JN,kl⟩;rw[aB]at JN;nofun;exact⟨_,rfl,hle,JN,kl⟩
theorem FX(h1:jx M (.d (.aj a))=some P)(h2:jx M (.d (.aj b))=some P)(hs:SeqAt.shaped P=true):bh .ne (.d (.aj a)) (.d (.aj b)) M=.ok false M/\bh .eq (.d (.aj a)) (.d (.aj b)) M=.ok true M:=by
 have hc:P.canLay0=true:=by
  unfold SeqAt.shaped at hs;exact((aU _ _).mp hs).1
 have hr:PyData.eqv P P=true:=SeqAt.eqv_refl _ hc;constructor
 ·unfold bh;simp only[h1,h2,hs,jQ,eP,hr];rfl
 ·unfold bh;simp only[h1,h2,hs,jQ,eP,hr]
theorem FY{n:Nat}{ds:List Dn}(hM:M[n]?=some (.lst (ds.map df))):jx M (.d (.aj n))=some (.list (ds.map Ak)):=by
 show dD M 30 (.aj n)=_;unfold dD;simp only[hM];rw[yI (by decide) ds];rfl
theorem mf:∀{i r:Nat}{k:Int}{x:Option Nat×Option Nat},eW f s ds i r k=some x->(∀a,x.1=some a->a<i)/\∀a,x.2=some a->a<i
 | 0,r,k,x,h=>by
  have h:(if r<f.ro.length/\k∈cT (load s r) then some (none,none) else none:Option (Option Nat×Option Nat))=some x:=h;split at h
  ·cases h;exact⟨λa z=>(by cases z),λa z=>(by cases z)⟩
  ·cases h
 | i+1,r,k,x,h=>by
  cases e:ds[i]? with
  | none =>
   have q:eW f s ds (i+1)=eW f s ds i:=by
    show(match ds[i]? with
     | some d=>PV f (fin f s (ds.take i)) d i (eW f s ds i)
     | none=>eW f s ds i)=_
    rw[e]
   rw[q]at h;obtain⟨h1,h2⟩:=mf h;exact⟨λa z=>jq (h1 a z),λa z=>jq (h2 a z)⟩
  | some d =>
   rw[gT e]at h
   have pO:∀ {r k x},eW f s ds i r k=some x->(∀a,x.1=some a->a<i+1)/\∀a,x.2=some a->a<i+1:=λ{r k x} h=>by
    obtain⟨h1,h2⟩:=mf h;exact⟨λa z=>jq (h1 a z),λa z=>jq (h2 a z)⟩
   have h:(if (load (fin f s (ds.take i)) r).1<=k/\k<(load (cy f (fin f s (ds.take i)) d) r).1 then some (some i,none) else kY d i (eW f s ds i) r k)=some x:=h;split at h
   ·cases h;exact⟨λa z=>(by cases z;omega),λa z=>(by cases z)⟩
   ·cases d with
    | own m=>exact pO h
    | dJ m c=>exact pO h
    | bu q n =>
     have h:(if q=r/\n=k then some (((eW f s ds i q n).getD (none,none)).1,some i) else eW f s ds i r k)=some x:=h;split at h
     ·cases h;refine⟨λa z=>?_,λa z=>(by cases z;omega)⟩
      cases w:eW f s ds i q n with
      | none=>rw[w]at z;cases z
      | some y=>rw[w]at z;exact(pO w).1 a z
     ·exact pO h
theorem is_list(h:M[n]?=some (.lst ds)):kc (.xJ .list) [.d (.aj n)] M=.ok (.d (.bl true)) M:=by
 unfold kc HP;simp only[h];rfl
def eQ(M:ak)(n:Nat)(ah:Kv):ak:=M.set n (.dF ah)
theorem O2(h:dZ f s ds):∀d∈ds,dY f d:=λd hd=>by
 obtain⟨i,hi,rfl⟩:=rn.mp hd;exact(i4 h (bx hi)).1
end Ev
end
section
namespace Ev
open PySem
def Ax(k8:Nat)(k_:Nat):List S:=[.asg [3] (.call k8 [(.ae 0),(.ae 1),(.ae 2)]),.fR 4 (.comp .seq [(.ae 2)] [1] none (.lst []) [none,none]),.asg [5] (.u5 [] []),.bE [6,7] .enum [(.call k_ [(.ae 0),(.ae 2)])] [.iff (.val (.cmp .isin (.sub (.ae 7) (.ai (.int 0))) (.ae 5))) [.expr (.me .append (.sub (.ae 4) (.ae 6)) [(.sub (.ae 5) (.sub (.ae 7) (.ai (.int 0))))])] [],.put (.ae 5) (.sub (.ae 7) (.ai (.int 0))) (.ae 6)],.bE [8,9] .vals [(.ae 3)] [.iff (.d7 [(.val (.cmp .fj (.ae 8) (.ai .aR))),(.val (.cmp .fj (.ae 9) (.ai .aR)))]) [.expr (.me .append (.sub (.ae 4) (.ae 9)) [(.ae 8)])] []],.ret (.ae 4)]
def wC(gB:Nat)(bB:Nat)(cz:Nat):List S:=[.asg [3] (.u5 [] []),.asg [4] .lI,.asg [5] (.lst []),.bE [6] .eK [(.bi .len [(.ae 2)])] [.asg [7] (.call gB [(.ae 0),(.sub (.ae 2) (.ae 6))]),.asg [8] (.ite (.val (.cmp .isin (.ae 7) (.ae 3))) (.lst [(.sub (.ae 3) (.ae 7))]) (.lst [])),.iff (.d7 [(.val (.cmp .eq (.sub (.sub (.ae 2) (.ae 6)) (.ai (.int 0))) (.ai (.str "come")))),(.val (.gJ false (.pP (.sub (.ae 2) (.ae 6)) (some (.ai (.int 1))) none) (.ae 4)))]) [.expr (.me .append (.ae 8) [(.jY (.ae 4) (.pP (.sub (.ae 2) (.ae 6)) (some (.ai (.int 1))) none))])] [],.expr (.me .append (.ae 5) [(.ae 8)]),.put (.ae 3) (.ae 7) (.ae 6),.asg [9] (.sub (.call bB [(.ae 0),(.ae 1),(.sub (.ae 2) (.ae 6))]) (.ai (.int 1))),.fR 10 (.comp .seq [(.sub (.ae 1) (.ai (.int 1)))] [1] none (.sub (.ae 1) (.ai (.int 0))) [none,none]),.bE [11,12] .seq [(.ae 9)] [.dput (.ae 4) (.tup [(.ae 11),(.sub (.ae 10) (.ae 11))]) (.ae 6),.put (.ae 10) (.ae 11) (.bin .add (.sub (.ae 10) (.ae 11)) (.ai (.int 1)))],.asg [1] (.sub (.call cz [(.ae 0),(.ae 1),(.sub (.ae 2) (.ae 6))]) (.ai (.int 0)))],.ret (.ae 5)]
noncomputable def Ay:List S:=[.asg [1] (.lst []),.bE [2] .eK [(.bi .len [(.ae 0)])] [.asg [3] (.lst []),.asg [4] (.bi .list1 [(.sub (.ae 0) (.ae 2))]),.Gm 1000 (.val (.cmp .ne (.ae 4) (.lst []))) [.asg [5] (.me .pop (.ae 4) []),.iff (.val (.cmp .eN (.ae 5) (.ae 3))) [.expr (.me .append (.ae 3) [(.ae 5)]),.asg [4] (.bin .add (.ae 4) (.sub (.ae 0) (.ae 5)))] []],.expr (.me .append (.ae 1) [(.bi .ox [(.ae 3)])])],.ret (.ae 1)]
end Ev
end
section
namespace Ev
open L2
open PySem PySem.Spec PyProof.Rows
section
variable (A:Nat->List Nat) (mA cA:Nat->Nat)
inductive rl:Nat->Nat->Prop where
 | one {i j:Nat} (h:j∈A i):rl i j
 | more {i o j:Nat} (h:o∈A i) (r:rl o j):rl i j
noncomputable def tk:Nat->Nat->Nat->Nat
 | 0,_,_=>0
 | f+1,i,m=>if m=mA i then cA i+1 else (A i).foldl (λa o=>max a (tk f o m)) 0
def Tk(i m:Nat):Nat:=tk A mA cA (i+1) i m
end
section
variable {A:Nat->List Nat} {mA cA:Nat->Nat}
theorem rl.lt(hA:∀i j,j∈A i->j<i)(h:rl A i j):j<i:=by
 induction h with
 | one h=>exact hA _ _ h
 | more h _ ih=>have:=hA _ _ h;omega
theorem rl.inv(h:rl A i j):∃o∈A i,j=o\/rl A o j:=by
 cases h with
 | one h=>exact⟨j,h,.inl rfl⟩
 | more h r=>exact⟨_,h,.inr r⟩
end
def mA(f:Fm)(ds:List Dn)(i:Nat):Nat:=mc f (ds.getD i (.own 0))
def cA(f:Fm)(ds:List Dn)(i:Nat):Nat:=(Gr f (ds.take i)).count (mA f ds i)
theorem TN(e:ds[i]?=some d):mA f ds i=mc f d:=by
 unfold mA;rw[iC,e];rfl
def bC(f:Fm)(ds:List Dn)(m:Nat):Nat->Option Nat
 | 0=>none
 | i+1=>if mA f ds i=m then some i else bC f ds m i
theorem rm:∀{i j:Nat},bC f ds m i=some j->j<i/\mA f ds j=m/\∀k,k<i->mA f ds k=m->k<=j
 | 0,j,h=>by cases h
 | i+1,j,h=>by
  unfold bC at h;by_cases hm:mA f ds i=m
  ·rw[aw hm]at h;cases h;exact⟨∅,hm,λk hk _=>∅⟩
  ·rw[az hm]at h;obtain⟨h1,h2,h3⟩:=rm h;refine⟨∅,h2,λk hk Zx=>?_⟩;rcases ir k i with z | z
   ·exact h3 k z Zx
   ·have:k=i:=∅;subst this;exact absurd Zx hm
def pK(f:Fm)(s:Sd)(ds:List Dn)(i:Nat):Option Nat:=match ds[i]? with
 | some (.bu r k)=>(eW f s ds i r k).bind (·.1)
 | _=>none
def gi(f:Fm)(s:Sd)(ds:List Dn)(i:Nat):List Nat:=(bC f ds (mA f ds i) i).toList++(pK f s ds i).toList
theorem JO(h:pK f s ds i=some j):j<i:=by
 unfold pK at h;split at h
 ·rename_i r k _
  cases e:eW f s ds i r k with
  | none=>rw[e]at h;cases h
  | some x=>rw[e]at h;exact(mf e).1 j h
 ·cases h
theorem gD(i j:Nat)(h:j∈gi f s ds i):j<i:=by
 rcases cj.mp h with z | z
 ·exact(rm (Option.mem_toList.mp z)).1
 ·exact JO (Option.mem_toList.mp z)
theorem Az:(gi f s ds i).length<=2:=by
 unfold gi;rw[cC];have h:∀o:Option Nat,o.toList.length<=1:=λo=>by cases o<;>simp
 have:=h (bC f ds (mA f ds i) i);have:=h (pK f s ds i);omega
theorem FZ(hs:bR f N s)(hr:r<f.ro.length)(h:k∈cT (load s r)):k<(load s r).1:=by
 obtain⟨p,hp,rfl⟩:=dg.mp h;exact((hs.Ci hr).2.p p hp).2.2
theorem JP(h:k∈cT (U_ s d r)):k∈cT (load s r):=by
 cases d with
 | own m=>exact h
 | dJ m c=>exact h
 | bu q n =>
  have h:k∈cT (if q=r then less (load s r) n else load s r):=h;split at h
  ·unfold cT less at h;obtain⟨p,hp,rfl⟩:=dg.mp h;exact dg.mpr ⟨p,(wY.mp hp).1,rfl⟩
  ·exact h
section
variable {f:Fm} (hf:cN f) {N:Nat} {s:Sd} (hs:bR f N s) {ds:List Dn} (hr:dZ f s ds)
include hf hs hr
theorem Yc(e:ds[i]?=some (.bu r k)):∀t,i<t->t<=ds.length->k∉cT (load (fin f s (ds.take t)) r)/\k<(load (fin f s (ds.take t)) r).1:=by
 intro t
 induction t with
 | zero=>intro h;omega
 | succ t ih =>
  intro h1 h2;have et:ds[t]?=some ds[t]:=bx ∅;obtain⟨k1,k2⟩:=i4 hr et;have eL:=bR.fin hf hs (gR (i:=t) hr);obtain⟨m1,m2⟩:=pF hf eL k1 k2 r;rw[pI et];rcases ir i t with z | z
  ·obtain⟨g1,g2⟩:=ih z ∅;refine⟨λq=>?_,∅⟩;rw[m2]at q;rcases cj.mp q with q | q
   ·exact g1 (JP q)
   ·have:=(k0.mp q).1;omega
  ·have:i=t:=∅;subst this;rw[e]at et;have et:=cg et;rw[<- et]at k1 k2 m1 m2⊢;have hk:=FZ eL k1 (kX k2).1;refine⟨λq=>?_,∅⟩;rw[m2]at q;rcases cj.mp q with q | q
   ·have q:k∈cT (if r=r then less (load (fin f s (ds.take i)) r) k else load (fin f s (ds.take i)) r):=q;rw[aw rfl]at q;unfold cT less at q;obtain⟨p,hp,e2⟩:=dg.mp q;have:=(wY.mp hp).2;rw[e2]at this;simp at this
   ·have:=(k0.mp q).1;omega
theorem kept(e:ds[i]?=some (.bu r k)):∀t,i<t->t<=ds.length->eW f s ds t r k=some ((eW f s ds i r k).bind (·.1),some i):=by
 intro t
 induction t with
 | zero=>intro h;omega
 | succ t ih =>
  intro h1 h2;have et:ds[t]?=some ds[t]:=bx ∅;obtain⟨k1,k2⟩:=i4 hr et;have eL:=bR.fin hf hs (gR (i:=t) hr);rw[gT et];rcases ir i t with z | z
  ·obtain⟨g1,g2⟩:=Yc hf hs hr e t z ∅;show(if (load (fin f s (ds.take t)) r).1<=k/\k<(load (cy f (fin f s (ds.take t)) ds[t]) r).1 then some (some t,none) else kY ds[t] t (eW f s ds t) r k)=_;rw[az ∅];have ih:=ih z ∅;generalize ds[t]=d at k1 k2
   cases d with
   | own m=>exact ih
   | dJ m c=>exact ih
   | bu q n =>
    show(if q=r/\n=k then some _ else eW f s ds t r k)=_;rw[az]
    ·exact ih
    ·rintro⟨rfl,rfl⟩;exact g1 (kX k2).1
  ·have:i=t:=∅;subst this;rw[e]at et;have et:=cg et;rw[<- et]at k1 k2⊢;have hk:=FZ eL k1 (kX k2).1;show(if (load (fin f s (ds.take i)) r).1<=k/\k<(load (cy f (fin f s (ds.take i)) (.bu r k)) r).1 then some (some i,none) else (if r=r/\k=k then some (((eW f s ds i r k).getD (none,none)).1,some i) else eW f s ds i r k))=_;rw[az ∅,aw ⟨rfl,rfl⟩]
   cases eW f s ds i r k with
   | none=>rfl
   | some x=>rfl
omit hf hs hr in
theorem Co:∀{t:Nat},eW f s ds t r k=some (a,some c)->ds[c]?=some (.bu r k)
 | 0,h=>by
  have h:(if r<f.ro.length/\k∈cT (load s r) then some (none,none) else none:Option (Option Nat×Option Nat))=some (a,some c):=h;split at h<;>cases h
 | t+1,h=>by
  cases e:ds[t]? with
  | none =>
   have q:eW f s ds (t+1)=eW f s ds t:=by
    show(match ds[t]? with
     | some d=>PV f (fin f s (ds.take t)) d t (eW f s ds t)
     | none=>eW f s ds t)=_
    rw[e]
   rw[q]at h;exact Co h
  | some d =>
   rw[gT e]at h;have h:(if (load (fin f s (ds.take t)) r).1<=k/\k<(load (cy f (fin f s (ds.take t)) d) r).1 then some (some t,none) else kY d t (eW f s ds t) r k)=some (a,some c):=h;split at h
   ·cases h
   ·cases d with
    | own m=>exact Co h
    | dJ m c=>exact Co h
    | bu q n =>
     have h:(if q=r/\n=k then some (((eW f s ds t q n).getD (none,none)).1,some t) else eW f s ds t r k)=some (a,some c):=h;by_cases z:q=r/\n=k
     ·rw[aw z]at h;have e2:some t=some c:=lu Prod.snd (cg h);rw[<- cg e2,e,z.1,z.2]
     ·rw[az z]at h;exact Co h
end
abbrev PZ:=Nat×Int×(Option Nat×Option Nat)
def Yd(t:PZ):List bH×D:=(k2 t.1 t.2.1,Ck t.2.2)
theorem Cp{ah:Kv}(h:(ah.map (·.1)).Nodup){p:List bH×D}(hp:p∈ah):de ah p.1=some p.2:=by
 unfold de
 induction ah with
 | nil=>cases hp
 | cons q ah ih =>
  rw[fO,rG]at h;rw[gX];rcases bU.mp hp with rfl | hp
  ·simp
  ·have:decide (q.1=p.1)=false:=eJ λz=>h.1 (by rw[z];exact dg.mpr ⟨p,hp,rfl⟩);simp only[this];exact ih h.2 hp
theorem gh.typed{ah:Kv}{L:Lm}(h:gh ah L):∃ts:List PZ,ah=ts.map Yd/\ts.Nodup/\∀t,t∈ts↔L t.1 t.2.1=some t.2.2:=by
 obtain⟨ts,e,q⟩:=tJ (toD:=λt:PZ=>D.tup [.int t.1,.int t.2.1,Ck t.2.2]) (ds:=ah.map λp=>D.tup (p.1.map kD++[p.2])) (Q:=λt=>L t.1 t.2.1=some t.2.2) λx hx=>by
  obtain⟨p,hp,rfl⟩:=dg.mp hx;obtain⟨r,k,x,ek,hL⟩:=h.ky p.1 (dg.mpr ⟨p,hp,rfl⟩);refine⟨(r,k,x),?_,hL⟩;have:=Cp h.nd hp;rw[ek,h.gt,hL]at this;have:=cg this;rw[ek,<- this];rfl
 have hk:ah=ts.map Yd:=by
  have hl:ah.length=ts.length:=by have:=lu List.length e;rw[aB,aB]at this;exact this
  refine AM λi=>?_;rcases ir i ah.length with hi | hi
  ·have e1:(ah.map λp=>D.tup (p.1.map kD++[p.2]))[i]?=(ts.map λt:PZ=>D.tup [.int t.1,.int t.2.1,Ck t.2.2])[i]?:=by rw[e]
   rw[bj,bj,bx hi,bx ∅]at e1;have e1:=cg e1;obtain⟨r,k,x,ek,hL⟩:=h.ky ah[i].1 (dg.mpr ⟨ah[i],rF hi,rfl⟩);rw[bj,bx hi,bx ∅];show some ah[i]=some (Yd ts[i]);have e1:D.tup (ah[i].1.map kD++[ah[i].2])=D.tup [.int ts[i].1,.int ts[i].2.1,Ck ts[i].2.2]:=e1;rw[ek]at e1;have e1:D.tup [.int r,.int k,ah[i].2]=D.tup [.int ts[i].1,.int ts[i].2.1,Ck ts[i].2.2]:=e1;simp only[D.tup.injEq,List.cons.injEq,D.int.injEq,and_true]at e1;obtain⟨z1,z2,z3⟩:=e1;have z1:r=ts[i].1:=∅
   congr 1
   refine Prod.ext ?_ z3;rw[ek,z1,z2];rfl
  ·rw[jo hi,jo (by rw[aB];omega)]
 refine⟨ts,hk,?_,λt=>⟨q t,λht=>?_⟩⟩
 ·have:=h.nd;rw[hk,AW]at this;exact(List.pairwise_map.mp this).imp λh e=>h (lu _ e)
 ·have:k2 t.1 t.2.1∈ah.map (·.1):=h.mem.mpr (by rw[ht];rfl);rw[hk,AW]at this;obtain⟨u,hu,eu⟩:=dg.mp this;obtain⟨z1,z2⟩:=yQ (show k2 u.1 u.2.1=k2 t.1 t.2.1 from eu);have h3:=q u hu;rw[z1,z2,ht]at h3;have h3:=cg h3;obtain⟨a,b,c⟩:=t;obtain⟨a',b',c'⟩:=u;have z1:a'=a:=z1;have z2:b'=b:=z2;have h3:c=c':=h3;have:(a,b,c)=(a',b',c'):=by rw[z1,z2,h3]
  rw[this];exact hu
noncomputable def gU(ts:List PZ)(i:Nat):List Nat:=ts.filterMap λt=>match t.2.2 with
 | (some a,some c)=>if c=i then some a else none
 | _=>none
theorem pL{α β:Type}{g:α->Option β}{t0:α}:∀{l:List α},l.Nodup->(∀t∈l,t≠t0->g t=none)->t0∈l->l.filterMap g=(g t0).toList
 | x::l,h,q,m=>by
  rw[rG]at h;rw[lh];by_cases e:x=t0
  ·subst e;rw[List.filterMap_eq_nil_iff.mpr λt ht=>q t (dq _ ht) λz=>h.1 (by rw[<- z];exact ht)];cases g x<;>rfl
  ·rw[q x dC e];refine pL (g:=g) (t0:=t0) h.2 (λt ht=>q t (dq _ ht)) ?_;rcases bU.mp m with z | z
   ·exact absurd z.symm e
   ·exact z
theorem AA{f:Fm}(hf:cN f){N:Nat}{s:Sd}(hs:bR f N s){ds:List Dn}(hr:dZ f s ds){ts:List PZ}(nd:ts.Nodup)(hm:∀t,t∈ts↔eW f s ds ds.length t.1 t.2.1=some t.2.2){i:Nat}(hi:i<ds.length):gU ts i=(pK f s ds i).toList:=by
  have none_of : ∀ t ∈ ts, (∀ r k, ds[i]? = some (.bu r k) -> ¬ (t.1 = r /\ t.2.1 = k)) -> (match t.2.2 with
      | (some a,some c)=>if c=i then some a else none
      | _=>none:Option Nat)=none:=λt ht q=>by
    obtain⟨r,k,a,c⟩:=t
    cases a with
    | none=>rfl
    | some a =>
      cases c with
      | none=>rfl
      | some c =>
        show(if c=i then some a else none)=none;rw[az];rintro rfl;exact q r k (Co ((hm _).mp ht)) ⟨rfl,rfl⟩
  unfold gU pK;split
  · rename_i r k e
    have hk:=kept hf hs hr e ds.length hi (aI _)
    rw[pL (t0:=(r,k,((eW f s ds i r k).bind (·.1),some i))) nd (λt ht ne=>none_of t ht λr' k' e' z=>by
      rw[e]at e';cases e';obtain⟨rfl,rfl⟩:=z;have:=(hm t).mp ht;rw[hk]at this;have:=cg this;obtain⟨a,b,c⟩:=t;have this:_=c:=this;exact ne (by rw[<- this])) ((hm (r,k,((eW f s ds i r k).bind (·.1),some i))).mpr hk)]
    cases (eW f s ds i r k).bind (·.1)with
    | none=>rfl
    | some a=>show(if i=i then some a else none:Option Nat).toList=_;rw[aw rfl]
  · rename_i ne
    rw[List.filterMap_eq_nil_iff.mpr λt ht=>none_of t ht λr k e _=>ne r k e];rfl
abbrev Kn:=List (bH×D)
def KZ(ah:Kn)(l:Nat->Option Nat):Prop:=∀m:Nat,de ah (Sum.inl (m:Int):bH)=(l m).map λn:Nat=>D.int n
theorem KZ.put(h:KZ ah l)(m n:Nat):KZ (cR ah (Sum.inl (m:Int)) (.int n)) λm'=>if m'=m then some n else l m':=λm'=>by
 rw[tW];show _=(if m'=m then some n else l m').map λn:Nat=>D.int n;by_cases e:m'=m
 ·subst e;rw[aw rfl,aw rfl];rfl
 ·rw[az (λz=>e (by have:=Sum.inl.inj z;omega)),az e,h]
theorem K0{n m:Nat}(hM:M[n]?=some (.dK ah))(h:KZ ah l):bh .isin (.d (.int m)) (.d (.aj n)) M=.ok (l m).isSome M:=by
 unfold bh;simp only[show bT M (.d (.aj n))=none by unfold bT;simp only[hM],show iz M (.d (.aj n))=some ah by unfold iz;simp only[hM],show vv (.d (.int m))=some (Sum.inl (m:Int)) from rfl,h m,wV]
theorem F0(hM:M[n]?=some (.dK ah))(h:KZ ah l)(e:l m=some j):dy (.d (.aj n)) (.d (.int m)) M=.ok (.d (.int j)) M:=by
 unfold dy bT;simp only[hM,h m,e,CN]
theorem F1(hM:M[n]?=some (.dK ah))(hl:ah.length<=1000):hU (.d (.aj n)) (.d (.int m)) d M=.ok () (M.set n (.dK (cR ah (Sum.inl (m:Int)) d))):=by
 unfold hU;simp only[hM];rw[aw (aO hl)]
structure Cq (M0 M:ak) (as:List Nat) (g:Nat->List Int):Prop where
 av:∀(r a:Nat),as[r]?=some a->M[a]?=some (.lst ((g r).map D.int))
 bd:∀a∈as,M0.length<=a/\a<M.length
 nd:as.Nodup
 ex:Ex M0 M
theorem Cq.nil(h:Ex M0 M):Cq M0 M [] g:=⟨λr a e=>(by simp at e),λa h=>(by cases h),uo,h⟩
theorem Cq.more{M0 M M1:ak}{as:List Nat}{g:Nat->List Int}(h:Cq M0 M as g)(f:Ex M M1):Cq M0 M1 as g:=⟨λr a e=>Ex.get f (h.av r a e),λa ha=>⟨(h.bd a ha).1,gF (h.bd a ha).2 f.1⟩,h.nd,Ex.trans h.ex f⟩
theorem Cq.snoc(h:Cq M0 M as g)(ha:M[a]?=some (.lst ((g as.length).map D.int)))(h0:M0.length<=a)(hn:a∉as):Cq M0 M (as++[a]) g:=by
 refine⟨λr b e=>?_,λb hb=>?_,?_,h.ex⟩
 ·rcases ir r as.length with z | z
  ·rw[jn z]at e;exact h.av r b e
  ·rw[mD z]at e
   have hr:r=as.length:=by
    have:=(bq.mp e).1;simp only[jt,w4]at this;omega
   subst hr;simp at e;subst e;exact ha
 ·rcases cj.mp hb with z | z
  ·exact h.bd b z
  ·rw[gj.mp z];exact⟨h0,ay ha⟩
 ·rw[uj];exact⟨h.nd,by simp,λx hx y hy e=>hn (by rw[<- gj.mp hy,<- e];exact hx)⟩
theorem Cq.new(h:Cq M0 M as g):Cq M0 (M++[MO.lst ((g as.length).map D.int)]) (as++[M.length]) g :=
 (h.more (Fr.app (Ex.refl M))).snoc ao h.ex.1 λz=>by have:=(h.bd _ z).2;omega
def jI(l:List Nat):List Int:=l.map λj:Nat=>(j:Int)
def jm(F:Fn):Prop:=∀(M:ak)(f:Fm)(N:Nat)(s:Sd)(ds:List Dn)(n:Nat),cN f->bR f N s->N+3*ds.length<=890->ds.length<=60->dZ f s ds->M[n]?=some (.lst (ds.map df))->aV (F [dO f,du s,.aj n] M) λr M'=>∃n' as,r=.d (.aj n')/\as.length=ds.length/\pG M' n' as (λi=>jI (gi f s ds i))/\(∀a∈as,M.length<=a)/\Ex M M'
theorem TQ(h:M[n]?=some (.dT ah)):iB .vals [.d (.aj n)] M=.ok (.items (ah.map (·.2))) (M.set n (.dF ah)):=by
 unfold iB;simp only[h]
theorem JQ(hL:pJ (G k8))(hE:t6 (G k_)):jm (ar G 10 (Ax k8 k_)):=by
 intro M f N s ds n hf hs hN Cm hr hn
 have Ye:∀d∈ds,dY f d:=λd hd=>by
  obtain⟨i,hi,rfl⟩:=rn.mp hd;exact(i4 hr (bx hi)).1
 rw[bF];show dX G (Ax k8 k_) [some (dO f),some (du s),some (.aj n),none,none,none,none,none,none,none] M _ _ _ _;nofun;refine(hL M f N s ds n hf hs hN Cm hr hn).imp ?_;rintro r M1 ⟨nL,ah,rfl,BJ,JH,hR,f1⟩;have yO:=Ex.get f1 hn;have lL:=ay JH;nofun;rw[d_ yO];refine iW (ds:=ds.map df) (λi M' acc=>∃as:List Nat,acc=as.map D.aj/\as.length=i/\Cq M1 M' as (λ_=>[])) (by decide) (λi M' acc ⟨as,_,_,h⟩ hi=>pb yO M' h.ex i hi) ⟨[],rfl,rfl,Cq.nil (Ex.refl M1)⟩ ?_ ?_ (ql yO)
 ·rintro i M' acc dd cu ⟨as,rfl,u7,hv⟩;have hi:=(bq.mp cu).1;rw[aB]at hi;refine⟨aO (by rw[aB];omega),?_⟩;nofun;refine⟨s0,?_⟩;nofun;exact⟨as++[M'.length],by rw[eA];rfl,by rw[cC,u7];rfl,hv.new⟩
 rintro M2 acc ⟨as,rfl,u7,hv⟩;rw[aB]at u7;nofun;refine⟨rfl,?_⟩;nofun;have su:=hv.bd;have Yg:=hv.ex.1;have mN:Ex M M2:=Ex.trans f1 hv.ex;have rh:=Ex.get hv.ex JH;have zf:=Ex.get hv.ex yO;have Pt:(M2++[MO.lst (as.map D.aj)]++[MO.dK []])[(M2++[MO.lst (as.map D.aj)]).length]?=some (.dK []):=ao;have JR:pG (M2++[MO.lst (as.map D.aj)]++[MO.dK []]) M2.length as (λ_=>[]):=⟨aD ao,hv.nd,λz=>by have:=(su _ z).2;omega,λr a e=>aD (aD (hv.av r a e))⟩;have An:(M2++[MO.lst (as.map D.aj)]++[MO.dK []])[nL]?=some (.dT ah):=aD (aD rh);have OY:(M2++[MO.lst (as.map D.aj)]++[MO.dK []])[n]?=some (.lst (ds.map df)):=aD (aD zf);have kl:Ex M (M2++[MO.lst (as.map D.aj)]++[MO.dK []]):=Fr.app (Fr.app mN);have ln:(M2++[MO.lst (as.map D.aj)]).length=M2.length+1:=by rw[cC];rfl
 rw[ln]at Pt⊢;show aV (G k_ [dO f,.aj n] (M2++[MO.lst (as.map D.aj)]++[MO.dK []])) _;generalize M2++[MO.lst (as.map D.aj)]++[MO.dK []]=M3 at Pt JR An OY kl⊢;refine(hE M3 f ds (.aj n) hf Ye Cm (.l OY)).imp ?_;rintro r M4 ⟨nE,rfl,hlE,Yh,f4⟩;have lM3:=ay Pt;nofun;rw[yM Yh];refine pB (n:=nE) (ds:=uf f ds ds.length) (λi ρ M'=>∃o6 o7 kv,ρ=[some (dO f),some (du s),some (.aj n),some (.aj nL),some (.aj M2.length),some (.aj (M2.length+1)),o6,o7,none,none]/\M'[nE]?=some (.lst (uf f ds ds.length))/\pG M' M2.length as (λj=>jI (if j<i then (bC f ds (mA f ds j) j).toList else []))/\M'[M2.length+1]?=some (.dK kv)/\kv.length<=i/\KZ kv (λm=>bC f ds m i)/\M'[nL]?=some (.dT ah)/\Ex M M') (by rintro i ρ M' ⟨_,_,_,_,h,_⟩;exact h) ⟨_,_,[],rfl,Yh,(JR.ex f4).to λr _=>by rw[az (Nat.not_lt_zero r)];rfl,Ex.get f4 Pt,aI _,λm=>rfl,Ex.get f4 An,Ex.trans kl f4⟩ ?_ ?_ (pC Yh)
 ·rintro i ρ M5 dd cu ⟨o6,o7,kv,rfl,Yi,wD,TR,hk5,P0,KW,mh⟩;have hi:=(bq.mp cu).1;rw[tZ]at hi
  have he:dd=.tup [.int (mA f ds i),.int (cA f ds i)]:=by
   unfold uf at cu;rw[bj,nI hi]at cu;exact(cg cu).symm
  subst he;obtain⟨a,ea,es,JS⟩:=wD.sub (r:=i) ∅;have ba:=su a (dw ea);rw[az (ki i)]at JS
  have Cn:∀(M6:ak)(g:Nat->List Int),pG M6 M2.length as g->(∀j,j<as.length->g j=jI (if j<i+1 then (bC f ds (mA f ds j) j).toList else []))->M6[nE]?=some (.lst (uf f ds ds.length))->M6[M2.length+1]?=some (.dK kv)->M6[nL]?=some (.dT ah)->Ex M M6->∀rt bk ct,dX G [.put (.ae 5) (.sub (.ae 7) (.ai (.int 0))) (.ae 6)] [some (dO f),some (du s),some (.aj n),some (.aj nL),some (.aj M2.length),some (.aj (M2.length+1)),some (.int i),some (.tup [.int (mA f ds i),.int (cA f ds i)]),none,none] M6 (λρ M'=>∃o6 o7 kv,ρ=[some (dO f),some (du s),some (.aj n),some (.aj nL),some (.aj M2.length),some (.aj (M2.length+1)),o6,o7,none,none]/\M'[nE]?=some (.lst (uf f ds ds.length))/\pG M' M2.length as (λj=>jI (if j<i+1 then (bC f ds (mA f ds j) j).toList else []))/\M'[M2.length+1]?=some (.dK kv)/\kv.length<=i+1/\KZ kv (λm=>bC f ds m (i+1))/\M'[nL]?=some (.dT ah)/\Ex M M') rt bk ct:=by
   intro M6 g h1 h2 h3 h4 h5 h6 rt bk ct;nofun;rw[F1 h4 ∅];refine⟨_,_,_,rfl,au h3 ∅,?_,aK h4,dr jk ∅,?_,au h5 ∅,Fr.set h6 ∅⟩
   ·have h1:=h1.to h2;exact⟨au h1.at' ∅,h1.nd,h1.na,λr b e=>au (h1.av r b e) (by have:=su b (dw e);omega)⟩
   ·have:=P0.put (mA f ds i) i;refine λm=>(this m).trans ?_;show Option.map _ (if m=mA f ds i then some i else bC f ds m i)=Option.map _ (if mA f ds i=m then some i else bC f ds m i);by_cases z:m=mA f ds i
    ·rw[aw z,aw z.symm]
    ·rw[az z,az (dh z)]
  nofun;rw[K0 TR P0]
  cases hl:bC f ds (mA f ds i) i with
  | none =>
   refine Cn M5 _ wD (λj hj=>?_) Yi TR KW mh _ _ _;rcases GI j i with z | z | z
   ·rw[aw z,aw ∅]
   ·subst z;rw[az (ki j),aw ∅,hl];rfl
   ·rw[az ∅,az ∅]
  | some j0 =>
   nofun;rw[es];nofun;refine⟨bf JS,?_⟩;nofun;rw[F0 TR P0 hl];nofun;rw[bQ JS (aO (by simp[jI]))];refine Cn (M5.set a (.lst ((jI [j0]).map D.int))) _ (wD.upd ea (jI [j0])) (λj hj=>?_) (au Yi ∅) (au TR ∅) (au KW ∅) (Fr.set mh ∅) _ _ _;by_cases z:j=i
   ·subst z;rw[aw rfl,aw ∅,hl];rfl
   ·rw[az z];rcases ir j i with y | y
    ·rw[aw y,aw ∅]
    ·rw[az ∅,az ∅]
 ·rintro ρ M5 ⟨o6,o7,kv,rfl,Yi,wD,TR,hk5,P0,KW,mh⟩;rw[tZ]at wD;obtain⟨ts,ets,Zy,Yj⟩:=hR.typed
  have wD:pG M5 M2.length as (λj=>jI ((bC f ds (mA f ds j) j).toList++gU (ts.take 0) j)):=wD.to λj hj=>by
   rw[aw ∅,w6];show _=jI (_++[]);rw[lq]
  nofun;rw[TQ KW];have F2:pG (M5.set nL (.dF ah)) M2.length as (λj=>jI ((bC f ds (mA f ds j) j).toList++gU (ts.take 0) j)):=⟨au wD.at' ∅,wD.nd,wD.na,λr b e=>au (wD.av r b e) (by have:=su b (dw e);omega)⟩;have evl:ah.map (·.2)=ts.map λt=>Ck t.2.2:=by rw[ets,AW];rfl
  rw[evl];refine gf (ds:=ts.map λt=>Ck t.2.2) (λi ρ M'=>∃o5 o6 o7 o8 o9,ρ=[some (dO f),some (du s),some (.aj n),some (.aj nL),some (.aj M2.length),o5,o6,o7,o8,o9]/\pG M' M2.length as (λj=>jI ((bC f ds (mA f ds j) j).toList++gU (ts.take i) j))/\Ex M M') ⟨_,_,_,_,_,rfl,F2,Fr.set mh ∅⟩ ?_ ?_
  ·rintro i ρ M6 dd cu ⟨o5,o6,o7,o8,o9,rfl,F2,yj⟩;rw[bj]at cu
   cases e:ts[i]? with
   | none=>rw[e]at cu;cases cu
   | some t =>
    rw[e]at cu;cases cu;have htm:=(Yj t).mp (dw e);obtain⟨q,k,a,c⟩:=t
    have Zz:∀j,gU (ts.take (i+1)) j=gU (ts.take i) j++gU [(q,k,a,c)] j:=λj=>by
     unfold gU;rw[bD e,List.filterMap_append]
    have keep:(∀j,gU [(q,k,a,c)] j=[])->pG M6 M2.length as (λj=>jI ((bC f ds (mA f ds j) j).toList++gU (ts.take (i+1)) j)):=λh=>F2.to λj _=>by rw[Zz,h,lq]
    cases a with
    | none=>exact⟨_,_,_,_,_,rfl,keep λj=>rfl,yj⟩
    | some a =>
     cases c with
     | none=>exact⟨_,_,_,_,_,rfl,keep λj=>rfl,yj⟩
     | some c =>
      have hc:=(bq.mp (Co htm)).1;obtain⟨b,eb,es,ZA⟩:=F2.sub (r:=c) ∅;have bb:=su b (dw eb)
      have aY:((bC f ds (mA f ds c) c).toList++gU (ts.take i) c).length<=1000:=by
       have h1:∀o:Option Nat,o.toList.length<=1:=λo=>by cases o<;>simp
       have h2:=h1 (bC f ds (mA f ds c) c);have h3:=AA hf hs hr Zy Yj hc
       have h4:(gU (ts.take i) c).length<=(gU ts c).length:=by
        unfold gU;exact((Lh i ts).filterMap _).length_le
       rw[h3]at h4;have h5:=h1 (pK f s ds c);rw[cC];omega
      have es:dy (.d (.aj M2.length)) (.d (oD (q,k,some a,some c).2.2.2)) M6=.ok (.d (.aj b)) M6:=es;nofun;rw[es];nofun;refine⟨bf ZA,?_⟩;nofun;rw[bQ ZA (aO (by unfold jI;rw[aB,aB];exact aY))];have hu:=F2.upd eb (jI ((bC f ds (mA f ds c) c).toList++gU (ts.take i) c++[a]));refine⟨_,_,_,_,_,rfl,?_,Fr.set yj ∅⟩
      have e1:(jI ((bC f ds (mA f ds c) c).toList++gU (ts.take i) c)).map D.int++[D.int a]=(jI ((bC f ds (mA f ds c) c).toList++gU (ts.take i) c++[a])).map D.int:=by
       unfold jI;rw[eA (l₂:=[a]),eA (l₂:=[a].map _)];rfl
      rw[show [oD (q,k,some a,some c).2.2.1]=[D.int a] from rfl,e1];refine hu.to λj hj=>?_;rw[Zz];rw[show gU [(q,k,some a,some c)] j=if c=j then [a] else [] by by_cases z:c=j<;>simp[gU,z]];by_cases z:j=c
      ·subst z;rw[aw rfl,aw rfl,rC]
      ·rw[az z,az (dh z),lq]
  ·rintro ρ M6 ⟨o5,o6,o7,o8,o9,rfl,F2,yj⟩;rw[aB,jO]at F2;nofun;refine⟨_,as,rfl,u7,F2.to λj hj=>?_,λa ha=>dr f1.1 (su a ha).1,yj⟩;rw[AA hf hs hr Zy Yj ∅];rfl
def T(f:Fm)(s:Sd)(ds:List Dn)(i m:Nat):Nat:=Tk (gi f s ds) (mA f ds) (cA f ds) i m
def Gs(ah:Kv)(S:Nat->Int->Option Nat):Prop:=∀r k,de ah (k2 r k)=(S r k).map λn:Nat=>D.int n
theorem Gs.put{ah:Kv}{S:Nat->Int->Option Nat}(h:Gs ah S)(r:Nat)(k:Int)(n:Nat):Gs (cR ah (k2 r k) (.int n)) λr' k'=>if r=r'/\k=k' then some n else S r' k':=λr' k'=>by
 rw[tW];show _=(if r=r'/\k=k' then some n else S r' k').map λn:Nat=>D.int n;by_cases hc:r=r'/\k=k'
 ·obtain⟨rfl,rfl⟩:=hc;rw[aw rfl,aw ⟨rfl,rfl⟩];rfl
 ·rw[az hc,az (λz=>hc (yQ z)),h]
theorem Gs.congr{ah:Kv}{S S':Nat->Int->Option Nat}(h:Gs ah S)(e:∀r k,S r k=S' r k):Gs ah S':=λr k=>by rw[<- e];exact h r k
def Sq(s:Sd)(ld:TK)(i:Nat)(S:Nat->Int->Option Nat):Nat->Int->Option Nat:=λr k=>if (load s r).1<=k/\k<(ld.getD r (0,[])).1 then some i else S r k
theorem Gs.q0{ah:Kv}{s:Sd}{ld:TK}{i:Nat}{S:Nat->Int->Option Nat}(h:Gs ah S)(e:∀r,(ld.getD r (0,[])).1=(load s r).1):Gs ah (Sq s ld i S):=h.congr λr k=>by
 unfold Sq;rw[e,az ∅]
theorem Gs.qp{ah:Kv}{s:Sd}{ld:TK}{i r:Nat}{c:Str}{S:Nat->Int->Option Nat}(h:Gs ah (Sq s ld i S))(hr:r<ld.length)(hm:(load s r).1<=(ld.getD r (0,[])).1):Gs (cR ah (k2 r (ld.getD r (0,[])).1) (.int i)) (Sq s (ld.set r (more (ld.getD r (0,[])) c)) i S):=(h.put r (ld.getD r (0,[])).1 i).congr λr' k'=>by
 unfold Sq;rw[pE hr];by_cases hc:r=r'/\(ld.getD r (0,[])).1=k'
 ·obtain⟨rfl,rfl⟩:=hc;rw[aw ⟨rfl,rfl⟩,aw rfl,aw ⟨hm,by show _<(ld.getD r (0,[])).1+1;omega⟩]
 ·rw[az hc];by_cases S0:r=r'
  ·subst S0;rw[aw rfl];have hk:(ld.getD r (0,[])).1≠k':=λz=>hc ⟨rfl,z⟩;by_cases h2:(load s r).1<=k'/\k'<(ld.getD r (0,[])).1
   ·rw[aw h2,aw ⟨h2.1,by show _<(ld.getD r (0,[])).1+1;omega⟩]
   ·rw[az h2,az];rintro⟨z1,z2⟩;have z2:k'<(ld.getD r (0,[])).1+1:=z2;exact h2 ⟨z1,∅⟩
  ·rw[az S0]
def O3(f:Fm)(s:Sd)(ds:List Dn)(i:Nat):Nat->Int->Option Nat:=λr k=>(eW f s ds i r k).bind (·.1)
theorem F3(e:ds[i]?=some d)(r:Nat)(k:Int):Sq (fin f s (ds.take i)) (cy f (fin f s (ds.take i)) d).ld i (O3 f s ds i) r k=O3 f s ds (i+1) r k:=by
 unfold O3;rw[gT e];show(if (load (fin f s (ds.take i)) r).1<=k/\k<(load (cy f (fin f s (ds.take i)) d) r).1 then some i else (eW f s ds i r k).bind (·.1))=(if (load (fin f s (ds.take i)) r).1<=k/\k<(load (cy f (fin f s (ds.take i)) d) r).1 then some (some i,none) else kY d i (eW f s ds i) r k).bind (·.1);split
 ·rfl
 ·cases d with
  | own m=>rfl
  | dJ m c=>rfl
  | bu q n =>
   show _=(if q=r/\n=k then some (((eW f s ds i q n).getD (none,none)).1,some i) else eW f s ds i r k).bind (·.1);by_cases z:q=r/\n=k
   ·rw[aw z];obtain⟨rfl,rfl⟩:=z;cases eW f s ds i q n<;>rfl
   ·rw[az z]
def t7(bB cz:Nat):List S:=[.asg [9] (.sub (.call bB [(.ae 0),(.ae 1),(.sub (.ae 2) (.ae 6))]) (.ai (.int 1))),.fR 10 (.comp .seq [(.sub (.ae 1) (.ai (.int 1)))] [1] none (.sub (.ae 1) (.ai (.int 0))) [none,none]),.bE [11,12] .seq [(.ae 9)] [.dput (.ae 4) (.tup [(.ae 11),(.sub (.ae 10) (.ae 11))]) (.ae 6),.put (.ae 10) (.ae 11) (.bin .add (.sub (.ae 10) (.ae 11)) (.ai (.int 1)))],.asg [1] (.sub (.call cz [(.ae 0),(.ae 1),(.sub (.ae 2) (.ae 6))]) (.ai (.int 0)))]
theorem JT{G:dN}{bB cz:Nat}(hA:l9 (G bB))(hO:mB (G cz)){M:ak}{f:Fm}{N:Nat}{s:Sd}{ds:List Dn}{d:Dn}{i n nL:Nat}{S:Nat->Int->Option Nat}{ah:Kv}{e3 e5 o7 o8 o9 fM fN mC:Option D}(hf:cN f)(hs:bR f N s)(hN:N+3<=900)(hd:dY f d)(hc:cn f s d=true)(he:ds[i]?=some d)(hn:M[n]?=some (.lst (ds.map df)))(hL:M[nL]?=some (.dT ah))(hk:ah.length<=500000)(hr:Gs ah S){nx:En->ak->Prop}{rt:W->ak->Prop}{bk ct:En->ak->Prop}(hx:∀M' yR o9 fM fN mC,M'[nL]?=some (.dT yR)->yR.length<=ah.length+3->Gs yR (Sq s (cy f s d).ld i S)->Fr nL M M'->nx [some (dO f),some (du (cy f s d)),some (.aj n),e3,some (.aj nL),e5,some (.int i),o7,o8,o9,fM,fN,mC] M'):dX G (t7 bB cz) [some (dO f),some (du s),some (.aj n),e3,some (.aj nL),e5,some (.int i),o7,o8,o9,fM,fN,mC] M nx rt bk ct:=by
 have h8:=hf.l8;have BY:(ds.map df)[i]?=some (df d):=by rw[bj,he];rfl
 have Yk:=pA hc;have ax:=wc hf hs hd Yk;have JU:n≠nL:=λz=>by rw[z,hL]at hn;cases hn
 have lL:=ay hL;have ln:=ay hn;show dX G (t7 bB cz) [some (dO f),some (.tup [.tup (s.st.map D.int),.tup (s.ld.map iX)]),some (.aj n),e3,some (.aj nL),e5,some (.int i),o7,o8,o9,fM,fN,mC] M nx rt bk ct;nofun;rw[cb hn BY];nofun;refine(hA M f N s d hf hs ∅ hd).imp ?_;rintro o M0 ⟨f0,rfl⟩;rw[Yk];have ZC:yL f s d=((yL f s d).1,(yL f s d).2.1,(yL f s d).2.2):=rfl;have eL:cy f s d=⟨s.st.set (mc f d) (yL f s d).1,cP (cY s.ld d) (yL f s d).2.1⟩:=rfl;have XY:=ax.l;have ZD:=ax.sd;generalize m_:(yL f s d).2.1=sd at ZC eL XY ZD;rw[ZC];nofun;have X_:=Ex.get f0 hn;have hL0:=Ex.get f0 hL;refine qV (ds:=s.ld.map iX) Yb (by decide) o_ (fJ (by rw[aB,hs.ll];omega)) ?_ ?_ rfl
 ·intro j M' dd cu fr;obtain⟨l,hl,rfl⟩:=dg.mp (dw cu);nofun;exact⟨rfl,fr⟩
 intro M1 f1;rw[Av];nofun;have Kj:(M1++[MO.lst (s.ld.map ma)])[M1.length]?=some (.lst (s.ld.map ma)):=ao;have yO:(M1++[MO.lst (s.ld.map ma)])[n]?=some (.lst (ds.map df)):=aD (Ex.get f1 X_);have JH:(M1++[MO.lst (s.ld.map ma)])[nL]?=some (.dT ah):=aD (Ex.get f1 hL0);have PK:Ex M (M1++[MO.lst (s.ld.map ma)]):=Fr.app (Ex.trans f0 f1);have lM0:=f0.1;have lM:=f1.1;generalize M1++[MO.lst (s.ld.map ma)]=M2 at Kj yO JH PK⊢;generalize hnc:M1.length=nC at Kj⊢
 have e1:s.ld.map ma=(cY s.ld d).map ma:=by
  cases d with
  | own m=>rfl
  | dJ m c=>rfl
  | bu q k =>
   have hq:q<s.ld.length:=by rw[hs.ll];exact hd
   show _=(s.ld.set q (less (s.ld.getD q (0,[])) k)).map ma;rw[AX];refine(AM λj=>?_);rw[Ll];by_cases z:q=j
   ·subst z;rw[aw rfl,aw (by rw[aB];exact hq),yS hq];rfl
   ·rw[az z]
 have e2:∀r,((cY s.ld d).getD r (0,[])).1=(load s r).1:=λr=>by
  rw[(yP hs hd r).1]
  cases d with
  | own m=>rfl
  | dJ m c=>rfl
  | bu q k =>
   show(if q=r then less (load s r) k else load s r).1=_;split<;>rfl
 have rg:(cY s.ld d).length=f.ro.length:=by rw[(yP hs hd 0).2,hs.ll]
 have hb:∀p∈sd,0<=p.1/\p.1.toNat<(cY s.ld d).length:=λp hp=>by
  obtain⟨_,h2,x,h3,_⟩:=ZD p hp;refine⟨h2,?_⟩;rw[rg];exact(bq.mp h3).1
 rw[e1]at Kj;refine gf (ds:=sd.map pD) (λj ρ M'=>∃fN mC kv,ρ=[some (dO f),some (du s),some (.aj n),e3,some (.aj nL),e5,some (.int i),o7,o8,some (.tup (sd.map pD)),some (.aj nC),fN,mC]/\M'[nL]?=some (.dT kv)/\M'[nC]?=some (.lst ((cP (cY s.ld d) (sd.take j)).map ma))/\kv.length<=ah.length+j/\Gs kv (Sq s (cP (cY s.ld d) (sd.take j)) i S)/\M'[n]?=some (.lst (ds.map df))/\Fr nL M M') ⟨_,_,ah,rfl,JH,Kj,aI _,hr.q0 e2,yO,Fr.back (Fr.refl nL M) PK (.inl (aI _))⟩ ?_ ?_
 ·rintro j ρ M4 dd cu ⟨fN,mC,kv,rfl,KU,zi,Pq,P1,Jl,kR⟩;rw[bj]at cu
  cases e:sd[j]? with
  | none=>rw[e]at cu;cases cu
  | some p =>
   rw[e]at cu;cases cu;have hj:=(bq.mp e).1;obtain⟨b0,b1⟩:=hb p (dw e);obtain⟨r,c⟩:=p;obtain⟨r,rfl⟩:∃q:Nat,r=q:=⟨r.toNat,∅⟩;have b1:r<(cY s.ld d).length:=by simpa using b1
   obtain⟨m1,_,m3⟩:=l_ (sd.take j) (cY s.ld d) r λq hq=>hb q (rq hq);rw[e2]at m1;have TU:r<(cP (cY s.ld d) (sd.take j)).length:=by rw[m3];exact b1
   have wJ:nC≠nL:=λz=>by rw[z,KU]at zi;cases zi
   have TM:=l0 (ld:=cY s.ld d) (sd:=sd.take j) (p:=((r:Int),c));rw[<- bD e]at TM;have TM:cP (cY s.ld d) (sd.take (j+1))=(cP (cY s.ld d) (sd.take j)).set r (more ((cP (cY s.ld d) (sd.take j)).getD r (0,[])) c):=TM;rw[TM];generalize cP (cY s.ld d) (sd.take j)=ld at zi P1 m1 TU;nofun;rw[cb zi (yS TU)];nofun;refine⟨s2,?_⟩;nofun;rw[Ar KU ∅];have Mq:(M4.set nL (.dT (cR kv (k2 r (ld.getD r (0,[])).1) (.int i))))[nC]?=some (.lst (ld.map ma)):=au zi wJ;nofun;rw[cb Mq (yS TU)];nofun;rw[jg Mq (by rw[aB];exact TU)];refine⟨_,_,_,rfl,au (aK KU) (dh wJ),?_,dr jk ∅,P1.qp TU m1,au (au Jl JU) ∅,Fr.set (Fr.Oe kR) ∅⟩;rw[aK Mq,AX];rfl
 ·rintro ρ M4 ⟨fN,mC,kv,rfl,KU,zi,Pq,P1,Jl,kR⟩;rw[aB]at Pq P1;rw[jO]at P1;nofun;rw[cb Jl BY];nofun;refine(hO M4 f N s d _ hf hs ∅ hd Yk).imp ?_;rintro o M5 ⟨f5,rfl⟩;have KW:=Ex.get f5 KU;refine hx M5 kv _ _ _ _ KW ∅ ?_ (Fr.back kR f5 (.inl kR.1));rw[eL];exact P1
theorem TV{M:ak}{n r:Nat}{ah:Kv}{k:Int}{S:Nat->Int->Option Nat}(hM:M[n]?=some (.dT ah))(h:Gs ah S):jE false (.d (.tup [.int r,.int k])) (.d (.aj n)) M=.ok (.d (.bl (S r k).isSome)) M:=by
 unfold jE;simp only[OW hM,show xO (.d (.tup [.int r,.int k]))=some (k2 r k) from rfl,h r k,wV];cases (S r k).isSome<;>rfl
def O4(bB cz:Nat):List S:=.expr (.me .append (.ae 5) [(.ae 8)])::.put (.ae 3) (.ae 7) (.ae 6)::t7 bB cz
def TX(bB cz:Nat):List S:=.iff (.d7 [(.val (.cmp .eq (.sub (.sub (.ae 2) (.ae 6)) (.ai (.int 0))) (.ai (.str "come")))),(.val (.gJ false (.pP (.sub (.ae 2) (.ae 6)) (some (.ai (.int 1))) none) (.ae 4)))]) [.expr (.me .append (.ae 8) [(.jY (.ae 4) (.pP (.sub (.ae 2) (.ae 6)) (some (.ai (.int 1))) none))])] []::O4 bB cz
structure JV (f:Fm) (s:Sd) (ds:List Dn) (n b:Nat) (M M':ak) (i:Nat) (kv:Kn) (ah:Kv) (as:List Nat):Prop where
 n:M'[n]?=some (.lst (ds.map df))
 a:M'[b]?=some (.dK kv)
 al:kv.length<=i
 ad:KZ kv λm=>bC f ds m i
 c:M'[b+1]?=some (.dT ah)
 cl:ah.length<=3*i
 cs:Gs ah (O3 f s ds i)
 d:M'[b+2]?=some (.lst (as.map D.aj))
 dl:as.length=i
 dv:∀(r a:Nat),as[r]?=some a->M'[a]?=some (.lst ((jI (gi f s ds r)).map D.int))
 db:∀a∈as,b+2<a
 nd:as.Nodup
 ex:Ex M M'
theorem JV.more{f:Fm}{s:Sd}{ds:List Dn}{n b:Nat}{M M' M2:ak}{i:Nat}{kv:Kn}{ah:Kv}{as:List Nat}(h:JV f s ds n b M M' i kv ah as)(e:Ex M' M2):JV f s ds n b M M2 i kv ah as :=
 ⟨Ex.get e h.n,Ex.get e h.a,h.al,h.ad,Ex.get e h.c,h.cl,h.cs,Ex.get e h.d,h.dl,λr a q=>Ex.get e (h.dv r a q),h.db,h.nd,Ex.trans h.ex e⟩
theorem F4(Tj:mz (G gB))(hA:l9 (G bB))(hO:mB (G cz)):jm (ar G 13 (wC gB bB cz)):=by
 intro M f N s ds n hf hs hN Cm hr hn;rw[bF];show dX G (wC gB bB cz) [some (dO f),some (du s),some (.aj n),none,none,none,none,none,none,none,none,none,none] M _ _ _ _;have lM:=ay hn;nofun;refine⟨rfl,?_⟩;nofun;refine⟨s0,?_⟩;nofun;have l1:(M++[MO.dK []]).length=M.length+1:=by rw[cC];rfl
 have l2:(M++[MO.dK []]++[MO.dT []]).length=M.length+2:=by rw[cC,l1];rfl
 have hI:JV f s ds n M.length M (M++[MO.dK []]++[MO.dT []]++[MO.lst []]) 0 [] [] []:=⟨aD (aD (aD hn)),aD (aD ao),aI _,λm=>rfl,by rw[<- l1];exact aD ao,aI _,λr k=>by
  show none=Option.map _ (Option.bind (if r<f.ro.length/\k∈cT (load s r) then some (none,none) else none) _);split<;>rfl,by rw[<- l2];exact ao,rfl,λr a e=>(by simp at e),λa h=>(by cases h),uo,Fr.app (Fr.app (Fr.app (Ex.refl M)))⟩
 rw[show(M++[MO.dK ((List.map Sum.inr []).zip [])]++[MO.dT []]).length=M.length+2 from l2,show(M++[MO.dK ((List.map Sum.inr []).zip [])]).length=M.length+1 from l1];show eI (kc .len [.d (.aj n)] (M++[MO.dK []]++[MO.dT []]++[MO.lst []])) _;generalize M++[MO.dK []]++[MO.dT []]++[MO.lst []]=M1 at hI⊢;rw[fx hI.n];nofun;refine⟨⟨∅,by rw[aB];omega⟩,?_⟩;rw[show(((ds.map df).length:Nat):Int).toNat=ds.length by rw[jr,aB]];refine f_ (n:=ds.length) (λi ρ M'=>∃o6 o7 o8 o9 fM fN mC kv ah as,ρ=[some (dO f),some (du (fin f s (ds.take i))),some (.aj n),some (.aj M.length),some (.aj (M.length+1)),some (.aj (M.length+2)),o6,o7,o8,o9,fM,fN,mC]/\JV f s ds n M.length M M' i kv ah as) ⟨_,_,_,_,_,_,_,[],[],[],rfl,hI⟩ ?_ ?_
 ·rintro i ρ M2 hi ⟨o6,o7,o8,o9,fM,fN,mC,kv,ah,as,rfl,wF⟩;have ed:ds[i]?=some ds[i]:=bx hi;obtain⟨k1,k2⟩:=i4 hr ed;have TJ:=bR.fin hf hs (gR (i:=i) hr);have PU:(ds.take i).length=i:=by rw[gW];omega
  rw[PU]at TJ;have BY:(ds.map df)[i]?=some (df ds[i]):=by rw[bj,ed];rfl
  have hmA:=TN (f:=f) ed;have X9:=pI (f:=f) (s:=s) ed;have hSn:=F3 (f:=f) (s:=s) ed
  have P2:pK f s ds i=match ds[i]with | .bu r k=>O3 f s ds i r k | _=>none:=by
   unfold pK;rw[ed];cases ds[i]<;>rfl
  generalize hgd:ds[i]=d at *;have Yg:=ay wF.d
  have fin2:∀(M4:ak)(na:Nat)(o9 fM fN mC:Option D),JV f s ds n M.length M M4 i kv ah as->M4[na]?=some (.lst ((jI (gi f s ds i)).map D.int))->M.length+2<na->na∉as->∀rt bk ct,dX G (O4 bB cz) [some (dO f),some (du (fin f s (ds.take i))),some (.aj n),some (.aj M.length),some (.aj (M.length+1)),some (.aj (M.length+2)),some (.int i),some (.int (mA f ds i)),some (.aj na),o9,fM,fN,mC] M4 (λρ M'=>∃o6 o7 o8 o9 fM fN mC kv ah as,ρ=[some (dO f),some (du (fin f s (ds.take (i+1)))),some (.aj n),some (.aj M.length),some (.aj (M.length+1)),some (.aj (M.length+2)),o6,o7,o8,o9,fM,fN,mC]/\JV f s ds n M.length M M' (i+1) kv ah as) rt bk ct:=by
   intro M4 na o9 fM fN mC fT P4 hb JU rt bk ct;unfold O4;nofun;refine⟨bf fT.d,?_⟩;nofun;rw[bQ fT.d (aO (by rw[aB,fT.dl];omega))];have TY:(M4.set (M.length+2) (.lst (as.map D.aj++[.aj na])))[M.length]?=some (.dK kv):=au fT.a ∅;nofun;rw[F1 TY (by have:=fT.al;omega)];have UZ:((M4.set (M.length+2) (.lst (as.map D.aj++[.aj na]))).set M.length (.dK (cR kv (Sum.inl ((mA f ds i:Nat):Int)) (.int i))))[n]?=some (.lst (ds.map df)):=au (au fT.n ∅) ∅;have ZE:((M4.set (M.length+2) (.lst (as.map D.aj++[.aj na]))).set M.length (.dK (cR kv (Sum.inl ((mA f ds i:Nat):Int)) (.int i))))[M.length]?=some (.dK (cR kv (Sum.inl ((mA f ds i:Nat):Int)) (.int i))):=aK TY;have ZF:((M4.set (M.length+2) (.lst (as.map D.aj++[.aj na]))).set M.length (.dK (cR kv (Sum.inl ((mA f ds i:Nat):Int)) (.int i))))[M.length+1]?=some (.dT ah):=au (au fT.c ∅) ∅
   have ZG:((M4.set (M.length+2) (.lst (as.map D.aj++[.aj na]))).set M.length (.dK (cR kv (Sum.inl ((mA f ds i:Nat):Int)) (.int i))))[M.length+2]?=some (.lst ((as++[na]).map D.aj)):=by
    rw[au (aK fT.d) ∅,eA];rfl
   have F2:∀(r a:Nat),(as++[na])[r]?=some a->((M4.set (M.length+2) (.lst (as.map D.aj++[.aj na]))).set M.length (.dK (cR kv (Sum.inl ((mA f ds i:Nat):Int)) (.int i))))[a]?=some (.lst ((jI (gi f s ds r)).map D.int)):=λr a e=>by
    rcases ir r as.length with z | z
    ·rw[jn z]at e;have hb:=fT.db a (dw e);exact au (au (fT.dv r a e) ∅) ∅
    ·rw[mD z]at e
     have hr:r=as.length:=by
      have:=(bq.mp e).1;simp only[jt,w4]at this;omega
     subst hr;simp at e;subst e;rw[fT.dl];exact au (au P4 ∅) ∅
   have yj:Ex M ((M4.set (M.length+2) (.lst (as.map D.aj++[.aj na]))).set M.length (.dK (cR kv (Sum.inl ((mA f ds i:Nat):Int)) (.int i)))):=Fr.set (Fr.set fT.ex ∅) (aI _);show dX G (t7 bB cz) _ ((M4.set (M.length+2) (.lst (as.map D.aj++[.aj na]))).set M.length (.dK (cR kv (Sum.inl ((mA f ds i:Nat):Int)) (.int i)))) _ _ _ _;generalize (M4.set (M.length+2) (.lst (as.map D.aj++[.aj na]))).set M.length (.dK (cR kv (Sum.inl ((mA f ds i:Nat):Int)) (.int i)))=M6 at UZ ZE ZF ZG F2 yj⊢;refine JT (s:=fin f s (ds.take i)) hA hO hf TJ ∅ k1 k2 ed UZ ZF (by have:=fT.cl;omega) fT.cs ?_;intro M7 kv7 o9 fM fN mC g1 g2 g3 g4;rw[X9];refine⟨_,_,_,_,_,_,_,_,kv7,as++[na],rfl,g4.get UZ ∅,g4.get ZE ∅,dr jk (by have:=fT.al;omega),?_,g1,by have:=fT.cl;omega,g3.congr hSn,g4.get ZG ∅,by rw[cC,fT.dl];rfl,λr a e=>g4.get (F2 r a e) ?_,λa ha=>?_,?_,Fr.back yj g4 (.inl ∅)⟩
   ·refine λm=>((fT.ad.put (mA f ds i) i) m).trans ?_;show Option.map _ (if m=mA f ds i then some i else bC f ds m i)=Option.map _ (if mA f ds i=m then some i else bC f ds m i);by_cases z:m=mA f ds i
    ·rw[aw z,aw z.symm]
    ·rw[az z,az (dh z)]
   ·rcases cj.mp (dw e)with z | z
    ·have:=fT.db a z;omega
    ·rw[gj.mp z];omega
   ·rcases cj.mp ha with z | z
    ·exact fT.db a z
    ·rw[gj.mp z];exact hb
   ·rw[uj];exact⟨fT.nd,by simp,λx hx y hy e=>JU (by rw[<- gj.mp hy,<- e];exact hx)⟩
  have TZ:∀(M4:ak)(na:Nat)(o9 fM fN mC:Option D),JV f s ds n M.length M M4 i kv ah as->M4[na]?=some (.lst ((jI (bC f ds (mA f ds i) i).toList).map D.int))->M.length+2<na->na∉as->∀rt bk ct,dX G (TX bB cz) [some (dO f),some (du (fin f s (ds.take i))),some (.aj n),some (.aj M.length),some (.aj (M.length+1)),some (.aj (M.length+2)),some (.int i),some (.int (mA f ds i)),some (.aj na),o9,fM,fN,mC] M4 (λρ M'=>∃o6 o7 o8 o9 fM fN mC kv ah as,ρ=[some (dO f),some (du (fin f s (ds.take (i+1)))),some (.aj n),some (.aj M.length),some (.aj (M.length+1)),some (.aj (M.length+2)),o6,o7,o8,o9,fM,fN,mC]/\JV f s ds n M.length M M' (i+1) kv ah as) rt bk ct:=by
   intro M4 na o9 fM fN mC fT P4 hb JU rt bk ct
   have Yl:pK f s ds i=none->M4[na]?=some (.lst ((jI (gi f s ds i)).map D.int)):=λz=>by
    rw[P4];unfold gi;rw[z];show _=some (MO.lst ((jI (_++[])).map D.int));rw[lq]
   unfold TX;nofun;rw[cb fT.n BY];nofun
   cases d with
   | own m =>
    nofun;rw[bG cw aL,yB];exact fin2 M4 na _ _ _ _ fT (Yl P2) hb JU _ _ _
   | dJ m c =>
    nofun;rw[bG cF aL,we];exact fin2 M4 na _ _ _ _ fT (Yl P2) hb JU _ _ _
   | bu r k =>
    have BY:(ds.map df)[i]?=some (.tup [.str "come",.int r,.int k]):=BY;have P2:pK f s ds i=O3 f s ds i r k:=P2;nofun;rw[bG aL aL,tL];nofun;rw[cb fT.n BY];nofun;rw[Aw,TV fT.c fT.cs]
    cases hS:O3 f s ds i r k with
    | none=>exact fin2 M4 na _ _ _ _ fT (Yl (P2.trans hS)) hb JU _ _ _
    | some j =>
     have hg:de ah (Ev.k2 r k)=some (.int j):=by rw[fT.cs r k,hS];rfl
     nofun;refine⟨bf P4,?_⟩;nofun;rw[cb fT.n BY];nofun;rw[Aw,KY (OW fT.c) hg];nofun;rw[bQ P4 (aO (by unfold jI;rw[aB,aB];cases bC f ds (mA f ds i) i<;>simp))]
     have e1:(jI (bC f ds (mA f ds i) i).toList).map D.int++[.int (j:Nat)]=(jI (gi f s ds i)).map D.int:=by
      unfold gi;rw[P2,hS];unfold jI;rw[eA,eA];rfl
     rw[e1];refine fin2 (M4.set na (.lst ((jI (gi f s ds i)).map D.int))) na _ _ _ _ ⟨au fT.n ∅,au fT.a ∅,fT.al,fT.ad,au fT.c ∅,fT.cl,fT.cs,au fT.d ∅,fT.dl,λr a q=>au (fT.dv r a q) (λz=>JU (by rw[<- z];exact dw q)),fT.db,fT.nd,Fr.set fT.ex ∅⟩ (aK P4) hb JU _ _ _
  rw[show(0:Int)+(i:Int)=((i:Nat):Int) by omega];nofun;rw[cb wF.n BY];nofun;refine(Tj M2 f d hf k1).imp ?_;rintro r M3 ⟨rfl,rfl⟩;rw[<- hmA]
  have ix:M2.length∉as:=λz=>by
   obtain⟨q,hq,e⟩:=rn.mp z;have:=ay (wF.dv q _ (bx hq));omega
  nofun;rw[K0 wF.a wF.ad]
  cases hl:bC f ds (mA f ds i) i with
  | none =>
   nofun;refine⟨s0,?_⟩;nofun;refine TZ (M2++[MO.lst []]) M2.length _ _ _ _ (wF.more (Fr.app (Ex.refl M2))) ?_ Yg ix _ _ _;rw[hl];exact ao
  | some j0 =>
   nofun;rw[F0 wF.a wF.ad hl];nofun;refine⟨s1,?_⟩;nofun;refine TZ (M2++[MO.lst [.int j0]]) M2.length _ _ _ _ (wF.more (Fr.app (Ex.refl M2))) ?_ Yg ix _ _ _;rw[hl];exact ao
 ·rintro ρ M2 ⟨o6,o7,o8,o9,fM,fN,mC,kv,ah,as,rfl,wF⟩;nofun;exact⟨_,as,rfl,wF.dl,⟨wF.d,wF.nd,λz=>by have:=wF.db _ z;omega,wF.dv⟩,λa ha=>by have:=wF.db a ha;omega,wF.ex⟩
theorem rl.step(h:rl A i x)(hy:y∈A x):rl A i y:=by
 induction h with
 | one h=>exact .more h (.one hy)
 | more h _ ih=>exact .more h (ih hy)
theorem yT{S:List Nat}(hS:∀x∈S,∀y∈A x,y∈S){i j:Nat}(h:rl A i j):(∀y∈A i,y∈S)->j∈S:=by
 induction h with
 | one h=>exact λq=>q _ h
 | more h _ ih=>exact λq=>ih (hS _ (q _ h))
structure F5 (A:Nat->List Nat) (i:Nat) (seen line:List Nat):Prop where
 nd:seen.Nodup
 s:∀x∈seen,rl A i x
 l:∀x∈line,rl A i x
 a:∀x∈A i,x∈seen\/x∈line
 c:∀x∈seen,∀y∈A x,y∈seen\/y∈line
theorem F5.skip{i x:Nat}{seen line:List Nat}(h:F5 A i seen (line++[x]))(hx:x∈seen):F5 A i seen line:=by
 have i_:∀ {y},y∈seen\/y∈line++[x]->y∈seen\/y∈line:=λ{y} q=>by
  rcases q with q | q
  ·exact .inl q
  ·rcases cj.mp q with q | q
   ·exact .inr q
   ·rw[gj.mp q];exact .inl hx
 exact⟨h.nd,h.s,λy hy=>h.l y (cj.mpr (.inl hy)),λy hy=>i_ (h.a y hy),λw hw y hy=>i_ (h.c w hw y hy)⟩
theorem F5.take{i x:Nat}{seen line:List Nat}(h:F5 A i seen (line++[x]))(hx:x∉seen):F5 A i (seen++[x]) (line++A x):=by
 have ZH:=h.l x (cj.mpr (.inr dC))
 have i_:∀ {y},y∈seen\/y∈line++[x]->y∈seen++[x]\/y∈line++A x:=λ{y} q=>by
  rcases q with q | q
  ·exact .inl (cj.mpr (.inl q))
  ·rcases cj.mp q with q | q
   ·exact .inr (cj.mpr (.inl q))
   ·exact .inl (cj.mpr (.inr q))
 refine⟨?_,λy hy=>?_,λy hy=>?_,λy hy=>i_ (h.a y hy),λw hw y hy=>?_⟩
 ·rw[uj];exact⟨h.nd,by simp,λa ha b hb e=>hx (by rw[<- gj.mp hb,<- e];exact ha)⟩
 ·rcases cj.mp hy with q | q
  ·exact h.s y q
  ·rw[gj.mp q];exact ZH
 ·rcases cj.mp hy with q | q
  ·exact h.l y (cj.mpr (.inl q))
  ·exact ZH.step q
 ·rcases cj.mp hw with q | q
  ·exact i_ (h.c w q y hy)
  ·rw[gj.mp q]at hy;exact .inr (cj.mpr (.inr hy))
theorem F5.Um(hA:∀i j,j∈A i->j<i){i L:Nat}{seen line:List Nat}(h:F5 A i seen line)(hi:i<L):seen.length<=L:=by
 have:=jl (b:=List.range L) h.nd λx hx=>rH.mpr (by have:=(h.s x hx).lt hA;omega);rw[mI]at this;exact this
theorem F5.done{i:Nat}{seen:List Nat}(h:F5 A i seen [])(j:Nat):j∈seen↔rl A i j:=⟨h.s j,λr=>yT (λx hx y hy=>(h.c x hx y hy).resolve_right (by simp)) r λy hy=>(h.a y hy).resolve_right (by simp)⟩
theorem T1(h:M[n]?=some (.lst (ds++[d]))):mL .pop (.d (.aj n)) [] M=.ok (.d d) (M.set n (.lst ds)):=by
 unfold mL;simp only[h];rw[show(ds++[d])[(ds++[d]).length-1]?=some d by simp,List.dropLast_concat]
theorem JW(h:M[n]?=some (.lst xs))(h2:M[k]?=some (.lst ys))(hl:xs.length+ys.length<=1000):oy .add (.d (.aj n)) (.d (.aj k)) M=.ok (.lv (xs++ys)) M:=by
 unfold oy;simp only[eX,h,h2];rw[aw (fJ hl)]
theorem F6(h:M[n]?=some (.lst (is.map D.int)))(hl:is.length<64):kc .ox [.d (.aj n)] M=.ok (.lv ((fi is).map D.int)) M:=by
 unfold kc bT;simp only[h,ints_map,aw hl]
theorem t8:jI (a++b)=jI a++jI b:=by unfold jI;rw[eA]
theorem t9:((jI a).map D.int).length=a.length:=by unfold jI;rw[aB,aB]
theorem t_{a:List Nat}{x:Nat}:(x:Int)∈jI a↔x∈a:=by
 unfold jI;rw[dg];constructor
 ·rintro⟨y,hy,e⟩;have:y=x:=∅;subst this;exact hy
 ·exact λh=>⟨x,h,rfl⟩
theorem T3(h:∀x∈a,x<100):∀d∈(jI a).map D.int,Sm 2 0 d:=λd hd=>by
 obtain⟨i,hi,rfl⟩:=dg.mp hd;obtain⟨x,hx,rfl⟩:=dg.mp hi;have:=h x hx;exact Sm.int ∅ ∅
def ua(F:Fn):Prop:=∀(M:ak)(n0:Nat)(as:List Nat)(A:Nat->List Nat)(L:Nat),pG M n0 as (λi=>jI (A i))->as.length=L->L<=60->(∀i j,j∈A i->j<i)->(∀i,(A i).length<=2)->aV (F [.aj n0] M) λr M'=>∃n' bs h,r=.d (.aj n')/\bs.length=L/\pG M' n' bs h/\(∀i,i<L->(h i).Nodup/\(∀x:Int,x∈h i↔∃j:Nat,x=j/\rl A i j)/\(h i).Pairwise (·<=·))/\Ex M M'
noncomputable def rcB:List S:=[.asg [5] (.me .pop (.ae 4) []),.iff (.val (.cmp .eN (.ae 5) (.ae 3))) [.expr (.me .append (.ae 3) [(.ae 5)]),.asg [4] (.bin .add (.ae 4) (.sub (.ae 0) (.ae 5)))] []]
theorem JX:ua (ar G 6 Ay):=by
 intro M n0 as A L hv u7 hL hA h2;rw[bF];show dX G Ay [some (.aj n0),none,none,none,none,none] M _ _ _ _;have ln0:=ay hv.at'
 have has:∀a∈as,a<M.length:=λa ha=>by
  obtain⟨q,hq,e⟩:=rn.mp ha;have:=ay (hv.av q _ (bx hq));omega
 nofun;refine⟨s0,?_⟩;nofun;have hv1:=hv.ex (Fr.app (X:=[MO.lst []]) (Ex.refl M));rw[fx hv1.at'];nofun;refine⟨⟨∅,by rw[aB];omega⟩,?_⟩;rw[show(((as.map D.aj).length:Nat):Int).toNat=L by rw[jr,aB,u7]];refine f_ (n:=L) (λi ρ M'=>∃o2 o3 o4 o5 bs h,ρ=[some (.aj n0),some (.aj M.length),o2,o3,o4,o5]/\bs.length=i/\M'[M.length]?=some (.lst (bs.map D.aj))/\(∀(r a:Nat),bs[r]?=some a->M'[a]?=some (.lst ((h r).map D.int)))/\(∀a∈bs,M.length<a)/\bs.Nodup/\(∀k,k<i->(h k:List Int).Nodup/\(∀x:Int,x∈h k↔∃j:Nat,x=j/\rl A k j)/\(h k).Pairwise (·<=·))/\Ex M M') ⟨_,_,_,_,[],λ_=>[],rfl,rfl,ao,λr a e=>(by simp at e),λa h=>(by cases h),uo,λk hk=>(∅),Fr.app (Ex.refl M)⟩ ?_ ?_
 ·rintro i ρ M2 hi ⟨o2,o3,o4,o5,bs,h,rfl,P5,Vc,By,Ke,Ym,hh,mN⟩;have T4:=hv.ex mN;obtain⟨a,ea,es,JS⟩:=T4.sub (r:=i) ∅;have lF:=ay Vc;have l2:=mN.1;rw[show(0:Int)+(i:Int)=((i:Nat):Int) by omega];nofun;refine⟨s0,?_⟩;nofun;have JR:=T4.ex (Fr.app (X:=[MO.lst []]) (Ex.refl M2));have es3:dy (.d (.aj n0)) (.d (.int (i:Nat))) (M2++[MO.lst []])=.ok (.d (.aj a)) (M2++[MO.lst []]):=cb JR.at' (by rw[bj,ea];rfl);rw[es3];nofun;rw[oX (aD JS)];nofun;have l3:(M2++[MO.lst []]).length=M2.length+1:=by rw[cC];rfl
  have ZI:(M2++[MO.lst []]++[MO.lst ((jI (A i)).map D.int)])[M2.length]?=some (.lst ((jI []).map D.int)):=aD ao;have pQ:(M2++[MO.lst []]++[MO.lst ((jI (A i)).map D.int)])[M2.length+1]?=some (.lst ((jI (A i)).map D.int)):=by rw[<- l3];exact ao
  have f4:Ex M2 (M2++[MO.lst []]++[MO.lst ((jI (A i)).map D.int)]):=Fr.app (Fr.app (Ex.refl M2));rw[l3];generalize M2++[MO.lst []]++[MO.lst ((jI (A i)).map D.int)]=M4 at ZI pQ f4⊢;have Zb:=h2 i;refine EU (t:=.val (.cmp .ne (.ae 4) (.lst []))) (b:=rcB) (λf ρ M'=>∃o5 nl seen line,ρ=[some (.aj n0),some (.aj M.length),some (.int i),some (.aj M2.length),some (.aj nl),o5]/\M'[M2.length]?=some (.lst ((jI seen).map D.int))/\M'[nl]?=some (.lst ((jI line).map D.int))/\M2.length<nl/\Ex M2 M'/\F5 A i seen line/\line.length+2*(L-seen.length)+1<=f/\f<=1000) ?_ 1000 _ _ ⟨_,M2.length+1,[],A i,rfl,ZI,pQ,∅,f4,⟨uo,λx hx=>(by cases hx),λx hx=>.one hx,λx hx=>.inr hx,λx hx=>(by cases hx)⟩,by simp only[w4];omega,aI _⟩;rintro fu ρ M5 ⟨o5,nl,seen,line,rfl,ZJ,Cv,wJ,f5,hD,Yn,hf1⟩;have lg:∀x∈line,x<100:=λx hx=>by have:=(hD.l x hx).lt hA;omega
  have Zm:∀x∈seen,x<100:=λx hx=>by have:=(hD.s x hx).lt hA;omega
  have x9:=hD.Um hA hi;refine⟨fu-1,∅,?_⟩;have wD:=T4.ex f5;nofun;refine⟨s0,?_⟩;nofun;rw[Fb Cv (T3 lg) (by rw[t9];omega) (by decide)];rcases List.eq_nil_or_concat line with e | ⟨l',x,e⟩
  ·subst e;have ZK:=Ex.get f5 Vc;have l5:=f5.1;nofun;refine⟨bf ZK,?_⟩;nofun;rw[F6 ZJ (by unfold jI;rw[aB];omega)];nofun;have ZL:(M5++[MO.lst ((fi (jI seen)).map D.int)])[M.length]?=some (.lst (bs.map D.aj)):=aD ZK;rw[bQ ZL (aO (by rw[aB];omega))]
   have ix:M5.length∉bs:=λz=>by
    obtain⟨q,hq,e⟩:=rn.mp z;have:=ay (Ex.get f5 (By q _ (bx hq)));omega
   refine⟨_,_,_,_,bs++[M5.length],λk=>if k=i then fi (jI seen) else h k,rfl,by rw[cC,P5];rfl,?_,λr b e=>?_,λb hb=>?_,?_,λk hk=>?_,Fr.set (Fr.app (Ex.trans mN f5)) (aI _)⟩
   ·rw[aK ZL,eA];rfl
   ·rcases ir r bs.length with z | z
    ·rw[jn z]at e;show _=some (MO.lst ((if r=i then fi (jI seen) else h r).map D.int));rw[az ∅];exact au (aD (Ex.get f5 (By r b e))) (by have:=Ke b (dw e);omega)
    ·rw[mD z]at e
     have hr:r=bs.length:=by
      have:=(bq.mp e).1;simp only[jt,w4]at this;omega
     subst hr;simp at e;subst e;show _=some (MO.lst ((if bs.length=i then fi (jI seen) else h bs.length).map D.int));rw[aw P5];exact au ao ∅
   ·rcases cj.mp hb with z | z
    ·exact Ke b z
    ·rw[gj.mp z];omega
   ·rw[uj];exact⟨Ym,by simp,λx hx y hy e=>ix (by rw[<- gj.mp hy,<- e];exact hx)⟩
   ·show(if k=i then fi (jI seen) else h k).Nodup/\(∀x:Int,x∈(if k=i then fi (jI seen) else h k)↔∃j:Nat,x=j/\rl A k j)/\(if k=i then fi (jI seen) else h k).Pairwise (·<=·);by_cases z:k=i
    ·subst z;rw[aw rfl];refine⟨dS.nodup_iff.mpr ?_,λx=>?_,fG⟩
     ·unfold jI;exact List.pairwise_map.mpr (hD.nd.imp λh e=>h ∅)
     ·rw[dS.mem_iff];unfold jI;rw[dg];constructor
      ·rintro⟨y,hy,rfl⟩;exact⟨y,rfl,(hD.done y).mp hy⟩
      ·rintro⟨y,rfl,hy⟩;exact⟨y,(hD.done y).mpr hy,rfl⟩
    ·rw[az z];exact hh k ∅
  ·rw[List.concat_eq_append]at e;subst e;rw[cC]at Yn;have Yn:l'.length+1+2*(L-seen.length)+1<=fu:=Yn;have Th:M5[nl]?=some (.lst ((jI l').map D.int++[.int x])):=by rw[Cv,t8,eA];rfl
   have hxl:=(hD.l x (cj.mpr (.inr dC))).lt hA;rw[show((jI (l'++[x])).map D.int).isEmpty=false by rw[t8,eA];cases (jI l').map D.int<;>rfl];nofun;refine⟨bf Th,?_⟩;nofun;rw[T1 Th];have Jm:(M5.set nl (.lst ((jI l').map D.int)))[M2.length]?=some (.lst ((jI seen).map D.int)):=au ZJ ∅;have Tw:(M5.set nl (.lst ((jI l').map D.int)))[nl]?=some (.lst ((jI l').map D.int)):=aK Th;have f7:Ex M2 (M5.set nl (.lst ((jI l').map D.int))):=Fr.set f5 ∅;have hv7:=T4.ex f7;nofun;rw[Ou (ks:=jI seen) Jm];generalize M5.set nl (.lst ((jI l').map D.int))=M7 at Jm Tw f7 hv7⊢;by_cases hx:x∈seen
   ·rw[show decide ((x:Int)∈jI seen)=true from gk (t_.mpr hx)];exact⟨_,nl,seen,l',rfl,Jm,Tw,wJ,f7,hD.skip hx,∅,∅⟩
   ·rw[show decide ((x:Int)∈jI seen)=false from eJ λz=>hx (t_.mp z)];have ZM:=hD.take hx;have y3:=ZM.Um hA hi;rw[cC]at y3;have y3:seen.length+1<=L:=y3;nofun;refine⟨bf Jm,?_⟩;nofun;rw[bQ Jm (aO (by rw[t9];omega))];have e8:(jI seen).map D.int++[.int (x:Nat)]=(jI (seen++[x])).map D.int:=by rw[t8,eA];rfl
    rw[e8];have Yo:(M7.set M2.length (.lst ((jI (seen++[x])).map D.int)))[M2.length]?=some (.lst ((jI (seen++[x])).map D.int)):=aK Jm;have ZN:(M7.set M2.length (.lst ((jI (seen++[x])).map D.int)))[nl]?=some (.lst ((jI l').map D.int)):=au Tw ∅;have f8:Ex M2 (M7.set M2.length (.lst ((jI (seen++[x])).map D.int))):=Fr.set f7 (aI _);have ZO:=T4.ex f8;generalize M7.set M2.length (.lst ((jI (seen++[x])).map D.int))=M8 at Yo ZN f8 ZO⊢;obtain⟨a8,ea8,es8,Yp⟩:=ZO.sub (r:=x) ∅;have hAx:=h2 x;nofun;rw[es8];nofun;rw[JW ZN Yp (by rw[t9,t9];omega),<- eA,<- t8];nofun;refine⟨_,M8.length,seen++[x],l'++A x,rfl,aD Yo,ao,ay Yo,Fr.app f8,ZM,?_,∅⟩;rw[cC,cC];show l'.length+(A x).length+2*(L-(seen.length+1))+1<=fu-1;omega
 ·rintro ρ M2 ⟨o2,o3,o4,o5,bs,h,rfl,P5,Vc,By,Ke,Ym,hh,mN⟩;nofun;exact⟨_,bs,h,rfl,P5,⟨Vc,Ym,λz=>by have:=Ke _ z;omega,By⟩,hh,mN⟩
theorem JY(h:M[n]?=some (.lst [])):bh .eq (.d (.aj n)) (.lv []) M=.ok true M:=by
 have h1:jx M (.d (.aj n))=some (.list []):=by
  show dD M 30 (.aj n)=_;unfold dD;simp only[h];unfold bS;rfl
 have h2:jx M (.lv [])=some (.list []):=by show(bS M 30 []).map _=_;unfold bS;rfl
 have h4:SeqAt.shaped (.list [])=true:=⋯;unfold bh;simp only[h1,h2,h4,jQ,eP,PyData.eqv.eq_7,CI]
section
variable (A:Nat->List Nat)
def pk:Nat->Nat->List Int
 | 0,_=>[]
 | f+1,i=>fi (zv (jI (A i)++(A i).flatMap (pk f)))
def Pk(i:Nat):List Int:=pk A (i+1) i
end
section
variable {A:Nat->List Nat}
theorem wG{l:List Nat}(h:∀o∈l,f o=g o):l.flatMap f=l.flatMap g:=by
 induction l with
 | nil=>rfl
 | cons x l ih=>rw[GJ,GJ,h x dC,ih λo ho=>h o (dq _ ho)]
theorem AB(hA:∀i j,j∈A i->j<i):∀(f g i:Nat),i<f->i<g->pk A f i=pk A g i
 | 0,_,_,h,_=>∅
 | _+1,0,_,_,h=>∅
 | f+1,g+1,i,h1,h2=>by
  unfold pk;rw[wG λo ho=>AB hA f g o (by have:=hA i o ho;omega) (by have:=hA i o ho;omega)]
theorem AD(hA:∀i j,j∈A i->j<i)(i:Nat):Pk A i=fi (zv (jI (A i)++(A i).flatMap (Pk A))):=by
 show pk A (i+1) i=_;unfold pk;rw[wG λo ho=>AB hA i (o+1) o (by have:=hA i o ho;omega) ∅];rfl
theorem K1(hA:∀i j,j∈A i->j<i)(i:Nat):(Pk A i).Nodup:=by
 rw[AD hA];exact dS.nodup_iff.mpr (Kl _)
theorem T5(hA:∀i j,j∈A i->j<i)(i:Nat):(Pk A i).Pairwise (·<=·):=by
 rw[AD hA];exact fG
theorem pM(hA:∀i j,j∈A i->j<i):∀(n i:Nat),i<n->∀x:Int,x∈Pk A i↔∃j:Nat,x=j/\rl A i j
 | 0,i,h,_=>∅
 | n+1,i,h,x=>by
  rw[AD hA,dS.mem_iff,Mt,cj,List.mem_flatMap];constructor
  ·rintro(z | ⟨o,ho,z⟩)
   ·unfold jI at z;obtain⟨j,hj,rfl⟩:=dg.mp z;exact⟨j,rfl,.one hj⟩
   ·obtain⟨j,rfl,r⟩:=(pM hA n o (by have:=hA i o ho;omega) x).mp z;exact⟨j,rfl,.more ho r⟩
  ·rintro⟨j,rfl,r⟩;obtain⟨o,ho,z | z⟩:=r.inv
   ·subst z;exact .inl (t_.mpr ho)
   ·exact .inr ⟨o,ho,(pM hA n o (by have:=hA i o ho;omega) _).mpr ⟨j,rfl,z⟩⟩
theorem O5(hA:∀i j,j∈A i->j<i)(nd:l.Nodup)(so:l.Pairwise (·<=·))(m:∀x:Int,x∈l↔∃j:Nat,x=j/\rl A i j):l=Pk A i:=by
 have e:∀x,x∈l↔x∈Pk A i:=λx=>(m x).trans (pM hA (i+1) i (ju _) x).symm;refine g8 (sA (K1 hA i) (λk hk=>(e k).mpr hk) ?_) so (T5 hA i);exact jl nd λx hx=>(e x).mp hx
theorem ub(hA:∀i j,j∈A i->j<i)(i:Nat):(Pk A i).length<=i:=by
 have:=jl (b:=jI (List.range i)) (K1 hA i) λx hx=>by
  obtain⟨j,rfl,r⟩:=(pM hA (i+1) i (ju _) x).mp hx;exact t_.mpr (rH.mpr (r.lt hA))
 unfold jI at this;rw[aB,mI]at this;exact this
theorem F7(hA:∀i j,j∈A i->j<i)(h:x∈Pk A i):∃j:Nat,x=j/\j<i:=by
 obtain⟨j,rfl,r⟩:=(pM hA (i+1) i (ju _) x).mp h;exact⟨j,rfl,r.lt hA⟩
end
def T6(f:Fm)(s:Sd)(ds:List Dn)(i:Nat):D:=.tup ((Pk (gi f s ds) i).map D.int)
def ug(f:Fm)(s:Sd)(ds:List Dn)(i:Nat):List D:=(List.range i).map (T6 f s ds)
theorem wH:ug f s ds (i+1)=ug f s ds i++[T6 f s ds i]:=by
 unfold ug;rw[CP,eA];rfl
theorem la:(ug f s ds i).length=i:=by unfold ug;rw[aB,mI]
theorem O6(h:j<i):(ug f s ds i)[j]?=some (T6 f s ds j):=by
 unfold ug;rw[bj,nI h];rfl
def F8(ny:Nat):List S:=[.asg [3] (.lst []),.bE [4] .seq [(.call ny [(.ae 0),(.ae 1),(.ae 2)])] [.asg [5] (.bi .list1 [(.ae 4)]),.bE [6] .seq [(.ae 4)] [.expr (.me .extend (.ae 5) [(.sub (.ae 3) (.ae 6))])],.expr (.me .append (.ae 3) [(.bi .tuple1 [(.sset (.ae 5))])])],.ret (.ae 3)]
theorem O7(h:M[n]?=some (.lst ds))(hl:ds.length+es.length<=sizeLine):mL .extend (.d (.aj n)) [.tup es] M=.ok (.d .aR) (M.set n (.lst (ds++es))):=by
 unfold mL;simp only[h,aw hl]
theorem F9(h:M[n]?=some (.lst (is.map D.int)))(h1:is.length+1<scanBound)(h2:(zv is).length<64):oB (.d (.aj n)) M=.ok (.lv ((fi (zv is)).map D.int)) M:=by
 unfold oB;simp only[show eX M (.d (.aj n))=some (is.map D.int) by unfold eX;simp only[h],Ev.ints_map,aw (And.intro h1 h2)]
def yU(F:Fn):Prop:=∀(M:ak)(f:Fm)(N:Nat)(s:Sd)(ds:List Dn)(n:Nat),cN f->bR f N s->N+3*ds.length<=890->ds.length<=60->dZ f s ds->M[n]?=some (.lst (ds.map df))->aV (F [dO f,du s,.aj n] M) λr M'=>∃n',r=.d (.aj n')/\M.length<=n'/\M'[n']?=some (.lst (ug f s ds ds.length))/\Ex M M'
theorem F_(hA:∀i j,j∈A i->j<i)  : ∀l:List Nat,(∀o∈l,o<i)->(l.flatMap (Pk A)).length<=l.length*i
 | [],_=>lr _
 | o::l,h=>by
  rw[GJ,cC,jt,Nat.succ_mul];have a:=ub hA o;have b:=h o dC;have c:=F_ hA l λx hx=>h x (dq _ hx);omega
theorem O8(hR:jm (G ny)):yU (ar G 7 (F8 ny)):=by
 intro M f N s ds n hf hs hN Cm hr hn;rw[bF];show dX G (F8 ny) [some (dO f),some (du s),some (.aj n),none,none,none,none] M _ _ _ _;nofun;refine⟨s0,?_⟩;nofun;have hT1:(M++[MO.lst []])[M.length]?=some (.lst (ug f s ds 0)):=ao;have PK:Ex M (M++[MO.lst []]):=Fr.app (Ex.refl M);have lM1:(M++[MO.lst []]).length=M.length+1:=by rw[cC];rfl
 refine(hR (M++[MO.lst []]) f N s ds n hf hs hN Cm hr (aD hn)).imp ?_;rintro r M2 ⟨nl,as,rfl,u7,hv,su,f2⟩;nofun;rw[d_ hv.at'];refine B_ (n:=nl) (ds:=as.map D.aj) (λi ρ M'=>∃o4 o5 o6,ρ=[some (dO f),some (du s),some (.aj n),some (.aj M.length),o4,o5,o6]/\pG M' nl as (λi=>jI (gi f s ds i))/\M'[M.length]?=some (.lst (ug f s ds i))/\Ex M M') (by rintro i ρ M' ⟨_,_,_,_,h,_⟩;exact h.at') ⟨_,_,_,rfl,hv,Ex.get f2 hT1,Ex.trans PK f2⟩ ?_ ?_
 ·rintro i ρ M3 dd cu ⟨o4,o5,o6,rfl,JR,O9,kl⟩;rw[bj]at cu
  cases e:as[i]? with
  | none=>rw[e]at cu;cases cu
  | some a =>
   rw[e]at cu;cases cu;have hi:=(bq.mp e).1;have JS:=JR.av i a e;have haT:a≠M.length:=by have:=su a (dw e);omega
   have wJ:nl≠M.length:=λz=>by
    have h:=JR.at';rw[z,O9]at h;have:=lu List.length (MO.lst.inj (cg h));rw[la,aB]at this;omega
   have lT3:=ay O9;nofun;rw[oX JS];nofun
   have Yq:(M3++[MO.lst ((jI (gi f s ds i)).map D.int)])[M3.length]?=some (.lst ((jI (gi f s ds i)++((gi f s ds i).take 0).flatMap (Pk (gi f s ds))).map D.int)):=by
    rw[w6,List.flatMap_nil,lq];exact ao
   have Yr:(M3++[MO.lst ((jI (gi f s ds i)).map D.int)])[a]?=some (.lst ((jI (gi f s ds i)).map D.int)):=aD JS;have f4:Ex M3 (M3++[MO.lst ((jI (gi f s ds i)).map D.int)]):=Fr.app (Ex.refl M3);generalize hnb:M3.length=nb at Yq⊢;generalize M3++[MO.lst ((jI (gi f s ds i)).map D.int)]=M4 at Yq Yr f4⊢;have h2:(gi f s ds i).length<=2:=Az;have U6:(jI (gi f s ds i)).length<=2:=by unfold jI;rw[aB];exact h2
   have X0:∀j,(((gi f s ds i).take j).flatMap (Pk (gi f s ds))).length<=120:=λj=>by
    have:=F_ (gD (f:=f) (s:=s) (ds:=ds)) ((gi f s ds i).take j) λo ho=>gD i o (rq ho);have q:((gi f s ds i).take j).length<=2:=by rw[gW];omega
    have:=CQ q (show i<=60 by omega);omega
   rw[d_ Yr];refine B_ (n:=a) (ds:=(jI (gi f s ds i)).map D.int) (λj ρ M'=>∃o6,ρ=[some (dO f),some (du s),some (.aj n),some (.aj M.length),some (.aj a),some (.aj nb),o6]/\M'[nb]?=some (.lst ((jI (gi f s ds i)++((gi f s ds i).take j).flatMap (Pk (gi f s ds))).map D.int))/\M'[a]?=some (.lst ((jI (gi f s ds i)).map D.int))/\Ex M3 M') (by rintro j ρ M' ⟨_,_,_,h,_⟩;exact h) ⟨_,rfl,Yq,Yr,f4⟩ ?_ ?_
   ·rintro j ρ M5 dd cu ⟨o6,rfl,P6,TY,f5⟩;unfold jI at cu;rw[bj,bj]at cu
    cases e2:(gi f s ds i)[j]? with
    | none=>rw[e2]at cu;cases cu
    | some o =>
     rw[e2]at cu;cases cu;have ho:=gD i o (dw e2);have lA:=ay JS;nofun;refine⟨bf P6,?_⟩;nofun;rw[cb (Ex.get f5 O9) (O6 ho)];nofun;have hq:=X0 j;have hp:=ub (gD (f:=f) (s:=s) (ds:=ds)) o;show eI (mL .extend (.d (.aj nb)) [.tup ((Pk (gi f s ds) o).map D.int)] M5) _;rw[O7 P6 (fJ (by rw[aB,aB,cC];omega))];refine⟨_,rfl,?_,au TY ∅,Fr.set f5 ∅⟩;rw[aK P6,<- eA,bD e2,List.flatMap_append,rC,GJ,List.flatMap_nil,lq]
   ·rintro ρ M5 ⟨o6,rfl,P6,TY,f5⟩;have Ys:((jI (gi f s ds i)).map D.int).length=(gi f s ds i).length:=by unfold jI;rw[aB,aB]
    rw[Ys,jO]at P6;have hq:=X0 (gi f s ds i).length;rw[jO]at hq;have Yt:=Ex.get f5 O9;have ZP:=AD (gD (f:=f) (s:=s) (ds:=ds)) i;have hPl:=ub (gD (f:=f) (s:=s) (ds:=ds)) i
    have U8:(zv (jI (gi f s ds i)++(gi f s ds i).flatMap (Pk (gi f s ds)))).length<64:=by
     rw[ZP,dS.length_eq]at hPl;omega
    nofun;refine⟨bf Yt,?_⟩;nofun;rw[F9 P6 (by rw[cC];show _<4096;omega) U8];nofun;rw[bQ Yt (aO (by rw[la];omega))];have wD:=JR.ex f5;refine⟨_,_,_,rfl,⟨au wD.at' wJ,wD.nd,wD.na,λr b eb=>au (wD.av r b eb) (by have:=su b (dw eb);omega)⟩,?_,Fr.set (Ex.trans kl f5) (aI _)⟩;rw[aK Yt,wH];unfold T6;rw[ZP]
 ·rintro ρ M3 ⟨o4,o5,o6,rfl,JR,O9,kl⟩;rw[aB,u7]at O9;nofun;exact⟨_,rfl,aI _,O9,kl⟩
end Ev
end
section
namespace ig
open Ev PySem
abbrev Fu:=List D->ak->cK W
abbrev c0(l:List Fu):=l
def n0:List Str:=["thing"]
def b0:List S:=yo
def f0:Fu:=ar (cS (c0 [])) 1 b0
abbrev c1(l:List Fu):=c0 (f0::l)
def n1:List Str:=["thing","bound"]
def b1:List S:=yp 0
def f1:Fu:=ar (cS (c1 [])) 2 b1
abbrev c2(l:List Fu):=c1 (f1::l)
def n2:List Str:=["thing"]
def b2:List S:=Fd
def f2:Fu:=ar (cS (c2 [])) 1 b2
abbrev c3(l:List Fu):=c2 (f2::l)
def n3:List Str:=["form","m","state","cause","move"]
def b3:List S:=tj
def f3:Fu:=ar (cS (c3 [])) 5 b3
abbrev c4(l:List Fu):=c3 (f3::l)
def n4:List Str:=["stand","road"]
def b4:List S:=yq
def f4:Fu:=ar (cS (c4 [])) 2 b4
abbrev c5(l:List Fu):=c4 (f4::l)
def n5:List Str:=["form","thing"]
def b5:List S:=yt 1 2 0
def f5:Fu:=ar (cS (c5 [])) 2 b5
abbrev c6(l:List Fu):=c5 (f5::l)
def n6:List Str:=["form","deed"]
def b6:List S:=Fe
def f6:Fu:=ar (cS (c6 [])) 2 b6
abbrev c7(l:List Fu):=c6 (f6::l)
def n7:List Str:=["form","stand","road","waiting"]
def b7:List S:=Ov 4
def f7:Fu:=ar (cS (c7 [])) 4 b7
abbrev c8(l:List Fu):=c7 (f7::l)
def n8:List Str:=["form","stand","thing"]
def b8:List S:=Ow 5 3 7
def f8:Fu:=ar (cS (c8 [])) 3 b8
abbrev c9(l:List Fu):=c8 (f8::l)
def n9:List Str:=["stand","deed"]
def b9:List S:=yu 4
def f9:Fu:=ar (cS (c9 [])) 2 b9
abbrev Vd(l:List Fu):=c9 (f9::l)
def n10:List Str:=["letters","k"]
def ZQ:List S:=Ff
def P7:Fu:=ar (cS (Vd [])) 2 ZQ
abbrev Ve(l:List Fu):=Vd (P7::l)
def n11:List Str:=["letters","sign"]
def ZR:List S:=Fg
def Vf:Fu:=ar (cS (Ve [])) 2 ZR
abbrev Vg(l:List Fu):=Ve (Vf::l)
noncomputable def n12:List Str:=["form","stand","deed","m","reply","states","roads","road","sign","told"]
def ZS:List S:=Fh 6 3 9 10 11
def TC:Fu:=ar (cS (Vg [])) 10 ZS
abbrev Vh(l:List Fu):=Vg (TC::l)
noncomputable def n13:List Str:=["form","stand","deeds","behind","now","number","deed","step"]
def ZT:List S:=yK 8 12
def f13:Fu:=ar (cS (Vh [])) 8 ZT
abbrev Vi(l:List Fu):=Vh (f13::l)
noncomputable def n14:List Str:=["form","deeds","counts","events","deed","m"]
def ZU:List S:=[.fR 2 (.comp .seq [(.sub (.ae 0) (.ai (.int 0)))] [1] none (.ai (.int 0)) [none,none]),.asg [3] (.lst []),.bE [4] .seq [(.ae 1)] [.asg [5] (.call 6 [(.ae 0),(.ae 4)]),.expr (.me .append (.ae 3) [(.tup [(.ae 5),(.sub (.ae 2) (.ae 5))])]),.put (.ae 2) (.ae 5) (.bin .add (.sub (.ae 2) (.ae 5)) (.ai (.int 1)))],.ret (.ae 3)]
def f14:Fu:=ar (cS (Vi [])) 6 ZU
abbrev Vj(l:List Fu):=Vi (f14::l)
def n15:List Str:=["ahead","behind","letters","road","k"]
noncomputable def ZV:List S:=[.asg [2] (.lst []),.bE [3] .eK [(.bi .len [(.sub (.ae 0) (.ai (.int 1)))])] [.bE [4] .qf [(.sub (.sub (.sub (.ae 0) (.ai (.int 1))) (.ae 3)) (.ai (.int 0))),(.sub (.sub (.sub (.ae 1) (.ai (.int 1))) (.ae 3)) (.ai (.int 0)))] [.expr (.me .append (.ae 2) [(.tup [(.ae 3),(.ae 4)])])]],.ret (.ae 2)]
def f15:Fu:=ar (cS (Vj [])) 5 ZV
abbrev Vk(l:List Fu):=Vj (f15::l)
noncomputable def n16:List Str:=["form","stand","deeds","letters","road","k","sign","ahead","number","step","deed","letter"]
def ZW:List S:=[.asg [3] .lI,.bE [4] .eK [(.bi .len [(.sub (.ae 0) (.ai (.int 1)))])] [.bE [5,6] .seq [(.call 4 [(.ae 1),(.ae 4)])] [.dput (.ae 3) (.tup [(.ae 4),(.ae 5)]) (.tup [(.ai .aR),(.ai .aR)])]],.asg [7] (.ae 1),.bE [8,9] .enum [(.call 13 [(.ae 0),(.ae 1),(.ae 2)])] [.asg [10] (.sub (.ae 2) (.ae 8)),.iff (.val (.cmp .eq (.sub (.ae 10) (.ai (.int 0))) (.ai (.str "come")))) [.asg [11] (.tup [(.sub (.ae 10) (.ai (.int 1))),(.sub (.ae 10) (.ai (.int 2)))]),.dput (.ae 3) (.ae 11) (.tup [(.sub (.jY (.ae 3) (.ae 11)) (.ai (.int 0))),(.ae 8)])] [],.bE [11] .seq [(.call 15 [(.ae 7),(.sub (.ae 9) (.ai (.int 0)))])] [.dput (.ae 3) (.ae 11) (.tup [(.ae 8),(.ai .aR)])],.asg [7] (.sub (.ae 9) (.ai (.int 0)))],.ret (.ae 3)]
def f16:Fu:=ar (cS (Vk [])) 12 ZW
abbrev Vl(l:List Fu):=Vk (f16::l)
noncomputable def n17:List Str:=["form","stand","deeds","letters","links","last","number","event","sending","coming"]
def ZX:List S:=[.asg [3] (.call 16 [(.ae 0),(.ae 1),(.ae 2)]),.fR 4 (.comp .seq [(.ae 2)] [1] none (.lst []) [none,none]),.asg [5] (.u5 [] []),.bE [6,7] .enum [(.call 14 [(.ae 0),(.ae 2)])] [.iff (.val (.cmp .isin (.sub (.ae 7) (.ai (.int 0))) (.ae 5))) [.expr (.me .append (.sub (.ae 4) (.ae 6)) [(.sub (.ae 5) (.sub (.ae 7) (.ai (.int 0))))])] [],.put (.ae 5) (.sub (.ae 7) (.ai (.int 0))) (.ae 6)],.bE [8,9] .vals [(.ae 3)] [.iff (.d7 [(.val (.cmp .fj (.ae 8) (.ai .aR))),(.val (.cmp .fj (.ae 9) (.ai .aR)))]) [.expr (.me .append (.sub (.ae 4) (.ae 9)) [(.ae 8)])] []],.ret (.ae 4)]
def f17:Fu:=ar (cS (Vl [])) 10 ZX
abbrev Vm(l:List Fu):=Vl (f17::l)
noncomputable def n18:List Str:=["form","stand","deeds","told","links","before","number"]
def ZY:List S:=[.asg [3] (.lst []),.bE [4] .seq [(.call 17 [(.ae 0),(.ae 1),(.ae 2)])] [.asg [5] (.bi .list1 [(.ae 4)]),.bE [6] .seq [(.ae 4)] [.expr (.me .extend (.ae 5) [(.sub (.ae 3) (.ae 6))])],.expr (.me .append (.ae 3) [(.bi .tuple1 [(.sset (.ae 5))])])],.ret (.ae 3)]
def f18:Fu:=ar (cS (Vm [])) 7 ZY
abbrev Vn(l:List Fu):=Vm (f18::l)
def n19:List Str:=["_law_script","_law_k","_law_cell"]
def ZZ:List S:=EV
def f19:Fu:=ar (cS (Vn [])) 3 ZZ
abbrev Vo(l:List Fu):=Vn (f19::l)
noncomputable def n20:List Str:=["_law_well_here","_law_many","_law_turn","_law_left","_law_here","_law_mixed"]
def Z0:List S:=z4
def f20:Fu:=ar (cS (Vo [])) 6 Z0
abbrev Vp(l:List Fu):=Vo (f20::l)
noncomputable def n21:List Str:=["_law_well_here","_law_machines","_law_roads_here","_law_many","_law_k","_law_one","_law_other"]
def Z2:List S:=yd 20
def f21:Fu:=ar (cS (Vp [])) 7 Z2
abbrev Vq(l:List Fu):=Vp (f21::l)
noncomputable def n22:List Str:=["_law_well_here","_law_some","_law_many","_law_k","_law_state"]
def Z3:List S:=tm 20
def f22:Fu:=ar (cS (Vq [])) 5 Z3
abbrev Vr(l:List Fu):=Vq (f22::l)
noncomputable def n23:List Str:=["_law_well_here","_law_ways","_law_sends_here","_law_k","_law_road"]
def Z4:List S:=ye 20
def f23:Fu:=ar (cS (Vr [])) 5 Z4
abbrev Vs(l:List Fu):=Vr (f23::l)
noncomputable def n24:List Str:=["_law_well_here","_law_some","_law_ways","_law_words","_law_moves_here","_law_state","_law_cause","_law_after","_law_sends_here","_law_word","_law_at"]
def Z5:List S:=yf 20 23
def f24:Fu:=ar (cS (Vs [])) 11 Z5
abbrev Vt(l:List Fu):=Vs (f24::l)
noncomputable def n25:List Str:=["_law_script","_law_well_here","_law_machines","_law_roads_here","_law_rules","_law_m","_law_some","_law_ways","_law_start"]
def Z6:List S:=z5 19 20 21 22 24
def f25:Fu:=ar (cS (Vt [])) 9 Z6
abbrev Vu(l:List Fu):=Vt (f25::l)
noncomputable def n26:List Str:=["_law_form_here","_law_m","_law_state","_law_cause","_law_told"]
def Z7:List S:=tu
def f26:Fu:=ar (cS (Vu [])) 5 Z7
abbrev Vv(l:List Fu):=Vu (f26::l)
noncomputable def n27:List Str:=["_law_form_here","_law_stand_here","_law_found","_law_road","_law_waiting"]
def Z8:List S:=tF
def f27:Fu:=ar (cS (Vv [])) 5 Z8
abbrev Vw(l:List Fu):=Vv (f27::l)
noncomputable def n28:List Str:=["_law_form_here","_law_stand_here","_law_deed","_law_m","_law_road","_law_number","_law_sign"]
def Z9:List S:=yv 26 27
def f28:Fu:=ar (cS (Vw [])) 7 Z9
abbrev Vx(l:List Fu):=Vw (f28::l)
def n29:List Str:=["_law_form_here","_law_deed"]
def Z_:List S:=yw
def f29:Fu:=ar (cS (Vx [])) 2 Z_
abbrev Vy(l:List Fu):=Vx (f29::l)
noncomputable def n30:List Str:=["_law_form_here","_law_stand_here","_law_deed","_law_after","_law_sends_here","_law_word","_law_m","_law_states_here","_law_load_here","_law_loads","_law_road","_law_sign","_law_roads_here"]
def b30:List S:=yx 28 29
def f30:Fu:=ar (cS (Vy [])) 13 b30
abbrev Vz(l:List Fu):=Vy (f30::l)
noncomputable def n31:List Str:=["_law_well_here","_law_order","_law_some","_law_sent","_law_waiting","_law_least","_law_k"]
def b31:List S:=yy 20
def f31:Fu:=ar (cS (Vz [])) 7 b31
abbrev VA(l:List Fu):=Vz (f31::l)
noncomputable def n32:List Str:=["_law_script","_law_form_here","_law_well_here","_law_loads","_law_states_here"]
def b32:List S:=tH 19 20 31
def f32:Fu:=ar (cS (VA [])) 5 b32
abbrev VB(l:List Fu):=VA (f32::l)
noncomputable def n33:List Str:=["_law_well_here","_law_form_here","_law_stand_here","_law_some","_law_owns","_law_m","_law_way"]
def b33:List S:=yz 27 28 20
def f33:Fu:=ar (cS (VB [])) 7 b33
abbrev VC(l:List Fu):=VB (f33::l)
noncomputable def n34:List Str:=["_law_script","_law_form_here","_law_stand_here","_law_most","_law_well_here","_law_deeds_here","_law_many","_law_k","_law_deed"]
def b34:List S:=tR 19 20 33 30
def f34:Fu:=ar (cS (VC [])) 9 b34
abbrev VD(l:List Fu):=VC (f34::l)
noncomputable def n35:List Str:=["_law_form_here","_law_stand_here","_law_deeds_here","_law_last","_law_sender","_law_found","_law_k","_law_m","_law_ahead","_law_sends_here","_law_counts","_law_road","_law_sign"]
def b35:List S:=[.asg [3] (.u5 [] []),.asg [4] .lI,.asg [5] (.lst []),.bE [6] .eK [(.bi .len [(.ae 2)])] [.asg [7] (.call 29 [(.ae 0),(.sub (.ae 2) (.ae 6))]),.asg [8] (.ite (.val (.cmp .isin (.ae 7) (.ae 3))) (.lst [(.sub (.ae 3) (.ae 7))]) (.lst [])),.iff (.d7 [(.val (.cmp .eq (.sub (.sub (.ae 2) (.ae 6)) (.ai (.int 0))) (.ai (.str "come")))),(.val (.gJ false (.pP (.sub (.ae 2) (.ae 6)) (some (.ai (.int 1))) none) (.ae 4)))]) [.expr (.me .append (.ae 8) [(.jY (.ae 4) (.pP (.sub (.ae 2) (.ae 6)) (some (.ai (.int 1))) none))])] [],.expr (.me .append (.ae 5) [(.ae 8)]),.put (.ae 3) (.ae 7) (.ae 6),.asg [9] (.sub (.call 28 [(.ae 0),(.ae 1),(.sub (.ae 2) (.ae 6))]) (.ai (.int 1))),.fR 10 (.comp .seq [(.sub (.ae 1) (.ai (.int 1)))] [1] none (.sub (.ae 1) (.ai (.int 0))) [none,none]),.bE [11,12] .seq [(.ae 9)] [.dput (.ae 4) (.tup [(.ae 11),(.sub (.ae 10) (.ae 11))]) (.ae 6),.put (.ae 10) (.ae 11) (.bin .add (.sub (.ae 10) (.ae 11)) (.ai (.int 1)))],.asg [1] (.sub (.call 30 [(.ae 0),(.ae 1),(.sub (.ae 2) (.ae 6))]) (.ai (.int 0)))],.ret (.ae 5)]
def f35:Fu:=ar (cS (VD [])) 13 b35
abbrev VE(l:List Fu):=VD (f35::l)
noncomputable def n36:List Str:=["_law_ahead","_law_found","_law_k","_law_seen","_law_line","_law_one"]
noncomputable def b36:List S:=[.asg [1] (.lst []),.bE [2] .eK [(.bi .len [(.ae 0)])] [.asg [3] (.lst []),.asg [4] (.bi .list1 [(.sub (.ae 0) (.ae 2))]),.Gm 1000 (.val (.cmp .ne (.ae 4) (.lst []))) [.asg [5] (.me .pop (.ae 4) []),.iff (.val (.cmp .eN (.ae 5) (.ae 3))) [.expr (.me .append (.ae 3) [(.ae 5)]),.asg [4] (.bin .add (.ae 4) (.sub (.ae 0) (.ae 5)))] []],.expr (.me .append (.ae 1) [(.bi .ox [(.ae 3)])])],.ret (.ae 1)]
def f36:Fu:=ar (cS (VE [])) 6 b36
abbrev VF(l:List Fu):=VE (f36::l)
noncomputable def n37:List Str:=["_law_script","_law_form_here","_law_stand_here","_law_deeds_here","_law_due","_law_turn","_law_handed","_law_found"]
def VG:List S:=[.asg [1] (.call 25 [(.ae 0)]),.asg [2] (.call 32 [(.ae 0),(.ae 1)]),.asg [3] (.call 34 [(.ae 0),(.ae 1),(.ae 2),(.ai (.int 60))]),.fR 4 (.comp .seq [(.call 36 [(.call 35 [(.ae 1),(.ae 2),(.ae 3)])])] [1] none (.bi .tuple1 [(.ae 1)]) [none,none]),.bE [5] .eK [(.ai (.int 2))] [.asg [6] (.bi .list1 [(.ae 3)]),.asg [7] (.call 18 [(.ae 1),(.ae 2),(.ae 6)]),.iff (.iy [(.neg (.val (.bi (.xJ .list) [(.ae 7)]))),(.val (.cmp .ne (.bi .ou [(.ae 7)]) (.bi .ou [(.ae 4)]))),(.val (.cmp .ne (.ae 6) (.ae 3)))]) [.ret (.ai (.bl false))] [],.expr (.me .append (.ae 7) [(.tup [])]),.expr (.me .reverse (.ae 7) [])],.ret (.cmp .eq (.call 18 [(.ae 1),(.ae 2),(.lst [])]) (.lst []))]
def T7:Fu:=ar (cS (VF [])) 8 VG
def gs:List (Str×Int):=[]
noncomputable def fs:List (Str×Nat):=[(("is_whole" : Str),1),(("is_below" : Str),2),(("is_sign" : Str),1),(("answer" : Str),4),(("waits" : Str),2),(("is_plain" : Str),2),(("machine_of" : Str),2),(("may_come" : Str),3),(("can" : Str),3),(("cause_of" : Str),2),(("less_letter" : Str),2),(("more_letter" : Str),2),(("outcome" : Str),3),(("steps" : Str),3),(("events_of" : Str),2),(("sent_between" : Str),2),(("letters_of" : Str),3),(("right_ahead" : Str),3),(("pasts" : Str),3),(("_law_well" : Str),2),(("_law_draw" : Str),2),(("_law_roads" : Str),2),(("_law_states" : Str),1),(("_law_sends" : Str),2),(("_law_moves" : Str),3),(("_law_form" : Str),1),(("_law_answer" : Str),4),(("_law_comes" : Str),2),(("_law_answered" : Str),3),(("_law_machine" : Str),2),(("_law_done" : Str),3),(("_law_load" : Str),2),(("_law_stand" : Str),2),(("_law_next" : Str),3),(("_law_deeds" : Str),4),(("_law_before" : Str),3),(("_law_reach" : Str),1),(("law" : Str),1)]
end ig
end
section
namespace ig
open L2 Ev
open PySem PySem.Spec PyProof.Rows
theorem O_{f:Fm}{s:Sd}{ds:List Dn}(Cm:ds.length<=60):∀d∈ug f s ds ds.length,Sm 243 1 d:=λd hd=>by
 obtain⟨i,hi,rfl⟩:=dg.mp hd;rw[rH]at hi;refine Sm.tup (b:=2) (h:=0) (k:=60) (λx hx=>?_) (by rw[aB];have:=ub (gD (f:=f) (s:=s) (ds:=ds)) i;omega);obtain⟨y,hy,rfl⟩:=dg.mp hx;obtain⟨j,rfl,hj⟩:=F7 gD hy;exact Sm.int ∅ ∅
theorem Pa{G:dN}(hF:E5 (G 25))(SQ:tQ (G 32))(hDe:tV (G 34))(hLb:jm (G 35))(hRe:ua (G 36))(hPa:yU (G 18))(ns:List Int)(lE:ns.length<=63):aV (ar G 8 VG [.ls (ns.map D.int)] []) λr _=>r=.d (.bl true):=by
 rw[bF];show dX G VG [some (.ls (ns.map D.int)),none,none,none,none,none,none,none] [] _ _ _ _;nofun;refine(hF [] ns lE).imp ?_;rintro r M1 ⟨d,rfl,hd,f1⟩;obtain⟨f,rfl,hf⟩:=yA hd;have h4:=hf.l4;nofun;refine(SQ M1 ns f lE hf).imp ?_;rintro r M2 ⟨s,rfl,hs,ht,f2⟩;nofun;refine(hDe M2 ns f s 60 lE hf hs ∅ ∅).imp ?_;rintro r M3 ⟨nD,ds,rfl,hlD,hD3,Pb,hl60,f3⟩;have Cm:ds.length<=60:=∅;have Ye:=O2 Pb;nofun;refine(hLb M3 f 4 s ds nD hf hs ∅ Cm Pb hD3).imp ?_;rintro r M4 ⟨nA,as,rfl,u7,hvA,_,f4⟩;have hD4:=Ex.get f4 hD3;nofun;refine(hRe M4 nA as (gi f s ds) ds.length hvA u7 Cm gD (λi=>Az)).imp ?_;rintro r M5 ⟨nB,bs,h,rfl,P5,VH,hB,f5⟩;have P0:=Ex.get f5 hD4;have hP:∀i,i<ds.length->h i=Pk (gi f s ds) i:=λi hi=>O5 gD (hB i hi).1 (hB i hi).2.2 (hB i hi).2.1;nofun;rw[d_ VH.at'];refine iW (ds:=bs.map D.aj) (λi M' acc=>acc=ug f s ds i/\M5=M') (by decide) (λi M' acc ⟨_,e⟩ _=>by subst e;exact pb VH.at' _ (Ex.refl _) _ (by assumption)) ⟨rfl,rfl⟩ ?_ ?_ (ql VH.at')
 ·rintro i M' acc dd cu ⟨rfl,rfl⟩;rw[bj]at cu
  cases e:bs[i]? with
  | none=>rw[e]at cu;cases cu
  | some b =>
   rw[e]at cu;cases cu;have hi:=(bq.mp e).1;refine⟨aO (by rw[la];omega),?_⟩;nofun;rw[cq (VH.av i b e)];refine⟨?_,rfl⟩;rw[wH];unfold T6;rw[hP i ∅]
 rintro M' acc ⟨rfl,rfl⟩;rw[aB,P5];nofun;have Yu:(M5++[MO.lst (ug f s ds ds.length)])[M5.length]?=some (.lst (ug f s ds ds.length)):=ao;have hD6:(M5++[MO.lst (ug f s ds ds.length)])[nD]?=some (.lst (ds.map df)):=aD P0;generalize M5.length=nU at Yu⊢;generalize M5++[MO.lst (ug f s ds ds.length)]=M6 at Yu hD6⊢;obtain⟨ex,sx,T8⟩:=E8 (O_ (f:=f) (s:=s) Cm) (by rw[la];omega) (by decide) (by decide);refine⟨by decide,?_⟩;refine f_ (n:=2) (λi ρ M'=>∃o5 o6 o7,ρ=[some (.ls (ns.map D.int)),some (dO f),some (du s),some (.aj nD),some (.aj nU),o5,o6,o7]/\M'[nU]?=some (.lst (ug f s ds ds.length))/\M'[nD]?=some (.lst (ds.map df))) ⟨_,_,_,rfl,Yu,hD6⟩ ?_ ?_
 ·rintro t ρ M9 htt ⟨o5,o6,o7,rfl,Yv,VI⟩;nofun;rw[oX VI];nofun;have JZ:(M9++[MO.lst (ds.map df)])[M9.length]?=some (.lst (ds.map df)):=ao;have P7:Ex M9 (M9++[MO.lst (ds.map df)]):=Fr.app (Ex.refl M9);have lU9:=ay Yv;have lD9:=ay VI;generalize hnH:M9.length=nH at JZ⊢;generalize M9++[MO.lst (ds.map df)]=M10 at JZ P7⊢;refine(hPa M10 f 4 s ds nH hf hs ∅ Cm Pb JZ).imp ?_;rintro r M11 ⟨nf,rfl,hlf,Ga,Vf⟩;have T9:=Ex.trans P7 Vf;have Yw:=Ex.get Vf JZ;have T_:=Ex.get T9 Yv;have Ua:=Ex.get T9 VI;have YK:=P7.1;nofun;rw[is_list Ga];nofun;rw[T8 M11 nf Ga];nofun;rw[T8 M11 nU T_];nofun;rw[z0 sx sx,beq_self_eq_true];nofun;rw[(FX (FY Yw) (FY Ua) (FA λd hd=>(Ye d hd).s)).1];nofun;refine⟨bf Ga,?_⟩;nofun;refine⟨s0,?_⟩;nofun;rw[bQ Ga (aO (by rw[la];omega))];have Ub:=aK (u:=.lst (ug f s ds ds.length++[.tup []])) Ga;nofun;refine⟨bf Ub,?_⟩;nofun;rw[Ca Ub];exact⟨_,_,_,rfl,au (au T_ ∅) ∅,au (au Ua ∅) ∅⟩
 ·rintro ρ M9 ⟨o5,o6,o7,rfl,Yv,VI⟩;nofun;refine⟨s0,?_⟩;nofun;refine(hPa (M9++[MO.lst []]) f 4 s [] M9.length hf hs (by decide) (by decide) trivial ao).imp ?_;rintro r M10 ⟨n',rfl,Y9,Yx,P7⟩;nofun;refine⟨s0,?_⟩;nofun;rw[JY Yx]
theorem Gb:∀ns:List Int,ns.length<=63->∃M,T7 [.ls (ns.map D.int)] []=.ok (.d (.bl true)) M:=by
 intro ns lE;have h0:∀l,tM (cS (c1 l) 0):=λl=>OB;have h1:∀l,yC (cS (c2 l) 1):=λl=>OC (h0 _);have h2:∀l,Fp (cS (c3 l) 2):=λl=>S7;have h3:∀l,kT (cS (c4 l) 3):=λl=>Jp;have h4:∀l,pw (cS (c5 l) 4):=λl=>OE;have h5:∀l,yD (cS (c6 l) 5):=λl=>OD (h1 _) (h2 _) (h0 _);have h6:∀l,mz (cS (c7 l) 6):=λl=>S6;have h7:∀l,OF (cS (c8 l) 7):=λl=>XW (h4 _);have h8:∀l,OI (cS (c9 l) 8):=λl=>XX (h5 _) (h3 _) (h7 _);have h9:∀l,yE (cS (Vd l) 9):=λl=>OK (h4 _);have Yx:∀l,Fx (cS (Ve l) 10):=λl=>Tc;have h11:∀l,Ah (cS (Vg l) 11):=λl=>Td;have h12:∀l,mB (cS (Vh l) 12):=λl=>Ti (h6 _) (h3 _) (h9 _) (Yx _) (h11 _);have h13:∀l,yN (cS (Vi l) 13):=λl=>OU (h8 _) (h12 _);have h14:∀l,t6 (cS (Vj l) 14):=λl=>JM (h6 _);have QS:∀l,tY (cS (Vk l) 15):=λl=>OX;have h16:∀l,pJ (cS (Vl l) 16):=λl=>FR (h4 _) (h13 _) (QS _);have h17:∀l,jm (cS (Vm l) 17):=λl=>JQ (h16 _) (h14 _);have h18:∀l,yU (cS (Vn l) 18):=λl=>O8 (h17 _);have Yy:∀l,qW (cS (Vo l) 19):=λl=>SA;have J0:∀l,e9 (cS (Vp l) 20):=λl=>Oh;have h21:∀l,yg (cS (Vq l) 21):=λl=>Oi (J0 _);have h22:∀l,m8 (cS (Vr l) 22):=λl=>Jk (J0 _);have h23:∀l,yi (cS (Vs l) 23):=λl=>Ol (J0 _);have h24:∀l,tw (cS (Vt l) 24):=λl=>Om (J0 _) (h23 _);have h25:∀l,E5 (cS (Vu l) 25):=λl=>SS (Yy _) (J0 _) (h21 _) (h22 _) (h24 _);have h26:∀l,nc (cS (Vv l) 26):=λl=>Js;have h27:∀l,nq (cS (Vw l) 27):=λl=>Jz;have U0:∀l,l9 (cS (Vx l) 28):=λl=>OO (h26 _) (h27 _);have h29:∀l,mz (cS (Vy l) 29):=λl=>OA;have h30:∀l,mB (cS (Vz l) 30):=λl=>OR (U0 _) (h29 _);have h31:∀l,yG (cS (VA l) 31):=λl=>OP (J0 _);have h32:∀l,tQ (cS (VB l) 32):=λl=>JD (Yy _) (J0 _) (h31 _);have h33:∀l,yJ (cS (VC l) 33):=λl=>OT (h27 _) (U0 _) (J0 _);have h34:∀l,tV (cS (VD l) 34):=λl=>JG (Yy _) (J0 _) (h33 _) (h30 _);have h35:∀l,jm (cS (VE l) 35):=λl=>F4 (h29 _) (U0 _) (h30 _);have h36:∀l,ua (cS (VF l) 36):=λl=>JX;obtain⟨r,M,e,q⟩:=EJ (Pa (G:=cS (VF [])) (h25 _) (h32 _) (h34 _) (h35 _) (h36 _) (h18 _) ns lE);subst q;exact⟨M,e⟩
end ig
end
section
namespace ig
open L2 Ev PySem PySem.Spec PyProof.Rows
noncomputable def da(i:Nat):Stmt:=PySem.Challenge.pw_cutstand_k10_pasts.main.body.getD i (.Pass ⟨0,0,0,0⟩)
abbrev s0:=da 4
abbrev s1:=da 5
abbrev s2:=da 6
abbrev s3:=da 8
abbrev s4:=da 10
abbrev s5:=da 12
abbrev s6:=da 13
abbrev s7:=da 15
abbrev s8:=da 14
abbrev s9:=da 17
abbrev Ux:=da 18
abbrev WI:=da 19
abbrev s12:=da 16
abbrev s13:=da 20
abbrev s14:=da 22
abbrev s15:=da 24
abbrev s16:=da 23
abbrev s17:=da 25
abbrev s18:=da 26
abbrev s19:=da 28
abbrev s20:=da 29
abbrev s21:=da 30
abbrev s22:=da 31
abbrev s23:=da 32
abbrev s24:=da 33
abbrev s25:=da 34
abbrev s26:=da 35
abbrev s27:=da 36
abbrev s28:=da 37
abbrev s29:=da 38
abbrev s30:=da 39
abbrev s31:=da 40
abbrev s32:=da 41
abbrev s33:=da 42
abbrev s34:=da 43
abbrev s35:=da 44
abbrev s36:=da 45
abbrev Yz:=da 46
abbrev m0:Value:=(.str "cutstand.kinds" 232)
abbrev m1:Value:=(.str "cutstand.forms" 256)
abbrev m2:Value:=(.str "cutstand.stands" 269)
abbrev m3:Value:=(.str "cutstand.plain" 279)
abbrev m4:Value:=(.str "cutstand.pasts" 364)
abbrev m5:Value:=(.str "law_cutstand_k10_pasts" 420)
noncomputable def en(P:Params)(k:Str)(t:Nat)(v:Value):DictEntry:=⟨PyData.keyHash P k,.str k t,v⟩
noncomputable def co(a:Array Value):Obj:=⟨.type "code",none,.fields a,#[]⟩
def cp(n:Nat):Value:=.str "/claim/cut.py" n
def iv(n:Nat):Value:=.int n 0
def Kf(P:Params):PySem.W.Frag:=[(3,⟨(.type "dict"),none,.dict #[en P "__name__" 165 (.str "law_cutstand_k10_pasts" 420),en P "__doc__" 166 .none,en P "__package__" 167 .none,en P "__loader__" 168 (.builtin "__main__.__loader__#opaque"),en P "__spec__" 169 .none,en P "__annotations__" 170 (.ref 6),en P "__builtins__" 171 (.ref 4),en P "__file__" 173 (cp 172),en P "__cached__" 174 .none,en P "CutError" 206 (.ref 24),en P "NoDeed" 231 (.ref 44),en P "is_whole" 240 (.ref 53),en P "is_below" 248 (.ref 60),en P "is_sign" 255 (.ref 67),en P "answer" 268 (.ref 74),en P "waits" 278 (.ref 81),en P "is_plain" 288 (.ref 88),en P "machine_of" 296 (.ref 95),en P "can" 305 (.ref 102),en P "may_come" 311 (.ref 107),en P "outcome" 327 (.ref 114),en P "cause_of" 335 (.ref 121),en P "less_letter" 341 (.ref 126),en P "more_letter" 349 (.ref 133),en P "steps" 363 (.ref 140),en P "events_of" 371 (.ref 145),en P "letters_of" 389 (.ref 152),en P "sent_between" 400 (.ref 159),en P "right_ahead" 406 (.ref 164),en P "pasts" 419 (.ref 171),en P "_law_well" 430 (.ref 178),en P "_law_draw" 442 (.ref 185),en P "_law_roads" 455 (.ref 192),en P "_law_states" 466 (.ref 199),en P "_law_sends" 477 (.ref 206),en P "_law_moves" 494 (.ref 213),en P "_law_form" 500 (.ref 218),en P "_law_answer" 506 (.ref 223),en P "_law_comes" 512 (.ref 228),en P "_law_answered" 525 (.ref 235),en P "_law_machine" 533 (.ref 242),en P "_law_done" 539 (.ref 247),en P "_law_load" 552 (.ref 254),en P "_law_stand" 558 (.ref 259),en P "_law_next" 564 (.ref 264),en P "_law_deeds" 579 (.ref 271),en P "_law_before" 585 (.ref 276),en P "_law_reach" 597 (.ref 283),en P "law" 603 (.ref 288)] 49,#[]⟩),(52,co #[(.str "is_whole" 234),(.str "is_whole" 235),(cp 236),(iv 9),(iv 1),(iv 0),(iv 0),(iv 3),(.ref 47),(.bool true),(iv 181),(.ref 48),.none,(.ref 49),(.ref 50),(.ref 51),(iv 238),(iv 9),(cp 239)]),(53,fo (fq "is_whole" s0 m0 (.ref 52))),(59,co #[(.str "is_below" 241),(.str "is_below" 242),(cp 243),(iv 11),(iv 2),(iv 0),(iv 0),(iv 3),(.ref 54),(.bool true),(iv 181),(.ref 55),.none,(.ref 56),(.ref 57),(.ref 58),(iv 246),(iv 11),(cp 247)]),(60,fo (fq "is_below" s1 m0 (.ref 59))),(66,co #[(.str "is_sign" 249),(.str "is_sign" 250),(cp 251),(iv 13),(iv 1),(iv 0),(iv 0),(iv 3),(.ref 61),(.bool true),(iv 181),(.ref 62),.none,(.ref 63),(.ref 64),(.ref 65),(iv 253),(iv 13),(cp 254)]),(67,fo (fq "is_sign" s2 m0 (.ref 66))),(73,co #[(.str "answer" 258),(.str "answer" 259),(cp 260),(iv 16),(iv 4),(iv 0),(iv 0),(iv 3),(.ref 68),(.bool true),(iv 181),(.ref 69),.none,(.ref 70),(.ref 71),(.ref 72),(iv 266),(iv 16),(cp 267)]),(74,fo (fq "answer" s3 m1 (.ref 73))),(80,co #[(.str "waits" 271),(.str "waits" 272),(cp 273),(iv 24),(iv 2),(iv 0),(iv 0),(iv 3),(.ref 75),(.bool true),(iv 181),(.ref 76),.none,(.ref 77),(.ref 78),(.ref 79),(iv 276),(iv 24),(cp 277)]),(81,fo (fq "waits" s4 m2 (.ref 80))),(87,co #[(.str "is_plain" 281),(.str "is_plain" 282),(cp 283),(iv 27),(iv 2),(iv 0),(iv 0),(iv 3),(.ref 82),(.bool true),(iv 181),(.ref 83),.none,(.ref 84),(.ref 85),(.ref 86),(iv 286),(iv 27),(cp 287)]),(88,fo (fq "is_plain" s5 m3 (.ref 87))),(94,co #[(.str "machine_of" 289),(.str "machine_of" 290),(cp 291),(iv 35),(iv 2),(iv 0),(iv 0),(iv 3),(.ref 89),(.bool true),(iv 181),(.ref 90),.none,(.ref 91),(.ref 92),(.ref 93),(iv 294),(iv 35),(cp 295)]),(95,fo (fq "machine_of" s6 m3 (.ref 94))),(101,co #[(.str "can" 297),(.str "can" 298),(cp 299),(iv 39),(iv 3),(iv 0),(iv 0),(iv 3),(.ref 96),(.bool true),(iv 181),(.ref 97),.none,(.ref 98),(.ref 99),(.ref 100),(iv 303),(iv 39),(cp 304)]),(102,fo (fq "can" s8 m3 (.ref 101))),(106,co #[(.str "may_come" 306),(.str "may_come" 307),(cp 308),(iv 47),(iv 3),(iv 0),(iv 0),(iv 3),(.ref 103),(.bool true),(iv 181),(.ref 104),.none,.none,.none,(.ref 105),(iv 309),(iv 47),(cp 310)]),(107,fo (fq "may_come" s7 m3 (.ref 106))),(113,co #[(.str "outcome" 312),(.str "outcome" 313),(cp 314),(iv 52),(iv 3),(iv 0),(iv 0),(iv 3),(.ref 108),(.bool true),(iv 181),(.ref 109),.none,(.ref 110),(.ref 111),(.ref 112),(iv 325),(iv 52),(cp 326)]),(114,fo (fq "outcome" s12 m3 (.ref 113))),(120,co #[(.str "cause_of" 328),(.str "cause_of" 329),(cp 330),(iv 66),(iv 2),(iv 0),(iv 0),(iv 3),(.ref 115),(.bool true),(iv 181),(.ref 116),.none,(.ref 117),(.ref 118),(.ref 119),(iv 333),(iv 66),(cp 334)]),(121,fo (fq "cause_of" s9 m3 (.ref 120))),(125,co #[(.str "less_letter" 336),(.str "less_letter" 337),(cp 338),(iv 72),(iv 2),(iv 0),(iv 0),(iv 3),(.ref 122),(.bool true),(iv 181),(.ref 123),.none,.none,.none,(.ref 124),(iv 339),(iv 72),(cp 340)]),(126,fo (fq "less_letter" Ux m3 (.ref 125))),(132,co #[(.str "more_letter" 342),(.str "more_letter" 343),(cp 344),(iv 74),(iv 2),(iv 0),(iv 0),(iv 3),(.ref 127),(.bool true),(iv 181),(.ref 128),.none,(.ref 129),(.ref 130),(.ref 131),(iv 347),(iv 74),(cp 348)]),(133,fo (fq "more_letter" WI m3 (.ref 132))),(139,co #[(.str "steps" 350),(.str "steps" 351),(cp 352),(iv 76),(iv 3),(iv 0),(iv 0),(iv 3),(.ref 134),(.bool true),(iv 181),(.ref 135),.none,(.ref 136),(.ref 137),(.ref 138),(iv 361),(iv 76),(cp 362)]),(140,fo (fq "steps" s13 m3 (.ref 139))),(144,co #[(.str "events_of" 366),(.str "events_of" 367),(cp 368),(iv 87),(iv 2),(iv 0),(iv 0),(iv 3),(.ref 141),(.bool true),(iv 181),(.ref 142),.none,.none,.none,(.ref 143),(iv 369),(iv 87),(cp 370)]),(145,fo (fq "events_of" s14 m4 (.ref 144))),(151,co #[(.str "letters_of" 372),(.str "letters_of" 373),(cp 374),(iv 95),(iv 3),(iv 0),(iv 0),(iv 3),(.ref 146),(.bool true),(iv 181),(.ref 147),.none,(.ref 148),(.ref 149),(.ref 150),(iv 387),(iv 95),(cp 388)]),(152,fo (fq "letters_of" s16 m4 (.ref 151))),(158,co #[(.str "sent_between" 390),(.str "sent_between" 391),(cp 392),(iv 110),(iv 2),(iv 0),(iv 0),(iv 3),(.ref 153),(.bool true),(iv 181),(.ref 154),.none,(.ref 155),(.ref 156),(.ref 157),(iv 398),(iv 110),(cp 399)]),(159,fo (fq "sent_between" s15 m4 (.ref 158))),(163,co #[(.str "right_ahead" 401),(.str "right_ahead" 402),(cp 403),(iv 116),(iv 3),(iv 0),(iv 0),(iv 3),(.ref 160),(.bool true),(iv 181),(.ref 161),.none,.none,.none,(.ref 162),(iv 404),(iv 116),(cp 405)]),(164,fo (fq "right_ahead" s17 m4 (.ref 163))),(170,co #[(.str "pasts" 407),(.str "pasts" 408),(cp 409),(iv 128),(iv 3),(iv 0),(iv 0),(iv 3),(.ref 165),(.bool true),(iv 181),(.ref 166),.none,(.ref 167),(.ref 168),(.ref 169),(iv 417),(iv 128),(cp 418)]),(171,fo (fq "pasts" s18 m4 (.ref 170))),(177,co #[(.str "_law_well" 422),(.str "_law_well" 423),(cp 424),(iv 137),(iv 2),(iv 0),(iv 0),(iv 3),(.ref 172),(.bool true),(iv 181),(.ref 173),.none,(.ref 174),(.ref 175),(.ref 176),(iv 428),(iv 137),(cp 429)]),(178,fo (fq "_law_well" s19 m5 (.ref 177))),(184,co #[(.str "_law_draw" 431),(.str "_law_draw" 432),(cp 433),(iv 142),(iv 2),(iv 0),(iv 0),(iv 3),(.ref 179),(.bool true),(iv 181),(.ref 180),.none,(.ref 181),(.ref 182),(.ref 183),(iv 440),(iv 142),(cp 441)]),(185,fo (fq "_law_draw" s20 m5 (.ref 184))),(191,co #[(.str "_law_roads" 443),(.str "_law_roads" 444),(cp 445),(iv 152),(iv 2),(iv 0),(iv 0),(iv 3),(.ref 186),(.bool true),(iv 181),(.ref 187),.none,(.ref 188),(.ref 189),(.ref 190),(iv 453),(iv 152),(cp 454)]),(192,fo (fq "_law_roads" s21 m5 (.ref 191))),(198,co #[(.str "_law_states" 456),(.str "_law_states" 457),(cp 458),(iv 161),(iv 1),(iv 0),(iv 0),(iv 3),(.ref 193),(.bool true),(iv 181),(.ref 194),.none,(.ref 195),(.ref 196),(.ref 197),(iv 464),(iv 161),(cp 465)]),(199,fo (fq "_law_states" s22 m5 (.ref 198))),(205,co #[(.str "_law_sends" 467),(.str "_law_sends" 468),(cp 469),(iv 169),(iv 2),(iv 0),(iv 0),(iv 3),(.ref 200),(.bool true),(iv 181),(.ref 201),.none,(.ref 202),(.ref 203),(.ref 204),(iv 475),(iv 169),(cp 476)]),(206,fo (fq "_law_sends" s23 m5 (.ref 205))),(212,co #[(.str "_law_moves" 478),(.str "_law_moves" 479),(cp 480),(iv 175),(iv 3),(iv 0),(iv 0),(iv 3),(.ref 207),(.bool true),(iv 181),(.ref 208),.none,(.ref 209),(.ref 210),(.ref 211),(iv 492),(iv 175),(cp 493)]),(213,fo (fq "_law_moves" s24 m5 (.ref 212))),(217,co #[(.str "_law_form" 495),(.str "_law_form" 496),(cp 497),(iv 187),(iv 1),(iv 0),(iv 0),(iv 3),(.ref 214),(.bool true),(iv 181),(.ref 215),.none,.none,.none,(.ref 216),(iv 498),(iv 187),(cp 499)]),(218,fo (fq "_law_form" s25 m5 (.ref 217))),(222,co #[(.str "_law_answer" 501),(.str "_law_answer" 502),(cp 503),(iv 199),(iv 4),(iv 0),(iv 0),(iv 3),(.ref 219),(.bool true),(iv 181),(.ref 220),.none,.none,.none,(.ref 221),(iv 504),(iv 199),(cp 505)]),(223,fo (fq "_law_answer" s26 m5 (.ref 222))),(227,co #[(.str "_law_comes" 507),(.str "_law_comes" 508),(cp 509),(iv 204),(iv 2),(iv 0),(iv 0),(iv 3),(.ref 224),(.bool true),(iv 181),(.ref 225),.none,.none,.none,(.ref 226),(iv 510),(iv 204),(cp 511)]),(228,fo (fq "_law_comes" s27 m5 (.ref 227))),(234,co #[(.str "_law_answered" 513),(.str "_law_answered" 514),(cp 515),(iv 212),(iv 3),(iv 0),(iv 0),(iv 3),(.ref 229),(.bool true),(iv 181),(.ref 230),.none,(.ref 231),(.ref 232),(.ref 233),(iv 523),(iv 212),(cp 524)]),(235,fo (fq "_law_answered" s28 m5 (.ref 234))),(241,co #[(.str "_law_machine" 526),(.str "_law_machine" 527),(cp 528),(iv 221),(iv 2),(iv 0),(iv 0),(iv 3),(.ref 236),(.bool true),(iv 181),(.ref 237),.none,(.ref 238),(.ref 239),(.ref 240),(iv 531),(iv 221),(cp 532)]),(242,fo (fq "_law_machine" s29 m5 (.ref 241))),(246,co #[(.str "_law_done" 534),(.str "_law_done" 535),(cp 536),(iv 223),(iv 3),(iv 0),(iv 0),(iv 3),(.ref 243),(.bool true),(iv 181),(.ref 244),.none,.none,.none,(.ref 245),(iv 537),(iv 223),(cp 538)]),(247,fo (fq "_law_done" s30 m5 (.ref 246))),(253,co #[(.str "_law_load" 540),(.str "_law_load" 541),(cp 542),(iv 237),(iv 2),(iv 0),(iv 0),(iv 3),(.ref 248),(.bool true),(iv 181),(.ref 249),.none,(.ref 250),(.ref 251),(.ref 252),(iv 550),(iv 237),(cp 551)]),(254,fo (fq "_law_load" s31 m5 (.ref 253))),(258,co #[(.str "_law_stand" 553),(.str "_law_stand" 554),(cp 555),(iv 247),(iv 2),(iv 0),(iv 0),(iv 3),(.ref 255),(.bool true),(iv 181),(.ref 256),.none,.none,.none,(.ref 257),(iv 556),(iv 247),(cp 557)]),(259,fo (fq "_law_stand" s32 m5 (.ref 258))),(263,co #[(.str "_law_next" 559),(.str "_law_next" 560),(cp 561),(iv 256),(iv 3),(iv 0),(iv 0),(iv 3),(.ref 260),(.bool true),(iv 181),(.ref 261),.none,.none,.none,(.ref 262),(iv 562),(iv 256),(cp 563)]),(264,fo (fq "_law_next" s33 m5 (.ref 263))),(270,co #[(.str "_law_deeds" 565),(.str "_law_deeds" 566),(cp 567),(iv 268),(iv 4),(iv 0),(iv 0),(iv 3),(.ref 265),(.bool true),(iv 181),(.ref 266),.none,(.ref 267),(.ref 268),(.ref 269),(iv 577),(iv 268),(cp 578)]),(271,fo (fq "_law_deeds" s34 m5 (.ref 270))),(275,co #[(.str "_law_before" 580),(.str "_law_before" 581),(cp 582),(iv 277),(iv 3),(iv 0),(iv 0),(iv 3),(.ref 272),(.bool true),(iv 181),(.ref 273),.none,.none,.none,(.ref 274),(iv 583),(iv 277),(cp 584)]),(276,fo (fq "_law_before" s35 m5 (.ref 275))),(282,co #[(.str "_law_reach" 586),(.str "_law_reach" 587),(cp 588),(iv 295),(iv 1),(iv 0),(iv 0),(iv 3),(.ref 277),(.bool true),(iv 181),(.ref 278),.none,(.ref 279),(.ref 280),(.ref 281),(iv 595),(iv 295),(cp 596)]),(283,fo (fq "_law_reach" s36 m5 (.ref 282))),(287,co #[(.str "law" 598),(.str "law" 599),(cp 600),(iv 307),(iv 1),(iv 0),(iv 0),(iv 3),(.ref 284),(.bool true),(iv 181),(.ref 285),.none,.none,.none,(.ref 286),(iv 601),(iv 307),(cp 602)]),(288,fo (fq "law" Yz m5 (.ref 287)))]
noncomputable def ads:List Addr:=[3,52,53,59,60,66,67,73,74,80,81,87,88,94,95,101,102,106,107,113,114,120,121,125,126,132,133,139,140,144,145,151,152,158,159,163,164,170,171,177,178,184,185,191,192,198,199,205,206,212,213,217,218,222,223,227,228,234,235,241,242,246,247,253,254,258,259,263,264,270,271,275,276,282,283,287,288]
theorem nob{P:Params}{h:Heap}{mg:Str->Option Value}(X:(Kf P).In h)(G:h.Ns mainGlobals mg):∀b∈cM,mg b=none:=by
 have z:cM.all (λb=>match PySem.W.nsIn (Kf P) mainGlobals b with | some none=>true | _=>false)=true:=nofun;intro b hb;have q:=CM.mp z b hb;split at q
 ·rename_i e;exact PySem.W.mg_none_of X G e
 ·cases q
abbrev AL(l:PySem.W.OpenLaw)(w:World)(mg:Str->Option Value)(base:Heap)(i:Nat):=All l.prog w (Kf w.params) mg base i (fs.take i)
theorem all_mk{l:PySem.W.OpenLaw}{w:World}{h:Heap}{mg:Str->Option Value}{fa:Addr}(X:(Kf w.params).In h)(G:h.Ns mainGlobals mg) (hfa:mg "law" = some (.ref fa)):∃fd:FuncData,(∀(s:Shared)(v:Value),BindsTo s fd ⟨[v],[]⟩ [("_law_script",v)])/\∀base:Heap,(Kf w.params).In base->base.Ns mainGlobals mg->iM l.prog w (Kf w.params) mg base Bt 38 fa fd ["_law_script"] (Iy (Kf w.params) 1 T7):=by
 have W:Cw (Kf w.params) h mg gs:=⟨X,G,nob X G,NJ X G (nofun)⟩;cases hfa.symm.trans (PySem.W.mg_of X G (show PySem.W.nsIn (Kf w.params) mainGlobals "law" = some (some (.ref 288)) by kernel_rfl));refine⟨fq "law" Yz m5 (.ref 287),λs v=>.of_eq rfl,λbase _ _=>?_⟩;have A0:AL l w mg base 0 []:=All.nil;have A1:AL l w mg base 1 (c1 []):=nx "is_whole" 53 s0 n0 ["thing"] b0 m0 (.ref 52) W A0;have A2:AL l w mg base 2 (c2 []):=nx "is_below" 60 s1 n1 ["thing","bound"] b1 m0 (.ref 59) W A1;have A3:AL l w mg base 3 (c3 []):=nx "is_sign" 67 s2 n2 ["thing"] b2 m0 (.ref 66) W A2;have A4:AL l w mg base 4 (c4 []):=nx "answer" 74 s3 n3 ["form","m","state","cause"] b3 m1 (.ref 73) W A3;have A5:AL l w mg base 5 (c5 []):=nx "waits" 81 s4 n4 ["stand","road"] b4 m2 (.ref 80) W A4;have A6:AL l w mg base 6 (c6 []):=nx "is_plain" 88 s5 n5 ["form","thing"] b5 m3 (.ref 87) W A5;have A7:AL l w mg base 7 (c7 []):=nx "machine_of" 95 s6 n6 ["form","deed"] b6 m3 (.ref 94) W A6;have A8:AL l w mg base 8 (c8 []):=nx "may_come" 107 s7 n7 ["form","stand","road"] b7 m3 (.ref 106) W A7;have A9:AL l w mg base 9 (c9 []):=nx "can" 102 s8 n8 ["form","stand","thing"] b8 m3 (.ref 101) W A8;have A10:AL l w mg base 10 (Vd []):=nx "cause_of" 121 s9 n9 ["stand","deed"] b9 m3 (.ref 120) W A9;have A11:AL l w mg base 11 (Ve []):=nx "less_letter" 126 Ux n10 ["letters","k"] ZQ m3 (.ref 125) W A10;have A12:AL l w mg base 12 (Vg []):=nx "more_letter" 133 WI n11 ["letters","sign"] ZR m3 (.ref 132) W A11;have A13:AL l w mg base 13 (Vh []):=nx "outcome" 114 s12 n12 ["form","stand","deed"] ZS m3 (.ref 113) W A12;have A14:AL l w mg base 14 (Vi []):=nx "steps" 140 s13 n13 ["form","stand","deeds"] ZT m3 (.ref 139) W A13;have A15:AL l w mg base 15 (Vj []):=nx "events_of" 145 s14 n14 ["form","deeds"] ZU m4 (.ref 144) W A14;have A16:AL l w mg base 16 (Vk []):=nx "sent_between" 159 s15 n15 ["ahead","behind"] ZV m4 (.ref 158) W A15;have A17:AL l w mg base 17 (Vl []):=nx "letters_of" 152 s16 n16 ["form","stand","deeds"] ZW m4 (.ref 151) W A16;have A18:AL l w mg base 18 (Vm []):=nx "right_ahead" 164 s17 n17 ["form","stand","deeds"] ZX m4 (.ref 163) W A17;have A19:AL l w mg base 19 (Vn []):=nx "pasts" 171 s18 n18 ["form","stand","deeds"] ZY m4 (.ref 170) W A18;have A20:AL l w mg base 20 (Vo []):=nx "_law_well" 178 s19 n19 ["_law_script","_law_k"] ZZ m5 (.ref 177) W A19;have A21:AL l w mg base 21 (Vp []):=nx "_law_draw" 185 s20 n20 ["_law_well_here","_law_many"] Z0 m5 (.ref 184) W A20;have A22:AL l w mg base 22 (Vq []):=nx "_law_roads" 192 s21 n21 ["_law_well_here","_law_machines"] Z2 m5 (.ref 191) W A21;have A23:AL l w mg base 23 (Vr []):=nx "_law_states" 199 s22 n22 ["_law_well_here"] Z3 m5 (.ref 198) W A22;have A24:AL l w mg base 24 (Vs []):=nx "_law_sends" 206 s23 n23 ["_law_well_here","_law_ways"] Z4 m5 (.ref 205) W A23;have A25:AL l w mg base 25 (Vt []):=nx "_law_moves" 213 s24 n24 ["_law_well_here","_law_some","_law_ways"] Z5 m5 (.ref 212) W A24;have A26:AL l w mg base 26 (Vu []):=nx "_law_form" 218 s25 n25 ["_law_script"] Z6 m5 (.ref 217) W A25;have A27:AL l w mg base 27 (Vv []):=nx "_law_answer" 223 s26 n26 ["_law_form_here","_law_m","_law_state","_law_cause"] Z7 m5 (.ref 222) W A26;have A28:AL l w mg base 28 (Vw []):=nx "_law_comes" 228 s27 n27 ["_law_form_here","_law_stand_here"] Z8 m5 (.ref 227) W A27;have A29:AL l w mg base 29 (Vx []):=nx "_law_answered" 235 s28 n28 ["_law_form_here","_law_stand_here","_law_deed"] Z9 m5 (.ref 234) W A28;have A30:AL l w mg base 30 (Vy []):=nx "_law_machine" 242 s29 n29 ["_law_form_here","_law_deed"] Z_ m5 (.ref 241) W A29;have A31:AL l w mg base 31 (Vz []):=nx "_law_done" 247 s30 n30 ["_law_form_here","_law_stand_here","_law_deed"] b30 m5 (.ref 246) W A30;have A32:AL l w mg base 32 (VA []):=nx "_law_load" 254 s31 n31 ["_law_well_here","_law_order"] b31 m5 (.ref 253) W A31;have A33:AL l w mg base 33 (VB []):=nx "_law_stand" 259 s32 n32 ["_law_script","_law_form_here"] b32 m5 (.ref 258) W A32;have A34:AL l w mg base 34 (VC []):=nx "_law_next" 264 s33 n33 ["_law_well_here","_law_form_here","_law_stand_here"] b33 m5 (.ref 263) W A33;have A35:AL l w mg base 35 (VD []):=nx "_law_deeds" 271 s34 n34 ["_law_script","_law_form_here","_law_stand_here","_law_most"] b34 m5 (.ref 270) W A34;have A36:AL l w mg base 36 (VE []):=nx "_law_before" 276 s35 n35 ["_law_form_here","_law_stand_here","_law_deeds_here"] b35 m5 (.ref 275) W A35;have A37:AL l w mg base 37 (VF []):=nx "_law_reach" 283 s36 n36 ["_law_ahead"] b36 m5 (.ref 282) W A36;exact EI "law" 288 Yz n37 ["_law_script"] VG m5 (.ref 287) W A37 (nofun) (nofun) (nofun) ⋯
theorem Pc{K:PySem.W.Frag}{H:Hp}{a:Addr}{xs:List V}(hO:Hn H)(h:fK K H a xs):vq K H a xs:=by
 rcases h with(h | ⟨o,h⟩) | h
 ·rcases hO a with q | ⟨o,ys,q⟩
  ·rw[q]at h;cases h
  ·rw[q]at h;cases h
 ·exact .inl ⟨o,h⟩
 ·exact .inr h
theorem wI{K:PySem.W.Frag}{H:Hp}{ads:List Addr}:∀(ns:List Int),aP K ads H (ns.map D.int) (ns.map V.int)
 | []=>by unfold aP;rfl
 | i::ns=>by
  show aP K ads H (D.int i::ns.map D.int) (V.int i::ns.map V.int);unfold aP;exact⟨_,_,rfl,by unfold RD;rfl,wI ns⟩
theorem walk {l : PySem.W.OpenLaw} {q : Program} {loose : List Str} {XP : (Str -> Option Value) -> Heap -> Prop} {YP : World -> Heap -> Prop} {d : DefRec} {K : Params -> PySem.W.Frag} (YA : ∀ ns : List Int, ns.length <= 63 -> ∃ M, T7 [.ls (ns.map D.int)] [] = .ok (.d (.bl true)) M) (hn : l.most = some 63) (Kd : d.params.defaults = [])
    (hY:∀(w:World)(h:Heap),YP w h->(K w.params).In h)
    (F:∀(w:World)(mg:Str->Option Value)(fa:Addr)(h:Heap),(K w.params).In h->h.Ns mainGlobals mg->mg d.name=some (.ref fa) ->
      ∃fd:FuncData,(∀(s:Shared)(u:Value),BindsTo s fd ⟨[u],[]⟩ [("_law_script",u)])/\∀base:Heap,(K w.params).In base->base.Ns mainGlobals mg->iM l.prog w (K w.params) mg base Bt 38 fa fd ["_law_script"] (Iy (K w.params) 1 T7)) :
    PySem.W.WalkO q loose XP YP l.row.toRowW d [] (λf vs=>PySem.call f vs) :=
  L2.Ho (n:=63) (k:=38) (x := "_law_script") (CX:=λ_=>Bt) (sp:=λw=>Iy (K w.params) 1 T7) hn (by decide) Kd ⟨rfl,by decide,by decide,rfl⟩ hY F (λw H a ns hl hO hS=>by
    obtain⟨M,hM⟩:=YA ns hl;refine⟨[],[],[.ls (ns.map D.int)],⟨uo,rfl,λn o a e _=>by simp at e⟩,.one ?_,rfl,?_⟩
    · unfold RD;exact⟨a,_,rfl,Pc hO hS,wI ns⟩
    · rw[hM];intro v H' aF _ _ r;have r:RD (K w.params) aF H' (.bl true) v:=r;unfold RD at r;exact r) λ_ _ _ _ _ z=>z
def vw:Program:={PySem.Challenge.pw_cutstand_k10_pasts with main:={PySem.Challenge.pw_cutstand_k10_pasts.main with body:=[da 1,da 2,da 4,da 5,da 6,da 8,da 10,da 12,da 13,da 14,da 15,da 16,da 17,da 18,da 19,da 20,da 22,da 23,da 24,da 25,da 26,da 28,da 29,da 30,da 31,da 32,da 33,da 34,da 35,da 36,da 37,da 38,da 39,da 40,da 41,da 42,da 43,da 44,da 45,da 46]}}
def hk:PySem.W.Hook:=PySem.W.kHook Kf ads (λ_=>nofun)
theorem lft:PySem.W.LeftO PySem.Challenge.pw_cutstand_k10_pasts vw [] (λs=>PySem.W.xlAt vw [] s&&PySem.W.recOk [] s) (PySem.W.Hook.obs hk) (PySem.W.Hook.val hk) 3458:=by
 intro w
 kernel_rfl
theorem Pd:PySem.W.OpenLaw.wellSaid PySem.Challenge.rw_cutstand_k10_pasts=true:=nofun
end ig
end
end
open PySem PySem.W PyProof.Rows
set_option maxRecDepth 100000 in
set_option maxHeartbeats 0 in
theorem PySem.Challenge.cw_cutstand_k10_pasts_holds : PySem.Challenge.rw_cutstand_k10_pasts.Holds := by
 refine holds_law ig.Pd λPd=>?_;refine holds_open (q:=ig.vw) (loose:=[]) (Xt:=λs=>xlAt ig.vw [] s&&recOk [] s) (XP:=XL ig.vw []) (Yf:=Hook.obs ig.hk) (Ya:=Hook.val ig.hk) (YP:=Hook.says ig.hk) (N:=3458) ig.lft (Hook.of ig.hk) (Hook.keeps ig.hk) (λs e=>xl_of s (Bool.and_eq_true_iff.mp e).1) XL.keeps (by rfl) (by rfl) (by rfl) (λs e=>recFacts_of (Bool.and_eq_true_iff.mp e).2) (by rfl) Pd ⋯ ⟨rfl,rfl,rfl,rfl,rfl,⋯⟩ ?hw ?hc
 case hw=>w_witness2
 case hc=>exact ig.walk (l:=PySem.Challenge.rw_cutstand_k10_pasts) (K:=ig.Kf) ig.Gb rfl rfl (λw h Y=>kIn_of Y) λw mg fa h KX G Q0=>ig.all_mk KX G Q0
