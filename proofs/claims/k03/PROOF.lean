import PyProof.Rows.All
import Wide.All
import OpenK.AllK
import Wide.FinOn
import Lean
import PyProof.EqAt
import PyProof.EqKinds
import PyProof.TupleCall
import PyProof.ZipIter
import PyProof.ListRange
import PyProof.TupleOfSeq
import PyProof.Rows.CallKwBuiltin
import PyProof.Rows.Range3
import KE.KFind
import PyProof.IsRules
import PyProof.DictIter
import PyProof.DictWalks
import PyProof.DictTruth
import PyProof.MeetsSeq
import PyProof.DictValues
import PyProof.Rows.SortWalk
import PyProof.ExcInit
import PyProof.ExcClass3
import PyProof.ExcAttrAll.ValueError
import PyProof.InstStoreFacts
import PyProof.RulesAs
import PyProof.NsDelKeeps
import KE.KIsAll
import PyProof.ListMulRoad
import PyProof.AutoSeq1
import PyProof.FactsAll.tuple
import PyProof.FactsAll.tuple_2
import PySem.Challenge.RW_cutstand_k03_what_is_a_stand
set_option Elab.async false
set_option linter.all false
set_option maxRecDepth 100000
set_option genSizeOf false
set_option genInjectivity false
set_option compiler.extract_closed false
set_option maxHeartbeats 4000000
local macro_rules
  | `(⋯) => `(by decide +kernel)
  | `(nofun) => `(by kernel_rfl)
  | `(∅) => `(by omega)
  | `(tactic| omega) => `(tactic| first | with_reducible assumption | decide +kernel | lia | omega (config := {}))
abbrev af:=@PySem.wpAny_bind
abbrev ao:=@Bool.false_ne_true
abbrev ay:=@Bool.and_eq_true
abbrev aR:=@PySem.Heap.get?_push_of_some
abbrev aq:=@Nat.le_refl
abbrev aj:=@PySem.wpAny_pure
abbrev aZ:=@List.length_map
abbrev cf:=@List.getElem?_eq_getElem
abbrev cP:=@List.getElem?_eq_some_iff
abbrev cw:=@PySem.Heap.get?_push_size
abbrev bz:=@List.mem_cons
abbrev bp:=@PySem.Heap.lt_size
abbrev cg:=@List.size_toArray
abbrev cZ:=@List.mem_cons_of_mem
abbrev c_:=@List.mem_of_getElem?
abbrev cx:=@decide_eq_false
abbrev bH:=@Nat.le_trans
abbrev du:=@List.mem_cons_self
abbrev dv:=@List.length_append
abbrev cH:=@Option.some.inj
abbrev bW:=@Nat.ne_of_lt
abbrev dy:=@List.getElem?_map
abbrev aT:=@if_pos
abbrev aU:=@if_neg
abbrev gH:=@List.getElem?_append_left
abbrev eZ:=@Nat.lt_of_lt_of_le
abbrev dQ:=@decide_eq_true
abbrev e9:=@PySem.wpAny_newObj_type
abbrev gP:=@List.mem_append_right
abbrev fi:=@List.lookup_cons
abbrev la:=@Array.getElem?_eq_getElem
abbrev eM:=@List.map_cons
abbrev gQ:=@Bool.not_eq_true'
abbrev p9:=@PyProof.Rows.slot_tuple_getitem
abbrev j8:=@Nat.le_of_ble_eq_true
abbrev eD:=@PySem.wpAny_field
abbrev oy:=@List.getElem?_append_right
abbrev ir:=@List.all_eq_true
abbrev mi:=@PySem.wpAny_callSpecial?_slot
abbrev fX:=@PySem.wpAny_holding
abbrev iu:=@List.mem_append
abbrev iP:=@PySem.wpAny_call_entry
abbrev iQ:=@List.mem_nil_iff
abbrev jm:=@Nat.lt_succ_of_lt
abbrev jn:=@PySem.wpAny_loadPart_at
abbrev p_:=@List.getD_eq_getElem?_getD
abbrev mj:=@PySem.Heap.get?_update_self
abbrev ml:=@List.getElem?_eq_none
abbrev lg:=@List.filterMap_cons
abbrev lh:=@PySem.mem_of_lookup
abbrev lq:=@PySem.Heap.SameBut.update
abbrev jo:=@List.length_cons
abbrev jq:=@Nat.lt_succ_self
abbrev iw:=@PySem.Heap.size_push
abbrev gR:=@Bool.true_and
abbrev mq:=@List.getElem?_set_ne
abbrev e_:=@beq_iff_eq
abbrev lr:=@PySem.Obj.data_mapFields
abbrev j9:=@List.length_take
abbrev mr:=@List.pairwise_cons
abbrev jr:=@Bool.false_and
abbrev oA:=@Array.length_toList
abbrev oB:=@List.length_zipWith
abbrev qc:=@Array.getElem?_toList
abbrev mw:=@Int.toNat_natCast
abbrev lz:=@PySem.W.kia_one
abbrev qd:=@List.mem_iff_getElem
abbrev iR:=@List.mem_map
abbrev mz:=@List.length_drop
abbrev sQ:=@PySem.Heap.get?_update_other
abbrev vq:=@List.isEmpty_eq_false_iff
abbrev qe:=@beq_eq_false_iff_ne
abbrev oC:=@decide_eq_true_eq
abbrev fj:=@or_false
abbrev sR:=@PySem.F.attrBase_ValueError
abbrev sS:=@List.getElem?_zipWith
abbrev j_:=@Nat.le_of_lt
abbrev kc:=@Nat.ne_of_gt
abbrev zl:=@Array.getElem?_eq_some_iff
abbrev vt:=@List.getElem?_set_self
abbrev jt:=@Nat.zero_le
abbrev mC:=@PySem.wpAny_setField
abbrev oD:=@List.find?_cons
abbrev zm:=@List.getElem?_eq_none_iff
abbrev fk:=@Ne.symm
abbrev fm:=@if_true
abbrev vA:=@PySem.Obj.isFreed_of_fields
abbrev zo:=@Option.isSome_iff_exists
abbrev sT:=@PySem.wpAny_setField_rec
abbrev qf:=@beq_self_eq_true
abbrev mE:=@Nat.lt_irrefl
abbrev vB:=@PySem.Around.under_plainId
abbrev sU:=@PySem.wpAny_truthy_bool
abbrev Br:=@PyProof.Rows.callWith_type1
abbrev qg:=@PySem.codeAny_builtin
abbrev vC:=@List.replicate_succ
abbrev kf:=@PySem.wpAny_mono
abbrev sV:=@List.getElem_mem
abbrev sW:=@PySem.wpAny_execs_nil
abbrev sX:=@List.append_nil
abbrev sY:=@List.length_set
abbrev oE:=@Nat.le_of_eq
abbrev vD:=@PySem.wpAny_pyIter_list
abbrev vE:=@List.length_range
abbrev vF:=@Option.some.injEq
abbrev zp:=@PySem.W.shaped_ints
abbrev sZ:=@PySem.wpAny_seqItems
abbrev vG:=@List.isEmpty_iff
abbrev Bs:=@List.take_of_length_le
abbrev zq:=@PySem.wpAny_pyIter_tuple
abbrev qh:=@PySem.codeAny_mono
abbrev qi:=@Nat.lt_or_ge
abbrev vH:=@List.forIn_cons
abbrev EY:=@PySem.F.slot_tuple_iterator_next
abbrev zr:=@List.flatten_cons
abbrev zt:=@PySem.wpAny_setState_of
abbrev zu:=@PySem.F.plainAttrs_list
abbrev Bt:=@List.mem_append_left
abbrev oF:=@PySem.wpAny_rule
abbrev Bu:=@PySem.F.excBase_ValueError
abbrev qj:=@PySem.sizeLine_eq
abbrev s_:=@List.map_nil
abbrev tf:=@PySem.wpAny_typeOf
abbrev zv:=@PySem.wpAny_askSetting
abbrev tj:=@PySem.F.called_set
abbrev zw:=@List.not_mem_nil
abbrev Bv:=@List.length_reverse
abbrev Bw:=@PySem.wpAny_setEntries_of
abbrev EZ:=@List.length_eq_zero_iff
abbrev Bx:=@PySem.wpAny_Call_Name_kw
abbrev zx:=@List.nodup_cons
abbrev zy:=@Nat.not_lt_zero
abbrev E2:=@List.pairwise_lt_range
abbrev tm:=@Int.le_refl
abbrev By:=@List.append_assoc
abbrev Bz:=@Nat.le_of_succ_le
abbrev BA:=@PySem.Obj.cls_mapFields
abbrev BB:=@Bool.eq_false_iff
abbrev zA:=@List.forIn_nil
abbrev E3:=@List.getElem?_toArray
abbrev vI:=@List.map_map
abbrev oG:=@congrArg
abbrev tq:=@PySem.call_meets
abbrev E4:=@PySem.codeAny_call_builtin
abbrev zB:=@PySem.wpAny_standAt
abbrev zC:=@PySem.wpAny_attempt
abbrev zD:=@PySem.plainId_quiet
abbrev vJ:=@Nat.le_succ
abbrev E5:=@List.getElem?_range
abbrev BC:=@PySem.wpAny_passesOwn
abbrev BD:=@List.length_nil
abbrev BE:=@PySem.F.slot_zip_next
abbrev Jr:=@List.pairwise_iff_getElem
abbrev BF:=@Bool.or_eq_true
abbrev E6:=@List.mem_filterMap
abbrev zE:=@Nat.lt_trans
abbrev E7:=@PySem.tupleKind_room_in1
abbrev Js:=@PySem.F.args_tuple_add_2
abbrev E8:=@List.mem_singleton
abbrev E9:=@PySem.Code.quiet_builtin
abbrev E_:=@Bool.false_eq_true
abbrev qk:=@and_self
abbrev Fa:=@Int.emod_lt_of_pos
abbrev Fb:=@List.getElem?_drop
abbrev Fc:=@Nat.eq_zero_or_pos
abbrev Jt:=@PySem.F.entry_tuple_add
abbrev Fd:=@List.reverse_cons
abbrev Fe:=@PySem.fits_of_scanBound
abbrev Ju:=@PySem.F.slot_tuple_add
abbrev Nt:=@List.findIdx?_eq_some_iff_getElem
abbrev Jv:=@PySem.Heap.size_after_update
abbrev BG:=@List.any_cons
abbrev BH:=@PySem.W.mg_of
abbrev Ff:=@PySem.wpAny_execs_cons
abbrev Fg:=@PySem.F.slot_tuple_mul
abbrev Jw:=@List.length_replicate
abbrev Jx:=@PySem.builtinLookup_eq_fast
abbrev Jy:=@PySem.F.typeOf_object_class
abbrev qp:=@Iff.rfl
abbrev Jz:=@PySem.Heap.get?_none_of_le
abbrev zF:=@PySem.wpAny_load
abbrev zG:=@PySem.wpAny_call
abbrev Fh:=@List.nil_append
abbrev Fi:=@PySem.F.slot_int_rmul
abbrev JA:=@PySem.wpAny_updateSeq_pair
abbrev zH:=@Nat.not_lt
abbrev Fj:=@Int.emod_nonneg
abbrev Fl:=@List.mem_range
abbrev vK:=@if_false
abbrev JB:=@PySem.W.callWith_K
abbrev JC:=@Nat.lt_of_le_of_lt
abbrev JD:=@PySem.W.ns_none_of
abbrev JE:=@List.any_eq_false
abbrev JF:=@Option.isSome_map
abbrev JG:=@List.ext_getElem?
abbrev JH:=@List.pairwise_map
noncomputable section
section
namespace L2
open PySem PySem.Spec PyProof.Rows
abbrev bS:=Sum Int Str
noncomputable def pf:bS->Value->Bool
 | .inl k,v=>Value.isInt k v
 | .inr x,v=>Value.isStrOf x v
noncomputable def RZ(w:World):bS->Int
 | .inl k=>hashInt k
 | .inr x=>hashStr w x
theorem bQ:∀{k:bS}{v:Value},pf k v=true->(∃i t,k=Sum.inl i/\v=Value.int i t)\/(∃x t,k=Sum.inr x/\v=Value.str x t)
 | .inl i,v,h=>by
  obtain⟨t,e⟩:=Value.isInt_shape (k:=i) (v:=v) h;exact .inl ⟨i,t,rfl,e⟩
 | .inr x,v,h=>by
  obtain⟨t,e⟩:=Value.isStrOf_shape (x:=x) (v:=v) h;exact .inr ⟨x,t,rfl,e⟩
theorem zI(i:Int)(t:Tok):pf (.inl i) (.int i t)=true:=by simp[pf,Value.isInt]
theorem zJ(x:Str)(t:Tok):pf (.inr x) (.str x t)=true:=by simp[pf,Value.isStrOf]
theorem JI(a b:Int):decide ((Sum.inl a:bS)=Sum.inl b)=(a==b):=by
 by_cases e:a=b
 ·subst e;simp
 ·have h:¬(Sum.inl a:bS)=Sum.inl b:=λq=>e (Sum.inl.inj q);rw[cx h];exact(qe.mpr e).symm
theorem JJ(a b:Str):decide ((Sum.inr a:bS)=Sum.inr b)=decide (a=b):=by
 by_cases e:a=b
 ·subst e;simp
 ·have h:¬(Sum.inr a:bS)=Sum.inr b:=λq=>e (Sum.inr.inj q);rw[cx h,cx e]
theorem JK(a:Int)(b:Str):decide ((Sum.inl a:bS)=Sum.inr b)=false:=cx (λq=>nomatch q)
theorem JL(a:Str)(b:Int):decide ((Sum.inr a:bS)=Sum.inl b)=false:=cx (λq=>nomatch q)
def bY(prog:Program)(w:World):PySem.KeyKind prog w bS where
 is:=pf
 hash:=RZ w
 inj:=λv a b ha hb=>by
  rcases bQ ha with⟨i,t,rfl,rfl⟩|⟨x,t,rfl,rfl⟩
  ·rcases bQ hb with⟨j,u,rfl,e⟩|⟨y,u,rfl,e⟩
   ·injection e with e1 _;rw[e1]
   ·exact nomatch e
  ·rcases bQ hb with⟨j,u,rfl,e⟩|⟨y,u,rfl,e⟩
   ·exact nomatch e
   ·injection e with e1 _;rw[e1]
 byValue:=λk v h=>by
  rcases bQ h with⟨i,t,rfl,rfl⟩|⟨x,t,rfl,rfl⟩<;>rfl
 pyHash:=λhv h=>by
  rcases bQ hv with⟨i,t,rfl,rfl⟩|⟨x,t,rfl,rfl⟩
  ·exact wpAny_pyHash_int h
  ·exact wpAny_pyHash_str h
 eqBool:=λhu hv h=>by
  rcases bQ hu with⟨i,t,rfl,rfl⟩|⟨x,t,rfl,rfl⟩
  ·rcases bQ hv with⟨j,u,rfl,rfl⟩|⟨y,u,rfl,rfl⟩
   ·rw[JI]at h;exact wpAny_eqBool_int h
   ·rw[JK]at h;exact SeqAt.EqAt.int_str i t y u _ _ _ _ h
  ·rcases bQ hv with⟨j,u,rfl,rfl⟩|⟨y,u,rfl,rfl⟩
   ·rw[JL]at h;exact SeqAt.EqAt.str_int x t j u _ _ _ _ h
   ·rw[JJ]at h;exact wpAny_eqBool_str h
 «strs»:=λk x t v h=>by
  rcases bQ h with⟨i,u,rfl,e⟩|⟨y,u,rfl,e⟩
  ·exact nomatch e
  ·injection e with e1 _;subst e1;cases v<;>rfl
theorem tu(prog:Program)(w:World)(i:Int)(t:Tok):(bY prog w).is (.inl i) (.int i t)=true:=zI i t
theorem tw(prog:Program)(w:World)(x:Str)(t:Tok):(bY prog w).is (.inr x) (.str x t)=true:=zJ x t
inductive V where
 | a6 | bl (b:Bool) | int (i:Int) | str (x:Str) | HU (b:Array UInt8) | Fo (b:UInt64) | ref (a:Addr) | ty (n:String)
 deriving DecidableEq
noncomputable def RelV:V->Value->Prop
 | .a6,u=>u=Value.none
 | .bl b,u=>u=Value.bool b
 | .int i,u=>∃t,u=Value.int i t
 | .str x,u=>∃t,u=Value.str x t
 | .HU b,u=>∃t,u=Value.bytes b t
 | .Fo b,u=>∃t,u=Value.float b t
 | .ref a,u=>u=Value.ref a
 | .ty n,u=>u=Value.type n
abbrev aL:List V->List Value->Prop:=Paired RelV
theorem aL.length{xs:List V}{us:List Value}(r:aL xs us):xs.length=us.length:=Paired.length r
theorem aL.get:∀{xs:List V}{us:List Value}{i:Nat}{x:V},aL xs us->xs[i]?=some x->∃u,us[i]?=some u/\RelV x u
 | _,_,_,_,.nil,e=>by simp at e
 | _,_,0,_,.cons r _,e=>by simp at e;subst e;exact⟨_,rfl,r⟩
 | _,_,i+1,x,.cons _ t,e=>by
  obtain⟨u,h1,h2⟩:=aL.get (i:=i) (x:=x) t (by simpa using e);exact⟨u,by simpa using h1,h2⟩
theorem aL.set{x:V}{u:Value}(r:RelV x u):∀{xs:List V}{us:List Value}(i:Nat),aL xs us->aL (xs.set i x) (us.set i u)
 | _,_,_,.nil=>.nil
 | _,_,0,.cons _ t=>.cons r t
 | _,_,i+1,.cons q t=>.cons q (aL.set r i t)
theorem aL.append:∀{xs ys:List V}{us ws:List Value},aL xs us->aL ys ws->aL (xs++ys) (us++ws)
 | _,_,_,_,.nil,s=>s
 | _,_,_,_,.cons r t,s=>.cons r (aL.append t s)
theorem aL.take:∀{xs:List V}{us:List Value}(n:Nat),aL xs us->aL (xs.take n) (us.take n)
 | _,_,0,_=>.nil
 | _,_,_+1,.nil=>.nil
 | _,_,n+1,.cons r t=>.cons r (aL.take n t)
theorem aL.drop:∀{xs:List V}{us:List Value}(n:Nat),aL xs us->aL (xs.drop n) (us.drop n)
 | _,_,0,r=>r
 | _,_,_+1,.nil=>.nil
 | _,_,n+1,.cons _ t=>aL.drop n t
def iS:Option V->Option Value->Prop
 | some v,some u=>RelV v u
 | none,none=>True
 | _,_=>False
def KV{κ:Type}:List (κ×V)->List (κ×Value)->Prop:=Paired λ(p:κ×V) (q:κ×Value)=>p.1=q.1/\RelV p.2 q.2
def kV:bS->V
 | .inl i=>.int i
 | .inr x=>.str x
inductive HO where
 | lst (xs:List V)
 | tup (xs:List V)
 | dK (az:List (bS×V)) | dT (az:List (List bS×V))
 | set (S:Int->Bool) (n:Nat)
 | ins (C dx:Addr) (fs:List (Str×V))
 | own (x:Addr)
 | xd (fs:List (Str×V))
 | met (f x:Addr)
 | jl (lo hi:Int)
 | gI (o:Obj) (u:HO)
 | JM (ps:Array Value)
 | ext (φ:Heap->Prop)
abbrev Hp:=Addr->Option HO
noncomputable def bu(H:Hp)(a:Addr)(o:HO):Hp:=λb=>if b=a then some o else H b
theorem aV{H:Hp}{a:Addr}{o:HO}:bu H a o a=some o:=by unfold bu;rw[aT rfl]
theorem ax{H:Hp}{a b:Addr}{o:HO}(h:b≠a):bu H a o b=H b:=by unfold bu;rw[aU h]
theorem Nu{H:Hp}{a b:Addr}{o u:HO}(h:H a=some o)(h':H b=some u)(d:o≠u):a≠b:=by
 intro e;subst e;rw[h]at h';exact d (cH h')
theorem eN{H:Hp}{a b:Addr}{o:HO}(h:H a=some o)(h':H b=none):a≠b:=by
 intro e;subst e;rw[h]at h';cases h'
section
variable (P:Program) (w:World)
def bf(H:Hp)(h:Heap)(a:Addr):HO->Prop
  | .lst xs=>xs.length<=sizeLine/\∃(aC:List Value) (n:Nat),aL xs aC/\h.get? a=some {cls:=.type "list",data:=.seq aC.toArray n}
  | .tup xs=>xs.length<=sizeLine/\∃aC:List Value,aL xs aC/\IsTup h a aC.toArray
  | .dK az=>az.length<=sizeLine/\(a==sysModules)=false/\∃vs,KV az vs/\h.DictOf (bY P w) a vs
  | .dT az => az.length <= sizeLine /\ (a == sysModules) = false /\ ∃ xs : List (List bS × Addr × Value),
      Paired (λ(p:List bS×V) (q:List bS×Addr×Value)=>p.1=q.1/\H q.2.1=some (.tup (p.1.map kV))/\RelV p.2 q.2.2) az xs /\
      ∃o es ep,h.get? a=some o/\o.ExactDict/\o.data=.dict es ep/\es.toList=xs.map (entryOfKey (tupleKind (bY P w)))/\(xs.map (·.1)).Nodup
  | .set S n=>h.SetOf (intKind P w) a S n
  | .ins C dx fs => H dx = some (.own a) /\ fs.length <= 1000 /\ dx ≠ a /\ h.get? a = some (PySem.W.instObj C dx) /\
      ∃mA,h.Ns1 dx mA/\(∀f,iS (fs.lookup f) (mA f))/\PySem.Within mA (fs.map (·.1))
  | .own _=>∃o,h.get? a=some o
  | .xd fs=>∃mA,h.Ns1 a mA/\∀f,iS (fs.lookup f) (mA f)
  | .jl lo hi=>∃t u v,h.get? a=some {cls:=.type "range",data:=.fields #[.int lo t,.int hi u,.int 1 v]}
  | .gI o u=>h.get? a=some o/\bf H h a u
  | .JM ps=>h.get? a=some {cls:=.none,data:=.fields ps}
  | .met f x=>h.get? a=some (PySem.W.methodObj (.ref f) (.ref x))
  | .ext φ=>φ h/\(∃o,h.get? a=some o)/\∀h1 h2:Heap,φ h1->(∀o,h1.get? a=some o->h2.get? a=some o)->φ h2
def iB(H:Hp)(h:Heap):Prop:=∀a o,H a=some o->bf P w H h a o
end
section
variable {P:Program} {w:World} {H H':Hp} {h h':Heap} {a:Addr} {o:HO}
theorem bf.lt(x:bf P w H h a o):a<h.objs.size:=by
 cases o with
 | lst xs=>obtain⟨_,_,_,_,e⟩:=x;exact bp e
 | tup xs=>obtain⟨_,_,_,p⟩:=x;exact p.lt
 | dK az=>obtain⟨_,_,_,_,o,_,_,e,_⟩:=x;exact bp e
 | dT az=>obtain⟨_,_,_,_,o,_,_,e,_⟩:=x;exact bp e
 | set S n=>obtain⟨o,_,_,_,e,_⟩:=x;exact bp e
 | ins C dx fs=>obtain⟨_,_,_,e,_⟩:=x;exact bp e
 | own y=>obtain⟨_,e⟩:=x;exact bp e
 | xd fs=>obtain⟨_,⟨_,_,_,e,_⟩,_⟩:=x;exact bp e
 | jl lo hi=>obtain⟨_,_,_,e⟩:=x;exact bp e
 | gI ob u=>obtain⟨e,_⟩:=x;exact bp e
 | JM ps=>exact bp (show h.get? a=some _ from x)
 | met f y=>exact bp (show h.get? a=some _ from x)
 | ext φ=>obtain⟨_,⟨_,e⟩,_⟩:=x;exact bp e
theorem Paired.JN{α β:Type}{F G:α->β->Prop}:∀{Nv:List α}{Nw:List β},Paired F Nv Nw->(∀a b,F a b->G a b)->Paired G Nv Nw
 | _,_,.nil,_=>.nil
 | _,_,.cons r t,f=>.cons (f _ _ r) (Paired.JN t f)
theorem bf.tB(x:bf P w H h a o)(k:∀b u,(b=a\/H b=some (.own a))->h.get? b=some u->h'.get? b=some u)(ho:∀b,H b=some (.own a)->H' b=some (.own a))(ht:∀b xs,H b=some (.tup xs)->H' b=some (.tup xs)):bf P w H' h' a o:=by
 induction o with
 | lst xs=>obtain⟨z,aC,n,r,e⟩:=x;exact⟨z,aC,n,r,k _ _ (.inl rfl) e⟩
 | tup xs=>obtain⟨z,aC,r,ob,e,c⟩:=x;exact⟨z,aC,r,ob,k _ _ (.inl rfl) e,c⟩
 | dK az=>obtain⟨z,y,vs,r,ob,es,ep,e,c⟩:=x;exact⟨z,y,vs,r,ob,es,ep,k _ _ (.inl rfl) e,c⟩
 | dT az =>
  obtain⟨z,y,xs,r,ob,es,ep,e,c⟩:=x;exact⟨z,y,xs,Paired.JN r λp q z=>⟨z.1,ht _ _ z.2.1,z.2.2⟩,ob,es,ep,k _ _ (.inl rfl) e,c⟩
 | set S n=>obtain⟨ob,es,ep,t,e,c⟩:=x;exact⟨ob,es,ep,t,k _ _ (.inl rfl) e,c⟩
 | ins C dx fs =>
  obtain⟨d,z,ne,e,mA,⟨od,es,ep,e2,c⟩,r⟩:=x;exact⟨ho _ d,z,ne,k _ _ (.inl rfl) e,mA,⟨od,es,ep,k _ _ (.inr d) e2,c⟩,r⟩
 | own y=>obtain⟨ob,e⟩:=x;exact⟨ob,k _ _ (.inl rfl) e⟩
 | xd fs=>obtain⟨mA,⟨od,es,ep,e,c⟩,r⟩:=x;exact⟨mA,⟨od,es,ep,k _ _ (.inl rfl) e,c⟩,r⟩
 | jl lo hi=>obtain⟨t,u,v,e⟩:=x;exact⟨t,u,v,k _ _ (.inl rfl) e⟩
 | gI ob u ih=>obtain⟨e,q⟩:=x;exact⟨k _ _ (.inl rfl) e,ih q⟩
 | JM ps =>
  have e:h.get? a=some {cls:=.none,data:=.fields ps}:=x;show h'.get? a=some {cls:=.none,data:=.fields ps};exact k a _ (.inl rfl) e
 | met f y =>
  have e:h.get? a=some (PySem.W.methodObj (.ref f) (.ref y)):=x;show h'.get? a=some (PySem.W.methodObj (.ref f) (.ref y));exact k a _ (.inl rfl) e
 | ext φ=>obtain⟨p,⟨o,e⟩,st⟩:=x;exact⟨st _ _ p λo q=>k _ _ (.inl rfl) q,⟨o,k _ _ (.inl rfl) e⟩,st⟩
theorem iB.lt(x:iB P w H h)(e:H a=some o):a<h.objs.size:=(x a o e).lt
theorem iB.fresh(x:iB P w H h)(e:h.objs.size<=a):H a=none:=by
 cases q:H a with
 | none=>rfl
 | some u=>exact absurd (eZ (x.lt q) e) (mE _)
theorem iB.kept(x:iB P w H h)(k:∀b u,h.get? b=some u->h'.get? b=some u):iB P w H h':=λa o e =>
 (x a o e).tB (λb u _ q=>k b u q) (λ_ q=>q) λ_ _ q=>q
theorem iB.laid(x:iB P w H h)(k:∀b u,h.get? b=some u->h'.get? b=some u)(hp:h.objs.size<=a)(new:bf P w (bu H a o) h' a o):iB P w (bu H a o) h':=λb u e=>by
 have hn:=x.fresh hp;by_cases hb:b=a
 ·subst hb;rw[aV]at e;cases e;exact new
 ·rw[ax hb]at e;exact(x b u e).tB (λc v _ q=>k c v q) (λc q=>by rw[ax (eN q hn)];exact q) λc xs q=>by rw[ax (eN q hn)];exact q
end
noncomputable def Rd(H:Hp)(a:Addr)(u:HO):Prop:=H a=some u\/∃o,H a=some (.gI o u)
theorem Rd.ok{P:Program}{w:World}{H:Hp}{h:Heap}{a:Addr}{u:HO}(r:Rd H a u)(x:iB P w H h):bf P w H h a u:=by
 rcases r with r | ⟨o,r⟩
 ·exact x a u r
 ·obtain⟨_,q⟩:=x a _ r;exact q
noncomputable def Nx:Option HO->Prop
 | some (.lst _)=>True
 | some (.dK _)=>True
 | some (.dT _)=>True
 | some (.set _ _)=>True
 | some (.ins _ _ _)=>True
 | some (.ext _)=>True
 | _=>False
section
variable {P:Program} {w:World} {H:Hp} {h h':Heap} {x e:Addr} {o':HO}
theorem iB.write(ok:iB P w H h)(mu:Nx (H x))(he:e=x\/H e=some (.own x))(k:∀b u,b≠e->h.get? b=some u->h'.get? b=some u)(MW:∃u,h'.get? e=some u)(new:bf P w (bu H x o') h' x o'):iB P w (bu H x o') h':=λb u q=>by
 have Ny:∀c y,H c=some (.own y)->c≠x:=λc y r z=>by subst z;rw[r]at mu;exact mu
 have R0:∀c xs,H c=some (.tup xs)->c≠x:=λc xs r z=>by subst z;rw[r]at mu;exact mu
 by_cases hb:b=x
 ·subst hb;rw[aV]at q;cases q;exact new
 ·rw[ax hb]at q;by_cases JO:b=e
  ·have q':H b=some (.own x):=by
    rcases he with z | z
    ·exact absurd (JO.trans z) hb
    ·rw[JO];exact z
   rw[q]at q';cases q';obtain⟨v,hv⟩:=MW;exact⟨v,by rw[JO];exact hv⟩
  ·refine(ok b u q).tB (λc v hc r=>k c v ?_ r) (λc r=>by rw[ax (Ny c b r)];exact r) λc xs r=>by rw[ax (R0 c xs r)];exact r
   rcases hc with rfl | hc
   ·exact JO
   ·rintro rfl;rcases he with z | z
    ·exact Ny c b hc z
    ·rw[hc]at z;cases z;exact hb rfl
end
structure Un (fs ex:List Addr) (H H':Hp) (h h':Heap):Prop where
 keep:∀b o,h.get? b=some o->H b=none->b∉fs->b∉ex->h'.get? b=some o
 slot:∀b o,h.get? b=some o->H b=none->b∈fs->b∉ex->∃sl,h'.get? b=some {o with slots:=sl}
 free:∀b o,h.get? b=some o->H b=none->b∉ex->H' b=none
 there:∀b o,h.get? b=some o->b∉ex->∃o',h'.get? b=some o'
 fH:∀b xs,H b=some (.tup xs)->H' b=some (.tup xs)
 oH:∀b o u,H b=some (.gI o u)->H' b=some (.gI o u)
 qq:∀b ps,H b=some (.JM ps)->∃lA,H' b=some (.JM (ps++lA))
section
variable {fs Xf ex ex':List Addr} {H H1 H2:Hp} {h h1 h2 h':Heap} {a x e:Addr} {o:HO}
theorem Un.any(u:Un fs ex H H1 h h1){b:Addr}{ob:Obj}(q:h.get? b=some ob)(n:H b=none)(hx:b∉ex):∃sl,h1.get? b=some {ob with slots:=sl}:=by
 by_cases hb:b∈fs
 ·exact u.slot b ob q n hb hx
 ·exact⟨ob.slots,u.keep b ob q n hb hx⟩
theorem Un.kept(k:∀b u,h.get? b=some u->h'.get? b=some u):Un fs ex H H h h' :=
 ⟨λb ob q _ _ _=>k b ob q,λb ob q _ _ _=>⟨ob.slots,k b ob q⟩,λ_ _ _ n _=>n,λb ob q _=>⟨ob,k b ob q⟩,λ_ _ q=>q,λ_ _ _ q=>q,λ_ ps q=>⟨#[],by rw[q];simp⟩⟩
theorem Un.refl:Un fs ex H H h h:=Un.kept λ_ _ q=>q
theorem Un.laid(k:∀b u,h.get? b=some u->h'.get? b=some u)(hp:h.objs.size<=a)(hn:H a=none):Un fs ex H (bu H a o) h h' where
 keep:=λb u q _ _ _=>k b u q
 slot:=λb u q _ _ _=>⟨u.slots,k b u q⟩
 free:=λb u q n _=>by rw[ax (bW (eZ (bp q) hp))];exact n
 there:=λb u q _=>⟨u,k b u q⟩
 fH:=λb xs q=>by rw[ax (eN q hn)];exact q
 oH:=λb u xs q=>by rw[ax (eN q hn)];exact q
 qq:=λb ps q=>⟨#[],by rw[ax (eN q hn),q];simp⟩
theorem Un.write(mu:Nx (H x))(he:e=x\/H e=some (.own x))(k:∀b u,b≠e->h.get? b=some u->h'.get? b=some u)(MW:∃u,h'.get? e=some u):Un fs ex H (bu H x o) h h':=by
 have hx:∀b,H b=none->b≠x:=λb n z=>by subst z;rw[n]at mu;exact mu
 have hb:∀b,H b=none->b≠e:=λb n z=>by
  subst z;rcases he with r | r
  ·exact hx b n r
  ·rw[n]at r;cases r
 have hm:∀b u,H b=some u->¬Nx (some u)->b≠x:=λb u q nm z=>by subst z;rw[q]at mu;exact nm mu
 refine⟨λb u q n _ _=>k b u (hb b n) q,λb u q n _ _=>⟨u.slots,k b u (hb b n) q⟩,λb u q n _=>by rw[ax (hx b n)];exact n,λb u q _=>?_,
  λb xs q=>by rw[ax (hm b _ q λz=>z)];exact q,λb u xs q=>by rw[ax (hm b _ q λz=>z)];exact q,λb ps q=>⟨#[],by rw[ax (hm b _ q λz=>z),q];simp⟩⟩
 by_cases JO:b=e
 ·subst JO;exact MW
 ·exact⟨u,k b u JO q⟩
end
noncomputable def QB(h:Heap)(H:Hp):List Addr:=(List.range h.objs.size).filter λa=>(H a).isSome
def qt(h:Heap)(H:Hp):Heap:=PySem.W.hideAll h (QB h H)
theorem zK(h:Heap)(H:Hp):(qt h H).objs.size=h.objs.size:=PySem.W.hideAll_size _ _
theorem BI{h:Heap}{H:Hp}{b:Addr}{o:Obj}(e:h.get? b=some o)(n:H b=none):(qt h H).get? b=some o :=
 PySem.W.hideAll_get _ e λhm=>by
  have q:(H b).isSome=true:=(List.mem_filter.mp hm).2;rw[n]at q;simp at q
theorem Fp{h:Heap}{H:Hp}{b:Addr}{o:Obj}(e:(qt h H).get? b=some o):h.get? b=some o/\H b=none:=by
 have e':h.get? b=some o:=PySem.W.of_hideAll (QB h H) e;refine⟨e',?_⟩
 cases q:H b with
 | none=>rfl
 | some x =>
  have hm:b∈QB h H:=List.mem_filter.mpr ⟨Fl.mpr (bp e'),by simp[q]⟩;have z:(qt h H).get? b=none:=PySem.W.hideAll_none (QB h H) hm;rw[z]at e;cases e
structure Mod (K:PySem.W.Frag) (mg:Str->Option Value) (base:Heap):Prop where
 JP:K.In base
 glob:base.Ns mainGlobals mg
 blt:∃mb,base.Ns builtinsNs mb/\∀x:Str,x≠ "__name__" -> mb x=bootBuiltins x
 nolimit:base.NoLimit
structure Cx where
 prog:Program
 w:World
 K:PySem.W.Frag
 mg:Str->Option Value
 base:Heap
 A:Around
 N:List Str
 dz:Shared
 mF:Hp
 env:Env
 outer:List Env
 stack:List Env
 ex:List Addr
 fn:Str->Bool
 calm:Bool
 pn:List (Addr×Obj)
 xe:Value->Shared->Prop
def zL(l:List Env):List Addr:=l.filterMap (·.frame)
abbrev Cx.fs(X:Cx):List Addr:=zL X.outer
noncomputable def R1(sc:Scope)(x:Str):Prop:=sc.names.lookup x=some .local\/sc.names.lookup x=some .cell\/sc.names.lookup x=some .free
noncomputable def Loc(sc:Scope)(x:Str):Prop:=sc.names.lookup x=some .local\/sc.names.lookup x=some .cell
noncomputable def Look(env:Env)(h:Heap)(m:Str->Option Value)(x:Str)(u:Value):Prop :=
 (env.kindOf x=some .local/\m x=some u)\/((env.kindOf x=some .cell\/env.kindOf x=some .free)/\∃c,env.cells.lookup x=some c/\h.IsCell c (some u))
structure Cx.Ok (X:Cx):Prop where
 mod:Mod X.K X.mg X.base
 kind:X.env.scope.kind=.function
 glob:X.env.globals=mainGlobals
 blt:X.env.builtins=builtinsNs
 above:X.dz.heap.objs.size<=X.env.locals
 inj:∀x y c,X.env.cells.lookup x=some c->X.env.cells.lookup y=some c->x=y
 has:∀x,(X.env.kindOf x=some .cell\/X.env.kindOf x=some .free)->∃c,X.env.cells.lookup x=some c
 HV:∀x c,X.fn x=true->X.env.cells.lookup x=some c->X.dz.heap.objs.size<=c
 hd:X.calm=true->X.A.handled=none
 frames:X.A.frames=some X.stack
 xG:X.stack=X.outer\/(X.stack=X.env::X.outer/\X.env.frame=some X.env.locals)
 QC:∀b∈X.ex,b≠X.env.locals/\∀x c,X.env.cells.lookup x=some c->c≠b
 bs:∀b o,X.base.get? b=some o->X.dz.heap.get? b=some o/\X.mF b=none
 EM:X.base.objs.size<=X.dz.heap.objs.size
 zM:∀b o,X.base.get? b=some o->b∉X.ex
 zN:∀b∈X.ex,b∉X.fs
 kg:X.dz.heap.FunFrames X.base X.outer
 HW:∀b∈X.fs,X.mF b=none
structure Inv (X:Cx) (aa:List (Addr×Obj)) (σ:List (Option V)) (H:Hp) (s:Shared):Prop where
 ok:X.Ok
 os:s.os=X.dz.os
 bare:AllBare s.gens
 base:Un X.fs X.ex X.mF H X.dz.heap s.heap
 loc:∃m,s.heap.Ns X.env.locals m/\∀(i:Nat)(x:Str)(v:V),X.N[i]?=some x->σ[i]?=some (some v)->R1 X.env.scope x->∃u,RelV v u/\Look X.env s.heap m x u
 cell:∀x c,X.env.cells.lookup x=some c->∃v,s.heap.IsCell c v
 free:H X.env.locals=none
 fJ:∀x c,X.env.cells.lookup x=some c->H c=none
 pin:∀p∈X.pn++aa,s.heap.get? p.1=some p.2/\H p.1=none/\p.1≠X.env.locals/\p.1∉X.fs/\∀v,p.2.data≠.cell v
 bo:iB X.prog X.w H s.heap
 len:σ.length=X.N.length
section
variable {X:Cx} {aa:List (Addr×Obj)} {σ:List (Option V)} {H H':Hp} {s:Shared} {h':Heap}
theorem Cx.Ok.R3(ok:X.Ok){b:Addr}{o:Obj}(e:X.base.get? b=some o):b∉X.fs:=λhb=>by
 have:=(ok.kg.mem hb).1;rw[e]at this;cases this
theorem Inv.bs(I:Inv X aa σ H s):∀b o,X.base.get? b=some o->s.heap.get? b=some o/\H b=none:=λb o e =>
 ⟨I.base.keep b o (I.ok.bs b o e).1 (I.ok.bs b o e).2 (I.ok.R3 e) (I.ok.zM b o e),I.base.free b o (I.ok.bs b o e).1 (I.ok.bs b o e).2 (I.ok.zM b o e)⟩
theorem Inv.bk(I:Inv X aa σ H s):∀b o,X.base.get? b=some o->s.heap.get? b=some o:=λb o e=>(I.bs b o e).1
theorem Inv.mod(I:Inv X aa σ H s):Mod X.K X.mg X.base:=I.ok.mod
theorem Inv.ju(I:Inv X aa σ H s):X.K.In s.heap:=I.ok.mod.JP.keeps I.bk
theorem Inv.lt(I:Inv X aa σ H s):X.env.locals<s.heap.objs.size:=let ⟨_,hn,_⟩:=I.loc;hn.lt
theorem Inv.sz(I:Inv X aa σ H s):X.dz.heap.objs.size<=s.heap.objs.size:=bH I.ok.above (j_ I.lt)
theorem Inv.Nz(I:Inv X aa σ H s){a:Addr}(h:s.heap.objs.size<=a):a∉X.fs:=λhb=>by
 obtain⟨_,o,ho,_⟩:=I.ok.kg.mem hb;exact absurd (eZ (bp ho) (bH I.sz h)) (mE _)
theorem Inv.Fq(I:Inv X aa σ H s):∀x c,X.env.cells.lookup x=some c->c≠X.env.locals:=λx c e z=>by
 obtain⟨v,o,ho,hd⟩:=I.cell x c e;obtain⟨m,⟨o',es,ep,BJ,Xg,_⟩,_⟩:=I.loc;rw[z,BJ]at ho;cases ho;rw[Xg]at hd;cases hd
theorem Inv.kg(I:Inv X aa σ H s):s.heap.FunFrames X.base X.outer:=by
 have all:∀(l:List Env),(∀b∈zL l,b∈X.fs)->X.dz.heap.FunFrames X.base l->s.heap.FunFrames X.base l:=by
  intro l
  induction l with
  | nil=>intro _ _;trivial
  | cons env r ih =>
   intro hs hl;obtain⟨hk,⟨L,o,hf,hn,ho,hd⟩,hr⟩:=hl;have hL:L∈X.fs:=hs L (by unfold zL;rw[lg,hf];exact du);obtain⟨sl,e⟩:=I.base.slot L o ho (I.ok.HW L hL) hL λz=>I.ok.zN L z hL;exact⟨hk,⟨L,_,hf,hn,e,hd⟩,ih (λb hb=>hs b (by unfold zL;rw[lg,hf];exact cZ _ hb)) hr⟩
 exact all X.outer (λ_ hb=>hb) I.ok.kg
theorem Inv.stack(I:Inv X aa σ H s):s.heap.FunFrames X.base X.stack:=by
 rcases I.ok.xG with e | ⟨e,hf⟩
 ·rw[e];exact I.kg
 ·rw[e];obtain⟨m,hn,_⟩:=I.loc;refine .cons (by rw[I.ok.kind];decide) hf hn ?_ I.kg;exact Jz (bH I.ok.EM I.ok.above)
theorem Inv.qu(I:Inv X aa σ H s):∀b∈zL X.stack,b∈X.env.locals::X.fs:=λb hb=>by
 rcases I.ok.xG with e | ⟨e,hf⟩
 ·rw[e]at hb;exact cZ _ hb
 ·rw[e]at hb;unfold zL at hb;rw[lg,hf]at hb;exact hb
theorem Inv.qv(I:Inv X aa σ H s):∀b∈zL X.stack,H b=none:=λb hb=>by
 rcases bz.mp (I.qu b hb)with e | hb
 ·rw[e];exact I.free
 ·obtain⟨_,o,ho,_⟩:=I.ok.kg.mem hb;exact I.base.free b o ho (I.ok.HW b hb) λz=>I.ok.zN b z hb
theorem Inv.step{g':Array GenState}{t':Nat}{d':Drawn}{ch:List Addr}(I:Inv X aa σ H s)(Bl:∀b∈ch,(b∈X.ex\/X.dz.heap.objs.size<=b)/\b≠X.env.locals/\(∀x c,X.env.cells.lookup x=some c->c≠b)/\∀p∈X.pn++aa,p.1≠b)(keep:∀b o,b≠X.env.locals->b∉X.fs->b∉ch->s.heap.get? b=some o->H b=none->h'.get? b=some o)(slot:∀b o,b≠X.env.locals->b∈X.fs->b∉ch->s.heap.get? b=some o->H b=none->∃sl,h'.get? b=some {o with slots:=sl})(free:∀b o,b∉ch->s.heap.get? b=some o->H b=none->H' b=none)(there:∀b o,b∉ch->s.heap.get? b=some o->∃o',h'.get? b=some o')(fH:∀b xs,H b=some (.tup xs)->H' b=some (.tup xs))(oH:∀b o u,H b=some (.gI o u)->H' b=some (.gI o u))(qq:∀b ps,H b=some (.JM ps)->∃lA,H' b=some (.JM (ps++lA)))(ns:∀m,s.heap.Ns X.env.locals m->h'.Ns X.env.locals m)(bo:iB X.prog X.w H' h')(hg:AllBare g'):Inv X aa σ H' {s with heap:=h',gens:=g',drawn:=d',toks:=t'}:=by
 have MX:∀b o,X.dz.heap.get? b=some o->b≠X.env.locals:=λb o e=>bW (eZ (bp e) I.ok.above)
 have QD:∀b o,X.dz.heap.get? b=some o->b∉X.ex->b∉ch:=λb o e hx hb=>by
  rcases(Bl b hb).1 with z | z
  ·exact hx z
  ·exact absurd (eZ (bp e) z) (mE _)
 have cellK:∀x c,X.env.cells.lookup x=some c->∀v,s.heap.IsCell c v->h'.IsCell c v:=λx c e v ⟨o,ho,hd⟩=>by
  have NA:c∉ch:=λz=>(Bl c z).2.2.1 x c e rfl;by_cases hc:c∈X.fs
  ·obtain⟨sl,q⟩:=slot c o (I.Fq x c e) hc NA ho (I.fJ x c e);exact⟨_,q,hd⟩
  ·exact⟨o,keep c o (I.Fq x c e) hc NA ho (I.fJ x c e),hd⟩
 refine⟨I.ok,I.os,hg,⟨λb o e n hb hx=>?_,λb o e n hb hx=>?_,λb o e n hx=>?_,λb o e hx=>?_,λb xs e=>fH b xs (I.base.fH b xs e),λb o xs e=>oH b o xs (I.base.oH b o xs e),λb ps e=>?_⟩,?_,λx c e=>?_,?_,λx c e=>?_,λp hp=>?_,bo,I.len⟩
 ·exact keep b o (MX b o e) hb (QD b o e hx) (I.base.keep b o e n hb hx) (I.base.free b o e n hx)
 ·obtain⟨sl,e1⟩:=I.base.slot b o e n hb hx;obtain⟨R4,e2⟩:=slot b _ (MX b o e) hb (QD b o e hx) e1 (I.base.free b o e n hx);exact⟨R4,e2⟩
 ·obtain⟨o',e1⟩:=I.base.there b o e hx;exact free b o' (QD b o e hx) e1 (I.base.free b o e n hx)
 ·obtain⟨o',e1⟩:=I.base.there b o e hx;exact there b o' (QD b o e hx) e1
 ·obtain⟨m1,e1⟩:=I.base.qq b ps e;obtain⟨m2,e2⟩:=qq b _ e1;exact⟨m1++m2,by rw[e2,Array.append_assoc]⟩
 ·obtain⟨m,hn,hl⟩:=I.loc;refine⟨m,ns m hn,λi x v e1 e2 e3=>?_⟩;obtain⟨u,r,l⟩:=hl i x v e1 e2 e3;refine⟨u,r,?_⟩;rcases l with l | ⟨k,c,e,z⟩
  ·exact .inl l
  ·exact .inr ⟨k,c,e,cellK x c e _ z⟩
 ·obtain⟨v,z⟩:=I.cell x c e;exact⟨v,cellK x c e v z⟩
 ·obtain⟨m,⟨o,_,_,ho,_⟩,_⟩:=I.loc;exact free _ o (λz=>(Bl _ z).2.1 rfl) ho I.free
 ·obtain⟨v,o,ho,hd⟩:=I.cell x c e;exact free c o (λz=>(Bl c z).2.2.1 x c e rfl) ho (I.fJ x c e)
 ·obtain⟨e,n,ne,nf,d⟩:=I.pin p hp;have NA:p.1∉ch:=λz=>(Bl p.1 z).2.2.2 p hp rfl;exact⟨keep p.1 p.2 ne nf NA e n,free p.1 p.2 NA e n,ne,nf,d⟩
theorem Inv.un{t':Nat}(I:Inv X aa σ H s)(u:Un X.fs [] H H' s.heap h')(bo:iB X.prog X.w H' h'):Inv X aa σ H' {s with heap:=h',toks:=t'}:=by
 obtain⟨m,⟨o,es,ep,ho,r⟩,_⟩:=id I.loc;obtain⟨sl,hL⟩:=u.any ho I.free (by simp)
 exact I.step (g':=s.gens) (d':=s.drawn) (ch:=[]) (λ_ z=>nomatch z) (λb o _ hb _ e n=>u.keep b o e n hb (by simp)) (λb o _ hb _ e n=>u.slot b o e n hb (by simp)) (λb o _ e n=>u.free b o e n (by simp)) (λb o _ e=>u.there b o e (by simp)) u.fH u.oH u.qq (λm' hm=>by
  obtain⟨o',gJ,R5,BJ,r'⟩:=hm;rw[ho]at BJ;cases BJ;exact⟨_,gJ,R5,hL,r'⟩) bo I.bare
theorem Inv.call{g':Array GenState}{t':Nat}{d':Drawn}{ch:List Addr}(I:Inv X aa σ H s)(u:Un (zL X.stack) ch H H' s.heap h')(bo:iB X.prog X.w H' h')(hg:AllBare g')(Bl:∀b∈ch,(b∈X.ex\/X.dz.heap.objs.size<=b)/\b≠X.env.locals/\(∀x c,X.env.cells.lookup x=some c->c≠b)/\∀p∈X.pn++aa,p.1≠b):Inv X aa σ H' {s with heap:=h',gens:=g',drawn:=d',toks:=t'}:=by
 obtain⟨m,⟨o,es,ep,ho,r⟩,_⟩:=id I.loc;obtain⟨sl,hL⟩:=u.any ho I.free λz=>(Bl _ z).2.1 rfl
 exact I.step (ch:=ch) Bl (λb o hL hb hc e n=>u.keep b o e n (λz=>(bz.mp (I.qu b z)).elim hL hb) hc) (λb o _ _ hc e n=>u.any e n hc) (λb o hc e n=>u.free b o e n hc) (λb o hc e=>u.there b o e hc) u.fH u.oH u.qq (λm' hm=>by
  obtain⟨o',gJ,R5,BJ,r'⟩:=hm;rw[ho]at BJ;cases BJ;exact⟨_,gJ,R5,hL,r'⟩) bo hg
theorem Inv.turned{t':Nat}{it:Addr}(I:Inv X aa σ H s)(k:∀b o,b≠it->s.heap.get? b=some o->h'.get? b=some o)(hn:H it=none)(hL:it≠X.env.locals)(h1:it∈X.ex\/X.dz.heap.objs.size<=it)(h2:∀x c,X.env.cells.lookup x=some c->c≠it)(h3:∀p∈X.pn++aa,p.1≠it):Inv X aa σ H {s with heap:=h',toks:=t'}:=by
 have NB:∀b u,H b=some u->b≠it:=λb u e z=>by rw[z,hn]at e;cases e
 refine I.step (g':=s.gens) (d':=s.drawn) (ch:=[it]) (λb hb=>?_) (λb o _ _ hc e _=>k b o (λz=>hc (by simp[z])) e) (λb o _ _ hc e _=>⟨o.slots,k b o (λz=>hc (by simp[z])) e⟩) (λ_ _ _ _ n=>n)
  (λb o hc e=>⟨o,k b o (λz=>hc (by simp[z])) e⟩) (λ_ _ e=>e) (λ_ _ _ e=>e) (λb ps e=>⟨#[],by rw[e];simp⟩) (λm hm=>?_) (λb u e=>?_) I.bare
 ·have e:b=it:=by simpa using hb
  subst e;exact⟨h1,hL,h2,h3⟩
 ·obtain⟨o,es,ep,ho,r⟩:=hm;exact⟨o,es,ep,k _ o (fk hL) ho,r⟩
 ·refine(I.bo b u e).tB (λc v hc q=>k c v ?_ q) (λ_ q=>q) λ_ _ q=>q;rcases hc with z | z
  ·rw[z];exact NB b u e
  ·exact NB c _ z
theorem Inv.tok(I:Inv X aa σ H s)(t:Nat):Inv X aa σ H {s with toks:=t}:=I.un (h':=s.heap) (t':=t) Un.refl I.bo
theorem Inv.kept{t':Nat}(I:Inv X aa σ H s)(k:∀b u,s.heap.get? b=some u->h'.get? b=some u):Inv X aa σ H {s with heap:=h',toks:=t'}:=I.un (Un.kept k) (I.bo.kept k)
theorem Inv.laid{a:Addr}{o:HO}{t':Nat}(I:Inv X aa σ H s)(k:∀b u,s.heap.get? b=some u->h'.get? b=some u)(hp:s.heap.objs.size<=a)(new:bf X.prog X.w (bu H a o) h' a o):Inv X aa σ (bu H a o) {s with heap:=h',toks:=t'}:=I.un (Un.laid k hp (I.bo.fresh hp)) (I.bo.laid k hp new)
theorem Inv.write{x e:Addr}{o:HO}{t':Nat}(I:Inv X aa σ H s)(mu:Nx (H x))(he:e=x\/H e=some (.own x))(k:∀b u,b≠e->s.heap.get? b=some u->h'.get? b=some u)(MW:∃u,h'.get? e=some u)(new:bf X.prog X.w (bu H x o) h' x o):Inv X aa σ (bu H x o) {s with heap:=h',toks:=t'}:=I.un (Un.write mu he k MW) (I.bo.write mu he k MW new)
theorem Inv.qw{HX:List (Addr×Obj)}(I:Inv X aa σ H s)(h:∀p∈HX,s.heap.get? p.1=some p.2/\H p.1=none/\p.1≠X.env.locals/\p.1∉X.fs/\∀v,p.2.data≠.cell v):Inv X HX σ H s :=
 ⟨I.ok,I.os,I.bare,I.base,I.loc,I.cell,I.free,I.fJ,λp hp=>(iu.mp hp).elim (λz=>I.pin p (Bt _ z)) (h p),I.bo,I.len⟩
theorem mG{N:List Str}(hN:N.Nodup){i j:Nat}{x:Str}(a:N[i]?=some x)(b:N[j]?=some x):i=j:=by
 obtain⟨h1,e1⟩:=cP.mp a;obtain⟨h2,e2⟩:=cP.mp b;exact(List.getElem_inj hN).mp (e1.trans e2.symm)
theorem zO{M:Model}{A:Around}{E:Value->Shared->Prop}{i:Nat}{x:Str}{v:V}{u:Value}{Q:Unit->Shared->Prop}(I:Inv X aa σ H s)(hN:X.N.Nodup)(hi:X.N[i]?=some x)(hx:Loc X.env.scope x)(r:RelV v u)(h:∀s',Inv X aa (σ.set i (some v)) H s'->(∃a,Heap.SameBut a s.heap s'.heap/\(a=X.env.locals\/X.env.cells.lookup x=some a))->Q () s')(hf:X.fn x=true\/X.env.scope.names.lookup x=some .local:=by first | exact .inl rfl | exact .inr rfl | assumption):wpAny M A (storeName X.env x u) Q E s:=by
 obtain⟨m,hn,hl⟩:=id I.loc;have JQ:(X.env.scope.kind == .class||(X.env.scope.kind == .module&&X.env.locals != X.env.globals))=false:=by rw[I.ok.kind];rfl
 have NC:i<σ.length:=by rw[I.len];exact(cP.mp hi).1
 have Fq:=I.Fq
 have tracked:∀{a:Addr}{h':Heap},(∃o,s.heap.get? a=some o/\H a=none)->Heap.SameBut a s.heap h'->iB X.prog X.w H h':=λ{a h'} ha hs b ob e=>by
  obtain⟨_,_,tD⟩:=ha;refine(I.bo b ob e).tB (λc w' hc q=>(hs.2 c ?_).trans q) (λ_ q=>q) λ_ _ q=>q;rintro rfl;rcases hc with rfl | hc
  ·rw[tD]at e;cases e
  ·rw[tD]at hc;cases hc
 rcases hx with hk | hk
 ·refine wpAny_storeName_local hk hn (λh' R6 hs=>?_) JQ;obtain⟨oL,_,_,Xh,_⟩:=id hn;refine h _ ⟨I.ok,I.os,I.bare,⟨λb o e n hb hx=>?_,λb o e n hb hx=>?_,I.base.free,λb o e hx=>?_,I.base.fH,I.base.oH,I.base.qq⟩,⟨_,R6,λj y v' e1 e2 e3=>?_⟩,λy c e=>?_,I.free,I.fJ,λp hp=>?_,tracked ⟨oL,Xh,I.free⟩ hs,by simpa using I.len⟩ ⟨_,hs,.inl rfl⟩
  ·exact(hs.2 b (bW (eZ (bp e) I.ok.above))).trans (I.base.keep b o e n hb hx)
  ·obtain⟨sl,e1⟩:=I.base.slot b o e n hb hx;exact⟨sl,(hs.2 b (bW (eZ (bp e) I.ok.above))).trans e1⟩
  ·obtain⟨o',e1⟩:=I.base.there b o e hx;exact⟨o',(hs.2 b (bW (eZ (bp e) I.ok.above))).trans e1⟩
  ·by_cases hj:j=i
   ·subst hj;rw[hi]at e1;cases e1;rw[vt NC]at e2;cases e2;exact⟨u,r,.inl ⟨hk,by simp⟩⟩
   ·rw[mq (fk hj)]at e2;obtain⟨u',r',q⟩:=hl j y v' e1 e2 e3;refine⟨u',r',?_⟩;rcases q with⟨k,e⟩|⟨k,c,e,z⟩
    ·refine .inl ⟨k,?_⟩;have:y≠x:=λe=>hj (mG hN e1 (e▸hi));simp[this,e]
    ·exact .inr ⟨k,c,e,z.sameBut hs (Fq y c e)⟩
  ·obtain⟨w',z⟩:=I.cell y c e;exact⟨w',z.sameBut hs (Fq y c e)⟩
  ·obtain⟨e,n,ne,nf,d⟩:=I.pin p hp;exact⟨(hs.2 p.1 ne).trans e,n,ne,nf,d⟩
 ·have R7:X.fn x=true:=by
   rcases hf with z | z
   ·exact z
   ·rw[z]at hk;cases hk
  obtain⟨c,hc⟩:=I.ok.has x (.inl hk);obtain⟨w',z⟩:=I.cell x c hc;refine wpAny_storeName_cell I.ok.kind hk hc z (λh' oJ hs=>?_);obtain⟨oc,Vt,R8⟩:=id z;refine h {s with heap:=h'} ⟨I.ok,I.os,I.bare,⟨λb o e n hb hx=>?_,λb o e n hb hx=>?_,I.base.free,λb o e hx=>?_,I.base.fH,I.base.oH,I.base.qq⟩,⟨m,hn.sameBut hs (fk (Fq x c hc)),λj y v' e1 e2 e3=>?_⟩,λy c' e=>?_,I.free,I.fJ,λp hp=>?_,tracked ⟨oc,Vt,I.fJ x c hc⟩ hs,by simpa using I.len⟩ ⟨c,hs,.inr hc⟩
  ·exact(hs.2 b (bW (eZ (bp e) (I.ok.HV x c R7 hc)))).trans (I.base.keep b o e n hb hx)
  ·obtain⟨sl,e1⟩:=I.base.slot b o e n hb hx;exact⟨sl,(hs.2 b (bW (eZ (bp e) (I.ok.HV x c R7 hc)))).trans e1⟩
  ·obtain⟨o',e1⟩:=I.base.there b o e hx;exact⟨o',(hs.2 b (bW (eZ (bp e) (I.ok.HV x c R7 hc)))).trans e1⟩
  ·by_cases hj:j=i
   ·subst hj;rw[hi]at e1;cases e1;rw[vt NC]at e2;cases e2;exact⟨u,r,.inr ⟨.inl hk,c,hc,oJ⟩⟩
   ·rw[mq (fk hj)]at e2;obtain⟨u',r',q⟩:=hl j y v' e1 e2 e3;refine⟨u',r',?_⟩;rcases q with q | ⟨k,c',e,z'⟩
    ·exact .inl q
    ·refine .inr ⟨k,c',e,z'.sameBut hs ?_⟩;rintro rfl;exact hj (mG hN e1 (I.ok.inj _ _ _ e hc▸hi))
  ·by_cases Vu:c'=c
   ·subst Vu;exact⟨_,oJ⟩
   ·obtain⟨w2,z2⟩:=I.cell y c' e;exact⟨w2,z2.sameBut hs Vu⟩
  ·obtain⟨e,n,ne,nf,d⟩:=I.pin p hp;refine⟨(hs.2 p.1 ?_).trans e,n,ne,nf,d⟩;intro q;rw[q,Vt]at e;have q':oc=p.2:=cH e;exact d w' (by rw[<- q'];exact R8)
theorem jv{M:Model}{A:Around}{E:Value->Shared->Prop}{i:Nat}{x:Str}{v:V}{u:Value}{Q:Unit->Shared->Prop}(I:Inv X aa σ H s)(hN:X.N.Nodup)(hi:X.N[i]?=some x)(hx:Loc X.env.scope x)(r:RelV v u)(h:∀s',Inv X aa (σ.set i (some v)) H s'->Q () s')(hf:X.fn x=true\/X.env.scope.names.lookup x=some .local:=by first | exact .inl rfl | exact .inr rfl | assumption):wpAny M A (storeName X.env x u) Q E s :=
 zO I hN hi hx r (λs' I' _=>h s' I') hf
theorem Inv.xH{s':Shared}{ch:List Addr}(I:Inv X aa σ H s)(ho:s'.os=s.os)(u:Un (zL X.stack) ch H H' s.heap s'.heap)(bo:iB X.prog X.w H' s'.heap)(hg:AllBare s'.gens)(Bl:∀b∈ch,(b∈X.ex\/X.dz.heap.objs.size<=b)/\b≠X.env.locals/\(∀x c,X.env.cells.lookup x=some c->c≠b)/\∀p∈X.pn++aa,p.1≠b):Inv X aa σ H' s':=by
 obtain⟨h',g',d',t',o'⟩:=s';have e:o'=s.os:=ho;subst e;exact I.call (g':=g') (t':=t') (d':=d') u bo hg Bl
end
abbrev XK:=Value->Option Addr->Hp->Prop
abbrev St:=List (Option V)
abbrev VK:=V->Hp->Prop
abbrev TE:=St->Hp->VK->Prop
abbrev TT:=St->Hp->(Bool->Hp->Prop)->Prop
abbrev TA:=St->Hp->(List V->Hp->Prop)->Prop
structure kh where
 nx:St->Hp->Prop
 rt:VK
 bk:St->Hp->Prop:=λ_ _=>False
 ct:St->Hp->Prop:=λ_ _=>False
abbrev TS:=kh->St->Hp->Prop
def EP(X:Cx)(aa:List (Addr×Obj))(σ:St)(Q:VK)(u:Value)(s':Shared):Prop:=∃v H',Inv X aa σ H' s'/\RelV v u/\Q v H'
noncomputable def TP(X:Cx)(aa:List (Addr×Obj))(σ:St)(Q:Bool->Hp->Prop)(b:Bool)(s':Shared):Prop:=∃H',Inv X aa σ H' s'/\Q b H'
noncomputable def AP(X:Cx)(aa:List (Addr×Obj))(σ:St)(Q:List V->Hp->Prop)(us:List Value)(s':Shared):Prop:=∃vs H',Inv X aa σ H' s'/\aL vs us/\Q vs H'
def SP(X:Cx)(aa:List (Addr×Obj))(D:kh)(f:Flow)(s':Shared):Prop :=
 match f with
 | .next=>∃cU H',Inv X aa cU H' s'/\D.nx cU H'
 | .brk=>∃cU H',Inv X aa cU H' s'/\D.bk cU H'
 | .cont=>∃cU H',Inv X aa cU H' s'/\D.ct cU H'
 | .ret u=>∃v cU H',Inv X aa cU H' s'/\RelV v u/\D.rt v H'
def PE(X:Cx)(e:Expr)(t:TE):Prop :=
 ∀(aa:List (Addr×Obj))(s:Shared)(σ:St)(H:Hp)(Q:VK),Inv X aa σ H s->t σ H Q->wpAny (model X.prog X.w) X.A (eval e X.env) (EP X aa σ Q) X.xe s
def PT(X:Cx)(e:Expr)(t:TT):Prop :=
 ∀(aa:List (Addr×Obj))(s:Shared)(σ:St)(H:Hp)(Q:Bool->Hp->Prop),Inv X aa σ H s->t σ H Q->wpAny (model X.prog X.w) X.A (isTrue e X.env (eval e X.env)) (TP X aa σ Q) X.xe s
def PW(X:Cx)(e:Expr)(t:TT):Prop :=
 ∀(mH:Sem Value)(aa:List (Addr×Obj))(s:Shared)(σ:St)(H:Hp)(Q:Bool->Hp->Prop),Inv X aa σ H s->t σ H Q->wpAny (model X.prog X.w) X.A (isTrue e X.env mH) (TP X aa σ Q) X.xe s
theorem PW.pt{X:Cx}{e:Expr}{t:TT}(h:PW X e t):PT X e t:=h _
def PA(X:Cx)(es:List Expr)(t:TA):Prop :=
 ∀(pos:Pos)(aa:List (Addr×Obj))(s:Shared)(σ:St)(H:Hp)(Q:List V->Hp->Prop),Inv X aa σ H s->t σ H Q->wpAny (model X.prog X.w) X.A (spliced (backTo pos (starEach es X.env))) (AP X aa σ Q) X.xe s
def PS(X:Cx)(st:Stmt)(t:TS):Prop :=
 ∀(aa:List (Addr×Obj))(s:Shared)(σ:St)(H:Hp)(D:kh),Inv X aa σ H s->t D σ H->wpAny (model X.prog X.w) X.A (exec st X.env) (SP X aa D) X.xe s
def vL(X:Cx)(st:List Stmt)(t:TS):Prop :=
 ∀(aa:List (Addr×Obj))(s:Shared)(σ:St)(H:Hp)(D:kh),Inv X aa σ H s->t D σ H->wpAny (model X.prog X.w) X.A (execs st X.env) (SP X aa D) X.xe s
theorem bX{α:Type}{t:Sem α}{Q Q':α->Shared->Prop}{M:Model}{A:Around}{E:Value->Shared->Prop}{s:Shared}(h:wpAny M A t Q E s)(hQ:∀a s,Q a s->Q' a s):wpAny M A t Q' E s:=kf h hQ λ_ _ x=>x
section
variable {X:Cx}
noncomputable def R9(i:Nat):TE:=λσ H Q=>∃v,σ[i]?=some (some v)/\Q v H
def tC(v:V):TE:=λ_ H Q=>Q v H
theorem JR{i:Nat}{x:Str}{pos:Pos}(hN:X.N[i]?=some x)(hv:R1 X.env.scope x) (hd:(x==("__debug__" : Str))=false:=by decide) (HY:(x==("__classdict__" : Str))=false:=by decide):PE X (.Name x pos) (R9 i):=by
 intro aa s σ H Q I h;obtain⟨v,e,h⟩:=h;obtain⟨m,hn,hl⟩:=I.loc;obtain⟨u,r,l⟩:=hl i x v hN e hv;have d_:EP X aa σ Q u s:=⟨v,H,I,r,h⟩;rcases l with⟨hk,hm⟩|⟨hk,c,hc,xI⟩
 ·exact wpAny_Name (wpAny_loadName_local I.ok.kind hk hn hm d_) hd
 ·rcases hk with hk | hk
  ·exact wpAny_Name (wpAny_loadName_cell I.ok.kind hk hc xI d_) hd
  ·exact wpAny_Name (wpAny_loadName_free I.ok.kind hk hc xI d_ HY) hd
theorem qz {i j pos}:PE X (.Constant (.int i) j pos) (tC (.int i)):=λ_ _ _ H _ I h=>wpAny_Constant_int ⟨.int i,H,I.tok _,⟨_,rfl⟩,h⟩
theorem HZ {b j pos}:PE X (.Constant (.bool b) j pos) (tC (.bl b)):=λ_ _ _ H _ I h=>Constant_bool ⟨.bl b,H,I,rfl,h⟩
theorem JS {j pos}:PE X (.Constant .none j pos) (tC .a6):=λ_ _ _ H _ I h=>Constant_none ⟨.a6,H,I,rfl,h⟩
theorem BK {x j pos}:PE X (.Constant (.str x) j pos) (tC (.str x)):=λ_ _ _ H _ I h=>Calls.Constant_str ⟨.str x,H,I.tok _,⟨_,rfl⟩,h⟩
noncomputable def Gl(X:Cx)(x:Str):Prop:=X.env.kindOf x=some .globalImplicit
theorem ic{E:Value->Shared->Prop}{aa:List (Addr×Obj)}{s:Shared}{σ:St}{H:Hp}{x:Str}{u:Value}{pos:Pos}{Q:Value->Shared->Prop}(I:Inv X aa σ H s)(hg:Gl X x)(hm:X.mg x=some u)(h:Q u s) (hd:(x==("__debug__" : Str))=false:=by decide):wpAny (model X.prog X.w) X.A (eval (.Name x pos) X.env) Q E s :=
 Calls.Name_function_global I.ok.kind hg (Calls.loadGlobal_global (by rw[I.ok.glob];exact I.mod.glob.keeps I.bk) hm h) hd
theorem iT{E:Value->Shared->Prop}{aa:List (Addr×Obj)}{s:Shared}{σ:St}{H:Hp}{x:Str}{u:Value}{pos:Pos}{Q:Value->Shared->Prop}(I:Inv X aa σ H s)(hg:Gl X x)(hm:X.mg x=none)(hv:bootBuiltins x=some u)(h:Q u s) (hn:x≠ "__name__" := by decide) (hd:(x==("__debug__" : Str))=false:=by decide):wpAny (model X.prog X.w) X.A (eval (.Name x pos) X.env) Q E s:=by
 obtain⟨mb,h1,h2⟩:=I.mod.blt;exact Calls.Name_function_global I.ok.kind hg (Calls.loadGlobal_builtin (by rw[I.ok.glob];exact I.mod.glob.keeps I.bk) hm (by rw[I.ok.blt];exact h1.keeps I.bk) ((h2 x hn).trans hv) h) hd
theorem qA{x:Str}{v:V}{u:Value}{pos:Pos}(hg:Gl X x)(hm:X.mg x=some u)(r:RelV v u) (hd:(x==("__debug__" : Str))=false:=by decide):PE X (.Name x pos) (tC v) :=
 λ_ _ _ H _ I h=>ic I hg hm ⟨v,H,I,r,h⟩ hd
theorem xJ{x:Str}{v:V}{u:Value}{pos:Pos}(hg:Gl X x)(hm:X.mg x=none)(hv:bootBuiltins x=some u)(r:RelV v u) (hn:x≠ "__name__" := by decide) (hd:(x==("__debug__" : Str))=false:=by decide):PE X (.Name x pos) (tC v) :=
 λ_ _ _ H _ I h=>iT I hg hm hv ⟨v,H,I,r,h⟩ hn hd
variable {a b:Expr} {ta tb:TE} {pos:Pos}
variable {tA QE:TT} {dR:List Expr}
noncomputable def R_(t u:TT):TT:=λσ H Q=>t σ H λc H1=>if c=true then u σ H1 Q else Q false H1
noncomputable def Xi(t u:TT):TT:=λσ H Q=>t σ H λc H1=>if c=true then Q true H1 else u σ H1 Q
def Sa(t:TT):TT:=λσ H Q=>t σ H λc H1=>Q (!c) H1
theorem Ft(ha:PT X a tA):PW X (.BoolOp .And [a] pos) tA:=by
 intro wh aa s σ H Q I h;refine isTrue_and (bX (ha aa s σ H Q I h) λc s1 e=>?_)
 cases c with
 | true=>exact isTrue_and_nil e
 | false=>exact e
theorem JT(ha:PT X a tA):PW X (.BoolOp .Or [a] pos) tA:=by
 intro wh aa s σ H Q I h;refine isTrue_or (bX (ha aa s σ H Q I h) λc s1 e=>?_)
 cases c with
 | false=>exact isTrue_or_nil e
 | true=>exact e
theorem JU(ha:PT X a tA)(hb:PW X (.BoolOp .And (b::dR) pos) QE):PW X (.BoolOp .And (a::b::dR) pos) (R_ tA QE):=by
 intro wh aa s σ H Q I h;refine isTrue_and (bX (ha aa s σ H _ I h) ?_);rintro c s1 ⟨H1,I1,q1⟩
 cases c with
 | true=>exact hb wh aa s1 σ H1 Q I1 q1
 | false=>exact⟨H1,I1,q1⟩
theorem ND(ha:PT X a tA)(hb:PW X (.BoolOp .Or (b::dR) pos) QE):PW X (.BoolOp .Or (a::b::dR) pos) (Xi tA QE):=by
 intro wh aa s σ H Q I h;refine isTrue_or (bX (ha aa s σ H _ I h) ?_);rintro c s1 ⟨H1,I1,q1⟩
 cases c with
 | true=>exact⟨H1,I1,q1⟩
 | false=>exact hb wh aa s1 σ H1 Q I1 q1
theorem JV(ha:PT X a tA):PT X (.UnaryOp .Not a pos) (Sa tA):=by
 intro aa s σ H Q I h;exact isTrue_not (ha aa s σ H (λc H1=>Q (!c) H1) I h)
noncomputable def NF(ta tb:TE):TE:=λσ H Q=>ta σ H λx H1=>∃c,x=.bl c/\if c=true then tb σ H1 Q else Q (.bl false) H1
noncomputable def Sb(ta tb:TE):TE:=λσ H Q=>ta σ H λx H1=>∃c,x=.bl c/\if c=true then Q (.bl true) H1 else tb σ H1 Q
noncomputable def NG(ta:TE):TE:=λσ H Q=>ta σ H λx H1=>∃c,x=.bl c/\Q (.bl (!c)) H1
theorem BL {op} {t:TE} (h:PE X a t):PE X (.BoolOp op [a] pos) t:=λaa s σ H Q I hw=>BoolOp_one (h aa s σ H Q I hw)
theorem JW(ha:PE X a ta)(hb:PE X (.BoolOp .And (b::dR) pos) tb):PE X (.BoolOp .And (a::b::dR) pos) (NF ta tb):=by
 intro aa s σ H Q I h;refine BoolOp_and (bX (ha aa s σ H _ I h) ?_);rintro v s1 ⟨x,H1,I1,r1,q1⟩;obtain⟨c,rfl,q1⟩:=q1;cases r1;refine sU ?_
 cases c with
 | true=>exact hb aa s1 σ H1 Q I1 q1
 | false=>exact⟨.bl false,H1,I1,rfl,q1⟩
theorem NH(ha:PE X a ta)(hb:PE X (.BoolOp .Or (b::dR) pos) tb):PE X (.BoolOp .Or (a::b::dR) pos) (Sb ta tb):=by
 intro aa s σ H Q I h;refine BoolOp_or (bX (ha aa s σ H _ I h) ?_);rintro v s1 ⟨x,H1,I1,r1,q1⟩;obtain⟨c,rfl,q1⟩:=q1;cases r1;refine sU ?_
 cases c with
 | false=>exact hb aa s1 σ H1 Q I1 q1
 | true=>exact⟨.bl true,H1,I1,rfl,q1⟩
theorem JX(ha:PE X a ta):PE X (.UnaryOp .Not a pos) (NG ta):=by
 intro aa s σ H Q I h;refine UnaryOp_ (bX (ha aa s σ H _ I h) ?_);rintro v s1 ⟨x,H1,I1,r1,q1⟩;obtain⟨c,rfl,q1⟩:=q1;cases r1;exact not_of (sU ⟨.bl (!c),H1,I1,rfl,q1⟩)
end
def eO(K:PySem.W.Frag)(H:Hp)(a:Addr)(xs:List V):Prop :=
 Rd H a (.lst xs) \/
  ∃(o:Obj) (aC:Array Value) (n:Nat),K.lookup a=some o/\o.cls=.type "list" /\ o.dict=none/\o.data=.seq aC n/\aC.size<=sizeLine/\aL xs aC.toList
def fF(K:PySem.W.Frag)(H:Hp)(a:Addr)(xs:List V):Prop :=
 Rd H a (.tup xs) \/
  ∃(o:Obj) (aC:Array Value) (n:Nat),K.lookup a=some o/\o.cls=.type "tuple" /\ o.data=.seq aC n/\aC.size<=sizeLine/\aL xs aC.toList
noncomputable def Se:Value->Option V
 | .none=>some .a6
 | .bool b=>some (.bl b)
 | .int i _=>some (.int i)
 | .str x _=>some (.str x)
 | .bytes b _=>some (.HU b)
 | .float b _=>some (.Fo b)
 | .ref a=>some (.ref a)
 | .type n=>some (.ty n)
 | _=>none
theorem RelV.abs{x:V}{u:Value}(r:RelV x u):Se u=some x:=by
 cases x with
 | a6=>cases r;rfl
 | bl _=>cases r;rfl
 | int _=>obtain⟨t,rfl⟩:=r;rfl
 | str _=>obtain⟨t,rfl⟩:=r;rfl
 | HU _=>obtain⟨t,rfl⟩:=r;rfl
 | Fo _=>obtain⟨t,rfl⟩:=r;rfl
 | ref _=>cases r;rfl
 | ty _=>cases r;rfl
theorem RelV.inj{x y:V}{u:Value}(r:RelV x u)(q:RelV y u):x=y:=cH (r.abs.symm.trans q.abs)
theorem aL.inj:∀{xs ys:List V}{us:List Value},aL xs us->aL ys us->xs=ys
 | _,_,_,.nil,.nil=>rfl
 | _,_,_,.cons r t,.cons r' t'=>by rw[r.inj r',aL.inj t t']
section
variable {X:Cx} {aa:List (Addr×Obj)} {σ:St} {H:Hp} {s:Shared} {a:Addr} {xs ys:List V}
theorem eO.of{K:PySem.W.Frag}(h:H a=some (.lst xs)):eO K H a xs:=.inl (.inl h)
theorem fF.of{K:PySem.W.Frag}(h:H a=some (.tup xs)):fF K H a xs:=.inl (.inl h)
theorem Inv.list(I:Inv X aa σ H s)(h:eO X.K H a xs):∃aC:List Value,aL xs aC/\PlainL s.heap a aC.toArray/\xs.length<=sizeLine:=by
 rcases h with h | ⟨o,aC,n,hk,hc,hd,hs,hz,r⟩
 ·obtain⟨z,aC,n,r,e⟩:=h.ok I.bo;exact⟨aC,r,⟨_,n,e,rfl,rfl,rfl⟩,z⟩
 ·refine⟨aC.toList,r,⟨o,n,I.ju a o hk,hc,hd,by simpa using hs⟩,?_⟩;have e:=r.length;simp only[oA]at e;omega
theorem Inv.tuple(I:Inv X aa σ H s)(h:fF X.K H a xs):∃aC:List Value,aL xs aC/\IsTup s.heap a aC.toArray/\xs.length<=sizeLine:=by
 rcases h with h | ⟨o,aC,n,hk,hc,hs,hz,r⟩
 ·obtain⟨z,aC,r,p⟩:=h.ok I.bo;exact⟨aC,r,p,z⟩
 ·refine⟨aC.toList,r,⟨o,I.ju a o hk,hc,n,by simpa using hs⟩,?_⟩;have e:=r.length;simp only[oA]at e;omega
theorem Inv.tF(I:Inv X aa σ H s)(h:eO X.K H a xs)(h':eO X.K H a ys):xs=ys:=by
 obtain⟨aC,r,⟨o,n,e,_,_,d⟩,_⟩:=I.list h;obtain⟨its',r',⟨o',n',e',_,_,d'⟩,_⟩:=I.list h';rw[e]at e';cases e';rw[d]at d';injection d' with d1 _;have:aC=its':=by simpa using oG Array.toList d1
 subst this;exact r.inj r'
theorem Inv.ph(I:Inv X aa σ H s)(h:fF X.K H a xs)(h':fF X.K H a ys):xs=ys:=by
 obtain⟨aC,r,⟨o,e,_,n,d⟩,_⟩:=I.tuple h;obtain⟨its',r',⟨o',e',_,n',d'⟩,_⟩:=I.tuple h';rw[e]at e';cases e';rw[d]at d';injection d' with d1 _;have:aC=its':=by simpa using oG Array.toList d1
 subst this;exact r.inj r'
end
abbrev Cx.qB(X:Cx)(E:Value->Shared->Prop):Cx:={X with xe:=E}
abbrev Cx.NI(X:Cx):Cx:=X.qB λ_ _=>False
theorem Cx.Ok.qB{X:Cx}(ok:X.Ok)(E:Value->Shared->Prop):(X.qB E).Ok :=
 ⟨ok.mod,ok.kind,ok.glob,ok.blt,ok.above,ok.inj,ok.has,ok.HV,ok.hd,ok.frames,ok.xG,ok.QC,ok.bs,ok.EM,ok.zM,ok.zN,ok.kg,ok.HW⟩
theorem Cx.Ok.vM{X:Cx}{E:Value->Shared->Prop}(ok:(X.qB E).Ok):X.Ok :=
 ⟨ok.mod,ok.kind,ok.glob,ok.blt,ok.above,ok.inj,ok.has,ok.HV,ok.hd,ok.frames,ok.xG,ok.QC,ok.bs,ok.EM,ok.zM,ok.zN,ok.kg,ok.HW⟩
section
variable {X:Cx} {aa:List (Addr×Obj)} {σ:St} {H:Hp} {s:Shared} {E:Value->Shared->Prop}
theorem Inv.qB(I:Inv X aa σ H s)(E:Value->Shared->Prop):Inv (X.qB E) aa σ H s:=⟨I.ok.qB E,I.os,I.bare,I.base,I.loc,I.cell,I.free,I.fJ,I.pin,I.bo,I.len⟩
theorem Inv.vM(I:Inv (X.qB E) aa σ H s):Inv X aa σ H s:=⟨I.ok.vM,I.os,I.bare,I.base,I.loc,I.cell,I.free,I.fJ,I.pin,I.bo,I.len⟩
end
section
variable {X:Cx} {st:Stmt} {dR:List Stmt} {t u:TS} {e:Expr} {te:TE} {pos:Pos}
def H_:TS:=λD σ H=>D.nx σ H
def NJ(t u:TS):TS:=λD σ H=>t {D with nx:=u D} σ H
theorem xM:vL X [] H_:=λ_ _ σ H _ I h=>sW ⟨σ,H,I,h⟩
theorem tH(h1:PS X st t)(h2:vL X dR u):vL X (st::dR) (NJ t u):=by
 intro aa s σ H D I h;refine Ff (bX (h1 aa s σ H {D with nx:=u D} I h) λf s1 q=>?_)
 cases f with
 | next =>
  obtain⟨cU,H',I',q⟩:=q;exact h2 aa s1 cU H' D I' q
 | ret v=>exact q
 | brk=>exact q
 | cont=>exact q
def JY:TS:=λD σ H=>D.bk σ H
def NK:TS:=λD σ H=>D.ct σ H
theorem xN:PS X (.Pass pos) H_:=λ_ _ σ H _ I h=>wpAny_Pass ⟨σ,H,I,h⟩
theorem BM:PS X (.Break pos) JY:=λ_ _ σ H _ I h=>wpAny_Break ⟨σ,H,I,h⟩
theorem tJ:PS X (.Continue pos) NK:=λ_ _ σ H _ I h=>wpAny_Continue ⟨σ,H,I,h⟩
theorem Inv.quiet{aa:List (Addr×Obj)}{σ:St}{H:Hp}{s:Shared}(I:Inv X aa σ H s):interactive X.env=false:=by simp[interactive,I.ok.kind]
noncomputable def NL(te:TE):TS:=λD σ H=>te σ H λ_ H1=>D.nx σ H1
theorem Fv(he:PE X e te)(hs:swapsWith e none pos.line X.env=pure false:=by rfl):PS X (.Expr e pos) (NL te):=by
 intro aa s σ H D I h;exact wpAny_Expr_any (bX (he aa s σ H _ I h) λv s1 ⟨x,H1,I1,r1,q1⟩=>⟨σ,H1,I1,q1⟩) I.quiet hs
def Sf(te:TE):TS:=λD σ H=>te σ H D.rt
theorem JZ(he:PE X e te):PS X (.Return (some e) pos) (Sf te):=by
 intro aa s σ H D I h;exact wpAny_Return_some (bX (he aa s σ H _ I h) λv s1 ⟨x,H1,I1,r1,q1⟩=>⟨x,σ,H1,I1,r1,q1⟩)
def NM:TS:=λD _ H=>D.rt .a6 H
theorem Fw:PS X (.Return none pos) NM:=λ_ _ σ H _ I h=>wpAny_Return_none ⟨.a6,σ,H,I,rfl,h⟩
noncomputable def Sg(c:TT)(t u:TS):TS:=λD σ H=>c σ H λb H1=>if b=true then t D σ H1 else u D σ H1
theorem NN{c:Expr}{a b:List Stmt}{tc:TT}(hc:PT X c tc)(ha:vL X a t)(hb:vL X b u):PS X (.If c a b pos) (Sg tc t u):=by
 intro aa s σ H D I h;refine wpAny_If (bX (hc aa s σ H _ I h) ?_);rintro d s1 ⟨H1,I1,q1⟩
 cases d with
 | true=>exact ha aa s1 σ H1 D I1 q1
 | false=>exact hb aa s1 σ H1 D I1 q1
def J0:TS:=λ_ _ _=>False
theorem BN:PS X st J0:=λ_ _ _ _ _ _ h=>h.elim
end
abbrev TG:=V->St->Hp->(St->Hp->Prop)->Prop
abbrev Ia:=List V->St->Hp->(St->Hp->Prop)->Prop
def PG(X:Cx)(kj:Expr)(t:TG):Prop :=
 ∀(aa:List (Addr×Obj))(s:Shared)(σ:St)(H:Hp)(v:V)(u:Value)(Q:St->Hp->Prop),Inv X aa σ H s->RelV v u->t v σ H Q ->
  wpAny (model X.prog X.w) X.A (assign kj X.env u) (λ_ s'=>∃cU H',Inv X aa cU H' s'/\Q cU H') X.xe s
noncomputable def MY(X:Cx)(ts:List Expr)(t:Ia):Prop :=
 ∀(aa:List (Addr×Obj))(s:Shared)(σ:St)(H:Hp)(vs:List V)(us:List Value)(Q:St->Hp->Prop),Inv X aa σ H s->aL vs us->t vs σ H Q ->
  wpAny (model X.prog X.w) X.A (assignInOrder ((assignEach ts X.env).map (·.2)) us) (λ_ s'=>∃cU H',Inv X aa cU H' s'/\Q cU H') X.xe s
abbrev Fx:=V->V->V->Hp->(Hp->Prop)->Prop
def J1(X:Cx)(t:Fx):Prop :=
 ∀(aa:List (Addr×Obj))(s:Shared)(σ:St)(H:Hp)(o i v:V)(ov iv u:Value)(Q:Hp->Prop),Inv X aa σ H s->RelV o ov->RelV i iv->RelV v u->t o i v H Q ->
  wpAny (model X.prog X.w) X.A (setItem ov iv u) (λ_ s'=>∃H',Inv X aa σ H' s'/\Q H') X.xe s
section
variable {X:Cx} {pos:Pos}
def Ib(i:Nat):TG:=λv σ H Q=>Q (σ.set i (some v)) H
theorem lN{i:Nat}{x:Str}(hN:X.N.Nodup)(hi:X.N[i]?=some x)(hx:Loc X.env.scope x)(hf:X.fn x=true\/X.env.scope.names.lookup x=some .local:=by first | exact .inl rfl | exact .inr rfl | assumption):PG X (.Name x pos) (Ib i):=by
 intro aa s σ H v u Q I r h;exact wpAny_assign_Name (jv I hN hi hx r (λs' I'=>⟨_,H,I',h⟩) hf)
def NO:Ia:=λvs σ H Q=>vs=[]/\Q σ H
noncomputable def Ic(t:TG)(u:Ia):Ia:=λvs σ H Q=>∃v r,vs=v::r/\t v σ H λcU H'=>u r cU H' Q
theorem Fy:MY X [] NO:=by
 intro aa s σ H vs us Q I r h;obtain⟨e,h⟩:=h;subst e;cases r;exact assignInOrder_nil ⟨σ,H,I,h⟩
theorem BO{e:Expr}{es:List Expr}{t:TG}{u:Ia}(h1:PG X e t)(h2:MY X es u)(hs:(assignEach (e::es) X.env).map (·.2)=assign e X.env::(assignEach es X.env).map (·.2):=by rfl):MY X (e::es) (Ic t u):=by
 intro aa s σ H vs us Q I r h;obtain⟨v,vr,e1,h⟩:=h;subst e1
 cases r with
 | cons r rr =>
  rw[hs];refine assignInOrder_cons (bX (h1 aa s σ H _ _ _ I r h) ?_);rintro _ s1 ⟨Vv,H1,I1,q1⟩;exact h2 aa s1 Vv H1 _ _ Q I1 rr q1
def Sh(K:PySem.W.Frag)(n:Nat)(t:Ia):TG:=λv σ H Q=>∃a xs,v=.ref a/\fF K H a xs/\xs.length=n/\t xs σ H Q
theorem J2{es:List Expr}{k:Nat}{t:Ia}{n:Nat}(hc:X.calm=true)(h:MY X es t)(hn:(assignEach es X.env).length=n:=by rfl)(d0:(assignEach es X.env).findIdx? (·.1)=none:=by rfl):PG X (.Tuple es k pos) (Sh X.K n t):=by
 intro aa s σ H v u Q I r hw;obtain⟨a,xs,e1,hq,hl,hw⟩:=hw;subst e1;cases r;obtain⟨aC,rv,ht,hz⟩:=I.tuple hq;refine assign_Tuple_tuple (I.ok.hd hc) ht (by simp[hn,<- hl,rv.length]) d0 λh' hx=>?_;have I1:Inv X aa σ H {s with heap:=h'}:=I.kept (t':=s.toks) λb o e=>hx b o (bW (bp e)) e;exact h aa _ σ H xs _ Q I1 (by simpa using rv) hw
noncomputable def Si(to ti:TE)(t:Fx):TG:=λv σ H Q=>to σ H λo H1=>ti σ H1 λi H2=>t o i v H2 λH3=>Q σ H3
theorem J3 {o i : Expr} {to ti : TE} {t : Fx} (ho : PE X o to) (hi : PE X i ti) (hs : J1 X t)
    (ha:∀v,assign (.Subscript o i pos) X.env v=(do
      let ov <- holding [v] (eval o X.env)
      let iv <- holding [v,ov] (eval i X.env)
      standAt pos
      holding [v,ov,iv] (setItem ov iv v)
      release [v,ov,iv] []):=by intro _;rfl):PG X (.Subscript o i pos) (Si to ti t):=by
  intro aa s σ H v u Q I r h;rw[ha];refine af (fX (bX (ho aa s σ H _ I h) ?_));rintro ov s1 ⟨x,H1,I1,r1,q1⟩;refine af (fX (bX (hi aa s1 σ H1 _ I1 q1) ?_));rintro iv s2 ⟨y,H2,I2,r2,q2⟩;refine af (zB (af (fX (bX (hs aa s2 σ H2 x y v ov iv u _ I2 r1 r2 r q2) ?_))));rintro _ s3 ⟨H3,I3,q3⟩;exact wpAny_release ⟨σ,H3,I3,q3⟩
noncomputable def NP(te:TE)(g:TG):TS:=λD σ H=>te σ H λx H1=>g x σ H1 D.nx
theorem vN{tg e:Expr}{te:TE}{g:TG}(he:PE X e te)(hg:PG X tg g)(hs:swapsWithSole [tg] e pos.line X.env=pure false:=by rfl)(hw:swappedStores [tg] e X.env=pure none:=by rfl)(h1:(assignEach [tg] X.env).map (·.2)=[assign tg X.env]:=by rfl):PS X (.Assign [tg] e pos) (NP te g):=by
 intro aa s σ H D I h;refine wpAny_Assign_stores (bX (he aa s σ H _ I h) ?_) hs hw;rintro v s1 ⟨x,H1,I1,r1,q1⟩;rw[h1];exact bX (hg aa s1 σ H1 x v _ I1 r1 q1) λ_ s2 q=>q
end
structure It where
 go:Nat->Hp->Prop
 NQ:Nat->Hp->V->Hp->Prop
 stop:Nat->Hp->Prop
noncomputable def lB(X:Cx)(aa:List (Addr×Obj))(H:Hp)(b:Addr):Prop :=
 H b=none/\b≠X.env.locals/\b∉X.fs/\(b∈X.ex\/X.dz.heap.objs.size<=b)/\(∀x c,X.env.cells.lookup x=some c->c≠b)/\∀p∈X.pn++aa,p.1≠b
theorem Inv.Fz{X:Cx}{aa:List (Addr×Obj)}{σ:St}{H H':Hp}{s:Shared}{b:Addr}(I:Inv X aa σ H s)(hb:s.heap.objs.size<=b)(hn:H' b=none):lB X aa H' b:=by
 refine⟨hn,kc (eZ I.lt hb),I.Nz hb,.inr (bH I.sz hb),λx c e z=>?_,λp hp z=>?_⟩
 ·obtain⟨v,q⟩:=I.cell x c e;exact absurd (eZ q.lt (by rw[z];exact hb)) (mE _)
 ·exact absurd (eZ (bp (I.pin p hp).1) (by rw[z];exact hb)) (mE _)
structure zP (P:Program) (w:World) (K:PySem.W.Frag) (tg:Expr) (J:It) (fp:List Addr) (it:Addr) (tn:Nat->Heap->Prop):Prop where
 mem:it∈fp
 obj:∀i h,tn i h->∀b∈fp,∃o,h.get? b=some o/\∀v,o.data≠.cell v
 keep:∀i h h',tn i h->(∀b∈fp,∀o,h.get? b=some o->h'.get? b=some o)->tn i h'
 item:∀(X:Cx),X.prog=P->X.w=w->X.K=K->X.calm=true->∀(i:Nat)(aa:List (Addr×Obj))(s:Shared)(σ:St)(H:Hp)(E:Value->Shared->Prop),Inv X aa σ H s->(∀b∈fp,lB X aa H b)->tn i s.heap->J.go i H ->
  wpAny (model P w) X.A (pyNext (.ref it)) (λr s1=>∃u,r=some u /\
   wpAny (model P w) X.A (letOwnedTupleGo tg (.ref it) u) (λ_ s2=>∃x H',Inv X aa σ H' s2/\RelV x u/\J.NQ i H x H'/\tn (i+1) s2.heap/\∀b∈fp,H' b=none) E s1) E s
 done:∀(X:Cx),X.prog=P->X.w=w->X.K=K->X.calm=true->∀(i:Nat)(aa:List (Addr×Obj))(s:Shared)(σ:St)(H:Hp)(E:Value->Shared->Prop),Inv X aa σ H s->(∀b∈fp,lB X aa H b)->tn i s.heap->J.stop i H ->
  wpAny (model P w) X.A (pyNext (.ref it)) (λr s1=>r=none/\Inv X aa σ H s1) E s
 self:∀(A:Around)(i:Nat)(s:Shared)(Q:Value->Shared->Prop)(E:Value->Shared->Prop),tn i s.heap->Q (.ref it) s->wpAny (model P w) A (pyIter (.ref it)) Q E s
abbrev TI:=St->Hp->(It->Hp->Prop)->Prop
def Vw(X:Cx)(aa:List (Addr×Obj))(σ:St)(tg:Expr)(R:It->Hp->Prop)(QF:Value)(s2:Shared):Prop :=
 ∃(it:Addr) (fp:List Addr) (tn:Nat->Heap->Prop) (J:It) (H':Hp),QF=.ref it/\Inv X aa σ H' s2/\zP X.prog X.w X.K tg J fp it tn/\tn 0 s2.heap/\(∀b∈fp,lB X aa H' b)/\R J H'
def PI(X:Cx)(tg aM:Expr)(wi:TI):Prop :=
 ∀(aa:List (Addr×Obj))(s:Shared)(σ:St)(H:Hp)(R:It->Hp->Prop),Inv X aa σ H s->wi σ H R ->
  wpAny (model X.prog X.w) X.A (eval aM X.env) (λv s1=>wpAny (model X.prog X.w) X.A (pyIter v) (Vw X aa σ tg R) X.xe s1) X.xe s
theorem BP{M:Model}{A:Around}{E:Value->Shared->Prop}{s:Shared}{tg:Expr}{it:Addr}{u:Value}{o:Obj}{n:String}{vs:Array Value}{Q:Unit->Shared->Prop}(ho:s.heap.get? it=some o)(hc:o.cls=.type n)(hd:o.data=.fields vs) (hn:["enumerate","zip","dict_itemiterator","dict_reverseitemiterator","odict_iterator","itertools.zip_longest","itertools.pairwise"].contains n=false) (hQ:Q () s):wpAny M A (letOwnedTupleGo tg (.ref it) u) Q E s:=by
  unfold letOwnedTupleGo
  cases tg<;>first
    | exact aj hQ
    | (cases u <;> first
        | exact aj hQ
        | (refine af (zF ho ?_)
           rw[hc,hd];show wpAny M A (if (["enumerate","zip","dict_itemiterator","dict_reverseitemiterator","odict_iterator","itertools.zip_longest","itertools.pairwise"].contains n&&vs[0]? == some (rawInt _))=true then _ else _) Q E s;rw[aU (by intro h;rw[hn,jr]at h;cases h)];exact aj hQ))
def Sj(K:PySem.W.Frag)(a:Addr):It :=
 ⟨λi H=>∃xs x,eO K H a xs/\xs[i]?=some x,λi H x H'=>H'=H/\∀xs,eO K H a xs->xs[i]?=some x,λi H=>∃xs,eO K H a xs/\xs.length<=i⟩
def Sk(K:PySem.W.Frag)(a:Addr):It :=
 ⟨λi H=>∃xs x,fF K H a xs/\xs[i]?=some x,λi H x H'=>H'=H/\∀xs,fF K H a xs->xs[i]?=some x,λi H=>∃xs,fF K H a xs/\xs.length<=i⟩
noncomputable def QG(lo:Int)(n:Nat):It:=⟨λi _=>i<n,λi H x H'=>H'=H/\x=.int (lo+i),λi _=>n<=i⟩
theorem zQ{P:Program}{w:World}{K:PySem.W.Frag}{tg:Expr}(a it:Addr):zP P w K tg (Sj K a) [it] it (λi h=>h.IsListIter it a i) where
 mem:=by simp
 obj:=λi h st b hb=>by
  have e:b=it:=by simpa using hb
  subst e;obtain⟨o,e,c,d⟩:=st;exact⟨o,e,λv z=>by rw[d]at z;cases z⟩
 keep:=λi h h' st k=>st.at λo e=>k it (by simp) o e
 item:=by
  intro X hP hw hK hc i aa s σ H E I hf st hg;subst hP hw hK;obtain⟨xs,x,hq,hx⟩:=hg;obtain⟨aC,rv,p,hz⟩:=I.list hq;obtain⟨u,hu,ru⟩:=rv.get hx;obtain⟨f0,f1,f2,f3,f4,f5⟩:=hf it (by simp);refine wpAny_pyNext_list_item st p.isList (x:=u) (by simpa using hu) λh' Bm sb=>?_;have I1:Inv X aa σ H {s with heap:=h'}:=I.turned (t':=s.toks) (λb o hb e=>(sb.2 b hb).trans e) f0 f1 f3 f4 f5;obtain⟨o,e,c,d⟩:=id Bm;exact⟨u,rfl,BP (s:={s with heap:=h'}) e c d (by decide) ⟨x,H,I1,ru,⟨rfl,λys hy=>by rw[I.tF hy hq];exact hx⟩,Bm,λb hb=>(hf b hb).1⟩⟩
 done:=by
  intro X hP hw hK hc i aa s σ H E I hf st hg;subst hP hw hK;obtain⟨xs,hq,hx⟩:=hg;obtain⟨aC,rv,p,hz⟩:=I.list hq;obtain⟨f0,f1,f2,f3,f4,f5⟩:=hf it (by simp);have hl:=rv.length;exact wpAny_pyNext_list_end (I.ok.hd hc) st p.isList (by simp;omega) λh' eb=>⟨rfl,I.turned (t':=s.toks) (λb o hb e=>eb b o hb e) f0 f1 f3 f4 f5⟩
 self:=λ_ _ _ _ _ st h=>wpAny_pyIter_listiter st h
theorem vO{P:Program}{w:World}{K:PySem.W.Frag}{tg:Expr}(a it:Addr):zP P w K tg (Sk K a) [it] it (λi h=>h.IsTupleIter it a i) where
 mem:=by simp
 obj:=λi h st b hb=>by
  have e:b=it:=by simpa using hb
  subst e;obtain⟨o,e,c,d⟩:=st;exact⟨o,e,λv z=>by rw[d]at z;cases z⟩
 keep:=λi h h' st k=>st.at λo e=>k it (by simp) o e
 item:=by
  intro X hP hw hK hc i aa s σ H E I hf st hg;subst hP hw hK;obtain⟨xs,x,hq,hx⟩:=hg;obtain⟨aC,rv,p,hz⟩:=I.tuple hq;obtain⟨u,hu,ru⟩:=rv.get hx;obtain⟨f0,f1,f2,f3,f4,f5⟩:=hf it (by simp);refine wpAny_pyNext_tuple_item st (show s.heap.IsTuple a aC.toArray from p) (x:=u) (by simpa using hu) λh' Bm sb=>?_;have I1:Inv X aa σ H {s with heap:=h'}:=I.turned (t':=s.toks) (λb o hb e=>(sb.2 b hb).trans e) f0 f1 f3 f4 f5;obtain⟨o,e,c,d⟩:=id Bm;exact⟨u,rfl,BP (s:={s with heap:=h'}) e c d (by decide) ⟨x,H,I1,ru,⟨rfl,λys hy=>by rw[I.ph hy hq];exact hx⟩,Bm,λb hb=>(hf b hb).1⟩⟩
 done:=by
  intro X hP hw hK hc i aa s σ H E I hf st hg;subst hP hw hK;obtain⟨xs,hq,hx⟩:=hg;obtain⟨aC,rv,p,hz⟩:=I.tuple hq;obtain⟨f0,f1,f2,f3,f4,f5⟩:=hf it (by simp);have hl:=rv.length;exact wpAny_pyNext_tuple_end (I.ok.hd hc) st (show s.heap.IsTuple a aC.toArray from p) (by simp;omega) λh' eb=>⟨rfl,I.turned (t':=s.toks) (λb o hb e=>eb b o hb e) f0 f1 f3 f4 f5⟩
 self:=λ_ _ _ _ _ st h=>wpAny_pyIter_tupleiter st h
theorem vP{P:Program}{w:World}{K:PySem.W.Frag}{tg:Expr}(it:Addr)(lo:Int)(n:Nat):zP P w K tg (QG lo n) [it] it (λi h=>IsRangeIter h it (lo+(i:Nat)*1) ((n:Int)-(i:Nat)) 1) where
 mem:=by simp
 obj:=λi h st b hb=>by
  have e:b=it:=by simpa using hb
  subst e
  exact⟨_,st,λv z=>by
   have z':Data.fields _=Data.cell v:=z;cases z'⟩
 keep:=λi h h' st k=>k it (by simp) _ st
 item:=by
  intro X hP hw hK hc i aa s σ H E I hf st hg;subst hP hw hK;obtain⟨f0,f1,f2,f3,f4,f5⟩:=hf it (by simp);have W:=Walks.range (prog:=X.prog) (w:=X.w) (I.ok.hd hc) it lo 1 n;refine W.item i s _ _ hg st λv h' tk hv Bm kk=>?_;obtain⟨t,rfl⟩:=hv;have I1:Inv X aa σ H {s with heap:=h',toks:=tk}:=I.turned (λb o hb e=>kk b o (by simpa using hb) e) f0 f1 f3 f4 f5;refine⟨_,rfl,BP (s:={s with heap:=h',toks:=tk}) (n := "range_iterator") Bm rfl rfl (by decide) ⟨.int (lo+i),H,I1,⟨t,?_⟩,⟨rfl,rfl⟩,Bm,λb hb=>(hf b hb).1⟩⟩;rw[Int.mul_one]
 done:=by
  intro X hP hw hK hc i aa s σ H E I hf st hg;subst hP hw hK;obtain⟨f0,f1,f2,f3,f4,f5⟩:=hf it (by simp);exact wpAny_pyNext_range_end (I.ok.hd hc) st (by have:n<=i:=hg;omega) λh' eb=>⟨rfl,I.turned (t':=s.toks) (λb o hb e=>eb b o hb e) f0 f1 f3 f4 f5⟩
 self:=λ_ _ _ _ _ st h=>wpAny_pyIter_rangeiter st h
section
variable {X:Cx} {tg:Expr}
def NR(K:PySem.W.Frag)(tl:TE):TI:=λσ H R=>tl σ H λx H1=>∃a,x=.ref a/\(∃xs,eO K H1 a xs)/\R (Sj K a) H1
def Sl(K:PySem.W.Frag)(tl:TE):TI:=λσ H R=>tl σ H λx H1=>∃a,x=.ref a/\(∃xs,fF K H1 a xs)/\R (Sk K a) H1
theorem qC{l:Expr}{tl:TE}(hl:PE X l tl):PI X tg l (NR X.K tl):=by
 intro aa s σ H R I h;refine bX (hl aa s σ H _ I h) ?_;rintro v s1 ⟨x,H1,I1,r1,q1⟩;obtain⟨a,e,⟨xs,hq⟩,q⟩:=q1;subst e;cases r1;obtain⟨aC,rv,p,hz⟩:=I1.list hq;refine vD p.isList ?_;refine⟨s1.heap.objs.size,[s1.heap.objs.size],_,_,H1,rfl,I1.kept (t':=s1.toks) λb o e=>aR _ e,zQ a _,⟨_,cw _ rfl,rfl,rfl⟩,λb hb=>?_,q⟩;have e:b=s1.heap.objs.size:=by simpa using hb
 subst e;exact I1.Fz (aq _) (I1.bo.fresh (aq _))
theorem BQ{l:Expr}{tl:TE}(hl:PE X l tl):PI X tg l (Sl X.K tl):=by
 intro aa s σ H R I h;refine bX (hl aa s σ H _ I h) ?_;rintro v s1 ⟨x,H1,I1,r1,q1⟩;obtain⟨a,e,⟨xs,hq⟩,q⟩:=q1;subst e;cases r1;obtain⟨aC,rv,p,hz⟩:=I1.tuple hq;refine zq (show s1.heap.IsTuple a aC.toArray from p) ?_;refine⟨s1.heap.objs.size,[s1.heap.objs.size],_,_,H1,rfl,I1.kept (t':=s1.toks) λb o e=>aR _ e,vO a _,⟨_,cw _ rfl,rfl,rfl⟩,λb hb=>?_,q⟩;have e:b=s1.heap.objs.size:=by simpa using hb
 subst e;exact I1.Fz (aq _) (I1.bo.fresh (aq _))
theorem BR{aa:List (Addr×Obj)}{σ:St}{H:Hp}{s:Shared}{R:It->Hp->Prop}{E:Value->Shared->Prop}{lo hi:Int}{t u v:Tok}{tk:Nat}(I:Inv X aa σ H s)(h1:-(2 ^ 62)<=lo)(h2:lo<2 ^ 62)(h3:-(2 ^ 62)<=hi)(h4:hi<2 ^ 62)(q:R (QG lo (hi-lo).toNat) H):wpAny (model X.prog X.w) X.A (pyIter (.ref s.heap.objs.size)) (Vw X aa σ tg R) E {s with heap:=s.heap.push {cls:=.type "range",data:=.fields #[.int lo t,.int hi u,.int 1 v]},toks:=tk}:=by
 refine wpAny_pyIter_range (IsRange.new ..) (small_one h1 h2 h3 h4) ?_;have I1:Inv X aa σ H {s with heap:=s.heap.push {cls:=.type "range",data:=.fields #[.int lo t,.int hi u,.int 1 v]},toks:=tk}:=I.kept λb o e=>aR _ e
 refine⟨(s.heap.push {cls:=.type "range",data:=.fields #[.int lo t,.int hi u,.int 1 v]}).objs.size,[(s.heap.push {cls:=.type "range",data:=.fields #[.int lo t,.int hi u,.int 1 v]}).objs.size],_,_,H,rfl,
  I1.kept (t':=tk) λb o e=>aR _ e,vP _ lo (hi-lo).toNat,?_,λb hb=>?_,q⟩
 ·have e1:lo+((0:Nat):Int)*1=lo:=by simp
  have e2:(((hi-lo).toNat:Nat):Int)-((0:Nat):Int)=Builtin.Range.rangeSize lo hi 1:=by rw[rangeSize_one];split<;>omega
  show IsRangeIter _ _ (lo+((0:Nat):Int)*1) ((((hi-lo).toNat:Nat):Int)-((0:Nat):Int)) 1;rw[e1,e2];exact cw _ rfl
 ·have e:b=(s.heap.push {cls:=.type "range",data:=.fields #[.int lo t,.int hi u,.int 1 v]}).objs.size:=by simpa using hb
  subst e;exact I1.Fz (aq _) (I1.bo.fresh (aq _))
def NS(ta:TA):TI:=λσ H R=>ta σ H λvs H1=>∃j:Int,vs=[.int j]/\-(2 ^ 62)<=j/\j<2 ^ 62/\R (QG 0 j.toNat) H1
theorem zR{a:Expr}{ta:TA}{p pos:Pos} (hg:Gl X "range") (hm:X.mg "range" = none) (ha:PA X [a] ta) (hs:starEach [a] X.env=[(false,eval a X.env)]:=by rfl):PI X tg (.Call (.Name "range" p) [a] [] pos) (NS ta):=by
 intro aa s σ H R I h;refine Call_ (iT I hg hm boot_range (Br (bX (ha pos aa s σ H _ I h) ?_) hs rfl));rintro us s1 ⟨vs,H1,I1,r1,q1⟩;obtain⟨j,e,q1,q2,q⟩:=q1;subst e
 cases r1 with
 | cons r rr =>
  cases rr;obtain⟨t,rfl⟩:=r;exact call_range_1 (BR I1 ∅ ∅ q1 q2 (by simpa using q))
noncomputable def Sm(wi:TI)(g:TG)(tb:TS):TS:=λD σ H=>wi σ H λJ H1=>∃W:Nat->Nat->St->Hp->Prop,(∃m,W 0 m σ H1)/\∀i m σ H,W i m σ H ->
 (J.stop i H/\D.nx σ H)\/(J.go i H/\∃N:St->Hp->Prop,(∀cU H',N cU H'->∃m',m'<m/\W (i+1) m' cU H')/\∀x H',J.NQ i H x H'->g x σ H' λFA H2=>tb {D with nx:=N,ct:=N,bk:=D.nx} FA H2)
noncomputable def kl(fp:List Addr)(h:Heap):List (Addr×Obj):=fp.filterMap λb=>(h.get? b).map λo=>(b,o)
theorem fY{fp:List Addr}{h:Heap}{b:Addr}{o:Obj}(hb:b∈fp)(e:h.get? b=some o):(b,o)∈kl fp h:=E6.mpr ⟨b,hb,by rw[e];rfl⟩
theorem zS{fp:List Addr}{h:Heap}{p:Addr×Obj}(hp:p∈kl fp h):p.1∈fp/\h.get? p.1=some p.2:=by
 obtain⟨b,hb,e⟩:=E6.mp hp
 cases q:h.get? b with
 | none=>rw[q]at e;cases e
 | some o =>
  rw[q]at e;have e':(b,o)=p:=cH e;subst e';exact⟨hb,q⟩
theorem Inv.pinned{aa:List (Addr×Obj)}{σ:St}{H:Hp}{s:Shared}{fp:List Addr}(I:Inv X aa σ H s)(hf:∀b∈fp,lB X aa H b)(ho:∀b∈fp,∃o,s.heap.get? b=some o/\∀v,o.data≠.cell v):Inv X (aa++kl fp s.heap) σ H s :=
 I.qw λp hp=>(iu.mp hp).elim (λz=>I.pin p (gP _ z)) λz=>by
  obtain⟨hb,e⟩:=zS z;obtain⟨f0,f1,f2,_⟩:=hf p.1 hb;obtain⟨o,e',d⟩:=ho p.1 hb;rw[e]at e';cases e';exact⟨e,f0,f1,f2,d⟩
theorem Inv.gU{aa pl:List (Addr×Obj)}{σ:St}{H:Hp}{s:Shared}(I:Inv X (aa++pl) σ H s):Inv X aa σ H s:=I.qw λp hp=>I.pin p (gP _ (Bt _ hp))
theorem J4{aM:Expr}{body:List Stmt}{wi:TI}{g:TG}{tb:TS}{pos:Pos}(hp:PassesOwn (model X.prog X.w) X.A X.env X.xe)(hc:X.calm=true)(hi:PI X tg aM wi)(hg:PG X tg g)(hb:vL X body tb)(hs:∀x,foldedSetIterable aM X.env x=pure x:=by intro _;rfl):PS X (.For tg aM body [] pos) (Sm wi g tb):=by
 intro aa s σ H D I h;refine wpAny_For (bX (hi aa s σ H _ I h) λv s1 h1=>bX h1 λQF s2 h2=>?_) hs;obtain⟨it,fp,tn,J,H2,e,I2,T,tK,f2,W,⟨m0,w0⟩,BS⟩:=h2;subst e;have J5:∀{H':Hp},(∀b∈fp,H' b=none)->∀b∈fp,lB X aa H' b:=λhn b hb=>⟨hn b hb,(f2 b hb).2⟩;refine codeAny_forLoop_any (λn s'=>∃i cU H',Inv X aa cU H' s'/\tn i s'.heap/\(∀b∈fp,H' b=none)/\W i n cU H') ?_ m0 ⟨0,σ,H2,I2,tK,λb hb=>(f2 b hb).1,w0⟩;rintro n s3 ⟨i,FC,H3,I3,QH,FD,w3⟩;rcases BS i n FC H3 w3 with⟨stop,qn⟩|⟨go,N,hN,step⟩
 ·refine BC hp (bX (T.done X rfl rfl rfl hc i aa s3 FC H3 X.xe I3 (J5 FD) QH stop) ?_);rintro r s4 ⟨rfl,I4⟩;exact sW ⟨FC,H3,I4,qn⟩
 ·refine BC hp (bX (T.item X rfl rfl rfl hc i aa s3 FC H3 X.xe I3 (J5 FD) QH go) ?_);rintro r s4 ⟨u,rfl,h4⟩;refine BC hp (bX h4 ?_);rintro _ s5 ⟨x,H5,I5,r5,y5,MZ,FE⟩;have Xj:=I5.pinned (J5 FE) (T.obj _ _ MZ);refine BC hp (bX (hg _ s5 FC H5 x u _ Xj r5 (step x H5 y5)) ?_);rintro _ s6 ⟨Xk,H6,I6,q6⟩;refine BC hp (bX (hb _ s6 Xk H6 _ I6 q6) λf s7 q7=>?_)
  have again:∀{BU:St}{H7:Hp},Inv X (aa++kl fp s5.heap) BU H7 s7->N BU H7->∃m,m<n/\∃i cU H',Inv X aa cU H' s7/\tn i s7.heap/\(∀b∈fp,H' b=none)/\W i m cU H':=λ{BU H7} I7 n7=>by
   obtain⟨m',hm,w7⟩:=hN BU H7 n7;refine⟨m',hm,i+1,BU,H7,I7.gU,T.keep _ _ _ MZ λb hb o e=>(I7.pin (b,o) (gP _ (gP _ (fY hb e)))).1,λb hb=>?_,w7⟩;obtain⟨o,e,d⟩:=T.obj _ _ MZ b hb;exact(I7.pin (b,o) (gP _ (gP _ (fY hb e)))).2.1
  cases f with
  | next=>obtain⟨BU,H7,I7,n7⟩:=q7;exact again I7 n7
  | cont=>obtain⟨BU,H7,I7,n7⟩:=q7;exact again I7 n7
  | brk=>obtain⟨BU,H7,I7,q7⟩:=q7;exact⟨BU,H7,I7.gU,q7⟩
  | ret v=>obtain⟨x7,BU,H7,I7,r7,q7⟩:=q7;exact⟨x7,BU,H7,I7.gU,r7,q7⟩
end
abbrev R2:=V->V->Hp->VK->Prop
def iC(X:Cx)(f:Value->Value->Sem Value)(r:R2):Prop :=
 ∀(aa:List (Addr×Obj))(s:Shared)(σ:St)(H:Hp)(x y:V)(v u:Value)(Q:VK),Inv X aa σ H s->RelV x v->RelV y u->r x y H Q ->
  wpAny (model X.prog X.w) X.A (f v u) (EP X aa σ Q) X.xe s
def Sn(X:Cx)(f:Value->Sem Value)(r:V->Hp->VK->Prop):Prop :=
 ∀(aa:List (Addr×Obj))(s:Shared)(σ:St)(H:Hp)(x:V)(v:Value)(Q:VK),Inv X aa σ H s->RelV x v->r x H Q ->
  wpAny (model X.prog X.w) X.A (f v) (EP X aa σ Q) X.xe s
def cL(X:Cx)(f:Value)(r:List V->Hp->VK->Prop):Prop :=
 ∀(aa:List (Addr×Obj))(s:Shared)(σ:St)(H:Hp)(xs:List V)(us:List Value)(Q:VK),Inv X aa σ H s->aL xs us->r xs H Q ->
  wpAny (model X.prog X.w) X.A (call f us) (EP X aa σ Q) X.xe s
def So(X:Cx)(r:V->Hp->(Bool->Hp->Prop)->Prop):Prop :=
 ∀(aa:List (Addr×Obj))(s:Shared)(σ:St)(H:Hp)(x:V)(v:Value)(Q:Bool->Hp->Prop),Inv X aa σ H s->RelV x v->r x H Q ->
  wpAny (model X.prog X.w) X.A (truthy v) (TP X aa σ Q) X.xe s
noncomputable def FF(r:R2)(ta tb:TE):TE:=λσ H Q=>ta σ H λx H1=>tb σ H1 λy H2=>r x y H2 Q
noncomputable def Xl(r:V->Hp->VK->Prop)(ta:TE):TE:=λσ H Q=>ta σ H λx H1=>r x H1 Q
noncomputable def rI(C:Int->Int->Prop)(g:Int->Int->V):R2:=λx y H Q=>∃i j,x=.int i/\y=.int j/\C i j/\Q (g i j) H
noncomputable def Ie(g:Int->Int->V):R2:=λx y H Q=>∃i j,x=.int i/\y=.int j/\Q (g i j) H
noncomputable def rU(g:Int->V):V->Hp->VK->Prop:=λx H Q=>∃i,x=.int i/\Q (g i) H
section
variable {X:Cx} {a b c:Expr} {ta tb tc:TE} {pos:Pos}
theorem J6(ha:PE X a ta)(hb:PE X b tb){aa:List (Addr×Obj)}{s:Shared}{σ:St}{H:Hp}{R:V->V->Hp->Prop}(I:Inv X aa σ H s)(h:ta σ H λx H1=>tb σ H1 λy H2=>R x y H2){Q:Value->Shared->Prop}{f:Value->Value->Sem Value}(hf:∀v u s2 x y H2,Inv X aa σ H2 s2->RelV x v->RelV y u->R x y H2->wpAny (model X.prog X.w) X.A (f v u) Q X.xe s2):wpAny (model X.prog X.w) X.A (eval a X.env) (λv bc=>wpAny (model X.prog X.w) X.A (eval b X.env) (λu FG=>wpAny (model X.prog X.w) X.A (f v u) Q X.xe FG) X.xe bc) X.xe s:=by
 refine bX (ha aa s σ H _ I h) ?_;rintro v s1 ⟨x,H1,I1,r1,q1⟩;refine bX (hb aa s1 σ H1 _ I1 q1) ?_;rintro u s2 ⟨y,H2,I2,r2,q2⟩;exact hf v u s2 x y H2 I2 r1 r2 q2
theorem NT{op:Operator}{r:R2}(ho:iC X (binaryOp op) r)(ha:PE X a ta)(hb:PE X b tb):PE X (.BinOp a op b pos) (FF r ta tb):=by
 intro aa s σ H Q I h;exact wpAny_BinOp (J6 ha hb I h λv u s2 x y H2 I2 rx ry q=>ho aa s2 σ H2 x y v u Q I2 rx ry q)
theorem Ig{op:UnaryOp}{r:V->Hp->VK->Prop}(ho:Sn X (unaryOp op) r)(ha:PE X a ta):PE X (.UnaryOp op a pos) (Xl r ta):=by
 intro aa s σ H Q I h;exact UnaryOp_ (bX (ha aa s σ H _ I h) λv s1 ⟨x,H1,I1,r1,q1⟩=>ho aa s1 σ H1 x v Q I1 r1 q1)
theorem QI{f:Value->Value->Sem Value}{C:Int->Int->Prop}{g:Int->Int->Int}(rule:∀(i j:Int)(t u:Tok)(s:Shared)(Q:Value->Shared->Prop)(E:Value->Shared->Prop),C i j->Q (.int (g i j) s.toks) {s with toks:=s.toks+1}->wpAny (model X.prog X.w) X.A (f (.int i t) (.int j u)) Q E s):iC X f (rI C λi j=>.int (g i j)):=by
 intro aa s σ H x y v u Q I rx ry h;obtain⟨i,j,rfl,rfl,hc,q⟩:=h;obtain⟨t,rfl⟩:=rx;obtain⟨t',rfl⟩:=ry;exact rule i j t t' s _ _ hc ⟨.int (g i j),H,I.tok _,⟨_,rfl⟩,q⟩
theorem NU{f:Value->Value->Sem Value}{g:Int->Int->Int}(rule:∀(i j:Int)(t u:Tok)(s:Shared)(Q:Value->Shared->Prop)(E:Value->Shared->Prop),Q (.int (g i j) s.toks) {s with toks:=s.toks+1}->wpAny (model X.prog X.w) X.A (f (.int i t) (.int j u)) Q E s):iC X f (Ie λi j=>.int (g i j)):=by
 intro aa s σ H x y v u Q I rx ry h;obtain⟨i,j,rfl,rfl,q⟩:=h;obtain⟨t,rfl⟩:=rx;obtain⟨t',rfl⟩:=ry;exact rule i j t t' s _ _ ⟨.int (g i j),H,I.tok _,⟨_,rfl⟩,q⟩
theorem FH{f:Value->Value->Sem Value}{g:Int->Int->Bool}(rule:∀(i j:Int)(t u:Tok)(s:Shared)(Q:Value->Shared->Prop)(E:Value->Shared->Prop),Q (.bool (g i j)) s->wpAny (model X.prog X.w) X.A (f (.int i t) (.int j u)) Q E s):iC X f (Ie λi j=>.bl (g i j)):=by
 intro aa s σ H x y v u Q I rx ry h;obtain⟨i,j,rfl,rfl,q⟩:=h;obtain⟨t,rfl⟩:=rx;obtain⟨t',rfl⟩:=ry;exact rule i j t t' s _ _ ⟨.bl (g i j),H,I,rfl,q⟩
def Sq(i j:Int):Prop:=0<j/\j<1073741824
noncomputable def Sr(i j:Int):Prop:=0<=j/\j<=1000000/\i.natAbs<2 ^ 64
noncomputable def J7(i j:Int):Prop:=(-(2 ^ 64)<i/\i<2 ^ 64)\/(-(2 ^ 64)<j/\j<2 ^ 64)
theorem J7.ok{i j:Int}(h:J7 i j):IntMulOk i j:=by
 rcases h with⟨h1,h2⟩|⟨h1,h2⟩
 ·exact .of_left (intBits_le_64 h1 h2)
 ·exact .of_right (intBits_le_64 h1 h2)
theorem J8:iC X (binaryOp .Add) (Ie λi j=>.int (i+j)):=NU λ_ _ _ _ _ _ _ q=>add_int q
theorem J9:iC X (binaryOp .Sub) (Ie λi j=>.int (i-j)):=NU λ_ _ _ _ _ _ _ q=>sub_int q
theorem J_:iC X (binaryOp .Mult) (rI J7 λi j=>.int (i*j)):=QI λ_ _ _ _ _ _ _ hc q=>mul_int q hc.ok
theorem FI:iC X (binaryOp .FloorDiv) (rI Sq λi j=>.int (i / j)):=QI λi j _ _ _ _ _ hc q=>by
 have h1:(0:Int)<j:=hc.1;have h2:j<1073741824:=hc.2;exact floordiv_int ∅ (by rw[Int.fdiv_eq_ediv_of_nonneg i ∅];exact q) (.inl (PyProof.noPylong_small ∅))
theorem Ka:iC X (binaryOp .Mod) (rI (λ_ j=>0<j) λi j=>.int (i % j)):=QI λi j _ _ _ _ _ hc q=>by
 have h1:(0:Int)<j:=hc;exact mod_int' ∅ (by rw[Int.fmod_eq_emod_of_nonneg i ∅];exact q)
theorem Kb:iC X (binaryOp .Pow) (rI Sr λi j=>.int (i ^ j.toNat)):=QI λ_ _ _ _ _ _ _ hc q=>pow_int_small hc.1 hc.2.1 hc.2.2 q
theorem Xm{f:Value->Sem Value}{g:Int->Int}(rule:∀(i:Int)(t:Tok)(s:Shared)(Q:Value->Shared->Prop)(E:Value->Shared->Prop),Q (.int (g i) s.toks) {s with toks:=s.toks+1}->wpAny (model X.prog X.w) X.A (f (.int i t)) Q E s):Sn X f (rU λi=>.int (g i)):=by
 intro aa s σ H x v Q I rx h;obtain⟨i,rfl,q⟩:=h;obtain⟨t,rfl⟩:=rx;exact rule i t s _ _ ⟨.int (g i),H,I.tok _,⟨_,rfl⟩,q⟩
theorem BV:Sn X (unaryOp .USub) (rU λi=>.int (-i)):=Xm λ_ _ _ _ _ q=>neg_int q
end
section
variable {X:Cx} {a b c:Expr} {ta tb tc:TE} {pos:Pos}
theorem mI{aa:List (Addr×Obj)}{σ:St}{H:Hp}{s:Shared}{Q:VK}{k k':Bool}(I:Inv X aa σ H s)(q:Q (.bl k) H)(e:k=k'):EP X aa σ Q (.bool k') s:=by
 subst e;exact⟨.bl k,H,I,rfl,q⟩
theorem NV:iC X (compareOp .Lt) (Ie λi j=>.bl (decide (i<j))):=FH λ_ _ _ _ _ _ _ q=>lt_int q
theorem NW:iC X (compareOp .LtE) (Ie λi j=>.bl (decide (i<=j))):=FH λ_ _ _ _ _ _ _ q=>le_int q
theorem NX:iC X (compareOp .Gt) (Ie λi j=>.bl (decide (j<i))):=FH λ_ _ _ _ _ _ _ q=>gt_int q
theorem NY:iC X (compareOp .GtE) (Ie λi j=>.bl (decide (j<=i))):=FH λ_ _ _ _ _ _ _ q=>ge_int q
theorem zT:iC X (compareOp .Lt) (λx y H Q=>∃i j,x=.str i/\y=.str j/\Q (.bl (decide (i.cps.toList<j.cps.toList))) H):=by
 intro aa s σ H x y v u Q I rx ry h;obtain⟨i,j,rfl,rfl,q⟩:=h;obtain⟨t,rfl⟩:=rx;obtain⟨t',rfl⟩:=ry;exact lt_str (mI I q rfl)
theorem Kc:iC X (compareOp .Is) (λx y H Q=>y=.a6/\Q (.bl (decide (x=.a6))) H):=by
 intro aa s σ H x y v u Q I rx ry h;obtain⟨rfl,q⟩:=h;cases ry;refine is_none_gen (mI I q ?_)
 cases x<;>first
  | (cases rx;rfl)
  | (obtain⟨t,rfl⟩:=rx;rfl)
theorem FJ:iC X (compareOp .IsNot) (λx y H Q=>y=.a6/\Q (.bl (!decide (x=.a6))) H):=by
 intro aa s σ H x y v u Q I rx ry h;obtain⟨rfl,q⟩:=h;cases ry;refine isnot_none_gen (mI I q ?_)
 cases x<;>first
  | (cases rx;rfl)
  | (obtain⟨t,rfl⟩:=rx;rfl)
theorem qD{op:CmpOp}{r:R2}(ho:iC X (compareOp op) r)(ha:PE X a ta)(hb:PE X b tb)(hm:behindInMarks op b=false):PE X (.Compare a [op] [b] pos) (FF r ta tb):=by
 intro aa s σ H Q I h;exact wpAny_Compare1 (J6 ha hb I h λv u s2 x y H2 I2 rx ry q=>ho aa s2 σ H2 x y v u Q I2 rx ry q) hm
noncomputable def jw(t:TE):TT:=λσ H Q=>t σ H λx H'=>∃k,x=.bl k/\Q k H'
theorem qE{op:CmpOp}{r:R2}(ho:iC X (compareOp op) r)(ha:PE X a ta)(hb:PE X b tb)(hm:behindInMarks op b=false):PT X (.Compare a [op] [b] pos) (jw (FF r ta tb)):=by
 intro aa s σ H Q I h
 refine wpAny_isTrue_Compare1 (bX (ha aa s σ H _ I h) λv s1 ⟨x,H1,I1,r1,q1⟩=>bX (hb aa s1 σ H1 _ I1 q1) λu s2 ⟨y,H2,I2,r2,q2⟩ =>
  bX (ho aa s2 σ H2 x y v u _ I2 r1 r2 q2) λc s3 ⟨z,H3,I3,r3,k,e,q3⟩=>?_) hm
 subst e;cases r3;exact sU ⟨H3,I3,q3⟩
noncomputable def vQ(r r':R2)(ta tb tc:TE):TE:=λσ H Q=>ta σ H λx H1=>tb σ H1 λy H2=>r x y H2 λz H3=>∃k,z=.bl k /\
 (if k=true then tc σ H3 λw' H4=>r' y w' H4 Q else Q (.bl false) H3)
theorem BW{op Kd:CmpOp}{r r':R2}(ho:iC X (compareOp op) r)(BJ:iC X (compareOp Kd) r')(ha:PE X a ta)(hb:PE X b tb)(hc:PE X c tc)(hm:lastMarks [op,Kd] [b,c]=false:=by with_unfolding_all rfl):PE X (.Compare a [op,Kd] [b,c] pos) (vQ r r' ta tb tc):=by
 intro aa s σ H Q I h
 refine Compare_chain (bX (ha aa s σ H _ I h) λv s1 ⟨x,H1,I1,r1,q1⟩=>chain_link (bX (hb aa s1 σ H1 _ I1 q1) λu s2 ⟨y,H2,I2,r2,q2⟩ =>
  bX (ho aa s2 σ H2 x y v u _ I2 r1 r2 q2) λd s3 ⟨z,H3,I3,r3,k,e,q3⟩=>?_)) hm
 subst e;cases r3;refine sU ?_
 cases k with
 | false=>exact ite_ff ⟨.bl false,H3,I3,rfl,q3⟩
 | true=>exact ite_tt (chain_last (bX (hc aa s3 σ H3 _ I3 q3) λw' s4 ⟨z',H4,I4,r4,q4⟩=>BJ aa s4 σ H4 y z' u w' Q I4 r2 r4 q4))
theorem BX{op Kd:CmpOp}{r r':R2}(ho:iC X (compareOp op) r)(BJ:iC X (compareOp Kd) r')(ha:PE X a ta)(hb:PE X b tb)(hc:PE X c tc)(hm:lastMarks [op,Kd] [b,c]=false:=by with_unfolding_all rfl):PT X (.Compare a [op,Kd] [b,c] pos) (jw (vQ r r' ta tb tc)):=by
 intro aa s σ H Q I h
 refine isTrue_chain (bX (ha aa s σ H _ I h) λv s1 ⟨x,H1,I1,r1,q1⟩=>test_link (bX (hb aa s1 σ H1 _ I1 q1) λu s2 ⟨y,H2,I2,r2,q2⟩ =>
  bX (ho aa s2 σ H2 x y v u _ I2 r1 r2 q2) λd s3 ⟨z,H3,I3,r3,k,e,q3⟩=>?_)) hm
 subst e;cases r3;refine sU ?_
 cases k with
 | false =>
  obtain⟨k',e',q'⟩:=q3;cases e';exact ite_ff ⟨H3,I3,q'⟩
 | true =>
  refine ite_tt (test_last (bX (hc aa s3 σ H3 _ I3 q3) λw' s4 ⟨z',H4,I4,r4,q4⟩=>bX (BJ aa s4 σ H4 y z' u w' _ I4 r2 r4 q4) λd' s5 ⟨z2,H5,I5,r5,k2,e2,q5⟩=>?_));subst e2;cases r5;exact sU ⟨H5,I5,q5⟩
def BY(K:PySem.W.Frag)(x:V)(H:Hp)(k:Bool):Prop :=
 match x with
 | .a6=>k=false
 | .bl b=>k=b
 | .int i=>k=(i != 0)
 | .str y=>y.length<=sizeLine/\k=((y.length:Int) != 0)
 | .HU y=>y.size<=sizeLine/\k=((y.size:Int) != 0)
 | .ref p=>(∃xs,eO K H p xs/\k=!xs.isEmpty)\/(∃xs,fF K H p xs/\k=!xs.isEmpty)\/∃az,H p=some (.dK az)/\k=!az.isEmpty
 | _=>False
theorem vR{κ:Type}{az:List (κ×V)}{vs:List (κ×Value)}(r:KV az vs):(!vs.isEmpty)=!az.isEmpty:=by
 cases r<;>rfl
theorem mJ{xs:List V}{aC:List Value}(r:aL xs aC):(!aC.toArray.isEmpty)=!xs.isEmpty:=by
 cases r<;>simp
theorem iU:(sizeLine:Nat)<2 ^ 63:=by rw[qj];decide
theorem Ke:So X (λx H Q=>∃k,BY X.K x H k/\Q k H):=by
 intro aa s σ H x v Q I rx h;obtain⟨k,e,q⟩:=h;have hl:=iU;have hs:sizeLine=16777216:=qj
 cases x with
 | a6 =>
  cases rx;have e':k=false:=e;subst e';exact truthy_none ⟨H,I,q⟩
 | bl b =>
  cases rx;have e':k=b:=e;subst e';exact sU ⟨H,I,q⟩
 | int i =>
  obtain⟨t,rfl⟩:=rx;have e':k=(i != 0):=e;subst e';exact PySem.P.truthy_int ⟨H,I,q⟩
 | str y =>
  obtain⟨t,rfl⟩:=rx;obtain⟨hy,e'⟩:y.length<=sizeLine/\k=((y.length:Int) != 0):=e;subst e';exact PySem.P.truthy_str ∅ ⟨H,I.tok _,q⟩
 | HU y =>
  obtain⟨t,rfl⟩:=rx;obtain⟨hy,e'⟩:y.size<=sizeLine/\k=((y.size:Int) != 0):=e;subst e';exact PySem.W.truthy_bytes ∅ ⟨H,I.tok _,q⟩
 | ref p =>
  cases rx;have e':(∃xs,eO X.K H p xs/\k=!xs.isEmpty)\/(∃xs,fF X.K H p xs/\k=!xs.isEmpty)\/∃az,H p=some (.dK az)/\k=!az.isEmpty:=e;rcases e' with⟨xs,hx,e'⟩|⟨xs,hx,e'⟩|⟨az,hx,e'⟩
  ·subst e';obtain⟨aC,r,pl,hz⟩:=I.list hx;have aY:=r.length;exact wpAny_truthy_list pl.isList (by simp only[cg];omega) ⟨H,I.tok _,by rw[mJ r];exact q⟩
  ·subst e';obtain⟨aC,r,pl,hz⟩:=I.tuple hx;have aY:=r.length;exact truthy_tuple pl (by simp only[cg];omega) ⟨H,I.tok _,by rw[mJ r];exact q⟩
  ·subst e';obtain⟨hz,hS,vs,r,m⟩:az.length<=sizeLine/\(p==sysModules)=false/\∃vs,KV az vs/\s.heap.DictOf (bY X.prog X.w) p vs:=I.bo p _ hx;have aY:az.length=vs.length:=Paired.length r;exact wpAny_truthy_dict hS m ∅ ⟨H,I.tok _,by rw[vR r];exact q⟩
 | _=>exact(show False from e).elim
theorem BZ(ha:PE X a ta)(he:∀mH,isTrue a X.env mH=(do let v <- mH;standAt a.pos;holding [v] (truthy v))):PT X a (λσ H Q=>ta σ H λx H'=>∃k,BY X.K x H' k/\Q k H'):=by
 intro aa s σ H Q I h;exact isTrue_plain (bX (ha aa s σ H _ I h) λv s1 ⟨x,H1,I1,r1,q1⟩=>Ke aa s1 σ H1 x v Q I1 r1 q1) (he _)
theorem vals1{x:V}{us:List Value}(r:aL [x] us):∃u,us=[u]/\RelV x u:=by
 cases r with
 | cons r1 r2=>cases r2;exact⟨_,rfl,r1⟩
theorem vals2{x y:V}{us:List Value}(r:aL [x,y] us):∃u w',us=[u,w']/\RelV x u/\RelV y w':=by
 cases r with
 | cons r1 r2 =>
  cases r2 with
  | cons r3 r4=>cases r4;exact⟨_,_,rfl,r1,r3⟩
theorem zU(hc:X.calm=true):cL X (.builtin "max") (λxs H Q=>∃i j,xs=[.int i,.int j]/\Q (.int (if j>i then j else i)) H):=by
 intro aa s σ H xs us Q I r h;obtain⟨i,j,rfl,q⟩:=h;obtain⟨u,w',rfl,⟨t,rfl⟩,⟨t',rfl⟩⟩:=vals2 r;refine max_two_ints (I.ok.hd hc) λh' tk k=>⟨_,H,I.kept k,?_,q⟩;by_cases hj:j>i
 ·rw[aT hj,aT hj];exact⟨_,rfl⟩
 ·rw[aU hj,aU hj];exact⟨_,rfl⟩
theorem zV(hc:X.calm=true):cL X (.builtin "min") (λxs H Q=>∃i j,xs=[.int i,.int j]/\Q (.int (if j<i then j else i)) H):=by
 intro aa s σ H xs us Q I r h;obtain⟨i,j,rfl,q⟩:=h;obtain⟨u,w',rfl,⟨t,rfl⟩,⟨t',rfl⟩⟩:=vals2 r;refine min_two_ints (I.ok.hd hc) λh' tk k=>⟨_,H,I.kept k,?_,q⟩;by_cases hj:j<i
 ·rw[aT hj,aT hj];exact⟨_,rfl⟩
 ·rw[aU hj,aU hj];exact⟨_,rfl⟩
theorem pk:cL X (.type "int") (λxs H Q=>(∃i,xs=[.int i]/\Q (.int i) H)\/∃k,xs=[.bl k]/\Q (.int (if k then 1 else 0)) H):=by
 intro aa s σ H xs us Q I r h;rcases h with⟨i,rfl,q⟩|⟨k,rfl,q⟩
 ·obtain⟨u,rfl,t,rfl⟩:=vals1 r;exact call_int_int ⟨.int i,H,I,⟨_,rfl⟩,q⟩
 ·obtain⟨u,rfl,r1⟩:=vals1 r;cases r1;exact call_int_bool ⟨.int (if k then 1 else 0),H,I.tok _,⟨_,rfl⟩,q⟩
end
structure Kg (h:Heap) (x dx C:Addr) (mA:Str->Option Value):Prop where
 obj:h.get? x=some (PySem.W.instObj C dx)
 ns:h.Ns1 dx mA
 ne:dx≠x
theorem zW{h:Heap}{dx:Addr}{mA:Str->Option Value}(n:h.Ns1 dx mA):∃od,h.get? dx=some od/\∀name,PySem.W.lookIn name od=some (mA name):=by
 obtain⟨o,es,ep,ho,hd,hk,_,hm⟩:=n;refine⟨o,ho,λname=>?_⟩;have e:=hm name;unfold nsFind findBy at e;rw[<- Array.find?_toList]at e;unfold PySem.W.lookIn;rw[hd];dsimp only;split
 ·rename_i y q
  rw[q]at e;exact oG some e
 ·rename_i q
  rw[q]at e
  have a:es.toList.any (·.refKey)=false:=by
   rw[JE];intro y hy;obtain⟨z,t,Ss⟩:=hk y (Array.mem_toList_iff.mp hy);simp[DictEntry.refKey,Ss]
  have a':¬es.toList.any (·.refKey)=true:=by rw[a];exact ao
  rw[aU a'];exact oG some e
theorem Kg.look{h:Heap}{x dx C:Addr}{mA:Str->Option Value}(I:Kg h x dx C mA):∃od,PySem.W.InstAt h x (PySem.W.instObj C dx) C (some od)/\∀name,PySem.W.lookIn name od=some (mA name) :=
 let ⟨od,ho,hl⟩:=zW I.ns
 ⟨od,⟨I.obj,rfl,rfl,ho⟩,hl⟩
theorem iS.qF{v:V}{o:Option Value}(r:iS (some v) o):∃u,o=some u/\RelV v u:=by
 cases o with
 | none=>exact(show False from r).elim
 | some u=>exact⟨u,rfl,r⟩
theorem iS.none_of{o:Option Value}(r:iS none o):o=none:=by
 cases o with
 | none=>rfl
 | some u=>exact(show False from r).elim
section
variable {P:Program} {w:World} {H H':Hp} {h h':Heap} {a C dx:Addr} {fs Xf:List (Str×V)}
theorem FK(bo:iB P w H h)(e:H a=some (.ins C dx fs)):∃mA,Kg h a dx C mA/\(∀f,iS (fs.lookup f) (mA f))/\PySem.Within mA (fs.map (·.1))/\fs.length<=1000/\H dx=some (.own a):=by
 obtain⟨d,z,ne,ob,mA,n,r,q⟩:=(show bf P w H h a (.ins C dx fs) from bo a _ e);exact⟨mA,⟨ob,n,ne⟩,r,q,z,d⟩
end
structure Su (K:PySem.W.Frag) (C:Addr):Prop where
 pg:PySem.W.plainGet K C Str.empty=true
 hd:PySem.W.hasDictIn K C=true
 po:PySem.W.plainOver K C=true
 sa:PySem.W.findIn K (.ref C) "__setattr__" = some (some (.builtin "object.__setattr__"))
theorem Su.get{K:PySem.W.Frag}{C:Addr}(c:Su K C)(f:Str):PySem.W.plainGet K C f=true:=c.pg
section
variable {X:Cx} {aa:List (Addr×Obj)} {σ:St} {H:Hp} {s:Shared} {a C dx:Addr} {fs:List (Str×V)} {f:Str} {v:V} {A:Around} {E:Value->Shared->Prop}
theorem FL{prog:Program}{w:World}{env:Env}{e:Expr}{f:Str}{pos:Pos}{s:Shared}{Q:Value->Shared->Prop}(hb:attributeBase e f env (eval e env)=eval e env)(h:wpAny (model prog w) A (eval e env) (λo bc=>wpAny (model prog w) A (getAttr o f true) Q E bc) E s):wpAny (model prog w) A (eval (.Attribute e f pos) env) Q E s :=
 Attribute_any_ h (by rw[arm_eval_Attribute,hb])
end
section
variable {X:Cx} {o e value:Expr} {f:Str} {pos Xn NZ:Pos} {ta tv:TE}
noncomputable def N0:V->V->Hp->VK->Prop:=λx y H Q=>∃i j,x=.int i/\y=.int j/\Q (.int (i-j)) H
end
section
variable {X:Cx} {aa:List (Addr×Obj)} {σ:St} {H:Hp} {s:Shared} {A:Around} {E:Value->Shared->Prop} {Q:Value->Shared->Prop} {c:Value} {b:Bool}
inductive km (K:PySem.W.Frag) (H:Hp):V->Value->Prop where
  | a6:km K H .a6 (.type "NoneType")
  | bl (x:Bool):km K H (.bl x) (.type "bool")
  | int (i:Int):km K H (.int i) (.type "int")
  | str (x:Str):km K H (.str x) (.type "str")
  | Fo (x:UInt64):km K H (.Fo x) (.type "float")
  | lst {a:Addr} {xs:List V} (e:H a=some (.lst xs)):km K H (.ref a) (.type "list")
  | gI {a:Addr} {o:Obj} {xs:List V} (e:H a=some (.gI o (.lst xs))):km K H (.ref a) (.type "list")
  | tup {a:Addr} {xs:List V} (e:H a=some (.tup xs)):km K H (.ref a) (.type "tuple")
  | dK {a:Addr} {az:List (bS×V)} (e:H a=some (.dK az)):km K H (.ref a) (.type "dict")
  | dT {a:Addr} {az:List (List bS×V)} (e:H a=some (.dT az)):km K H (.ref a) (.type "dict")
  | ins {a C dx : Addr} {fs : List (Str × V)} (e : H a = some (.ins C dx fs)) (cl : Su K C) (ha : PySem.W.findIn K (.ref C) "__class__" = some (some (.builtin "object.__class__")))
      (hn:PySem.W.specialIn K (.builtin "object.__class__") "__get__" = some (some (.builtin "getset_descriptor.__get__"))) (Vx:PySem.W.takesIn K (.builtin "object.__class__")=some true)
      (hm:PySem.W.mroIn K C (.type "object")=some true):km K H (.ref a) (.ref C)
theorem zX{x:V}{u t:Value}(I:Inv X aa σ H s)(rx:RelV x u)(ty:km X.K H x t)(e:PySem.W.kitOne X.K t c=some b)(h:∀tk,Q (.bool b) {s with toks:=tk}):wpAny (model X.prog X.w) A (call (.builtin "isinstance") [u,c]) Q E s:=by
 cases ty with
 | a6=>cases (show u=Value.none from rx);exact lz PySem.W.kitx_none I.ju True.intro e (λz=>nomatch z) h
 | bl y=>cases (show u=Value.bool y from rx);exact lz PySem.W.kitx_bool I.ju True.intro e (λz=>nomatch z) h
 | int i=>obtain⟨t,q⟩:=(show ∃t,u=Value.int i t from rx);cases q;exact lz PySem.W.kitx_int I.ju True.intro e (λz=>nomatch z) h
 | str y=>obtain⟨t,q⟩:=(show ∃t,u=Value.str y t from rx);cases q;exact lz PySem.W.kitx_str I.ju True.intro e (λz=>nomatch z) h
 | Fo y=>obtain⟨t,q⟩:=(show ∃t,u=Value.float y t from rx);cases q;exact lz PySem.W.kitx_float I.ju True.intro e (λz=>nomatch z) h
 | @lst a xs ea =>
  cases (show u=Value.ref a from rx);obtain⟨_,_,n,_,h1⟩:=(show bf X.prog X.w H s.heap a (.lst xs) from I.bo a _ ea);exact lz PySem.W.kitx_list I.ju ⟨_,h1,rfl⟩ e (λz=>nomatch z) h
 | @gI a ob xs ea =>
  cases (show u=Value.ref a from rx);obtain⟨_,_,_,n,_,h1⟩:=(show bf X.prog X.w H s.heap a (.gI ob (.lst xs)) from I.bo a _ ea);exact lz PySem.W.kitx_list I.ju ⟨_,h1,rfl⟩ e (λz=>nomatch z) h
 | @tup a xs ea =>
  cases (show u=Value.ref a from rx);obtain⟨_,_,_,p⟩:=(show bf X.prog X.w H s.heap a (.tup xs) from I.bo a _ ea);obtain⟨o,h1,h2,_⟩:=p;exact lz PySem.W.kitx_tuple I.ju ⟨o,h1,h2⟩ e (λz=>nomatch z) h
 | @dK a az ea =>
  cases (show u=Value.ref a from rx);obtain⟨_,_,vs,_,p⟩:=(show bf X.prog X.w H s.heap a (.dK az) from I.bo a _ ea);obtain⟨o,es,ep,h1,h2,_⟩:=p;exact lz PySem.W.kitx_dict I.ju ⟨o,h1,h2.1⟩ e (λz=>nomatch z) h
 | @dT a az ea =>
  cases (show u=Value.ref a from rx);obtain⟨_,_,xs,_,o,es,ep,h1,h2,_⟩:=(show bf X.prog X.w H s.heap a (.dT az) from I.bo a _ ea);exact lz PySem.W.kitx_dict I.ju ⟨o,h1,h2.1⟩ e (λz=>nomatch z) h
 | @ins a C dx fs ea cl ha hn Vx hm =>
  cases (show u=Value.ref a from rx);obtain⟨mA,O,_⟩:=FK I.bo ea;obtain⟨od,J,_⟩:=O.look;exact lz (PySem.W.kitx_own (cl.get _) cl.hd ha hn Vx hm) I.ju J e (λz=>nomatch z) h
end
structure fK (k:Nat) (A:Around):Prop where
 hd:A.handled=none
 dp:A.depth+3*k+5<recursionLimit
 un:A.units+16*k+200<cLine
 gd:A.guards=some []
theorem fK.mono{j k:Nat}{A:Around}(r:fK k A)(h:j<=k):fK j A:=⟨r.hd,by have:=r.dp;omega,by have:=r.un;omega,r.gd⟩
theorem fK.deeper{k:Nat}{A:Around}(r:fK (k+1) A)(env:Env):fK k (A.deeper env) :=
 ⟨r.hd,by have:=r.dp;show A.depth+1+3*k+5<_;omega,by have:=r.un;show A.units+3+16*k+200<_;omega,r.gd⟩
theorem vS{A:Around}{C:Addr}{us:List Value}{kw:List (Str×Value)}:(A.under (.builtin "type.__call__" ⟨.ref C::us,kw⟩)).depth=A.depth+1:=by
 first | rfl | simp[Around.under,Code.weight,Code.isCreation,Code.isGuard,Code.isCaller,Code.frames,Code.isFrame,guardIds]
theorem vT{A:Around}{C:Addr}{us:List Value}{kw:List (Str×Value)}:(A.under (.builtin "type.__call__" ⟨.ref C::us,kw⟩)).units=A.units+1:=by
 first | rfl | simp[Around.under,Code.cUnits,Code.frames,Code.isFrame]
theorem fK.make{k:Nat}{A:Around}(r:fK (k+1) A)(C:Addr)(us:List Value)(kw:List (Str×Value)):fK k (A.under (.builtin "type.__call__" ⟨.ref C::us,kw⟩)) :=
 ⟨r.hd,by have:=r.dp;rw[vS];omega,by have:=r.un;rw[vT];omega,by first | exact r.gd | (simpa[Around.under,Code.guards,Code.isGuard,guardIds,pushGuards]using r.gd)⟩
theorem fK.depth{k:Nat}{A:Around}(r:fK k A):A.depth<recursionLimit:=by have:=r.dp;omega
def Sv:TA:=λ_ H Q=>Q [] H
noncomputable def N1(ta:TE)(tr:TA):TA:=λσ H Q=>ta σ H λx H1=>tr σ H1 λxs H2=>Q (x::xs) H2
section
variable {X:Cx} {e:Expr} {es:List Expr} {te:TE} {t:TA} {pos:Pos}
theorem fZ:PA X [] Sv:=λ_ _ _ _ H Q I h=>Calls.spliced_nil ⟨[],H,I,.nil,h⟩
theorem cV(ha:PE X e te)(hr:PA X es t)(hs:starEach (e::es) X.env=(false,eval e X.env)::starEach es X.env:=by rfl):PA X (e::es) (N1 te t):=by
 intro pos aa s σ H Q I h;rw[hs];show wpAny _ _ (spliced ((false,eval e X.env)::backTo pos (starEach es X.env))) _ _ s;refine Calls.spliced_cons (bX (ha aa s σ H _ I h) ?_);rintro u s1 ⟨x,H1,I1,r1,q1⟩;exact bX (hr pos aa s1 σ H1 _ I1 q1) λus s2 ⟨xs,H2,I2,r2,q2⟩=>⟨x::xs,H2,I2,.cons r1 r2,q2⟩
def Sw(t:TA):TE:=λσ H Q=>t σ H λxs H1=>xs.length<=sizeLine/\∀p,H1 p=none->Q (.ref p) (bu H1 p (.tup xs))
def Sx(t:TA):TE:=λσ H Q=>t σ H λxs H1=>xs.length<=sizeLine/\∀p,H1 p=none->Q (.ref p) (bu H1 p (.lst xs))
theorem B0 {x1} (h:PA X es t):PE X (.Tuple es x1 pos) (Sw t):=by
 intro aa s σ H Q I hq;refine wpAny_Tuple_spliced (bX (h pos aa s σ H _ I hq) λus s1 ⟨xs,H1,I1,r,z,q⟩=>⟨by rw[<- r.length];exact z,?_⟩);have hf:H1 s1.heap.objs.size=none:=I1.bo.fresh (aq _);refine⟨.ref s1.heap.objs.size,bu H1 s1.heap.objs.size (.tup xs),I1.laid (t':=s1.toks) (λb u e=>aR _ e) (aq _) ?_,rfl,q _ hf⟩;exact⟨z,us,r,⟨_,cw _ rfl,rfl,_,rfl⟩⟩
theorem Kh(h:PA X es t):PE X (.List es pos) (Sx t):=by
 intro aa s σ H Q I hq;refine wpAny_List_spliced (bX (h pos aa s σ H _ I hq) λus s1 ⟨xs,H1,I1,r,z,q⟩=>⟨by rw[<- r.length];exact z,?_⟩);have hf:H1 s1.heap.objs.size=none:=I1.bo.fresh (aq _);refine⟨.ref s1.heap.objs.size,bu H1 s1.heap.objs.size (.lst xs),I1.laid (t':=s1.toks) (λb u e=>aR _ e) (aq _) ?_,rfl,q _ hf⟩;exact⟨z,us,0,r,cw _ rfl⟩
end
abbrev Sp:=List V->Hp->VK->XK->Prop
abbrev xO:=List Env->Hp->Shared->XK->Value->Shared->Prop
structure tL (P:Program) (w:World) (K:PySem.W.Frag) (mg:Str->Option Value) (base:Heap) (A:Around) (outer:List Env) (s:Shared) (H:Hp):Prop where
 frames:A.frames=some outer
 mod:Mod K mg base
 bs:∀b o,base.get? b=some o->s.heap.get? b=some o/\H b=none
 EM:base.objs.size<=s.heap.objs.size
 kg:s.heap.FunFrames base outer
 HW:∀b∈zL outer,H b=none
 bo:iB P w H s.heap
 bare:AllBare s.gens
def CE(outer:List Env)(P:Program)(w:World)(H:Hp)(s:Shared)(Q:VK)(u:Value)(s':Shared):Prop :=
 ∃v H',s'.os=s.os/\AllBare s'.gens/\Un (zL outer) [] H H' s.heap s'.heap/\iB P w H' s'.heap/\RelV v u/\Q v H'
def CR(CX:xO)(outer:List Env)(P:Program)(w:World)(H:Hp)(s:Shared)(Q:VK)(E:XK)(r:Result)(s':Shared):Prop :=
 match r with
 | .ok (.ret u)=>CE outer P w H s Q u s'
 | .ok _=>False
 | .error e=>CX outer H s E e s'
structure f_ (P:Program) (w:World) (K:PySem.W.Frag) (mg:Str->Option Value) (base:Heap) (CX:xO) (k:Nat) (f:Addr) (fd:FuncData) (ps:List Str) (sp:Sp):Prop where
 len:∀vs H Q E,sp vs H Q E->vs.length=ps.length
 run:∀(A:Around)(outer:List Env)(s:Shared)(H:Hp)(args:Args)(us:List Value)(vs:List V)(Q:VK)(E:XK),fK k A->tL P w K mg base A outer s H->BindsTo s fd args (ps.zip us)->aL vs us->sp vs H Q E ->
  codeAny (model P w) A (.call (.ref f) args) (CR CX outer P w H s Q E) s
theorem f_.mono{P:Program}{w:World}{K:PySem.W.Frag}{mg:Str->Option Value}{base:Heap}{CX:xO}{j k:Nat}{f:Addr}{fd:FuncData}{ps:List Str}{sp:Sp}(F:f_ P w K mg base CX j f fd ps sp)(h:j<=k):f_ P w K mg base CX k f fd ps sp:=⟨F.len,λA outer s H args us vs Q E hr=>F.run A outer s H args us vs Q E (hr.mono h)⟩
theorem tL.make{P:Program}{w:World}{K:PySem.W.Frag}{mg:Str->Option Value}{base:Heap}{A:Around}{outer:List Env}{s:Shared}{H:Hp}(e:tL P w K mg base A outer s H)(C:Addr)(us:List Value)(kw:List (Str×Value)):tL P w K mg base (A.under (.builtin "type.__call__" ⟨.ref C::us,kw⟩)) outer s H:=⟨by first | exact e.frames | (simpa[Around.under,Code.envs,Code.isFrame,pushEnvs]using e.frames),e.mod,e.bs,e.EM,e.kg,e.HW,e.bo,e.bare⟩
section
variable {X:Cx} {aa:List (Addr×Obj)} {σ:St} {H:Hp} {s s':Shared}
theorem Inv.FN(I:Inv X aa σ H s):tL X.prog X.w X.K X.mg X.base X.A X.stack s H :=
 ⟨I.ok.frames,I.ok.mod,I.bs,bH I.ok.EM I.sz,I.stack,I.qv,I.bo,I.bare⟩
theorem Inv.after{Q:VK}{u:Value}(I:Inv X aa σ H s)(h:CE X.stack X.prog X.w H s Q u s'):EP X aa σ Q u s':=by
 obtain⟨v,H',os,bare,un,bo,r,q⟩:=h;obtain⟨hh,g,d,t,Xo⟩:=s';obtain rfl:Xo=s.os:=os;exact⟨v,H',I.call (h':=hh) (g':=g) (d':=d) (t':=t) (ch:=[]) un bo bare (λb z=>absurd z (by simp)),r,q⟩
end
noncomputable def Ih(sp:Sp)(vU:List V)(E:XK)(t:TA):TE:=λσ H Q=>t σ H λvs H1=>sp (vs++vU) H1 Q E
noncomputable def Binds(K:PySem.W.Frag)(fd:FuncData)(ps:List Str)(ds:List Value):Prop :=
 ∀(s:Shared)(us:List Value),K.In s.heap->(us++ds).length=ps.length->BindsTo s fd ⟨us,[]⟩ (ps.zip (us++ds))
theorem Binds.all{K:PySem.W.Frag}{fd:FuncData}{ps:List Str}(h:∀us:List Value,us.length=ps.length->bindArgs fd ⟨us,[]⟩=pure (ps.zip us)):Binds K fd ps []:=λs us _ hl=>by
 rw[sX]at hl⊢;exact .of_eq (h us hl)
noncomputable def iV(CX:xO)(X:Cx)(E:XK):Prop:=∀(aa:List (Addr×Obj))(σ:St)(H:Hp)(s:Shared)(e:Value)(s':Shared),Inv X aa σ H s->CX X.stack H s E e s'->X.xe e s'
section
variable {X:Cx} {CX:xO} {k:Nat} {f C:Addr} {fd:FuncData} {ps:List Str} {sp:Sp} {vU:List V} {ds:List Value} {E:XK} {x m:Str} {p pos zY:Pos} {e o:Expr} {es:List Expr} {ta:TE} {t:TA}
theorem Ki{aa:List (Addr×Obj)}{σ:St}{H:Hp}{s:Shared}{Q:VK}{us:List Value}{vs:List V}(F:f_ X.prog X.w X.K X.mg X.base CX k f fd ps sp)(hr:fK k X.A)(hb:Binds X.K fd ps ds)(hd:aL vU ds)(hx:iV CX X E)(I:Inv X aa σ H s)(r:aL vs us)(h:sp (vs++vU) H Q E):wpAny (model X.prog X.w) X.A (call (.ref f) us) (EP X aa σ Q) X.xe s:=by
 have r2:aL (vs++vU) (us++ds):=r.append hd;have hl:(us++ds).length=ps.length:=by rw[<- r2.length];exact F.len _ _ _ _ h
 refine zG (qh (F.run X.A X.stack s H ⟨us,[]⟩ (us++ds) (vs++vU) Q E hr I.FN (hb s us I.ju hl) r2 h) λr s' hq=>?_)
 cases r with
 | error e=>exact hx aa σ H s e s' I hq
 | ok fl =>
  cases fl with
  | ret u=>exact I.after hq
  | next=>exact False.elim hq
  | brk=>exact False.elim hq
  | cont=>exact False.elim hq
theorem FO(F:f_ X.prog X.w X.K X.mg X.base CX k f fd ps sp)(hr:fK k X.A)(hg:Gl X x)(hm:X.mg x=some (.ref f))(hk:PySem.W.keepIn X.K (.ref f)=true)(hb:Binds X.K fd ps ds)(hd:aL vU ds)(hx:iV CX X E)(ha:PA X (e::es) t) (zZ:(x==("__debug__" : Str))=false:=by decide) (he:starEach (e::es) X.env=(false,eval e X.env)::starEach es X.env:=by rfl) (jx:(backTo pos (starEach es X.env)).any (·.1)=false:=by rfl):PE X (.Call (.Name x p) (e::es) [] pos) (Ih sp vU E t):=by
 intro aa s σ H Q I h;refine Bx (ic I hg hm ?_ zZ);refine JB (h₀:=X.base) I.ok.mod.JP hk (bX (ha pos aa s σ H _ I h) λus s1 ⟨vs,H1,I1,r,q⟩=>⟨I1.ju,?_⟩) he jx;exact Ki F hr hb hd hx I1 r q
end
structure lO (N P:List Str) (sc:Scope):Prop where
 kind:sc.kind=.function
 co:sc.isCoroutine=false
 gen:sc.isGenerator=false
 nd:N.Nodup
 pre:N.take P.length=P
 par:∀x∈P,sc.names.lookup x=some .local\/sc.names.lookup x=some .cell
 B1:∀y∈sc.names,y.2≠.free
theorem pq{kindOf:Str->Option NameKind}{x:Str}:∀{tM:List (Str×Value)}{m:Str->Option Value},(∀v,(x,v)∉tM)->bindL kindOf tM m x=m x
 | [],_,_=>rfl
 | (n,v)::r,m,h=>by
  unfold bindL;rw[pq λw hw=>h w (cZ _ hw)];split
  ·have:x≠n:=by rintro rfl;exact h v du
   simp[this]
  ·rfl
theorem pw{kindOf:Str->Option NameKind}{x:Str}:∀{tM:List (Str×Value)}{m:Str->Option Value},(∀v,(x,v)∉tM)->bindC kindOf tM m x=m x
 | [],_,_=>rfl
 | (n,v)::r,m,h=>by
  unfold bindC;rw[pw λw hw=>h w (cZ _ hw)];split
  ·rfl
  ·have:x≠n:=by rintro rfl;exact h v du
   simp[this]
theorem pz{kindOf:Str->Option NameKind}{x:Str}{v:Value}:∀{P:List Str}{vs:List Value}{i:Nat}{m:Str->Option Value},P.Nodup->P[i]?=some x->vs[i]?=some v->kindOf x=some .local->bindL kindOf (P.zip vs) m x=some v
 | [],_,_,_,_,h,_,_=>by simp at h
 | _::_,[],_,_,_,_,h,_=>by simp at h
 | p::P,w::vs,0,m,nd,h1,h2,hk=>by
  simp at h1 h2;subst h1;subst h2;show bindL kindOf ((p,w)::P.zip vs) m p=_;unfold bindL;rw[pq λv hv=>(zx.mp nd).1 (List.of_mem_zip hv).1,aT hk];simp
 | p::P,w::vs,i+1,m,nd,h1,h2,hk=>by
  show bindL kindOf ((p,w)::P.zip vs) m x=_;unfold bindL;exact pz (i:=i) (zx.mp nd).2 (by simpa using h1) (by simpa using h2) hk
theorem pA{kindOf:Str->Option NameKind}{x:Str}{v:Value}:∀{P:List Str}{vs:List Value}{i:Nat}{m:Str->Option Value},P.Nodup->P[i]?=some x->vs[i]?=some v->kindOf x≠some .local->bindC kindOf (P.zip vs) m x=some v
 | [],_,_,_,_,h,_,_=>by simp at h
 | _::_,[],_,_,_,_,h,_=>by simp at h
 | p::P,w::vs,0,m,nd,h1,h2,hk=>by
  simp at h1 h2;subst h1;subst h2;show bindC kindOf ((p,w)::P.zip vs) m p=_;unfold bindC;rw[pw λv hv=>(zx.mp nd).1 (List.of_mem_zip hv).1,aU hk];simp
 | p::P,w::vs,i+1,m,nd,h1,h2,hk=>by
  show bindC kindOf ((p,w)::P.zip vs) m x=_;unfold bindC;exact pA (i:=i) (zx.mp nd).2 (by simpa using h1) (by simpa using h2) hk
noncomputable def start(N:List Str)(vs:List V):St:=vs.map some++List.replicate (N.length-vs.length) none
noncomputable def vV(CX:xO)(P:Program)(w:World)(K:PySem.W.Frag)(mg:Str->Option Value)(base:Heap)(N:List Str)(qual:Str)(scope:Scope)(f:Addr)(cd:Value)(A:Around)(outer:List Env)(s:Shared)(H:Hp)(E:XK):Cx where
 prog:=P
 w:=w
 K:=K
 mg:=mg
 base:=base
 A:=A.deeper (envOfC qual scope s.heap.objs.size f cd)
 N:=N
 dz:=s
 mF:=H
 env:=envOfC qual scope s.heap.objs.size f cd
 outer:=outer
 stack:=envOfC qual scope s.heap.objs.size f cd::outer
 ex:=[]
 calm:=true
 fn:=λ_=>true
 pn:=[]
 xe:=λe s'=>wpAny (model P w) (A.deeper (envOfC qual scope s.heap.objs.size f cd)) (leaving (envOfC qual scope s.heap.objs.size f cd) e) (λ_ M_=>CX outer H s E e M_) (λe' M_=>CX outer H s E e' M_) s'
theorem tN{sc:Scope}{n:Nat}{x:Str}(h:sc.names.lookup x=some .cell):∃c,(cellsFrom n sc.names []).lookup x=some c:=by
 have q:=PySem.W.cellsFrom_some sc.names n [] (.inl h);exact zo.mp q
theorem z9{CX:xO}{P:Program}{w:World}{K:PySem.W.Frag}{mg:Str->Option Value}{base:Heap}{N ps:List Str}{qual:Str}{scope:Scope}{f:Addr}{cd:Value}{A:Around}{outer:List Env}{s s1:Shared}{H:Hp}{E:XK}{us:List Value}{vs:List V}(S:lO N ps scope)(hd:A.handled=none)(e0:tL P w K mg base A outer s H)(hl:vs.length=ps.length)(r:aL vs us)(x:InCallC s s.heap.objs.size (bindL (envOfC qual scope s.heap.objs.size f cd).kindOf (ps.zip us) λ_=>none) (cellsFrom (s.heap.objs.size+1) scope.names []) (bindC (envOfC qual scope s.heap.objs.size f cd).kindOf (ps.zip us) λ_=>none) s1):Inv (vV CX P w K mg base N qual scope f cd A outer s H E) [] (start N vs) H s1:=by
 have jx:ps.length<=N.length:=by have:=oG List.length S.pre;rw[j9]at this;omega
 obtain⟨h1,tk,rfl,hk⟩:=x.done;have N2:∀b:Addr,b∉(vV CX P w K mg base N qual scope f cd A outer s H E).ex:=λb z=>absurd (show b∈([]:List Addr) from z) (by simp)
 refine⟨⟨e0.mod,S.kind,rfl,rfl,aq _,λy z c h1 h2=>?_,λy hy=>?_,λy c _ h=>?_,λ_=>hd,Around.frames_deeper e0.frames,.inr ⟨rfl,rfl⟩,λb z=>absurd z (N2 b),e0.bs,e0.EM,λb _ _=>N2 b,λb z=>absurd z (N2 b),e0.kg,e0.HW⟩,
  rfl,e0.bare,Un.kept hk,⟨_,x.toInCall.ns,λi y v h1 h2 h3=>?_⟩,λy c h=>⟨_,x.cell y c h⟩,e0.bo.fresh (aq _),λy c h=>?_,λp hp=>absurd (show p∈([]:List (Addr×Obj)) from hp) (by simp),e0.bo.kept hk,?_⟩
 ·exact name_of_addr x.apart (lh h1) (lh h2)
 ·have hy:scope.names.lookup y=some .cell\/scope.names.lookup y=some .free:=hy;rcases hy with hy | hy
  ·exact tN hy
  ·exact absurd rfl (S.B1 _ (lh hy))
 ·exact j_ (x.above y c (lh h))
 ·have hi:i<vs.length:=by
   unfold start at h2;by_cases hi:i<vs.length
   ·exact hi
   ·rw[oy (by simpa using hi)]at h2;rw[List.getElem?_replicate]at h2;split at h2<;>cases h2
  have ha:vs[i]?=some v:=by
   unfold start at h2;rw[gH (by simpa using hi),dy]at h2
   cases e:vs[i]? with
   | none=>rw[e]at h2;cases h2
   | some a=>rw[e]at h2;cases h2;rfl
  obtain⟨u,hu,rv⟩:=r.get ha
  have hp:ps[i]?=some y:=by
   rw[<- S.pre,List.getElem?_take_of_lt ∅];exact h1
  have Vy:ps.Nodup:=by rw[<- S.pre];exact S.nd.sublist (List.take_sublist _ _)
  refine⟨u,rv,?_⟩;rcases S.par y (c_ hp)with k | k
  ·exact .inl ⟨k,pz Vy hp hu k⟩
  ·obtain⟨c,e⟩:=tN (n:=s.heap.objs.size+1) k;refine .inr ⟨.inl k,c,e,?_⟩;have q:=x.cell y c e;rw[pA Vy hp hu (by show scope.names.lookup y≠_;rw[k];decide)]at q;exact q
 ·exact e0.bo.fresh (j_ (x.above y c (lh h)))
 ·unfold start;show _=N.length;rw[dv,aZ,Jw];omega
theorem N4 {CX : xO} {P : Program} {w : World} {K : PySem.W.Frag} {mg : Str -> Option Value} {base : Heap} {k : Nat} {f : Addr} {name qual : Str} {params : Arguments} {body : List Stmt} {scope : Scope} {dV kV doc pm tP ct oc : Value} {an od : Option Addr}
    {qG:Array (Option Value)} {N ps:List Str} {sp:Sp} (lk:K.lookup f=some ⟨oc,od,.func (PySem.W.fnOf name qual params body scope dV kV doc pm an tP ct),qG⟩) (HY:PySem.W.codeIn K tP qual=true) (S:lO N ps scope)
    (len:∀vs H Q E,sp vs H Q E->vs.length=ps.length)
    (N5:∀(A:Around)(outer:List Env)(s:Shared)(H:Hp)(vs:List V)(Q:VK)(E:XK),fK k (A.deeper (envOfC qual scope s.heap.objs.size f tP))->sp vs H Q E ->
      ∃t,vL (vV CX P w K mg base N qual scope f tP A outer s H E) body t/\t {nx:=λ_ H'=>Q .a6 H',rt:=Q} (start N vs) H) :
    f_ P w K mg base CX (k+1) f (PySem.W.fnOf name qual params body scope dV kV doc pm an tP ct) ps sp:=by
  refine⟨len,λA outer s H args us vs Q E hr e0 hb r z_=>?_⟩;have hl:=len _ _ _ _ z_;have KX:K.In s.heap:=e0.mod.JP.keeps λb o e=>(e0.bs b o e).1;have lim:s.heap.NoLimit:=e0.mod.nolimit.keeps λb o e=>(e0.bs b o e).1
  have B2:∀y∈ps.zip us,scope.names.lookup y.1=some .local\/(scope.names.lookup y.1=some .cell/\((cellsFrom (s.heap.objs.size+1) scope.names []).lookup y.1).isSome=true):=λ⟨n,v⟩ hy=>by
    rcases S.par n (List.of_mem_zip hy).1 with q | q
    · exact .inl q
    · exact .inr ⟨q,PySem.W.cellsFrom_some _ _ _ (.inl q)⟩
  refine codeAny_call_function hr.depth (KX _ _ lk) rfl S.co S.gen rfl (PySem.W.codeRec_of KX HY) (hb _ _ _ _ ?_);refine wpAny_newFunctionEnv_cells S.kind B2 λenv he s1 x=>?_;subst he;refine⟨lim.keeps x.toInCall.keep,codeAny_func ?_⟩;obtain⟨t,ht,hq⟩:=N5 A outer s H vs Q E (hr.deeper _) z_;have I:Inv (vV CX P w K mg base N qual scope f tP A outer s H E) [] (start N vs) H s1:=z9 S hr.hd e0 hl r x;refine kf (ht [] s1 (start N vs) H _ I hq) (λfl s' hs=>?_) λe s' hs=>hs
  have d_:∀{cU:St}{H':Hp}{v:V}{u:Value},Inv (vV CX P w K mg base N qual scope f tP A outer s H E) [] cU H' s'->RelV v u->Q v H'->CE outer P w H s Q u s' :=
    λ{cU H' v u} J rv q=>⟨v,H',J.os,J.bare,J.base,J.bo,rv,q⟩
  cases fl with
  | ret u =>
    obtain⟨v,cU,H',J,rv,q⟩:=hs;exact d_ J rv q
  | next =>
    obtain⟨cU,H',J,q⟩:=hs;exact d_ (v:=V.a6) (u:=Value.none) J rfl q
  | brk =>
    obtain⟨_,_,_,q⟩:=hs;exact False.elim q
  | cont =>
    obtain⟨_,_,_,q⟩:=hs;exact False.elim q
section
variable {X:Cx} {x:Str} {p pos:Pos} {e:Expr} {es:List Expr} {t:TA} {id T:String} {r:List V->Hp->VK->Prop}
noncomputable def Sy(r:List V->Hp->VK->Prop)(t:TA):TE:=λσ H Q=>t σ H λvs H1=>r vs H1 Q
theorem d4(hc:cL X (.builtin id) r)(hg:Gl X x)(hm:X.mg x=none)(hv:bootBuiltins x=some (.builtin id))(ha:PA X (e::es) t) (hn:x≠ "__name__" := by decide) (zZ:(x==("__debug__" : Str))=false:=by decide) (he:starEach (e::es) X.env=(false,eval e X.env)::starEach es X.env:=by rfl) (jx:(backTo pos (starEach es X.env)).any (·.1)=false:=by rfl):PE X (.Call (.Name x p) (e::es) [] pos) (Sy r t):=by
 intro aa s σ H Q I h;refine Bx (iT I hg hm hv ?_ hn zZ);exact PyProof.Rows.callWith_builtin1 (bX (ha pos aa s σ H _ I h) λus s1 ⟨vs,H1,I1,r1,q1⟩=>hc aa s1 σ H1 vs us Q I1 r1 q1) he jx
theorem fL(hc:cL X (.type T) r)(hg:Gl X x)(hm:X.mg x=none)(hv:bootBuiltins x=some (.type T))(ha:PA X (e::es) t) (hn:x≠ "__name__" := by decide) (zZ:(x==("__debug__" : Str))=false:=by decide) (he:starEach (e::es) X.env=(false,eval e X.env)::starEach es X.env:=by rfl) (jx:(backTo pos (starEach es X.env)).any (·.1)=false:=by rfl):PE X (.Call (.Name x p) (e::es) [] pos) (Sy r t):=by
 intro aa s σ H Q I h;refine Bx (iT I hg hm hv ?_ hn zZ);exact Br (bX (ha pos aa s σ H _ I h) λus s1 ⟨vs,H1,I1,r1,q1⟩=>hc aa s1 σ H1 vs us Q I1 r1 q1) he jx
end
section
variable {κ:Type} [DecidableEq κ]
noncomputable def ko(az:List (κ×V))(k:κ):Option V:=(az.find? λkv=>decide (kv.1=k)).map (·.2)
noncomputable def fu(az:List (κ×V))(k:κ)(v:V):List (κ×V) :=
 if (az.any λkv=>decide (kv.1=k))=true then az.map (λkv=>if kv.1=k then (kv.1,v) else kv) else az++[(k,v)]
theorem jy{p:κ×V}{r:List (κ×V)}{k:κ}(e:p.1=k):ko (p::r) k=some p.2:=by simp[ko,oD,e]
theorem gV{p:κ×V}{r:List (κ×V)}{k:κ}(e:¬p.1=k):ko (p::r) k=ko r k:=by simp[ko,oD,e]
theorem tQ(k:κ):∀az:List (κ×V),(az.any λkv=>decide (kv.1=k))=(ko az k).isSome
 | []=>rfl
 | p::r=>by
  rw[BG];by_cases e:p.1=k
  ·simp only[jy e,dQ e,Bool.true_or,Option.isSome_some]
  ·rw[gV e,cx e,Bool.false_or];exact tQ k r
theorem gW(az:List (κ×V))(k:κ)(v:V):(fu az k v).length<=az.length+1:=by
 unfold fu;split
 ·rw[aZ];omega
 ·rw[dv,jo,BD];omega
theorem iS.fM{o:Option V}{u:Option Value}(r:iS o u):o.isSome=u.isSome:=by
 cases o with
 | none=>cases u with
  | none=>rfl
  | some _=>exact(show False from r).elim
 | some _=>cases u with
  | none=>exact(show False from r).elim
  | some _=>rfl
theorem KV.val{az:List (κ×V)}{vs:List (κ×Value)}(r:KV az vs)(k:κ):iS (ko az k) (valueAt vs k):=by
 unfold KV at r
 induction r with
 | nil=>exact True.intro
 | @cons p q ps qs h t ih =>
  obtain⟨h1,h2⟩:=h;by_cases e:p.1=k
  ·have e':q.1=k:=h1.symm.trans e;have b:valueAt (q::qs) k=some q.2:=by simp[valueAt,oD,e']
   rw[jy e,b];exact h2
  ·have e':¬q.1=k:=λz=>e (h1.trans z);have b:valueAt (q::qs) k=valueAt qs k:=by simp[valueAt,oD,e']
   rw[gV e,b];exact ih
theorem KV.any{az:List (κ×V)}{vs:List (κ×Value)}(r:KV az vs)(k:κ):(az.any λkv=>decide (kv.1=k))=vs.any λkv=>decide (kv.1=k):=by
 unfold KV at r
 induction r with
 | nil=>rfl
 | cons h t ih=>rw[BG,BG,ih,h.1]
theorem KV.Kj{az:List (κ×V)}{vs:List (κ×Value)}(r:KV az vs)(k:κ){y:V}{u:Value}(ry:RelV y u):KV (az.map λkv=>if kv.1=k then (kv.1,y) else kv) (vs.map λkv=>if kv.1=k then (kv.1,u) else kv):=by
 unfold KV at r⊢
 induction r with
 | nil=>exact .nil
 | @cons p q ps qs h t ih =>
  rw[eM,eM];refine .cons ?_ ih;obtain⟨h1,h2⟩:=h;by_cases e:p.1=k
  ·rw[aT e,aT (h1.symm.trans e)];exact⟨h1,ry⟩
  ·rw[aU e,aU (λz=>e (h1.trans z))];exact⟨h1,h2⟩
theorem KV.put{az:List (κ×V)}{vs:List (κ×Value)}(r:KV az vs)(k:κ){y:V}{u:Value}(ry:RelV y u):KV (fu az k y) (stored vs k u):=by
 unfold fu stored;rw[r.any k];by_cases e:(vs.any λkv=>decide (kv.1=k))=true
 ·rw[aT e,aT e];exact r.Kj k ry
 ·rw[aU e,aU e];exact Paired.snoc r ⟨rfl,ry⟩
theorem KV.length{az:List (κ×V)}{vs:List (κ×Value)}(r:KV az vs):az.length=vs.length:=Paired.length r
end
theorem pB{P:Program}{w:World}{k:bS}{u:Value}(r:RelV (kV k) u):(bY P w).is k u=true:=by
 cases k with
 | inl i=>obtain⟨t,e⟩:=(show ∃t,u=Value.int i t from r);subst e;exact tu P w i t
 | inr x=>obtain⟨t,e⟩:=(show ∃t,u=Value.str x t from r);subst e;exact tw P w x t
theorem pC{P:Program}{w:World}:∀{ks:List bS}{us:List Value},aL (ks.map kV) us->ItemsAre (bY P w) ks us
 | [],_,r=>by rw[s_]at r;cases r;exact .nil
 | k::ks,_,r=>by
  rw[eM]at r
  cases r with
  | cons h t=>exact .cons (pB h) (pC t)
abbrev KT(H:Hp):List (List bS×V)->List (List bS×Addr×Value)->Prop:=Paired λp q=>p.1=q.1/\H q.2.1=some (.tup (p.1.map kV))/\RelV p.2 q.2.2
theorem KT.val{H:Hp}{az:List (List bS×V)}{xs:List (List bS×Addr×Value)}(r:KT H az xs)(k:List bS):iS (ko az k) ((atKey xs k).map (·.2)):=by
 induction r with
 | nil=>exact True.intro
 | @cons p q ps qs h t ih =>
  obtain⟨h1,_,h2⟩:=h;by_cases e:p.1=k
  ·have e':q.1=k:=h1.symm.trans e;have b:atKey (q::qs) k=some q.2:=by simp[atKey,oD,e']
   rw[jy e,b];exact h2
  ·have e':¬q.1=k:=λz=>e (h1.trans z);have b:atKey (q::qs) k=atKey qs k:=by simp[atKey,oD,e']
   rw[gV e,b];exact ih
theorem KT.Kj{H:Hp}{az:List (List bS×V)}{xs:List (List bS×Addr×Value)}(r:KT H az xs)(k:List bS){y:V}{u:Value}(ry:RelV y u):KT H (az.map λkv=>if kv.1=k then (kv.1,y) else kv) (xs.map (putAt k u)):=by
 induction r with
 | nil=>exact .nil
 | @cons p q ps qs h t ih =>
  rw[eM,eM];refine .cons ?_ ih;obtain⟨h1,h2,h3⟩:=h;unfold putAt;by_cases e:p.1=k
  ·rw[aT e,aT (h1.symm.trans e)];exact⟨h1,h2,ry⟩
  ·rw[aU e,aU (λz=>e (h1.trans z))];exact⟨h1,h2,h3⟩
theorem KT.put{H:Hp}{az:List (List bS×V)}{xs:List (List bS×Addr×Value)}(r:KT H az xs)(k:List bS){b:Addr}{y:V}{u:Value}(hb:H b=some (.tup (k.map kV)))(ry:RelV y u):KT H (fu az k y) (storedH xs k b u):=by
 have e:(az.any λkv=>decide (kv.1=k))=(atKey xs k).isSome:=by
  rw[tQ,(r.val k).fM,JF]
 unfold fu storedH;rw[e];by_cases q:(atKey xs k).isSome=true
 ·rw[aT q,aT q];exact r.Kj k ry
 ·rw[aU q,aU q];exact Paired.snoc r ⟨rfl,hb,ry⟩
theorem KT.keeps{H H':Hp}{az:List (List bS×V)}{xs:List (List bS×Addr×Value)}(r:KT H az xs)(ht:∀b ys,H b=some (.tup ys)->H' b=some (.tup ys)):KT H' az xs :=
 Paired.JN r λ_ _ z=>⟨z.1,ht _ _ z.2.1,z.2.2⟩
section
variable {P:Program} {w:World} {H:Hp} {h:Heap} {a:Addr}
theorem Ii{u:HO}(ok:iB P w H h)(e:Rd H a u):bf P w H h a u:=e.ok ok
theorem tR{az:List (bS×V)}(ok:iB P w H h)(e:Rd H a (.dK az)):az.length<=sizeLine/\(a==sysModules)=false/\∃vs,KV az vs/\h.DictOf (bY P w) a vs :=
 show bf P w H h a (.dK az) from Ii ok e
theorem xP{az:List (bS×V)}(ok:iB P w H h)(e:H a=some (.dK az)):az.length<=sizeLine/\(a==sysModules)=false/\∃vs,KV az vs/\h.DictOf (bY P w) a vs:=tR ok (.inl e)
theorem mK{ks:List bS}(ok:iB P w H h)(e:H a=some (.tup (ks.map kV))):(tupleKind (bY P w)).is h ks a:=by
 obtain⟨_,aC,r,o,h1,h2,n,h3⟩:=(show bf P w H h a (.tup (ks.map kV)) from ok a _ e);exact⟨o,aC.toArray,n,h1,h2,h3,by simpa using pC r⟩
theorem tS{az:List (List bS×V)}(ok:iB P w H h)(e:Rd H a (.dT az)):az.length<=sizeLine/\(a==sysModules)=false/\∃xs,KT H az xs/\h.DictOfH (tupleKind (bY P w)) a xs:=by
 obtain⟨z,y,xs,r,o,es,ep,h1,h2,h3,h4,h5⟩:=(show bf P w H h a (.dT az) from Ii ok e);refine⟨z,y,xs,r,o,es,ep,h1,h2,h3,h4,λx hx=>?_,h5⟩
 have all:∀{l:List (List bS×V)}{m:List (List bS×Addr×Value)},KT H l m->∀x∈m,(tupleKind (bY P w)).is h x.1 x.2.1:=by
  intro l m q
  induction q with
  | nil=>intro x hx;exact nomatch hx
  | @cons p q ps qs hq t ih =>
   intro x hx;rcases bz.mp hx with e | hx
   ·subst e;exact mK ok (by rw[<- hq.1];exact hq.2.1)
   ·exact ih x hx
 exact all r x hx
theorem N6{az:List (List bS×V)}(ok:iB P w H h)(e:H a=some (.dT az)):az.length<=sizeLine/\(a==sysModules)=false/\∃xs,KT H az xs/\h.DictOfH (tupleKind (bY P w)) a xs:=tS ok (.inl e)
end
def lC(H:Hp)(a:Addr)(y:V)(r:Option V):Prop :=
 (∃az k,Rd H a (.dK az)/\y=kV k/\r=ko az k)\/∃az k b,Rd H a (.dT az)/\y=.ref b/\H b=some (.tup (k.map kV))/\r=ko az k
def FP(H:Hp)(a:Addr)(y v:V)(H':Hp):Prop :=
 (∃az k,H a=some (.dK az)/\y=kV k/\az.length<sizeLine/\H'=bu H a (.dK (fu az k v))) \/
 ∃az k b,H a=some (.dT az)/\y=.ref b/\H b=some (.tup (k.map kV))/\az.length<sizeLine/\H'=bu H a (.dT (fu az k v))
theorem lC.k{H:Hp}{a:Addr}{az:List (bS×V)}{k:bS}(e:H a=some (.dK az)):lC H a (kV k) (ko az k):=.inl ⟨az,k,.inl e,rfl,rfl⟩
theorem FP.k{H:Hp}{a:Addr}{az:List (bS×V)}{k:bS}{v:V}(e:H a=some (.dK az))(hl:az.length<sizeLine):FP H a (kV k) v (bu H a (.dK (fu az k v))):=.inl ⟨az,k,e,rfl,hl,rfl⟩
section
variable {X:Cx} {aa:List (Addr×Obj)} {σ:St} {H:Hp} {s:Shared} {a:Addr} {y v:V} {u r:Value} {o:Option V} {A:Around} {E:Value->Shared->Prop}
theorem Inv.big(I:Inv X aa σ H s):sysModules<s.heap.objs.size:=by
 have h:mainGlobals<s.heap.objs.size:=(I.mod.glob.keeps I.bk).lt;exact zE (by decide) h
theorem pE{Q:Value->Shared->Prop}(hu:A.units+1<cLine)(I:Inv X aa σ H s)(g:lC H a y (some v))(ry:RelV y u)(h:∀w' s',Inv X aa σ H s'->RelV v w'->Q w' s'):wpAny (model X.prog X.w) A (getItem (.ref a) u) Q E s:=by
 rcases g with⟨az,k,e,ey,l⟩|⟨az,k,b,e,ey,eb,l⟩
 ·subst ey;obtain⟨z,hd,vs,mL,dd⟩:=tR I.bo e;obtain⟨w',hw,Aa⟩:=iS.qF (v:=v) (o:=valueAt vs k) (by rw[l];exact mL.val k);exact wpAny_getItem_of (pB ry) dd.mapOf hw (h w' _ (I.tok _) Aa)
 ·subst ey;cases (show u=Value.ref b from ry);obtain⟨z,hd,xs,mL,dd⟩:=tS I.bo e;obtain⟨w',hw,Aa⟩:=iS.qF (v:=v) (o:=(atKey xs k).map (·.2)) (by rw[l];exact mL.val k);obtain⟨p,hp,Xp⟩:=Option.map_eq_some_iff.mp hw;refine wpAny_getItem_heap (E7 hu) (mK I.bo eb) dd hp ?_;rw[Xp];exact h w' _ (I.tok _) Aa
theorem Sz{Q:Value->Shared->Prop}(hu:A.units+1<cLine)(I:Inv X aa σ H s)(g:lC H a y o)(ry:RelV y u)(h:∀s',Inv X aa σ H s'->Q (.bool o.isSome) s'):wpAny (model X.prog X.w) A (compareOp .In u (.ref a)) Q E s:=by
 rcases g with⟨az,k,e,ey,l⟩|⟨az,k,b,e,ey,eb,l⟩
 ·subst ey;obtain⟨z,hd,vs,mL,dd⟩:=tR I.bo e;refine wpAny_in_of (pB ry) hd dd.mapOf ?_;rw[<- (mL.val k).fM,<- l];exact h _ (I.tok _)
 ·subst ey;cases (show u=Value.ref b from ry);obtain⟨z,hd,xs,mL,dd⟩:=tS I.bo e;refine wpAny_in_heap (E7 hu) (mK I.bo eb) hd dd ?_;have q:=(mL.val k).fM;rw[JF]at q;rw[<- q,<- l];exact h _ (I.tok _)
theorem FQ{Q:Value->Shared->Prop}(hu:A.units+1<cLine)(I:Inv X aa σ H s)(g:lC H a y o)(ry:RelV y u)(h:∀s',Inv X aa σ H s'->Q (.bool (!o.isSome)) s'):wpAny (model X.prog X.w) A (compareOp .NotIn u (.ref a)) Q E s:=by
 rcases g with⟨az,k,e,ey,l⟩|⟨az,k,b,e,ey,eb,l⟩
 ·subst ey;obtain⟨z,hd,vs,mL,dd⟩:=tR I.bo e;refine wpAny_notIn_of (pB ry) hd dd.mapOf ?_;rw[<- (mL.val k).fM,<- l];exact h _ (I.tok _)
 ·subst ey;cases (show u=Value.ref b from ry);obtain⟨z,hd,xs,mL,dd⟩:=tS I.bo e;refine wpAny_notIn_heap (E7 hu) (mK I.bo eb) hd dd ?_;have q:=(mL.val k).fM;rw[JF]at q;rw[<- q,<- l];exact h _ (I.tok _)
theorem qH{h':Heap}{t':Nat}{ob:HO}(I:Inv X aa σ H s)(mu:Nx (H a))(hs:Heap.SameBut a s.heap h')(he:∃q,h'.get? a=some q)(new:bf X.prog X.w (bu H a ob) h' a ob):Inv X aa σ (bu H a ob) {s with heap:=h',toks:=t'} :=
 I.write (x:=a) (e:=a) mu (.inl rfl) (λb q hb z=>(hs.2 b hb).trans z) he new
theorem B3{P:Program}{w:World}{H':Hp}{h':Heap}{az:List (bS×V)}{vs:List (bS×Value)}(z:az.length<=sizeLine)(hd:(a==sysModules)=false)(mL:KV az vs)(dd:h'.DictOf (bY P w) a vs):bf P w H' h' a (.dK az):=⟨z,hd,vs,mL,dd⟩
theorem Ab{H':Hp}{Q:Unit->Shared->Prop}(hu:A.units+1<cLine)(I:Inv X aa σ H s)(g:FP H a y v H')(ry:RelV y u)(rv:RelV v r)(h:∀s',Inv X aa σ H' s'->Q () s'):wpAny (model X.prog X.w) A (setItem (.ref a) u r) Q E s:=by
 rcases g with⟨az,k,e,ey,l,eH⟩|⟨az,k,b,e,ey,eb,l,eH⟩
 ·subst ey eH;obtain⟨z,hd,vs,mL,dd⟩:=xP I.bo e;have hz:vs.length<=sizeLine:=by rw[<- mL.length];exact z
  have hl:(fu az k v).length<=sizeLine:=by have:=gW az k v;omega
  refine wpAny_setItem_pairs (hsz:=hz) (pB ry) dd λh' Kk hs=>h _ ?_;have he:∃q,h'.get? a=some q:=let ⟨q,_,_,hq,_⟩:=Kk;⟨q,hq⟩
  exact qH I (by rw[e];exact True.intro) hs he (B3 hl hd (mL.put k rv) Kk)
 ·subst ey eH;cases (show u=Value.ref b from ry);obtain⟨z,hd,xs,mL,dd⟩:=N6 I.bo e;have hz:xs.length<=sizeLine:=by rw[<- Paired.length mL];exact z
  have hl:(fu az k v).length<=sizeLine:=by have:=gW az k v;omega
  refine wpAny_setItem_heap (hsz:=hz) (E7 hu) (mK I.bo eb) dd λh' Kk hs=>h _ ?_;obtain⟨q,es,ep,hq,h2,h3,h4,_,h5⟩:=Kk;refine qH I (by rw[e];exact True.intro) hs ⟨q,hq⟩ ⟨hl,hd,_,(mL.put k eb rv).keeps λc ys ec=>?_,q,es,ep,hq,h2,h3,h4,h5⟩;rw[ax (Nu ec e (λz=>nomatch z))];exact ec
end
theorem kS{X:Cx}{aa:List (Addr×Obj)}{σ:St}{H:Hp}{s:Shared}{a:Addr}{y:V}{o:Option V}(I:Inv X aa σ H s)(g:lC H a y o):s.TypeIs (.ref a) "dict" := by
 rcases g with⟨az,k,e,_,_⟩|⟨az,k,b,e,_,_,_⟩
 ·obtain⟨_,_,vs,_,dd⟩:=tR I.bo e;exact dd.typeIs
 ·obtain⟨_,_,xs,_,dd⟩:=tS I.bo e;exact dd.typeIs
theorem tT{P:Program}{w:World}{H:Hp}(h:Heap)(hb:sysModules<h.objs.size):bf P w H (h.push {cls:=.type "dict",data:=.dict #[]}) h.objs.size (.dK []) :=
 ⟨jt _,qe.mpr (fk (bW hb)),[],.nil,Heap.DictOf.new h⟩
def Kl:TE:=λ_ H Q=>∀p,H p=none->Q (.ref p) (bu H p (.dK []))
section
variable {X:Cx} {pos:Pos}
theorem B4:PE X (.Dict [] [] pos) Kl:=λaa s σ H Q I h =>
 wpAny_Dict_empty ⟨.ref s.heap.objs.size,_,I.laid (a:=s.heap.objs.size) (o:=.dK []) (t':=s.toks) (λ_ _ q=>aR _ q) (aq _) (tT s.heap I.big),rfl,h _ (I.bo.fresh (aq _))⟩
end
noncomputable def gf:List (TE×TE)->St->Hp->(List (V×V)->Hp->Prop)->Prop
 | [],_,H,Q=>Q [] H
 | (tk,tv)::r,σ,H,Q=>tk σ H λx H1=>tv σ H1 λy H2=>gf r σ H2 λps H3=>Q ((x,y)::ps) H3
abbrev VV:List (V×V)->List (Value×Value)->Prop:=Paired λp q=>RelV p.1 q.1/\RelV p.2 q.2
def Na(X:Cx)(pos:Pos)(keys:List (Option Expr))(mM:List Expr)(mO:List (TE×TE)):Prop :=
 ∀(aa:List (Addr×Obj))(s:Shared)(σ:St)(H:Hp)(Q:List (V×V)->Hp->Prop),Inv X aa σ H s->gf mO σ H Q ->
  wpAny (model X.prog X.w) X.A (evalPairs (pairTrees keys mM X.env pos)) (λvs s'=>∃ps H',Inv X aa σ H' s'/\VV ps vs/\Q ps H') X.xe s
theorem FR{X:Cx}{pos:Pos}:Na X pos [] [] []:=λaa s σ H Q I h=>pairTrees_nil_walk ⟨[],H,I,.nil,h⟩
theorem B5{X:Cx}{pos:Pos}{k v:Expr}{ks:List (Option Expr)}{vs:List Expr}{tk tv:TE}{mO:List (TE×TE)}(hk:PE X k tk)(hv:PE X v tv)(hr:Na X pos ks vs mO):Na X pos (some k::ks) (v::vs) ((tk,tv)::mO):=λaa s σ H Q I h =>
 pairTrees_cons_walk (bX (hk aa s σ H _ I h) λu s1 ⟨x,H1,I1,rx,q1⟩=>bX (hv aa s1 σ H1 _ I1 q1) λw2 s2 ⟨y,H2,I2,ry,q2⟩ =>
  bX (hr aa s2 σ H2 _ I2 q2) λws s3 ⟨ps,H3,I3,mL,q3⟩=>⟨(x,y)::ps,H3,I3,.cons ⟨rx,ry⟩ mL,q3⟩)
def fv(az lA:List (bS×V)):List (bS×V):=lA.foldl (λaE kv=>fu aE kv.1 kv.2) az
theorem KV.merge:∀{lA:List (bS×V)}{rs:List (bS×Value)}{az:List (bS×V)}{vs:List (bS×Value)},KV lA rs->KV az vs->KV (fv az lA) (merged vs rs):=by
 intro lA rs az vs r;unfold KV at r
 induction r generalizing az vs with
 | nil=>intro q;exact q
 | @cons p q ps qs h t ih =>
  intro r0
  have e:KV (fu az p.1 p.2) (stored vs q.1 q.2):=by
   have:=r0.put p.1 h.2;rw[<- h.1];exact this
  exact ih e
theorem iH:∀(lA az:List (bS×V)),(fv az lA).length<=az.length+lA.length
 | [],az=>by show az.length<=az.length+0;omega
 | p::r,az=>by
  have h1:=iH r (fu az p.1 p.2);have h2:=gW az p.1 p.2;show(fv (fu az p.1 p.2) r).length<=_;rw[jo];omega
theorem mP{P:Program}{w:World}:∀{az:List (bS×V)}{ws:List (Value×Value)},VV (az.map λkv=>(kV kv.1,kv.2)) ws->∃rs,Carries (bY P w) ws rs/\KV az rs
 | [],_,r=>by rw[s_]at r;cases r;exact⟨[],True.intro,.nil⟩
 | p::az,_,r=>by
  rw[eM]at r
  cases r with
  | @cons a b as bs h t =>
   obtain⟨rs,c,q⟩:=mP (P:=P) (w:=w) t;obtain⟨b1,b2⟩:=b;exact⟨(p.1,b2)::rs,⟨pB h.1,rfl,c⟩,.cons ⟨rfl,h.2⟩ q⟩
def N7(mO:List (TE×TE)):TE:=λσ H Q=>∀p,H p=none->gf mO σ (bu H p (.dK [])) λps H2=>H2 p=some (.dK [])/\∃az:List (bS×V),ps=az.map (λkv=>(kV kv.1,kv.2))/\az.length<=15/\Q (.ref p) (bu H2 p (.dK (fv [] az)))
theorem FT{X:Cx}{pos:Pos}{keys:List (Option Expr)}{mM:List Expr}{mO:List (TE×TE)}(h:Na X pos keys mM mO)(mQ:keys.all (·.isSome)=true)(hl:keys.length=mM.length)(h0:keys≠[])(N8:keys.length<=15):PE X (.Dict keys mM pos) (N7 mO):=by
 intro aa s σ H Q I q;have hn:=I.bo.fresh (aq s.heap.objs.size);have I1:=I.laid (a:=s.heap.objs.size) (o:=.dK []) (h':=s.heap.push {cls:=.type "dict",data:=.dict #[]}) (t':=s.toks) (λ_ _ q=>aR _ q) (aq _) (tT s.heap I.big);refine wpAny_Dict_walk (knd:=bY X.prog X.w) mQ hl h0 N8 (bX (h aa _ σ _ _ I1 (q _ hn)) ?_);rintro ws s2 ⟨ps,H2,I2,mL,e,az,rfl,lk,q2⟩;obtain⟨rs,c,rk⟩:=mP (P:=X.prog) (w:=X.w) mL;obtain⟨z,hd,vs0,r0,dd⟩:=xP I2.bo e;cases r0;refine⟨rs,c,dd,λh' Kk hs=>⟨.ref s.heap.objs.size,_,?_,rfl,q2⟩⟩
 have hz:(fv [] az).length<=sizeLine:=by
  have h1:=iH az [];rw[BD]at h1;rw[qj];omega
 have he:∃q,h'.get? s.heap.objs.size=some q:=let ⟨q,_,_,hq,_⟩:=Kk;⟨q,hq⟩
 exact qH I2 (by rw[e];exact True.intro) hs he (B3 hz hd (rk.merge .nil) Kk)
end L2
namespace HT
open PySem PyProof.Rows
section
open PySem.SeqAt
open PySem.AutoSeq1 (wpAny_loadPart')
open PySem.MeetsSeq PySem.MeetsSeq2 PySem.MeetsSeq3
end
section
variable {prog:Program} {w:World} {A:Around} {E:Value->Shared->Prop} {s:Shared}
theorem FU{t b:Addr}{vs ws:List Value}{Q:Value->Shared->Prop}(ht:IsTup s.heap t vs.toArray)(hb:IsTup s.heap b ws.toArray)(hv:vs≠[])(h1:ws=[]->Q (.ref t) s) (h2:ws≠[]->Q (.ref s.heap.objs.size) {s with heap:=s.heap.push {cls:=.type "tuple",data:=.seq (vs++ws).toArray}}) (hsz:vs.length+ws.length<=sizeLine):wpAny (model prog w) A (binaryOp .Add (.ref t) (.ref b)) Q E s:=by
 obtain⟨⟨cls,dd,data,sl⟩,ho,hc,n,hd⟩:=id ht;obtain⟨⟨SA,QJ,data2,QK⟩,EN,Ij,n2,N9⟩:=id hb;simp only at hc hd Ij N9;subst hc hd Ij N9;have e:vs.toArray++ws.toArray=(vs++ws).toArray:=by simp
 by_cases hw:ws=[]
 ·exact concat_meets ⟨_,ho,rfl⟩ ⟨_,EN,rfl⟩ noFill_tuple_add seq_tuple_add Ju Jt (Js _ _)
   (tuple_addW1 t b vs.toArray ws.toArray n n2 dd QJ sl QK (by simpa using hv) (by simp[hw])) ⟨ho,EN,h1 hw⟩
 ·refine concat_meets ⟨_,ho,rfl⟩ ⟨_,EN,rfl⟩ noFill_tuple_add seq_tuple_add Ju Jt (Js _ _)
   (tuple_addW2 t b vs.toArray ws.toArray n n2 dd QJ sl QK (by simpa using hv) (by simpa using hw) (by rw[cg,cg];exact hsz)) ⟨ho,EN,?_⟩
  rw[e];exact h2 hw
noncomputable def cB(n d:Nat):Option Int->Nat
 | none=>d
 | some v=>if v<0 then (v+(n:Int)).toNat else min v.toNat n
theorem tU(n d:Nat):cB n d none=d:=rfl
theorem qI(n d k:Nat):cB n d (some (k:Int))=min k n:=by
 show(if (k:Int)<0 then ((k:Int)+(n:Int)).toNat else min (k:Int).toNat n)=min k n;rw[aU ∅,mw]
theorem Km(n d:Nat)(hd:d<=n)(o:Option Int):cB n d o<=n:=by
 cases o with
 | none=>exact hd
 | some v =>
  show(if v<0 then (v+(n:Int)).toNat else min v.toNat n)<=n;by_cases hv:v<0
  ·rw[aT hv];omega
  ·rw[aU hv];exact Nat.min_le_right _ _
theorem xQ(v:Int)(n d:Nat):(if v<0 then max (v+(n:Int)) 0 else min v (n:Int))=((cB n d (some v):Nat):Int):=by
 show(if v<0 then max (v+(n:Int)) 0 else min v (n:Int))=(((if v<0 then (v+(n:Int)).toNat else min v.toNat n):Nat):Int);by_cases hv:v<0
 ·simp only[aT hv];omega
 ·simp only[aU hv];omega
theorem vW(lo hi:Option Int)(n:Nat):Builtin.Slice.sliceAdjust lo hi 1 (n:Int)=(((cB n 0 lo:Nat):Int),((cB n n hi:Nat):Int)):=by
 have h1:¬((1:Int)<0):=∅;unfold Builtin.Slice.sliceAdjust;simp only[h1,vK];refine Prod.ext ?_ ?_
 ·cases lo with
  | none=>rfl
  | some v=>exact xQ v n 0
 ·cases hi with
  | none=>rfl
  | some v=>exact xQ v n n
theorem vX(i j:Nat):Builtin.Slice.slicePlaces (i:Int) (j:Int) 1=j-i:=by
 unfold Builtin.Slice.slicePlaces;have h1:(1:Int)>0:=∅;simp only[h1,fm,Int.ediv_one];split<;>omega
theorem mR{v:Value}{o:Option Int}{Q:Option Int->Shared->Prop}(p:IsPart v o)(h:Q o s):wpAny (model prog w) A (Builtin.Slice.slicePartIndex v) Q E s:=by
 cases p with
 | none=>exact slicePart_none h
 | int i t=>exact slicePart_int h
theorem fN{sl:Addr}{vl vu:Value}{lo hi:Option Int}{n:Nat}{Q:Int×Int×Nat->Shared->Prop}(hs:s.heap.IsSliceOf sl vl vu .none)(pl:IsPart vl lo)(pu:IsPart vu hi)(h:Q (((cB n 0 lo:Nat):Int),1,cB n n hi-cB n 0 lo) s):wpAny (model prog w) A (Builtin.Slice.sliceApplied (.ref sl) (pure (n:Int))) Q E s:=by
 obtain⟨os,Ac,Kn,EO⟩:=id hs;unfold Builtin.Slice.sliceApplied Builtin.Slice.sliceFields;refine af (af (eD Ac EO (x:=vl) rfl (af (eD Ac EO (x:=vu) rfl (af (eD Ac EO (x:=.none) rfl (aj ?_)))))));refine af (slicePart_none ?_);show wpAny _ _ (if ((1:Int)==0)=true then _ else _) _ _ s;rw[aU (by decide)];refine af (mR pl (af (mR pu (af (aj ?_)))));show wpAny _ _ (match Builtin.Slice.sliceAdjust lo hi 1 (n:Int)with | (lo,hi)=>pure (lo,(1:Int),Builtin.Slice.slicePlaces lo hi 1)) _ _ s;rw[vW lo hi n];show wpAny _ _ (pure (((cB n 0 lo:Nat):Int),(1:Int),Builtin.Slice.slicePlaces ((cB n 0 lo:Nat):Int) ((cB n n hi:Nat):Int) 1)) _ _ s;rw[vX];exact aj h
theorem B6(xs:Array Value)(i k:Nat):((List.range k).filterMap λ(m:Nat)=>xs[((i:Int)+(m:Int)*1).toNat]?).toArray=((xs.toList.drop i).take k).toArray:=by
 have e:(λ(m:Nat)=>xs[((i:Int)+(m:Int)*1).toNat]?)=λm=>xs[i+m]?:=by
  funext m;have:((i:Int)+(m:Int)*1).toNat=i+m:=∅;rw[this]
 rw[e];have:=pick_run xs i k;rw[List.filterMap_map]at this;have e2:((λx=>xs[x]?)∘λx=>i+x)=λm=>xs[i+m]?:=rfl;rw[e2]at this;rw[this]
theorem jA{t sl:Addr}{items:Array Value}{vl vu:Value}{lo hi:Option Int}{Q:Value->Shared->Prop}(ht:IsTup s.heap t items)(hs:s.heap.IsSliceOf sl vl vu .none)(pl:IsPart vl lo)(pu:IsPart vu hi)(hw:¬(cB items.size 0 lo=0/\cB items.size items.size hi=items.size)) (h:Q (.ref s.heap.objs.size) {s with heap:=s.heap.push {cls:=.type "tuple",data:=.seq ((items.toList.drop (cB items.size 0 lo)).take (cB items.size items.size hi-cB items.size 0 lo)).toArray}}) (hsz:items.size<=sizeLine):wpAny (model prog w) A (getItem (.ref t) (.ref sl)) Q E s:=by
 have xR:sizeOk (.seq ((items.toList.drop (cB items.size 0 lo)).take (cB items.size items.size hi-cB items.size 0 lo)).toArray):=by
  show((items.toList.drop (cB items.size 0 lo)).take (cB items.size items.size hi-cB items.size 0 lo)).toArray.size<=sizeLine;rw[cg,j9,mz,oA];omega
 have hj:cB items.size items.size hi<=items.size:=Km _ _ (aq _) hi;obtain⟨os,Ac,Kn,EO⟩:=id hs;have N_:s.TypeIs (.ref sl) "slice" := ⟨os,Ac,Kn⟩;unfold getItem
 try with_reducible refine fX ?_
 first | refine af (aj ?_) | skip
 refine af (wpAny_sequenceKey ht.typeIs (by decide) ?_)
 refine af (mi (name:=Str.ofString "__getitem__") ht.typeIs p9
  (iP p9 ht.typeIs entry_tuple_getitem ?_ (args_tuple_getitem _ _)))
 show wpAny _ _ (Builtin.Tuple.tupleItemsOf (.ref t) >>= _) _ _ s;refine af (tupleItemsOf_ ht ?_);refine af (tf N_ ?_);rw[aT (by decide)];refine af (fN hs pl pu ?_)
 have SD:¬((((cB items.size 0 lo:Nat):Int)==0&&(1:Int)==1&&(cB items.size items.size hi-cB items.size 0 lo)==items.size)=true):=by
  intro q;rw[ay,ay]at q;have q1:((cB items.size 0 lo:Nat):Int)=0:=eq_of_beq q.1.1;have q2:cB items.size items.size hi-cB items.size 0 lo=items.size:=eq_of_beq q.2;exact hw ⟨∅,∅⟩
 show wpAny _ _ (if (((cB items.size 0 lo:Nat):Int)==0&&(1:Int)==1&&(cB items.size items.size hi-cB items.size 0 lo)==items.size)=true then _ else _) _ _ s;rw[aU SD,B6]
 first
  | exact af (m:=Builtin.Tuple.tupleExact _) (e9 (aj ⟨_,rfl,aj h⟩) xR)
  | exact af (m:=Builtin.Tuple.tupleExact _) (e9 (af (aj (aj ⟨_,rfl,aj h⟩))) xR)
  | exact af (af (m:=Builtin.Tuple.tupleExact _) (e9 (aj (aj ⟨_,rfl,aj h⟩)) xR))
  | exact af (af (m:=Builtin.Tuple.tupleExact _) (e9 (aj ⟨_,rfl,aj h⟩) xR))
end
end HT
namespace L2
open PySem PySem.Spec PyProof.Rows
abbrev TO:=St->Hp->(Option Int->Hp->Prop)->Prop
noncomputable def PO(X:Cx)(e:Option Expr)(t:TO):Prop :=
 ∀(aa:List (Addr×Obj))(s:Shared)(σ:St)(H:Hp)(Q:Option Int->Hp->Prop),Inv X aa σ H s->t σ H Q ->
  wpAny (model X.prog X.w) X.A (evalPart e X.env) (λu s'=>∃o H',Inv X aa σ H' s'/\IsPart u o/\Q o H') X.xe s
def FV:TO:=λ_ H Q=>Q none H
noncomputable def Oa(t:TE):TO:=λσ H Q=>t σ H λx H1=>∃i,x=.int i/\Q (some i) H1
section
variable {X:Cx} {e:Expr} {te:TE} {lo hi:Option Expr} {tl th:TO} {pos p2:Pos}
theorem FW:PO X none FV:=by
 intro aa s σ H Q I h;rw[evalPart_none];exact aj ⟨none,H,I,.none,h⟩
theorem FX(h:PE X e te):PO X (some e) (Oa te):=by
 intro aa s σ H Q I hw;rw[evalPart_some];refine bX (h aa s σ H _ I hw) ?_;rintro u s1 ⟨x,H1,I1,r1,q1⟩;obtain⟨i,rfl,q⟩:=q1;obtain⟨t,rfl⟩:=r1;exact⟨some i,H1,I1,.int i t,q⟩
def Ob(X:Cx)(r:V->Option Int->Option Int->Hp->VK->Prop):Prop :=
 ∀(aa:List (Addr×Obj))(s:Shared)(σ:St)(H:Hp)(x:V)(v vl vu:Value)(lo hi:Option Int)(sl:Addr)(Q:VK),Inv X aa σ H s->RelV x v->s.heap.IsSliceOf sl vl vu .none->IsPart vl lo->IsPart vu hi->r x lo hi H Q ->
  ∃T id,typeLookup (.type T) "__getitem__" = pure (some (.builtin id))/\s.TypeIs v T/\wpAny (model X.prog X.w) X.A (getItem v (.ref sl)) (EP X aa σ Q) X.xe s
noncomputable def Xq(r:V->Option Int->Option Int->Hp->VK->Prop)(te:TE)(tl th:TO):TE:=λσ H Q=>te σ H λx H1=>tl σ H1 λl H2=>th σ H2 λu H3=>r x l u H3 Q
theorem B7{r:V->Option Int->Option Int->Hp->VK->Prop}(hr:Ob X r)(he:PE X e te)(hl:PO X lo tl)(hu:PO X hi th):PE X (.Subscript e (.Slice lo hi none p2) pos) (Xq r te tl th):=by
 intro aa s σ H Q I h;refine Subscript_ (bX (he aa s σ H _ I h) ?_);rintro v s1 ⟨x,H1,I1,r1,q1⟩;refine wpAny_Slice (bX (hl aa s1 σ H1 _ I1 q1) λvl s2 ⟨l,H2,I2,pl,q2⟩=>bX (hu aa s2 σ H2 _ I2 q2) λvu s3 ⟨u,H3,I3,pu,q3⟩=>?_);rw[evalPart_none];refine aj ?_;have I4:Inv X aa σ H3 {s3 with heap:=s3.heap.push {cls:=.type "slice",data:=.fields #[vl,vu,.none]}}:=I3.kept (t':=s3.toks) λb ob q=>aR _ q;obtain⟨T,id,hT,ht,hg⟩:=hr aa {s3 with heap:=s3.heap.push {cls:=.type "slice",data:=.fields #[vl,vu,.none]}} σ H3 x v vl vu l u s3.heap.objs.size Q I4 r1 (Heap.IsSliceOf.new ..) pl pu q3;show wpAny (model X.prog X.w) X.A (subscriptTail e (.Slice lo hi none p2) v (.ref s3.heap.objs.size)) (EP X aa σ Q) X.xe {s3 with heap:=s3.heap.push {cls:=.type "slice",data:=.fields #[vl,vu,.none]}};exact tail_any (ops:=[.ref s3.heap.objs.size,v]) ht hT hg (by with_unfolding_all rfl)
def tV(xs:List V)(lo hi:Option Int):List V:=(xs.drop (HT.cB xs.length 0 lo)).take (HT.cB xs.length xs.length hi-HT.cB xs.length 0 lo)
theorem kT(xs:List V)(lo hi:Option Int):(tV xs lo hi).length<=xs.length:=by
 unfold tV;rw[j9,mz];omega
def SE(K:PySem.W.Frag):V->Option Int->Option Int->Hp->VK->Prop:=λx lo hi H Q=>∃a xs,x=.ref a/\fF K H a xs /\
 ¬(HT.cB xs.length 0 lo=0/\HT.cB xs.length xs.length hi=xs.length)/\∀p,H p=none->Q (.ref p) (bu H p (.tup (tV xs lo hi)))
theorem Ko:Ob X (SE X.K):=by
 intro aa s σ H x v vl vu lo hi sl Q I rx hs pl pu h;obtain⟨a,xs,rfl,hx,hw,q⟩:=h;cases rx;obtain⟨aC,r,ht,hz⟩:=I.tuple hx;have aY:aC.toArray.size=xs.length:=by rw[cg];exact r.length.symm
 refine⟨"tuple",_,p9.lookup,ht.typeIs,?_⟩;refine HT.jA ht hs pl pu (by rw[aY];exact hw) ?_ (by rw[aY];exact hz);rw[aY];refine⟨.ref s.heap.objs.size,_,I.laid (t':=s.toks) (o:=.tup (tV xs lo hi)) (λb ob q=>aR _ q) (aq _) ?_,rfl,q _ (I.bo.fresh (aq _))⟩;exact⟨bH (kT xs lo hi) hz,_,(r.drop (HT.cB xs.length 0 lo)).take (HT.cB xs.length xs.length hi-HT.cB xs.length 0 lo),IsTup.new _ _⟩
def Oc(K:PySem.W.Frag):R2:=λx y H Q=>∃a b xs ys,x=.ref a/\y=.ref b/\fF K H a xs/\fF K H b ys/\xs≠[]/\xs.length+ys.length<=sizeLine /\
 (ys=[]->Q (.ref a) H)/\(ys≠[]->∀p,H p=none->Q (.ref p) (bu H p (.tup (xs++ys))))
theorem aL.qJ{xs:List V}{us:List Value}(r:aL xs us):us=[]↔xs=[]:=by
 cases r with
 | nil=>simp
 | cons _ _=>simp
theorem FY:iC X (binaryOp .Add) (Oc X.K):=by
 intro aa s σ H x y v u Q I rx ry h;obtain⟨a,b,xs,ys,rfl,rfl,ha,hb,hx,hz,q1,q2⟩:=h;cases rx;cases ry;obtain⟨aC,r1,p1,_⟩:=I.tuple ha;obtain⟨B8,r2,p2,_⟩:=I.tuple hb;refine HT.FU p1 p2 (λz=>hx (r1.qJ.mp z)) (λz=>⟨.ref a,H,I,rfl,q1 (r2.qJ.mp z)⟩) (λz=>?_) (by rw[<- r1.length,<- r2.length];exact hz);refine⟨.ref s.heap.objs.size,_,I.laid (t':=s.toks) (o:=.tup (xs++ys)) (λb ob q=>aR _ q) (aq _) ?_,rfl,q2 (λw=>z (r2.qJ.mpr w)) _ (I.bo.fresh (aq _))⟩;exact⟨by rw[dv];exact hz,_,r1.append r2,IsTup.new _ _⟩
end
noncomputable def FZ(n:Nat)(i:Int):Option Nat:=if 0<=i then (if i<n then some i.toNat else none) else if -(n:Int)<=i then some (i+n).toNat else none
def tW{α:Type}(xs:List α)(i:Int):Option α:=(FZ xs.length i).bind λj=>xs[j]?
theorem xS{n:Nat}{i:Int}{j:Nat}(h:FZ n i=some j):seqIndex? i n=some j/\j<n/\-(n:Int)<=i/\i<n:=by
 unfold FZ at h;by_cases h0:0<=i
 ·rw[aT h0]at h;by_cases h1:i<n
  ·rw[aT h1]at h;have e:i.toNat=j:=cH h;exact⟨by rw[seqIndex_of h0 h1,e],∅,∅,h1⟩
  ·rw[aU h1]at h;cases h
 ·rw[aU h0]at h;by_cases h1:-(n:Int)<=i
  ·rw[aT h1]at h;have e:(i+n).toNat=j:=cH h;exact⟨by rw[seqIndex_neg ∅ h1,e],∅,h1,∅⟩
  ·rw[aU h1]at h;cases h
theorem qK{α:Type}{xs:List α}{i:Int}{v:α}(h:tW xs i=some v):∃j,seqIndex? i xs.length=some j/\xs[j]?=some v/\j<xs.length/\-(xs.length:Int)<=i/\i<xs.length:=by
 unfold tW at h
 cases e:FZ xs.length i with
 | none=>rw[e]at h;cases h
 | some j =>
  rw[e]at h;obtain⟨h1,h2,h3,h4⟩:=xS e;exact⟨j,h1,h,h2,h3,h4⟩
noncomputable def xT(b:Expr):Prop:=∀o i,subscripted b false o i=operate [o,i] (getItem o i)
def Od(X:Cx)(r:R2):Prop :=
 ∀(value jB:Expr)(aa:List (Addr×Obj))(s:Shared)(σ:St)(H:Hp)(x y:V)(v u:Value)(Q:VK),Inv X aa σ H s->RelV x v->RelV y u->r x y H Q ->
  subscripted jB false v u=operate [v,u] (getItem v u)->wpAny (model X.prog X.w) X.A (subscriptTail value jB v u) (EP X aa σ Q) X.xe s
def Kp(X:Cx)(id:String)(r:V->List V->Hp->VK->Prop):Prop :=
 ∀(aa:List (Addr×Obj))(s:Shared)(σ:St)(H:Hp)(x:V)(xs:List V)(v:Value)(us:List Value)(Q:VK),Inv X aa σ H s->RelV x v->aL xs us->r x xs H Q ->
  wpAny (model X.prog X.w) X.A (call (.builtin id) (v::us)) (EP X aa σ Q) X.xe s
section
variable {X:Cx} {a b:Expr} {ta tb:TE} {pos:Pos}
theorem Oe{r:R2}(hr:Od X r)(ha:PE X a ta)(hb:PE X b tb)(hs:xT b):PE X (.Subscript a b pos) (FF r ta tb):=by
 intro aa s σ H Q I h;exact Subscript_ (J6 ha hb I h λv u s2 x y H2 I2 rx ry q=>hr a b aa s2 σ H2 x y v u Q I2 rx ry q (hs _ _))
def SF(K:PySem.W.Frag):R2:=λx y H Q=>∃p xs i v,x=.ref p/\y=.int i/\eO K H p xs/\tW xs i=some v/\Q v H
def SG(K:PySem.W.Frag):R2:=λx y H Q=>∃p xs i v,x=.ref p/\y=.int i/\fF K H p xs/\tW xs i=some v/\Q v H
def SH:R2:=λx y H Q=>∃z i c,x=.str z/\y=.int i/\z.length<=sizeLine/\tW z.cps.toList i=some c/\Q (.str ⟨#[c]⟩) H
theorem F0:Od X (SF X.K):=by
 intro value jB aa s σ H x y v u Q I rx ry h hs;obtain⟨p,xs,i,z,rfl,rfl,hq,he,q⟩:=h;cases rx;obtain⟨t,rfl⟩:=ry;obtain⟨aC,r,pl,hz⟩:=I.list hq;obtain⟨j,h1,h2,h3,h4,h5⟩:=qK he;obtain⟨w,ew,Aa⟩:=r.get h2;have hl:=r.length;have hn:=iU;have d_:EP X aa σ Q w s:=⟨z,H,I,Aa,q⟩;by_cases h0:0<=i
 ·have hj:i.toNat=j:=by
   rw[seqIndex_of h0 h5]at h1;exact cH h1
  exact item_listR pl.isList h0 ∅ (by rw[hj];simpa using ew) d_ hs
 ·have hj:(i+(aC.toArray.size:Int)).toNat=j:=by
   rw[seqIndex_neg ∅ h4]at h1;rw[cg,<- hl];exact cH h1
  exact subscriptTail_builtinR (x:=w) pl.isList.typeIs slot_list_getitem.lookup
   (wpAny_getItem_list_neg (Q:=λr s'=>r=w/\EP X aa σ Q r s') pl.isList ∅ (by rw[cg]<;>omega) ∅ (by rw[hj];simpa using ew) ⟨rfl,d_⟩) hs
theorem Kq:Od X (SG X.K):=by
 intro value jB aa s σ H x y v u Q I rx ry h hs;obtain⟨p,xs,i,z,rfl,rfl,hq,he,q⟩:=h;cases rx;obtain⟨t,rfl⟩:=ry;obtain⟨aC,r,pl,hz⟩:=I.tuple hq;obtain⟨j,h1,h2,h3,h4,h5⟩:=qK he;obtain⟨w,ew,Aa⟩:=r.get h2;have hl:=r.length;have hn:=iU;have d_:EP X aa σ Q w s:=⟨z,H,I,Aa,q⟩
 exact subscriptTail_builtinR (x:=w) pl.typeIs slot_tuple_getitem.lookup
  (getItem_tuple (j:=j) (Q:=λr s'=>r=w/\EP X aa σ Q r s') pl ∅ ∅ (by rw[cg,<- hl];exact h1) (by simpa using ew) ⟨rfl,d_⟩) hs
theorem Kr:Od X SH:=by
 intro value jB aa s σ H x y v u Q I rx ry h hs;obtain⟨z,i,c,rfl,rfl,hz,he,q⟩:=h;obtain⟨t,rfl⟩:=rx;obtain⟨t',rfl⟩:=ry;obtain⟨j,h1,h2,h3,h4,h5⟩:=qK he;have hl:z.cps.toList.length=z.length:=by simp[Str.length]
 rw[hl]at h1 h4 h5;have hn:=iU
 exact tail_any (typeIs_str s z t) slot_str_getitem.lookup (getItem_str (c:=c) (by
  have e1:decide (i < -(2 ^ 63:Int))=false:=cx ∅;have e2:decide (i ≥ 2 ^ 63)=false:=cx ∅;rw[e1,e2,Bool.or_false]) (by rw[h1];simpa using h2) ⟨.str ⟨#[c]⟩,H,I.tok _,⟨_,rfl⟩,q⟩) hs
theorem vY(aC:List Value)(n j:Nat)(u:Value):Obj.mapSeq (·.setIfInBounds j u) {cls:=.type "list",data:=.seq aC.toArray n}={cls:=.type "list",data:=.seq (aC.set j u).toArray n}:=by
 simp[Obj.mapSeq]
theorem Inv.lst{aa:List (Addr×Obj)}{σ:St}{H:Hp}{s:Shared}{p:Addr}{xs:List V}(I:Inv X aa σ H s)(h:H p=some (.lst xs)):∃(aC:List Value) (n:Nat),aL xs aC/\s.heap.get? p=some {cls:=.type "list",data:=.seq aC.toArray n}/\xs.length<=sizeLine:=by
 obtain⟨z,aC,n,r,e⟩:=I.bo p _ h;exact⟨aC,n,r,e,z⟩
theorem Inv.Ks{aa:List (Addr×Obj)}{σ:St}{H:Hp}{s:Shared}{p:Addr}{xs ys:List V}{aC its':List Value}{n n':Nat}{f:Obj->Obj}(I:Inv X aa σ H s)(h:H p=some (.lst xs)) (ho:s.heap.get? p=some {cls:=.type "list",data:=.seq aC.toArray n}) (hf:f {cls:=.type "list",data:=.seq aC.toArray n}={cls:=.type "list",data:=.seq its'.toArray n'}) (r:aL ys its') (hz:ys.length<=sizeLine) (t:Nat):Inv X aa σ (bu H p (.lst ys)) {s with heap:=s.heap.update p f,toks:=t}:=by
 have e:(s.heap.update p f).get? p=some {cls:=.type "list",data:=.seq its'.toArray n'}:=by
  rw[mj f ho (by rw[hf]<;>rfl),hf]
 refine I.write (x:=p) (e:=p) (by rw[h];trivial) (.inl rfl) (λb u hb q=>(sQ _ _ (fk hb)).trans q) ⟨_,e⟩ ?_;exact⟨hz,its',n',r,e⟩
def Of:V->V->V->Hp->(Hp->Prop)->Prop:=λo i v H Q=>∃p xs k j,o=.ref p/\i=.int k/\H p=some (.lst xs)/\FZ xs.length k=some j/\Q (bu H p (.lst (xs.set j v)))
theorem B9:J1 X Of:=by
 intro aa s σ H o i v ov iv u Q I ro ri rv h;obtain⟨p,xs,k,j,rfl,rfl,hp,hj,q⟩:=h;cases ro;obtain⟨t,rfl⟩:=ri;obtain⟨aC,n,r,ho,hz⟩:=I.lst hp;obtain⟨h1,h2,h3,h4⟩:=xS hj;have hl:=r.length;have hn:=iU
 have I':Inv X aa σ (bu H p (.lst (xs.set j v))) {s with heap:=s.heap.update p (Obj.mapSeq (·.setIfInBounds j u))} :=
  I.Ks hp ho (vY aC n j u) (r.set rv j) (by rw[sY];exact hz) s.toks
 by_cases h0:0<=k
 ·have hk:k.toNat=j:=by
   rw[seqIndex_of h0 h4]at h1;exact cH h1
  exact PySem.W.ki_setAt ho h0 ∅ (by rw[cg,<- hl];exact h4) (by rw[hk];exact⟨_,I',q⟩)
 ·have hk:(k+(aC.toArray.size:Int)).toNat=j:=by
   rw[seqIndex_neg ∅ h3]at h1;rw[cg,<- hl];exact cH h1
  exact PySem.W.ki_setBack ho ∅ (by rw[cg,<- hl];exact h3) ∅ (by rw[hk];exact⟨_,I',q⟩)
theorem qL(lo hi:Option Int)(n:Nat):(sliceBounds lo hi none n).1=((HT.cB n 0 lo:Nat):Int)/\(sliceBounds lo hi none n).2.1=((HT.cB n n hi:Nat):Int)/\(sliceBounds lo hi none n).2.2=1:=by
 refine⟨?_,?_,rfl⟩
 ·cases lo with
  | none=>simp[sliceBounds,HT.cB]
  | some i =>
   simp only[sliceBounds,HT.cB,Option.getD_none,show(1:Int)>0 by decide,fm];by_cases h:i<0
   ·simp only[h,fm]<;>omega
   ·simp only[h,vK]<;>omega
 ·cases hi with
  | none=>simp[sliceBounds,HT.cB]
  | some i =>
   simp only[sliceBounds,HT.cB,Option.getD_none,show(1:Int)>0 by decide,fm];by_cases h:i<0
   ·simp only[h,fm]<;>omega
   ·simp only[h,vK]<;>omega
theorem oK(aC:List Value)(lo hi:Option Int):slicePick aC.toArray lo hi none=((aC.drop (HT.cB aC.length 0 lo)).take (HT.cB aC.length aC.length hi-HT.cB aC.length 0 lo)).toArray:=by
 obtain⟨h1,h2,h3⟩:=qL lo hi aC.toArray.size;unfold slicePick;rw[h1,h2,h3];simp only[sliceRange_one,pick_run,cg]<;>rfl
def SI(K:PySem.W.Frag):V->Option Int->Option Int->Hp->VK->Prop:=λx lo hi H Q=>∃a xs,x=.ref a/\eO K H a xs/\∀p,H p=none->Q (.ref p) (bu H p (.lst (tV xs lo hi)))
theorem F1:Ob X (SI X.K):=by
 intro aa s σ H x v vl vu lo hi sl Q I rx hs pl pu h;obtain⟨a,xs,rfl,hx,q⟩:=h;cases rx;obtain⟨aC,r,ht,hz⟩:=I.list hx;have aY:=r.length;refine⟨"list",_,slot_list_getitem.lookup,ht.isList.typeIs,?_⟩;refine wpAny_getItem_list_slice ht.isList hs pl pu .none (by simp) ?_ (by rw[cg]<;>omega);rw[oK,<- aY];refine⟨.ref s.heap.objs.size,_,I.laid (t':=s.toks) (o:=.lst (tV xs lo hi)) (λb ob q=>aR _ q) (aq _) ?_,rfl,q _ (I.bo.fresh (aq _))⟩;exact⟨bH (kT xs lo hi) hz,_,0,(r.drop (HT.cB xs.length 0 lo)).take (HT.cB xs.length xs.length hi-HT.cB xs.length 0 lo),cw _ rfl⟩
theorem qM:cL X (.builtin "len") (λxs H Q=>∃p ys,xs=[.ref p]/\(eO X.K H p ys\/fF X.K H p ys)/\Q (.int ys.length) H):=by
 intro aa s σ H xs us Q I r h;obtain⟨p,ys,rfl,hq,q⟩:=h;obtain⟨u,rfl,rx⟩:=vals1 r;cases rx;have hn:=iU;rcases hq with hq | hq
 ·obtain⟨aC,r',pl,hz⟩:=I.list hq;have aY:=r'.length;exact Calls.call_len_list pl.isList (by simp only[cg]<;>omega) ⟨.int ys.length,H,I.tok _,⟨s.toks+1,by rw[cg,aY]⟩,q⟩
 ·obtain⟨aC,r',pl,hz⟩:=I.tuple hq;have aY:=r'.length;exact len_tuple pl (by simp only[cg]<;>omega) ⟨.int ys.length,H,I.tok _,⟨s.toks+1,by rw[cg,aY]⟩,q⟩
theorem qN:cL X (.builtin "len") (λxs H Q=>∃z,xs=[.str z]/\z.length<=sizeLine/\Q (.int z.length) H):=by
 intro aa s σ H xs us Q I r h;obtain⟨z,rfl,hz,q⟩:=h;obtain⟨u,rfl,t,rfl⟩:=vals1 r;have hn:=iU;exact len_str ∅ ⟨.int z.length,H,I.tok _,⟨_,rfl⟩,q⟩
theorem qO:cL X (.type "list") (λxs H Q=>∃p ys,xs=[.ref p]/\(eO X.K H p ys\/fF X.K H p ys)/\∀l,H l=none->Q (.ref l) (bu H l (.lst ys))):=by
  intro aa s σ H xs us Q I r h;obtain⟨p,ys,rfl,hq,q⟩:=h;obtain⟨u,rfl,rx⟩:=vals1 r;cases rx
  have d_ : ∀ (aC : List Value), aL ys aC -> ys.length <= sizeLine -> ∀ (h' : Heap) (c' : Nat), (∀ b o', s.heap.get? b = some o' -> h'.get? b = some o') ->
      h'.get? s.heap.objs.size=some {cls:=.type "list",dict:=none,data:=.seq aC.toArray c',slots:=#[]}->EP X aa σ Q (.ref s.heap.objs.size) {s with heap:=h'}:=λaC r' hz h' c' kp e =>
    ⟨.ref s.heap.objs.size,_,I.laid (t':=s.toks) kp (aq _) (show bf X.prog X.w _ h' _ (.lst ys) from ⟨hz,aC,c',r',e⟩),rfl,q _ (I.bo.fresh (aq _))⟩
  rcases hq with hq | hq
  · obtain⟨aC,r',pl,hz⟩:=I.list hq;have aY:=r'.length;obtain⟨o,ho,hc,n,hd⟩:=pl.isList;exact call_list_seq p (.inl rfl) ho hc hd (λh' c' kp e=>d_ aC r' hz h' c' kp e) (by simp only[cg]<;>omega)
  · obtain⟨aC,r',pl,hz⟩:=I.tuple hq;have aY:=r'.length;obtain⟨o,ho,hc,n,hd⟩:=pl;exact call_list_seq p (.inr rfl) ho hc hd (λh' c' kp e=>d_ aC r' hz h' c' kp e) (by simp only[cg]<;>omega)
theorem iI:cL X (.type "tuple") (λxs H Q=>∃p ys,xs=[.ref p]/\((eO X.K H p ys/\∀l,H l=none->Q (.ref l) (bu H l (.tup ys)))\/(fF X.K H p ys/\Q (.ref p) H))):=by
 intro aa s σ H xs us Q I r h;obtain⟨p,ys,rfl,h⟩:=h;obtain⟨u,rfl,rx⟩:=vals1 r;cases rx;rcases h with⟨hq,q⟩|⟨hq,q⟩
 ·obtain⟨aC,r',pl,hz⟩:=I.list hq;have aY:=r'.length;refine call_tuple_list pl.isList (λh' kp=>?_) (by simp only[cg]<;>omega);have I1:Inv X aa σ H {s with heap:=h'}:=I.kept (t':=s.toks) kp
  have I2:Inv X aa σ (bu H h'.objs.size (.tup ys)) {s with heap:=h'.push {cls:=.type "tuple",data:=.seq aC.toArray}} :=
   I1.laid (t':=s.toks) (λb o e=>aR _ e) (aq _) (show bf X.prog X.w _ _ _ (.tup ys) from ⟨hz,aC,r',IsTup.new _ _⟩)
  exact⟨.ref h'.objs.size,_,I2,rfl,q _ (I1.bo.fresh (aq _))⟩
 ·obtain⟨aC,r',pl,hz⟩:=I.tuple hq;exact call_tuple_same pl ⟨.ref p,H,I,rfl,q⟩
def SJ(K:PySem.W.Frag)(T:String)(x:V)(H:Hp):Prop:=match x with
  | .str _=>T = "str"
  | .int _=>T = "int"
  | .ref p => (T = "list" /\ ∃ xs, eO K H p xs) \/ (T = "tuple" /\ ∃ o, K.lookup p = some o /\ o.cls = .type "tuple" /\ o.dict = none) \/
      (T = "dict" /\ ((∃az,H p=some (.dK az))\/∃az,H p=some (.dT az)))\/(T = "set" /\ ∃S n,H p=some (.set S n))
  | _=>False
theorem B_{aa:List (Addr×Obj)}{σ:St}{H:Hp}{s:Shared}{T:String}{x:V}{v:Value}(I:Inv X aa σ H s)(r:RelV x v)(ty:SJ X.K T x H):s.TypeIs v T/\∀a,v=.ref a->∃ob,s.heap.get? a=some ob/\ob.dict=none:=by
 cases x with
 | str z =>
  obtain⟨t,rfl⟩:=r;cases (show T = "str" from ty);exact⟨typeIs_str s z t,λ_ e=>nomatch e⟩
 | int i =>
  obtain⟨t,rfl⟩:=r;cases (show T = "int" from ty);exact⟨typeIs_int s i t,λ_ e=>nomatch e⟩
 | ref p =>
  cases r;rcases ty with⟨rfl,xs,hq⟩|⟨rfl,o,hk,hc,hd⟩|⟨rfl,hk⟩|⟨rfl,S,n,hk⟩
  ·obtain⟨aC,_,pl,_⟩:=I.list hq;refine⟨pl.isList.typeIs,λa e=>?_⟩;cases e;obtain⟨o,n,e,c,hd,_⟩:=pl;exact⟨o,e,hd⟩
  ·refine⟨⟨o,I.ju p o hk,hc⟩,λa e=>?_⟩;cases e;exact⟨o,I.ju _ o hk,hd⟩
  ·have z:∃o,s.heap.get? p=some o/\o.ExactDict:=by
    rcases hk with⟨az,hk⟩|⟨az,hk⟩
    ·obtain⟨_,_,_,_,o,_,_,e,ex,_⟩:=I.bo p _ hk;exact⟨o,e,ex⟩
    ·obtain⟨_,_,_,_,o,_,_,e,ex,_⟩:=I.bo p _ hk;exact⟨o,e,ex⟩
   obtain⟨o,e,ex⟩:=z;refine⟨⟨o,e,ex.1⟩,λa e2=>?_⟩;cases e2;exact⟨o,e,ex.2.1⟩
  ·obtain⟨o,_,_,_,e,ex,_⟩:=I.bo p _ hk;refine⟨⟨o,e,ex.1⟩,λa e2=>?_⟩;cases e2;exact⟨o,e,ex.2.1⟩
 | _=>exact False.elim ty
def Og(K:PySem.W.Frag)(T:String)(r:V->List V->Hp->VK->Prop)(to:TE):TE:=λσ H Q=>to σ H λx H1=>SJ K T x H1/\r x [] H1 Q
def Vz(K:PySem.W.Frag)(T:String)(r:V->List V->Hp->VK->Prop)(to:TE)(t:TA):TE:=λσ H Q=>to σ H λx H1=>SJ K T x H1/\t σ H1 λxs H2=>r x xs H2 Q
variable {o e:Expr} {es:List Expr} {to:TE} {t:TA} {name:Str} {zY dM:Pos} {T id:String} {r:V->List V->Hp->VK->Prop}
theorem vZ(pa:PlainAttrs T)(slot:Slot T name id) (SM:typeOf (.builtin id)=pure (.type "method_descriptor")) (hm:Kp X id r) (ho:PE X o to) (Ca:attributeBase o name X.env (eval o X.env)=eval o X.env:=by rfl) (Cb:(zY.endLine==dM.line)=true:=by rfl):PE X (.Call (.Attribute o name zY) [] [] dM) (Og X.K T r to):=by
 intro aa s σ H Q I h;refine wpAny_Call_method0_late Ca Cb (bX (ho aa s σ H _ I h) ?_);rintro v s1 ⟨x,H1,I1,r1,ty,q1⟩;obtain⟨h1,h2⟩:=B_ I1 r1 ty;exact⟨T,id,pa,slot,SM,h1,h2,Calls.callWith_builtin rfl (PySem.evalArgs_none (hm aa s1 σ H1 x [] v [] Q I1 r1 .nil q1))⟩
theorem xU (pa : PlainAttrs T) (slot : Slot T name id) (SM : typeOf (.builtin id) = pure (.type "method_descriptor")) (hm : Kp X id r) (ho : PE X o to) (ha : PA X (e :: es) t)
    (Ca:attributeBase o name X.env (eval o X.env)=eval o X.env:=by rfl)
    (v3:((backTo dM (starEach (e::es) X.env)).all (λx=>!x.1)&&(backToKw dM (keywordEach [] X.env)).all (λx=>x.1.isSome)
      && decide ((e::es).length+([]:List Keyword).length+(if ([]:List Keyword).isEmpty then 0 else 1)<30))=true:=by rfl)
    (Cb:(zY.endLine==dM.line)=true:=by rfl) (hs:starEach (e::es) X.env=(false,eval e X.env)::starEach es X.env:=by rfl) (Kt:(backTo dM (starEach es X.env)).any (·.1)=false:=by rfl) :
    PE X (.Call (.Attribute o name zY) (e::es) [] dM) (Vz X.K T r to t):=by
  intro aa s σ H Q I h;refine wpAny_Call_method_late Ca v3 Cb rfl (bX (ho aa s σ H _ I h) ?_);rintro v s1 ⟨x,H1,I1,r1,ty,q1⟩;obtain⟨h1,h2⟩:=B_ I1 r1 ty;refine⟨T,id,pa,slot,SM,h1,h2,?_⟩;have hA:=ha dM aa s1 σ H1 _ I1 q1;rw[hs]at hA⊢;refine Calls.callWith_builtin (by show(false||(backTo dM (starEach es X.env)).any (·.1))=false;rw[Kt]<;>rfl) (Calls.evalArgs_plain ?_);exact bX hA λus s2 ⟨vs,H2,I2,r2,q2⟩=>hm aa s2 σ H2 x vs v us Q I2 r1 r2 q2
end
def VA(X:Cx)(id:String)(r:V->List V->Hp->VK->Prop):Prop :=
 ∀(aa:List (Addr×Obj))(s:Shared)(σ:St)(H:Hp)(x:V)(xs:List V)(v:Value)(us:List Value)(Q:VK),Inv X aa σ H s->RelV x v->aL xs us->r x xs H Q ->
  wpAny (model X.prog X.w) X.A (call (.builtin id) (v::us)) (EP X aa σ Q) X.xe s
theorem aL.one{x:V}{us:List Value}(h:aL [x] us):∃u,us=[u]/\RelV x u:=by
 cases h with
 | cons r t=>cases t;exact⟨_,rfl,r⟩
theorem aL.two{x y:V}{us:List Value}(h:aL [x,y] us):∃u v,us=[u,v]/\RelV x u/\RelV y v:=by
 cases h with
 | cons r t=>obtain⟨v,rfl,q⟩:=aL.one t;exact⟨_,v,rfl,r,q⟩
theorem aL.zero:∀{us:List Value},aL [] us->us=[]
 | _,.nil=>rfl
theorem aL.dropLast{xs:List V}{us:List Value}(h:aL xs us):aL xs.dropLast us.dropLast:=by
 induction h with
 | nil=>exact .nil
 | cons r t ih =>
  cases t with
  | nil=>exact .nil
  | cons q t'=>exact .cons r ih
theorem aL.reverse{xs:List V}{us:List Value}(h:aL xs us):aL xs.reverse us.reverse:=by
 induction h with
 | nil=>exact .nil
 | cons r t ih=>rw[Fd,Fd];exact aL.append ih (.cons r .nil)
theorem aL.rep{xs:List V}{us:List Value}(h:aL xs us):∀k:Nat,aL (List.replicate k xs).flatten (List.replicate k us).flatten
 | 0=>.nil
 | k+1=>by
  rw[vC,vC,zr,zr];exact aL.append h (aL.rep h k)
theorem foldl_rep(aC:List Value):∀(k:Nat)(aE:List Value),List.foldl (λx1 x2=>x1++x2) aE.toArray (List.replicate k aC.toArray)=(aE++(List.replicate k aC).flatten).toArray
 | 0,aE=>by simp
 | k+1,aE=>by
  have e:aE.toArray++aC.toArray=(aE++aC).toArray:=by simp
  have e2:(aE++aC)++(List.replicate k aC).flatten=aE++(List.replicate (k+1) aC).flatten:=by
   rw[vC,zr,By]
  rw[<- e2,<- foldl_rep aC k (aE++aC),<- e,vC,List.foldl_cons]
section
variable {X:Cx} {aa:List (Addr×Obj)} {σ:St} {H:Hp} {s:Shared} {l b:Addr} {xs ys zs:List V}
theorem Inv.Ku{aC its':List Value}{n:Nat}{f:Array Value->Array Value}{t':Nat}(I:Inv X aa σ H s)(hH:H l=some (.lst xs)) (e:s.heap.get? l=some {cls:=.type "list",data:=.seq aC.toArray n}) (hf:f aC.toArray=its'.toArray) (hv:aL ys its') (hz:ys.length<=sizeLine):Inv X aa σ (bu H l (.lst ys)) {s with heap:=s.heap.update l (Obj.mapSeq f),toks:=t'}:=by
 have q:=PySem.IsL.update e f;rw[hf]at q;refine I.write (x:=l) (e:=l) (by rw[hH];exact trivial) (.inl rfl) (λb' u hb hu=>(sQ s.heap (Obj.mapSeq f) (fk hb)).trans hu) ⟨_,q⟩ ?_;exact⟨hz,its',_,hv,q⟩
theorem Inv.Oh{aC:List Value}{t':Nat}(I:Inv X aa σ H s)(hv:aL ys aC)(hz:ys.length<=sizeLine):Inv X aa σ (bu H s.heap.objs.size (.lst ys)) {s with heap:=s.heap.push {cls:=.type "list",data:=.seq aC.toArray},toks:=t'} :=
 I.laid (λ_ _ q=>aR _ q) (aq _) ⟨hz,aC,0,hv,cw _ rfl⟩
theorem Inv.fresh(I:Inv X aa σ H s):H s.heap.objs.size=none:=I.bo.fresh (aq _)
theorem Inv.Ad(I:Inv X aa σ H s)(hH:H l=some (.lst xs)):xs.length<=sizeLine/\∃(aC:List Value) (n:Nat),aL xs aC/\xs.length=aC.length/\s.heap.get? l=some {cls:=.type "list",data:=.seq aC.toArray n}:=by
 obtain⟨z,aC,n,r,e⟩:=I.bo l _ hH;exact⟨z,aC,n,r,r.length,e⟩
theorem Cc{n:Nat}(h:n<=sizeLine):Builtin.List.listTooLong n=false:=by
 unfold Builtin.List.listTooLong;exact cx ∅
end
section
variable {X:Cx}
def F2:V->List V->Hp->VK->Prop:=λx vs H Q=>∃l xs y,x=.ref l/\vs=[y]/\H l=some (.lst xs)/\xs.length<sizeLine/\Q .a6 (bu H l (.lst (xs++[y])))
theorem pF:VA X "list.append" F2:=by
 intro aa s σ H x vs v us Q I rx rv h;obtain⟨l,xs,y,rfl,rfl,hH,hz,q⟩:=h;cases rx;obtain⟨u,rfl,ru⟩:=rv.one;obtain⟨z,aC,n,r,hl,e⟩:=I.Ad hH;refine tq F.slot_list_append ⟨_,e,rfl⟩ F.entry_list_append (F.args_list_append_2 _ _) (PySem.list_append l aC.toArray n u (by rw[cg];omega)) ⟨e,?_⟩;refine⟨.a6,_,I.Ku (its':=aC++[u]) hH e (by simp) (r.append (.cons ru .nil)) ?_,rfl,q⟩;rw[dv,List.length_singleton];omega
def Cd:V->List V->Hp->VK->Prop:=λx vs H Q=>∃l xs,x=.ref l/\vs=[]/\H l=some (.lst xs)/\Q .a6 (bu H l (.lst xs.reverse))
theorem v5:VA X "list.reverse" Cd:=by
 intro aa s σ H x vs v us Q I rx rv h;obtain⟨l,xs,rfl,rfl,hH,q⟩:=h;cases rx;have Xr:=rv.zero;subst Xr;obtain⟨z,aC,n,r,hl,e⟩:=I.Ad hH;refine tq F.slot_list_reverse ⟨_,e,rfl⟩ F.entry_list_reverse (F.args_list_reverse_1 _) (AutoSeq1.list_reverse_list_0 l aC.toArray n (by rw[cg];omega)) ⟨e,?_⟩;refine⟨.a6,_,I.Ku (its':=aC.reverse) hH e (by simp) r.reverse ?_,rfl,q⟩;rw[Bv];omega
def SN:R2:=λx y H Q=>∃l b xs zs,x=.ref l/\y=.ref b/\H l=some (.lst xs)/\H b=some (.lst zs)/\xs.length+zs.length<=sizeLine/\∀p,H p=none->Q (.ref p) (bu H p (.lst (xs++zs)))
theorem Kv:iC X (binaryOp .Add) SN:=by
 intro aa s σ H x y v u Q I rx ry h;obtain⟨l,b,xs,zs,rfl,rfl,hH,hB,hz,q⟩:=h;cases rx;cases ry;obtain⟨z,aC,n,r,hl,e⟩:=I.Ad hH;obtain⟨z2,B8,n2,r2,SO,e2⟩:=I.Ad hB;refine PySem.P.add_list e e2 ?_ (by rw[cg,cg];omega);have ea:aC.toArray++B8.toArray=(aC++B8).toArray:=by simp
 rw[ea];exact⟨.ref _,_,I.Oh (t':=s.toks) (r.append r2) (by rw[dv];omega),rfl,q _ I.fresh⟩
def SQ:R2:=λx y H Q=>∃l k xs,x=.ref l/\y=.int k/\H l=some (.lst xs)/\-(2 ^ 63)<=k/\k<2 ^ 63/\xs.length*k.toNat<=sizeLine /\
 ∀p,H p=none->Q (.ref p) (bu H p (.lst (List.replicate k.toNat xs).flatten))
theorem qP{α:Type}(xs:List α)(k:Nat):(List.replicate k xs).flatten.length=k*xs.length:=by
 induction k with
 | zero=>simp
 | succ k ih=>rw[vC,zr,dv,ih,Nat.succ_mul,Nat.add_comm]
theorem Kw:iC X (binaryOp .Mult) SQ:=by
 intro aa s σ H x y v u Q I rx ry h;obtain⟨l,k,xs,rfl,rfl,hH,h1,h2,hz,q⟩:=h;cases rx;obtain⟨t,rfl⟩:=ry;obtain⟨z,aC,n,r,hl,e⟩:=I.Ad hH;have aY:aC.toArray.size*k.toNat<=sizeLine:=by rw[cg,<- hl];exact hz
 have Ce:¬aC.toArray.size*k.toNat>(2 ^ 63-1) / 8:=by
  have:(sizeLine:Nat)<=(2 ^ 63-1) / 8:=by decide
  omega
 have SS:¬(!Builtin.List.listFitsIndex k)=true:=by
  rw[fitsIndex_both h1 h2];exact ao
 have Oi:¬Builtin.List.listTooLong (aC.toArray.size*k.toNat)=true:=by
  rw[Cc aY];exact ao
 have oM:List.foldl (λx1 x2=>x1++x2) #[] (List.replicate (if aC.toArray.isEmpty=true then 0 else k.toNat) aC.toArray)=(List.replicate k.toNat aC).flatten.toArray:=by
  have f0:∀m:Nat,List.foldl (λx1 x2=>x1++x2) #[] (List.replicate m aC.toArray)=(List.replicate m aC).flatten.toArray:=λm=>by
   have:=foldl_rep aC m [];rw[Fh]at this;exact this
  rw[f0]
  cases aC with
  | nil=>simp
  | cons a r'=>rw[aU (by simp)]
 refine wpAny_binaryOp_repeat_ref (T := "list") (U := "int") (by decide) ⟨_,e,rfl⟩ (λs'=>typeIs_int s' k t) noFill_list_mul F.fills_int_mul Fi repeat_list F.slot_int_index.lookup
  (tq Fi (typeIs_int s k t) F.entry_int_rmul (F.args_int_rmul_2 _ _) (int___rmul___int_list k t l aC.toArray n)
   ⟨e,rfl,⟨_,e,rfl⟩,tq F.slot_list_mul ⟨_,e,rfl⟩ F.entry_list_mul (F.args_list_mul_2 _ _) (AutoListH.list___mul___list_int_3 l aC.toArray n k t SS Ce Oi) ⟨e,?_⟩⟩)
 rw[oM];exact⟨.ref _,_,I.Oh (t':=s.toks) (r.rep k.toNat) (by rw[qP,Nat.mul_comm];exact hz),rfl,q _ I.fresh⟩
end
end L2
namespace VB
open PySem PySem.W PySem.Calls PyProof.Rows
theorem lD{P:Params}{h:Heap}:∀(ns:List Int)(vs:List Value),WellAll P h vs (ns.map WData.int)->IntsAre vs ns:=by
 intro ns
 induction ns with
 | nil =>
  intro vs w;rw[s_]at w;cases w;exact .nil
 | cons n ns ih =>
  intro vs w;rw[eM]at w
  cases w with
  | cons a b =>
   cases a;exact .cons _ _ (ih _ b)
theorem Ae{l:OpenLaw}{n:Nat}(hn:l.most=some n){P:Params}{h:Heap}{args:List WData}{vals:List Value}(F3:l.row.toRowW.claim.pre args=true)(Ik:WellAll P h vals args):∃a vs ns,vals=[Value.ref a]/\args=[WData.list (ns.map WData.int)]/\h.get? a=some {cls:=.type "list",data:=.seq vs.toArray}/\IntsAre vs ns/\ns.length<=n:=by
 have Xs:WShape.hasAll [] args [.list .int]=true:=(pre_splitW F3).1;have hc:l.pre.holds [] {args:=args}=true:=(pre_splitW F3).2;obtain⟨d,r,rfl,h1,h2⟩:=hasAllW_cons Xs;obtain rfl:=hasAllW_nil h2;obtain⟨xs,rfl,h3⟩:=hasW_list h1;obtain⟨ns,rfl⟩:=items_int h3
 have aY:ns.length<=n:=by
  unfold OpenLaw.pre at hc
  have h4:(WTm.not (.lt (.lit (.int (n:Int))) (.len (.arg 0)))).holds [] {args:=[.list (ns.map .int)]}=true:=by
   have h4:=(holds_andW hc).1;rw[hn]at h4;exact h4
  have h5:=condW_of h4 (w_not (w_lt w_lit (w_len_list (w_arg rfl))));rw[aZ]at h5;refine Nat.le_of_not_lt λq=>?_;have q':(n:Int)<((ns.length:Nat):Int):=∅
  first
   | (rw[dQ q']at h5;exact absurd h5 (by decide))
   | (simp at h5;omega)
 cases Ik with
 | cons w1 w2 =>
  cases w2
  cases w1 with
  | list ho mQ=>exact⟨_,_,ns,rfl,rfl,ho,lD ns _ mQ,aY⟩
theorem Af(l:OpenLaw)(args:List WData):l.row.toRowW.claim.post args (.bool true) args=true :=
 postW_of (r:=l.row.toRowW) (X:=(true==true))
  (show WShape.has [] (.bool true) .bool=true by first | rfl | decide | simp[WShape.has,WShape.arms,WShape.armsAll])
  (show(WTm.eq .res (.lit (.bool true))).value [] {args:=args,res:=some (.bool true),after:=args}=some (.bool (true==true)) from w_eq_bool (w_res rfl) w_lit) rfl
theorem tX {l : OpenLaw} {n : Nat} {q : Program} {loose : List Str} {XP : (Str -> Option Value) -> Heap -> Prop} {YP : World -> Heap -> Prop} {d : DefRec}
    (hn:l.most=some n) (Oj:d.params.defaults=[])
    (call:∀(w:World)(dz bc:Shared)(mg mb:Str->Option Value)(fa:Addr)(o:Obj)(pm cd doc:Value)(a:Addr)(vs:List Value)(ns:List Int),
      Ground q loose [] XP w dz mg mb bc.heap->YP w bc.heap ->
      bc.heap.get? fa=some o->o.data=.func (docDef d.name d.params d.body d.scope pm cd doc)->bc.heap.CodeRec cd d.name->mg d.name=some (.ref fa) ->
      bc.heap.get? a=some {cls:=.type "list",data:=.seq vs.toArray}->IntsAre vs ns->ns.length<=n->bc.gens=#[] ->
      codeAny (model l.prog w) callerA (.call (.ref fa) ⟨[.ref a],[]⟩) (λr s'=>r=.ok (.ret (.bool true))/\OldK bc.heap s'.heap/\s'.os=bc.os/\AllBare s'.gens) bc) :
    WalkO q loose XP YP l.row.toRowW d [] (λf vs=>PySem.call f vs):=by
  intro w dz bc mg mb G Y fa o pm cd doc dV kV ho hd HY hD Ol hg args vals as F3 Xu F4 Ik Nb;obtain rfl:dV=.none:=Dflts.none hD Oj;obtain rfl:kV=.none:=Dflts.noKw hD;obtain⟨a,vs,ns,rfl,rfl,Kx,hints,aY⟩:=Ae hn F3 Ik;refine enter_call (qh (call w dz bc mg mb fa o pm cd doc a vs ns G Y ho (fd_plain hd) HY Ol Kx hints aY hg) λr s' hq=>?_);obtain⟨rfl,h2,h3,h4⟩:=hq;exact⟨.inl ⟨.bool true,.bool true,[],rfl,λ_=>rfl,.bool true,Af l _,λ_=>⟨List.Pairwise.nil,λ_ hm=>(nomatch hm)⟩⟩,h2,h3,h4⟩
end VB
namespace L2
open PySem PySem.Spec PyProof.Rows
theorem pG:∀{vs:List Value}{ns:List Int},IntsAre vs ns->aL (ns.map V.int) vs
 | _,_,.nil=>.nil
 | _,_,.cons n t h=>.cons ⟨t,rfl⟩ (pG h)
noncomputable def F5(H:Hp):Prop:=∀b,H b=none\/∃o xs,H b=some (.gI o (.lst xs))
theorem Cf{P:Program}{w:World}{K:PySem.W.Frag}{mg mb:Str->Option Value}{CX:xO}{k:Nat}{fa a:Addr}{fd:FuncData}{x:Str}{sp:Sp}{bc:Shared}{vs:List Value}{ns:List Int}(KX:K.In bc.heap)(lP:bc.heap.Ns mainGlobals mg)(hb:bc.heap.Ns builtinsNs mb) (SU:∀x:Str,x≠ "__name__" -> mb x=bootBuiltins x) (SV:bc.heap.NoLimit) (hg:bc.gens=#[]) (ha:bc.heap.get? a=some {cls:=.type "list",data:=.seq vs.toArray}) (hi:IntsAre vs ns) (hl:ns.length<=sizeLine) (hr:fK k callerA) (F:∀base:Heap,K.In base->base.Ns mainGlobals mg->f_ P w K mg base CX k fa fd [x] sp) (Om:∀(s:Shared)(u:Value),BindsTo s fd ⟨[u],[]⟩ [(x,u)]) (z_:∀H:Hp,F5 H->eO K H a (ns.map V.int)->sp [.ref a] H (λv _=>v=.bl true) λ_ _ _=>False) (SW:∀H e s',CX [] H bc (λ_ _ _=>False) e s'->False):codeAny (model P w) callerA (.call (.ref fa) ⟨[.ref a],[]⟩) (λr s'=>r=.ok (.ret (.bool true))/\OldK bc.heap s'.heap/\s'.os=bc.os/\AllBare s'.gens) bc:=by
  have rv:=pG hi;have SX:=hi.length
  have core : ∀ H : Hp, F5 H -> eO K H a (ns.map V.int) -> iB P w H bc.heap -> (∀ b, H b ≠ none -> b = a) -> (H a ≠ none -> K.lookup a = none) ->
      codeAny (model P w) callerA (.call (.ref fa) ⟨[.ref a],[]⟩) (λr s'=>r=.ok (.ret (.bool true))/\OldK bc.heap s'.heap/\s'.os=bc.os/\AllBare s'.gens) bc:=by
    intro H hO hS bo hA hK;have jC:∀{b:Addr}{o:Obj},bc.heap.get? b=some o->H b=none->(qt bc.heap H).get? b=some o:=λe n=>BI e n
    have N2:∀{b:Addr}{o:Obj}{es:Array DictEntry}{ep:Nat},bc.heap.get? b=some o->o.data=.dict es ep->H b=none:=λ{b o es ep} e d=>by
      cases q:H b with
      | none=>rfl
      | some u =>
        have e':b=a:=hA b (by rw[q];simp);subst e';rw[ha]at e;cases e;have d':Data.seq vs.toArray _=Data.dict es ep:=d;cases d'
    have QL:∀{b:Addr}{m:Str->Option Value},bc.heap.Ns b m->(qt bc.heap H).Ns b m:=λ{b m} ⟨o,es,ep,e,d,r⟩=>⟨o,es,ep,jC e (N2 e d),d,r⟩
    have VC:K.In (qt bc.heap H):=λb o e=>jC (KX b o e) (by
      cases q:H b with
      | none=>rfl
      | some u =>
        have e':b=a:=hA b (by rw[q];simp);subst e';rw[hK (by rw[q];simp)]at e;cases e)
    have hM:Mod K mg (qt bc.heap H):=⟨VC,QL lP,⟨mb,QL hb,SU⟩,let ⟨mc,h1,h2⟩:=SV;⟨mc,QL h1,h2⟩⟩;have e0:tL P w K mg (qt bc.heap H) callerA [] bc H:=⟨rfl,hM,λb o e=>Fp e,oE (zK _ _),trivial,λb hb=>absurd (show b∈([]:List Addr) from hb) (by simp),bo,.of_eq hg⟩;refine qh ((F _ VC (QL lP)).run callerA [] bc H ⟨[.ref a],[]⟩ [.ref a] [.ref a] _ _ hr e0 (Om bc (.ref a)) (.cons rfl .nil) (z_ H hO hS)) λr s' h=>?_
    cases r with
    | error e=>exact(SW H e s' h).elim
    | ok fl =>
      cases fl with
      | next=>exact False.elim h
      | brk=>exact False.elim h
      | cont=>exact False.elim h
      | ret u =>
        obtain⟨v,H',os,bare,un,SY,r',q⟩:=h;have q':v=.bl true:=q;subst q';obtain rfl:u=Value.bool true:=r';refine⟨rfl,OldK.of_keep λb o e=>?_,os,bare⟩
        cases q:H b with
        | none=>exact un.keep b o e q (by intro z;exact absurd (show b∈([]:List Addr) from z) (by simp)) (by simp)
        | some u =>
          rcases hO b with z | ⟨ob,xs,z⟩
          · rw[q]at z;cases z
          · have z2:=un.oH b ob _ z;obtain⟨e1,_⟩:=bo b _ z;obtain⟨e2,_⟩:=SY b _ z2;rw[e]at e1;cases e1;exact e2
  cases hk:K.lookup a with
  | some o =>
    have e:=KX a o hk;rw[ha]at e;cases e;refine core (λ_=>none) (λ_=>.inl rfl) (.inr ⟨_,vs.toArray,_,hk,rfl,rfl,rfl,by rw[cg,SX];exact hl,by simpa using rv⟩) (λb u z=>by have z':(none:Option HO)=some u:=z;cases z') (λb z=>absurd rfl z) λz=>absurd rfl z
  | none =>
    refine core (λb=>if b=a then some (.gI {cls:=.type "list",data:=.seq vs.toArray} (.lst (ns.map V.int))) else none) (λb=>?_) (.inl (.inr ⟨{cls:=.type "list",data:=.seq vs.toArray},aT rfl⟩)) (λb u z=>?_) (λb z=>?_) λ_=>hk
    · by_cases hb:b=a
      · exact .inr ⟨_,_,aT hb⟩
      · exact .inl (aU hb)
    · by_cases hb:b=a
      · have z':=(aT hb).symm.trans z;cases z';subst hb;exact⟨ha,by rw[aZ];exact hl,vs,_,rv,ha⟩
      · have z':=(aU hb).symm.trans z;cases z'
    · by_cases hb:b=a
      · exact hb
      · exact absurd (aU hb) z
theorem F6 {l : PySem.W.OpenLaw} {n k : Nat} {q : Program} {loose : List Str} {XP : (Str -> Option Value) -> Heap -> Prop} {YP : World -> Heap -> Prop} {d : DefRec} {K : Params -> PySem.W.Frag} {CX : World -> xO} {sp : World -> Sp} {x : Str}
    (hn:l.most=some n) (Xv:n<=sizeLine) (Oj:d.params.defaults=[]) (hr:fK k callerA)
    (hY:∀(w:World)(h:Heap),YP w h->(K w.params).In h)
    (F:∀(w:World)(mg:Str->Option Value)(fa:Addr)(h:Heap),(K w.params).In h->h.Ns mainGlobals mg->mg d.name=some (.ref fa) ->
      ∃fd:FuncData,(∀(s:Shared)(u:Value),BindsTo s fd ⟨[u],[]⟩ [(x,u)]) /\
        ∀base:Heap,(K w.params).In base->base.Ns mainGlobals mg->f_ l.prog w (K w.params) mg base (CX w) k fa fd [x] (sp w))
    (z_:∀(w:World)(H:Hp)(a:Addr)(ns:List Int),ns.length<=n->F5 H->eO (K w.params) H a (ns.map V.int)->sp w [.ref a] H (λv _=>v=.bl true) λ_ _ _=>False)
    (SW:∀(w:World)(H:Hp)(s:Shared)(e:Value)(s':Shared),CX w [] H s (λ_ _ _=>False) e s'->False) :
    PySem.W.WalkO q loose XP YP l.row.toRowW d [] (λf vs=>PySem.call f vs):=by
  refine VB.tX hn Oj λw dz bc mg mb fa o pm cd doc a vs ns G Y ho hd HY Ol Kx hints aY hg=>?_;have KX:=hY w _ Y;obtain⟨fd,hb,hF⟩:=F w mg fa _ KX G.T.g Ol;exact Cf KX G.T.g G.T.b G.T.builtins G.T.nolimit hg Kx hints (bH aY Xv) hr hF hb (λH hO hS=>z_ w H a ns aY hO hS) λH e s'=>SW w H bc e s'
noncomputable def lQ(s:Stmt):Arguments:=match s with
 | .FunctionDef _ a _ _ _ _ _ _ _ _=>a
 | _=>{posonlyargs:=[],args:=[],vararg:=none,kwonlyargs:=[],kw_defaults:=[],kwarg:=none,defaults:=[]}
noncomputable def eE(s:Stmt):List Stmt:=match s with
 | .FunctionDef _ _ b _ _ _ _ _ _ _=>b
 | _=>[]
noncomputable def bA(s:Stmt):Scope:=match s with
 | .FunctionDef _ _ _ _ _ _ sc _ _ _=>sc
 | _=>{kind:=.function,names:=[],isGenerator:=false,isCoroutine:=false}
abbrev Nc:xO:=λ_ _ _ _ _ _=>False
abbrev E0:XK:=λ_ _ _=>False
theorem Oo{X:Cx}:iV Nc X E0:=λ_ _ _ _ _ _ _ h=>h.elim
structure VD (K:PySem.W.Frag) (x qual:Str) (st:Stmt) (f:Addr) (fd:FuncData):Prop where
 ex:∃(oc:Value) (od:Option Addr) (kV doc pm:Value) (an:Option Addr) (tP ct:Value) (qG:Array (Option Value)),
  fd=PySem.W.fnOf x qual (lQ st) (eE st) (bA st) .none kV doc pm an tP ct/\K.lookup f=some ⟨oc,od,.func fd,qG⟩/\PySem.W.codeIn K tP qual=true
 kp:PySem.W.keepIn K (.ref f)=true
section
variable {P:Program} {w:World} {K:PySem.W.Frag} {mg:Str->Option Value} {base:Heap}
theorem Ky{x qual:Str}{st:Stmt}{f:Addr}{oc:Value}{od an:Option Addr}{qG:Array (Option Value)}{kV doc pm tP ct:Value}(l:K.lookup f=some ⟨oc,od,.func (PySem.W.fnOf x qual (lQ st) (eE st) (bA st) .none kV doc pm an tP ct),qG⟩)(c:PySem.W.codeIn K tP qual=true)(k:PySem.W.keepIn K (.ref f)=true):VD K x qual st f (PySem.W.fnOf x qual (lQ st) (eE st) (bA st) .none kV doc pm an tP ct):=⟨⟨oc,od,kV,doc,pm,an,tP,ct,qG,rfl,l,c⟩,k⟩
end
end L2
end
section
namespace L2
open PySem PySem.Spec PyProof.Rows
section
variable {prog:Program} {w:World} {A:Around} {R:Result->Shared->Prop} {s:Shared}
theorem qQ {elt kj aM : Expr} {ifs : List Expr} {scope : Scope} {pos : Pos} {it aE : Value} {env : Env} (I : Nat -> Shared -> Prop)
    (BS:∀n s,I n s->wpAny (model prog w) A (pyNext it) (λr bc=>match r with
      | none=>R (.ok .next) bc
      | some v => wpAny (model prog w) A (letOwnedTupleGo kj it v) (fun _ Il => wpAny (model prog w) A (assign kj env v) (fun _ FG =>
          wpAny (model prog w) A (forIn ifs true λc r=>if r=true then do let ok <- isTrue c env (eval c env);pure (ForInStep.yield ok) else pure (ForInStep.yield r)) (λok Cg =>
            if ok=true then wpAny (model prog w) A (eval elt env) (λx Ag =>
              wpAny (model prog w) A (call (.builtin "list.append") [aE,x]) (λ_ Ch=>∃m,m<n/\I m Ch) (λ_ _=>False) Ag) (λ_ _=>False) Cg
            else ∃m,m<n/\I m Cg) (λ_ _=>False) FG) (λ_ _=>False) Il) (λ_ _=>False) bc) (λ_ _=>False) s)
    (n:Nat) (h:I n s):codeAny (model prog w) A (.compLoop (.ListComp elt [⟨kj,aM,ifs,0⟩] scope pos) 0 it aE env) R s:=by
  refine codeAny_loop rfl I (λn s hI=>?_) n h;show wpAny _ A ((compTurn (.ListComp elt [⟨kj,aM,ifs,0⟩] scope pos) 0 it aE env).onRaise (λx=>do noteFrame x env;theTreesLotGoes x)) _ _ s;refine wpAny_noted ?_;rw[compTurn_list];refine af (zB (af (kf (BS n s hI) (λr bc F7=>?_) λ_ _ h'=>h'.elim)))
  cases r with
  | none=>exact aj F7
  | some v =>
    refine af (kf F7 (λ_ Il Oq=>?_) λ_ _ h'=>h'.elim);refine af (kf Oq (λ_ FG SZ=>af (kf SZ (λok Cg Ot=>?_) λ_ _ h'=>h'.elim)) λ_ _ h'=>h'.elim)
    cases ok with
    | false=>exact aj ⟨rfl,Ot⟩
    | true =>
      exact af (af (kf Ot (λx Ag S0=>af (kf S0 (λ_ Ch S1=>aj (aj ⟨rfl,S1⟩)) λ_ _ h'=>h'.elim)) λ_ _ h'=>h'.elim))
end
theorem cy{x:Str}:∀(names:List (Str×NameKind))(n:Nat)(aE:List (Str×Addr)),(x,NameKind.cell)∉names->(cellsFrom n names aE).lookup x=aE.lookup x
 | [],_,_,_=>rfl
 | (y,k)::r,n,aE,h=>by
  unfold cellsFrom;split
  ·rename_i hk
   have hk:k=.cell:=eq_of_beq hk;subst hk;rw[cy r (n+1) _ (λz=>h (cZ _ z)),fi];have:(x==y)=false:=qe.mpr λz=>h (by subst z;exact du);rw[this]
  ·exact cy r n aE λz=>h (cZ _ z)
theorem fw{x:Str}{c:Addr}:∀(names:List (Str×NameKind))(n:Nat)(aE:List (Str×Addr)),(x,NameKind.cell)∈names->(cellsFrom n names aE).lookup x=some c->n<=c
 | [],_,_,h,_=>by cases h
 | (y,k)::r,n,aE,h,e=>by
  unfold cellsFrom at e;split at e
  ·by_cases hr:(x,NameKind.cell)∈r
   ·exact Bz (fw r (n+1) _ hr e)
   ·rw[cy r (n+1) _ hr,fi]at e
    have:x=y:=by
     rcases bz.mp h with z | z
     ·exact(Prod.mk.inj z).1
     ·exact absurd z hr
    subst this;simp at e;exact oE e
  ·rename_i hk
   rcases bz.mp h with z | z
   ·exact absurd (by rw[<- (Prod.mk.inj z).2];rfl) hk
   ·exact fw r n aE z e
theorem fy{x:Str}:∀(names:List (Str×NameKind))(n:Nat)(aE:List (Str×Addr)),(x,NameKind.cell)∈names->∃c,(cellsFrom n names aE).lookup x=some c
 | [],_,_,h=>by cases h
 | (y,k)::r,n,aE,h=>by
  unfold cellsFrom;split
  ·by_cases hr:(x,NameKind.cell)∈r
   ·exact fy r (n+1) _ hr
   ·rw[cy r (n+1) _ hr,fi]
    have:x=y:=by
     rcases bz.mp h with z | z
     ·exact(Prod.mk.inj z).1
     ·exact absurd z hr
    subst this;simp
  ·rename_i hk
   rcases bz.mp h with z | z
   ·exact absurd (by rw[<- (Prod.mk.inj z).2];rfl) hk
   ·exact fy r n aE z
theorem fz:∀(names:List (Str×NameKind))(n:Nat)(aE:List (Str×Addr)),(∀x c,aE.lookup x=some c->c<n)->(∀x y c,aE.lookup x=some c->aE.lookup y=some c->x=y)->∀x y c,(cellsFrom n names aE).lookup x=some c->(cellsFrom n names aE).lookup y=some c->x=y
 | [],_,_,_,h=>h
 | (z,k)::r,n,aE,hb,h=>by
  unfold cellsFrom;split
  ·refine fz r (n+1) _ (λx c e=>?_) (λx y c e1 e2=>?_)
   ·rw[fi]at e;split at e
    ·cases e;exact jq _
    ·exact jm (hb x c e)
   ·rw[fi]at e1 e2;split at e1
    ·rename_i hx
     cases e1;split at e2
     ·rename_i hy
      rw[eq_of_beq hx,eq_of_beq hy]
     ·exact absurd (hb y _ e2) (mE _)
    ·split at e2
     ·cases e2;exact absurd (hb x _ e1) (mE _)
     ·exact h x y c e1 e2
  ·exact fz r n aE hb h
theorem eP{x:Str}{c:Addr}:∀(names:List (Str×NameKind))(h:Heap)(aE:List (Str×Addr)),(cellsFrom h.objs.size names aE).lookup x=some c->aE.lookup x=some c\/(h.objs.size<=c/\(pushCells h names).IsCell c none)
 | [],_,_,e=>.inl e
 | (z,k)::r,h,aE,e=>by
  unfold cellsFrom at e;unfold pushCells;split at e
  ·rename_i hk
   rw[aT hk];have e':(cellsFrom (h.push {cls:=.type "cell",data:=.cell none}).objs.size r ((z,h.objs.size)::aE)).lookup x=some c:=by rw[iw];exact e
   rcases eP r (h.push {cls:=.type "cell",data:=.cell none}) _ e' with q | ⟨q1,q2⟩
   ·rw[fi]at q;split at q
    ·cases q;exact .inr ⟨aq _,_,pushCells_keeps _ _ _ _ (cw _ rfl),rfl⟩
    ·exact .inl q
   ·rw[iw]at q1;exact .inr ⟨Bz q1,q2⟩
  ·rename_i hk
   rw[aU hk];exact eP r h aE e
theorem qR {M : Model} {A : Around} {E : Value -> Shared -> Prop} {s : Shared} {scope : Scope} {globals : Addr} {cl : List (Str × Addr)} {qual : Str} {outer : Env} {Q : Env -> Shared -> Prop}
    (hQ:Q {scope:=scope,locals:=s.heap.objs.size,globals:=globals,cells:=cellsFrom (s.heap.objs.size+1) scope.names cl,qual:=qual,func:=none,code:=outer.code,frame:=outer.frame,builtins:=outer.builtins}
      {s with heap:=pushCells (s.heap.push {cls:=.type "dict",data:=.dict #[]}) scope.names}) :
    wpAny M A (newFunctionEnv scope globals cl [] qual none .none (some outer)) Q E s:=by
  simp only[newFunctionEnv,Option.isSome_some,fm];refine af (wpAny_alloc ?_);refine af (wpAny_layCells _ (λname kind cells=>by cases Xw:kind==NameKind.cell<;>simp[Xw]) _ _ _ _ ?_);rw[show({s with heap:=s.heap.push {cls:=.type "dict",data:=.dict #[]}}:Shared).heap.objs.size=s.heap.objs.size+1 from iw ..];rw[zA];exact af (aj (aj hQ))
noncomputable def Cx.block(X:Cx)(scope:Scope)(cl:List (Str×Addr))(C:Addr)(N':List Str)(s:Shared)(H:Hp)(fp:List Addr)(pn:List (Addr×Obj)):Cx :=
 {X with N:=N',dz:=s,mF:=H,env:=compEnvC scope (cellsFrom (C+1) scope.names cl) C X.env,outer:=X.stack,ex:=fp,fn:=λx=>scope.names.lookup x==some .cell,pn:=pn,xe:=λ_ _=>False}
structure Kz (X:Cx) (scope:Scope) (cl:List (Str×Addr)):Prop where
 is:closureFor scope X.env=pure cl
 sub:∀x c,cl.lookup x=some c->X.env.cells.lookup x=some c
 has:∀x,scope.names.lookup x=some .free->∃c,cl.lookup x=some c
theorem dA {env : Env} : ∀ {names : List (Str × NameKind)} {x : Str} {k : NameKind}, names.lookup x = some k ->
    (names.map λ(n,k)=>if (k==NameKind.free&&env.scope.kind == .function&&env.kindOf n==some .cell) then (n,NameKind.cell) else (n,k)).lookup x =
      some (if (k==NameKind.free&&env.scope.kind == .function&&env.kindOf x==some .cell) then .cell else k)
  | [],_,_,h=>by simp at h
  | (n,k')::r,x,k,h=>by
    have ih:=@dA env r x k;show List.lookup x ((if (k'==NameKind.free&&env.scope.kind == .function&&env.kindOf n==some .cell)=true then (n,NameKind.cell) else (n,k'))::_)=_
    cases hx:x==n with
    | true =>
      simp only[fi,hx]at h;cases h;have e:x=n:=by simpa using hx
      subst e;split<;>simp[fi]
    | false =>
      simp only[fi,hx]at h;by_cases hc:(k'==NameKind.free&&env.scope.kind == .function&&env.kindOf n==some .cell)=true
      · rw[aT hc];simp only[fi,hx];exact ih h
      · rw[aU hc];simp only[fi,hx];exact ih h
theorem iW {env : Env} : ∀ {names : List (Str × NameKind)} {x : Str} {k : NameKind},
    (names.map λ(n,k)=>if (k==NameKind.free&&env.scope.kind == .function&&env.kindOf n==some .cell) then (n,NameKind.cell) else (n,k)).lookup x=some k ->
      ∃k',names.lookup x=some k'/\k=(if (k'==NameKind.free&&env.scope.kind == .function&&env.kindOf x==some .cell) then .cell else k')
  | names,x,k,h=>by
    cases q:names.lookup x with
    | some k' =>
      have:=dA (env:=env) q;rw[this]at h;exact⟨k',rfl,(cH h).symm⟩
    | none =>
      exfalso
      induction names with
      | nil=>simp at h
      | cons a r ih =>
        obtain⟨n,k'⟩:=a
        cases hx:x==n with
        | true=>simp[fi,hx]at q
        | false =>
          simp only[fi,hx]at q;have h':List.lookup x ((if (k'==NameKind.free&&env.scope.kind == .function&&env.kindOf n==some .cell)=true then (n,NameKind.cell) else (n,k'))::(r.map λ(n,k)=>if (k==NameKind.free&&env.scope.kind == .function&&env.kindOf n==some .cell) then (n,NameKind.cell) else (n,k)))=some k:=h;by_cases hc:(k'==NameKind.free&&env.scope.kind == .function&&env.kindOf n==some .cell)=true
          · rw[aT hc]at h';simp only[fi,hx]at h';exact ih h' q
          · rw[aU hc]at h';simp only[fi,hx]at h';exact ih h' q
noncomputable def jD(cA:List (Option Nat))(σ:St):St:=cA.map λo=>o.bind λj=>(σ[j]?).join
structure Ci (X:Cx) (scope:Scope) (N':List Str) (cA:List (Option Nat)):Prop where
 len:cA.length=N'.length
 out:∀(i j:Nat)(x:Str),cA[i]?=some (some j)->N'[i]?=some x->X.N[j]?=some x/\scope.names.lookup x=some .free/\(X.env.kindOf x=some .cell\/X.env.kindOf x=some .free)
section
variable {X:Cx} {aa:List (Addr×Obj)} {σ:St} {H:Hp} {s:Shared} {scope:Scope} {cl:List (Str×Addr)} {N':List Str} {cA:List (Option Nat)} {fp:List Addr}
theorem tY{h1:Heap}(I:Inv X aa σ H s)(B2:scope.kind=.function)(xI:∀y∈scope.names,y.2=.cell->scope.names.lookup y.1=some .cell)(cs:Kz X scope cl)(co:Ci X scope N' cA)(hf:∀b∈fp,lB X aa H b)(ho:∀b∈fp,b<s.heap.objs.size)(lP:h1.Ns s.heap.objs.size (λ_=>none))(hk:∀b u,s.heap.get? b=some u->h1.get? b=some u)(oM:∀x c,(cellsFrom (s.heap.objs.size+1) scope.names cl).lookup x=some c->cl.lookup x=some c\/(s.heap.objs.size+1<=c/\h1.IsCell c none))(tk:Nat):Inv (X.block scope cl s.heap.objs.size N' s H fp []) [] (jD cA σ) H {s with heap:=h1,toks:=tk}:=by
 have I1:Inv X aa σ H {s with heap:=h1,toks:=tk}:=I.kept hk
 have HV:∀x c,cl.lookup x=some c->c<s.heap.objs.size:=λx c e=>by
  obtain⟨v,q⟩:=I.cell x c (cs.sub x c e);exact q.lt
 have fr:H s.heap.objs.size=none:=I.bo.fresh (aq _)
 have same:∀x,scope.names.lookup x=some .free->(cellsFrom (s.heap.objs.size+1) scope.names cl).lookup x=cl.lookup x:=λx hx =>
  cy _ _ _ λz=>by have:=xI _ z rfl;rw[hx]at this;cases this
 refine⟨⟨I.ok.mod,B2,I.ok.glob,I.ok.blt,aq _,fz _ _ _ (λx c e=>jm (HV x c e)) (λx y c a b=>I.ok.inj x y c (cs.sub _ _ a) (cs.sub _ _ b)),λx hx=>?_,λx c z e=>?_,I.ok.hd,I.ok.frames,.inl rfl,λb hb=>⟨?_,λx c e=>?_⟩,λb o e=>I.bs b o e,
  bH I.ok.EM I.sz,λb o e hb=>?_,λb hb F8=>?_,I.stack,I.qv⟩,rfl,I.bare,Un.kept hk,⟨_,lP,λi x v e1 e2 e3=>?_⟩,λx c e=>?_,fr,λx c e=>?_,λp hp=>?_,I.bo.kept hk,?_⟩
 ·have hx:(relabel scope X.env).names.lookup x=some .cell\/(relabel scope X.env).names.lookup x=some .free:=hx
  have lE:∃k',scope.names.lookup x=some k'/\(k'=.free\/k'=.cell):=by
   have go:∀k,(k=.cell\/k=.free)->(relabel scope X.env).names.lookup x=some k->∃k',scope.names.lookup x=some k'/\(k'=.free\/k'=.cell):=by
    intro k hk hx;obtain⟨k',e,ek⟩:=iW hx;refine⟨k',e,?_⟩;by_cases z:k'=.free
    ·exact .inl z
    ·rw[aU (by cases k'<;>first | exact absurd rfl z | simp)]at ek;subst ek;rcases hk with hk | hk
     ·exact .inr hk
     ·exact .inl hk
   rcases hx with hx | hx
   ·exact go _ (.inl rfl) hx
   ·exact go _ (.inr rfl) hx
  obtain⟨k',e,F9⟩:=lE;show ∃c,(cellsFrom (s.heap.objs.size+1) scope.names cl).lookup x=some c;rcases F9 with z | z
  ·subst z;rw[same x e];exact cs.has x e
  ·subst z;exact fy _ _ _ (lh e)
 ·have z:(scope.names.lookup x==some .cell)=true:=z;have z:scope.names.lookup x=some .cell:=eq_of_beq z;exact Bz (fw _ _ _ (lh z) e)
 ·exact bW (ho b hb)
 ·rcases oM x c e with q | ⟨q,_⟩
  ·exact(hf b hb).2.2.2.2.1 x c (cs.sub x c q)
  ·have Xx:=ho b hb;intro z;rw[z]at q;exact absurd Xx (Nat.not_lt_of_le (Bz q))
 ·rcases(hf b hb).2.2.2.1 with z | z
  ·exact I.ok.zM b o e z
  ·have h1:=bp e;have h2:=I.ok.EM;exact absurd (eZ h1 (bH h2 z)) (mE _)
 ·rcases bz.mp (I.qu b F8)with z | z
  ·exact(hf b hb).2.1 z
  ·exact(hf b hb).2.2.1 z
 ·have e1:N'[i]?=some x:=e1;unfold jD at e2;rw[dy]at e2
  cases q:cA[i]? with
  | none=>rw[q]at e2;cases e2
  | some oj =>
   rw[q]at e2
   cases oj with
   | none=>cases e2
   | some j =>
    have Ou:(σ[j]?).join=some v:=cH e2
    have S2:σ[j]?=some (some v):=by
     cases r:σ[j]? with
     | none=>rw[r]at Ou;cases Ou
     | some ov=>rw[r]at Ou;cases ov with
      | none=>cases Ou
      | some z=>cases Ou;rfl
    obtain⟨o1,o2,o3⟩:=co.out i j x q e1;obtain⟨m,hn,hl⟩:=I1.loc;obtain⟨u,r,l⟩:=hl j x v o1 S2 (o3.elim (λz=>.inr (.inl z)) λz=>.inr (.inr z));refine⟨u,r,.inr ⟨?_,?_⟩⟩
    ·show(relabel scope X.env).names.lookup x=some .cell\/(relabel scope X.env).names.lookup x=some .free;rw[show(relabel scope X.env).names.lookup x=_ from dA o2];split
     ·exact .inl rfl
     ·exact .inr rfl
    ·obtain⟨c,hc⟩:=cs.has x o2;have oJ:=cs.sub x c hc;rcases l with⟨F9,hm⟩|⟨_,c2,Ij,KA⟩
     ·exfalso;rw[F9]at o3;rcases o3 with o3 | o3<;>cases o3
     ·rw[oJ]at Ij;cases Ij;exact⟨c,(same x o2).trans hc,KA⟩
 ·rcases oM x c e with q | ⟨_,q⟩
  ·exact I1.cell x c (cs.sub x c q)
  ·exact⟨none,q⟩
 ·rcases oM x c e with q | ⟨q,_⟩
  ·exact I1.fJ x c (cs.sub x c q)
  ·exact I.bo.fresh (Bz q)
 ·exact absurd (show p∈([]:List (Addr×Obj)) from hp) (by simp)
 ·show(jD cA σ).length=N'.length;unfold jD;rw[aZ];exact co.len
end
noncomputable def S3:Option TT->TT
 | none=>λ_ H Q=>Q true H
 | some t=>t
def v7(cA:List (Option Nat))(g:TG)(tc:Option TT)(te:TE)(σ:St)(J:It)(H1:Hp)(Q:V->Hp->Prop):Prop :=
 ∀D,H1 D=none->∃W:Nat->Nat->St->Hp->List V->Prop,(∃m,W 0 m (jD cA σ) (bu H1 D (.lst [])) []) /\
  ∀i m τ H ys,W i m τ H ys->H D=some (.lst ys)/\((J.stop i H/\Q (.ref D) H) \/
   (J.go i H/\ys.length<sizeLine/\∀x H',J.NQ i H x H'->g x τ H' λER H2=>S3 tc ER H2 λb H3 =>
    if b=true then te ER H3 λv H4=>H4 D=some (.lst ys)/\∃m',m'<m/\W (i+1) m' ER (bu H4 D (.lst (ys++[v]))) (ys++[v])
    else ∃m',m'<m/\W (i+1) m' ER H3 ys))
def xV(cA:List (Option Nat))(wi:TI)(g:TG)(tc:Option TT)(te:TE):TE:=λσ H Q=>wi σ H λJ H1=>v7 cA g tc te σ J H1 Q
def Ov(X:Cx)(scope:Scope)(N':List Str)(cl:List (Str×Addr))(ifs:List Expr):Option TT->Prop
 | none=>ifs=[]
 | some t=>∃c,ifs=[c]/\∀C s H fp,PT (X.block scope cl C N' s H fp []) c t
structure kr (X:Cx) (scope:Scope) (N':List Str) (cA:List (Option Nat)) (cl:List (Str×Addr)) (tg elt:Expr) (ifs:List Expr) (g:TG) (tc:Option TT) (te:TE):Prop where
 kind:scope.kind=.function
 KB:∀y∈scope.names,y.2=.cell->scope.names.lookup y.1=some .cell
 names:∀y∈scope.names,y.2=.local->scope.names.lookup y.1=some .local
 KC:Kz X scope cl
 S4:Ci X scope N' cA
 tg:∀C s H fp,PG (X.block scope cl C N' s H fp []) tg g
 ifs:Ov X scope N' cl ifs tc
 elt:∀C s H fp,PE (X.block scope cl C N' s H fp []) elt te
section
variable {X:Cx} {scope:Scope} {N':List Str} {cA:List (Option Nat)} {cl:List (Str×Addr)} {tg elt aM:Expr} {ifs:List Expr} {g:TG} {tc:Option TT} {te:TE} {pos:Pos}
theorem tZ {aa : List (Addr × Obj)} {s2 : Shared} {σ : St} {H2 : Hp} {it : Addr} {fp : List Addr} {tn : Nat -> Heap -> Prop} {J : It} {E : Value -> Shared -> Prop} {Q : V -> Hp -> Prop} {RR : Value -> Addr -> Result -> Shared -> Prop}
    (hc:X.calm=true) (ck:kr X scope N' cA cl tg elt ifs g tc te) (I2:Inv X aa σ H2 s2) (T:zP X.prog X.w X.K tg J fp it tn) (tK:tn 0 s2.heap) (f2:∀b∈fp,lB X aa H2 b) (h:v7 cA g tc te σ J H2 Q)
    (Xy:∀(D C:Addr)(H':Hp)(s':Shared)(m:Str->Option Value),Inv X aa σ H' s'->s'.heap.Ns C m->H' C=none->X.dz.heap.objs.size<=C->C≠X.env.locals->C∉X.fs->(∀x c,X.env.cells.lookup x=some c->c≠C)->(∀p∈X.pn++aa,p.1≠C)->Q (.ref D) H'->RR (.ref D) C (.ok .next) s') :
    wpAny (model X.prog X.w) X.A (newList []) (λaE Cg=>wpAny (model X.prog X.w) X.A (newFunctionEnv scope X.env.globals cl [] X.env.qual none .none (some X.env)) (λOw Ag =>
      codeAny (model X.prog X.w) X.A (.compStart (.ListComp elt [⟨tg,aM,ifs,0⟩] scope pos) 0 (.ref it) aE {Ow with scope:=relabel scope X.env}) (RR aE Ow.locals) Ag) E Cg) E s2:=by
  refine e9 ?_;generalize hH:s2.heap.push {cls:=.type "list",dict:=none,data:=.seq ([]:List Value).toArray}=hh;have hD:H2 s2.heap.objs.size=none:=I2.bo.fresh (aq _);have k3:∀b u,s2.heap.get? b=some u->hh.get? b=some u:=λb u e=>by rw[<- hH];exact aR _ e
  have I3:Inv X aa σ (bu H2 s2.heap.objs.size (.lst [])) {s2 with heap:=hh} :=
    I2.laid (t':=s2.toks) k3 (aq _) ⟨jt _,[],0,.nil,by rw[<- hH];exact cw _ rfl⟩
  have f3:∀b∈fp,lB X aa (bu H2 s2.heap.objs.size (.lst [])) b:=λb hb=>by
    obtain⟨o,e,_⟩:=T.obj _ _ tK b hb;exact⟨by rw[ax (bW (bp e))];exact(f2 b hb).1,(f2 b hb).2⟩
  have b3:∀b∈fp,b<hh.objs.size:=λb hb=>by
    obtain⟨o,e,_⟩:=T.obj _ _ tK b hb;exact bp (k3 b o e)
  have QH:tn 0 hh:=T.keep _ _ _ tK λb hb o e=>k3 b o e;obtain⟨W,⟨m0,w0⟩,BS⟩:=h s2.heap.objs.size hD;refine qR (s:={s2 with heap:=hh}) ?_;have k4:∀b u,hh.get? b=some u->(pushCells (hh.push {cls:=.type "dict",data:=.dict #[]}) scope.names).get? b=some u:=λb u e=>pushCells_keeps _ _ b u (aR _ e);have Ox:(pushCells (hh.push {cls:=.type "dict",data:=.dict #[]}) scope.names).Ns hh.objs.size (λ_=>none):=(Heap.Ns.new hh (.type "dict")).keeps (pushCells_keeps _ _)
  have oM:∀x c,(cellsFrom (hh.objs.size+1) scope.names cl).lookup x=some c->cl.lookup x=some c\/(hh.objs.size+1<=c/\(pushCells (hh.push {cls:=.type "dict",data:=.dict #[]}) scope.names).IsCell c none):=λx c e=>by
    have:=eP (x:=x) (c:=c) scope.names (hh.push {cls:=.type "dict",data:=.dict #[]}) cl (by rw[iw];exact e);rw[iw]at this;exact this
  generalize VF:pushCells (hh.push {cls:=.type "dict",data:=.dict #[]}) scope.names=F7 at k4 Ox oM;have QM:tn 0 F7:=T.keep _ _ _ QH λb hb o e=>k4 b o e;have I4:=tY (tk:=s2.toks) I3 ck.kind ck.KB ck.KC ck.S4 f3 b3 Ox k4 oM;generalize hX:X.block scope cl hh.objs.size N' {s2 with heap:=hh} (bu H2 s2.heap.objs.size (.lst [])) fp []=X' at I4;have pH:X'.prog=X.prog:=by rw[<- hX];rfl
  have xw:X'.w=X.w:=by rw[<- hX];rfl
  have xK:X'.K=X.K:=by rw[<- hX];rfl
  have xA:X'.A=X.A:=by rw[<- hX];rfl
  have xc:X'.calm=true:=by rw[<- hX];exact hc
  have F_:X'.env=compEnvC scope (cellsFrom (hh.objs.size+1) scope.names cl) hh.objs.size X.env:=by rw[<- hX];rfl
  have QN:X'.xe=λ_ _=>False:=by rw[<- hX];rfl
  have S5:∀{H':Hp},(∀b∈fp,H' b=none)->∀b∈fp,lB X' [] H' b:=λ{H'} hn b hb=>by
    have z:=I4.ok.QC b (by rw[<- hX];exact hb);exact⟨hn b hb,z.1,I4.ok.zN b (by rw[<- hX];exact hb),.inl (by rw[<- hX];exact hb),z.2,λp hp=>absurd (show p∈([]:List (Addr×Obj)) by rw[<- hX]at hp;exact hp) (by simp)⟩
  have VG:=ck.tg hh.objs.size {s2 with heap:=hh} (bu H2 s2.heap.objs.size (.lst [])) fp;have Oy:=ck.ifs;have Oz:=ck.elt hh.objs.size {s2 with heap:=hh} (bu H2 s2.heap.objs.size (.lst [])) fp;rw[hX]at VG Oz
  have loop : ∀ s4 : Shared, Inv X' [] (jD cA σ) (bu H2 s2.heap.objs.size (.lst [])) s4 -> tn 0 s4.heap ->
      codeAny (model X.prog X.w) X.A (.compLoop (.ListComp elt [⟨tg,aM,ifs,0⟩] scope pos) 0 (.ref it) (.ref s2.heap.objs.size) (compEnvC scope (cellsFrom (hh.objs.size+1) scope.names cl) hh.objs.size X.env)) (RR (.ref s2.heap.objs.size) hh.objs.size) s4:=by
    intro s4 I4 QM;refine qQ (λn s'=>∃i τ H' ys,Inv X' [] τ H' s'/\tn i s'.heap/\(∀b∈fp,H' b=none)/\W i n τ H' ys) ?_ m0 ⟨0,_,_,[],I4,QM,λb hb=>(f3 b hb).1,w0⟩;rintro n s5 ⟨i,τ,H5,ys,I5,MZ,FE,w5⟩;obtain⟨QO,stop | ⟨go,hz,step⟩⟩:=BS i n τ H5 ys w5
    · have td:=T.done X' pH xw xK xc i [] s5 τ H5 (λ_ _=>False) I5 (S5 FE) MZ stop.1;rw[xA]at td;refine bX td ?_;rintro r s6 ⟨rfl,I6⟩;have base:=I6.base;have os:=I6.os;have bo:=I6.bo;have tD:=I6.free;obtain⟨m,hm,_⟩:=I6.loc;rw[F_]at tD hm;rw[<- hX]at base os bo;refine Xy _ _ H5 s6 m (I3.xH (ch:=fp) os base bo I6.bare λb hb=>⟨(f3 b hb).2.2.2.1,(f3 b hb).2.1,(f3 b hb).2.2.2.2.1,(f3 b hb).2.2.2.2.2⟩) hm tD I3.sz (kc I3.lt) (I3.Nz (aq _)) (λx c e z=>?_) (λp hp z=>?_) stop.2
      · obtain⟨v,q⟩:=I3.cell x c e;exact absurd q.lt (by rw[z];exact mE _)
      · exact absurd (bp (I3.pin p hp).1) (by rw[z];exact mE _)
    · have ti:=T.item X' pH xw xK xc i [] s5 τ H5 (λ_ _=>False) I5 (S5 FE) MZ go;rw[xA]at ti;refine bX ti ?_;rintro r s6 ⟨u,rfl,h6⟩;refine bX h6 ?_;rintro _ s7 ⟨x,H7,I7,r7,y7,S7,OA⟩;have Xz:=I7.pinned (S5 OA) (T.obj _ _ S7);have ga:=VG _ s7 τ H7 x u _ Xz r7 (step x H7 y7);rw[pH,xw,xA,QN,F_]at ga;refine bX ga ?_;rintro _ s8 ⟨Im,H8,I8,q8⟩
      have d_:∀{QP:St}{H9:Hp}{s9:Shared}{S8:List V},Inv X' ([]++kl fp s7.heap) QP H9 s9->(∃m',m'<n/\W (i+1) m' QP H9 S8)->∃m',m'<n/\∃i τ H' ys,Inv X' [] τ H' s9/\tn i s9.heap/\(∀b∈fp,H' b=none)/\W i m' τ H' ys:=λ{QP H9 s9 S8} I9 w9=>by
        obtain⟨m',hm,w9⟩:=w9;refine⟨m',hm,i+1,QP,H9,S8,I9.gU,T.keep _ _ _ S7 λb hb o e=>(I9.pin (b,o) (gP _ (gP _ (fY hb e)))).1,λb hb=>?_,w9⟩;obtain⟨o,e,d⟩:=T.obj _ _ S7 b hb;exact(I9.pin (b,o) (gP _ (gP _ (fY hb e)))).2.1
      have dR:∀b s9,TP X' ([]++kl fp s7.heap) Im (λb H3 =>
        if b=true then te Im H3 λv H4=>H4 s2.heap.objs.size=some (.lst ys)/\∃m',m'<n/\W (i+1) m' Im (bu H4 s2.heap.objs.size (.lst (ys++[v]))) (ys++[v])
        else ∃ m', m' < n /\ W (i + 1) m' Im H3 ys) b s9 -> (if b = true then wpAny (model X.prog X.w) X.A (eval elt (compEnvC scope (cellsFrom (hh.objs.size + 1) scope.names cl) hh.objs.size X.env)) (fun x Ag =>
              wpAny (model X.prog X.w) X.A (call (.builtin "list.append") [.ref s2.heap.objs.size,x]) (λ_ Ch=>∃m,m<n/\∃i τ H' ys,Inv X' [] τ H' Ch/\tn i Ch.heap/\(∀b∈fp,H' b=none)/\W i m τ H' ys) (λ_ _=>False) Ag) (λ_ _=>False) s9
            else ∃m,m<n/\∃i τ H' ys,Inv X' [] τ H' s9/\tn i s9.heap/\(∀b∈fp,H' b=none)/\W i m τ H' ys):=by
        rintro b s9 ⟨H9,I9,q9⟩
        cases b with
        | false=>rw[aU (by simp)]at q9⊢;exact d_ I9 q9
        | true =>
          rw[aT rfl]at q9⊢;have ge:=Oz _ s9 Im H9 _ I9 q9;rw[pH,xw,xA,QN,F_]at ge;refine bX ge ?_;rintro v QQ ⟨y,XA,XB,XC,XD,XE⟩;have ap:=pF (X:=X') _ QQ Im XA (.ref s2.heap.objs.size) [y] (.ref s2.heap.objs.size) [v] (λ_ H'=>∃m',m'<n/\W (i+1) m' Im H' (ys++[y])) XB rfl (.cons XC .nil) ⟨_,ys,y,rfl,rfl,XD,hz,XE⟩;rw[pH,xw,xA,QN]at ap;exact bX ap λ_ S9 ⟨_,H11,XF,_,XG⟩=>d_ XF XG
      cases tc with
      | none =>
        have ei:ifs=[]:=Oy;subst ei;exact wpAny_tests_nil (dR true s8 ⟨H8,I8,q8⟩)
      | some t =>
        obtain⟨c,ei,pt⟩:=Oy;subst ei;have pt:=pt hh.objs.size {s2 with heap:=hh} (bu H2 s2.heap.objs.size (.lst [])) fp;rw[hX]at pt;refine wpAny_tests_one ?_;have gt:=pt _ s8 Im H8 _ I8 q8;rw[pH,xw,xA,QN,F_]at gt;exact bX gt λb s9 q=>dR b s9 q
  have Io:=loop _ I4 QM;exact codeAny_compStart_list Io (T.self _ 0 _ _ _ QM Io)
end
section
variable {X:Cx} {scope:Scope} {N':List Str} {cA:List (Option Nat)} {cl:List (Str×Addr)} {tg elt aM:Expr} {ifs:List Expr} {g:TG} {tc:Option TT} {te:TE} {wi:TI} {pos:Pos}
theorem Ga(hc:X.calm=true)(hi:PI X tg aM wi)(ck:kr X scope N' cA cl tg elt ifs g tc te)(hs:∀x,foldedSetIterable aM X.env x=pure x:=by intro _;rfl):PE X (.ListComp elt [⟨tg,aM,ifs,0⟩] scope pos) (xV cA wi g tc te):=by
 intro aa s σ H Q I h;rw[eval_ListComp];refine wpAny_comprehension_free (use:=none) rfl hs ck.KC.is ck.kind ck.names (bX (hi aa s σ H _ I h) λv s1 h1=>bX h1 λQF s2 h2=>?_);obtain⟨it,fp,tn,J,H2,e,I2,T,tK,f2,hC⟩:=h2;subst e;refine tZ (Q:=Q) (RR:=λaE C=>compPost (model X.prog X.w) X.A X.xe none (EP X aa σ Q) aE C) hc ck I2 T tK f2 hC ?_;intro D C H' s' m I' hm Cj S_ QR VH Ta Tc q;refine⟨m,hm,λh' Td=>?_⟩;exact⟨.ref D,H',I'.turned (t':=s'.toks) (λb o hb e=>Td.extBut b o hb e) Cj (fk (fk QR)) (.inr S_) Ta Tc,rfl,q⟩
theorem Gb{y:Str}{py OB:Pos}{i:Nat}(hc:X.calm=true)(hN:X.N.Nodup)(hy:X.N[i]?=some y)(hk:X.env.kindOf y=some .local)(OC:swapsWith (.ListComp elt [⟨tg,aM,ifs,0⟩] scope pos) (some (.Name y py)) OB.line X.env=pure true)(hi:PI X tg aM wi)(ck:kr X scope N' cA cl tg elt ifs g tc te)(hs:∀x,foldedSetIterable aM X.env x=pure x:=by intro _;rfl):PS X (.Assign [.Name y py] (.ListComp elt [⟨tg,aM,ifs,0⟩] scope pos) OB) (λD σ H=>xV cA wi g tc te σ H λv H'=>D.nx (σ.set i (some v)) H'):=by
 intro aa s σ H D I h;rw[exec_Assign_Name_used _ _ _ _ OC];refine af (zB (af ?_));show wpAny _ X.A (do let _ <- comprehension (.ListComp elt [⟨tg,aM,ifs,0⟩] scope pos) scope X.env _ (newList []) false (eval aM X.env) (some (assign (.Name y py) X.env))) _ _ s;refine af (kf (wpAny_comprehension_free (use:=some (assign (.Name y py) X.env)) (Q:=λ_ s'=>SP X aa D .next s') rfl hs ck.KC.is ck.kind ck.names (bX (hi aa s σ H _ I h) λv s1 h1=>bX h1 λQF s2 h2=>?_)) (λ_ s' hq=>aj (aj hq)) λ_ _ e=>e);obtain⟨it,fp,tn,J,H2,e,I2,T,tK,f2,hC⟩:=h2;subst e;refine tZ (Q:=λv H'=>D.nx (σ.set i (some v)) H') (RR:=λaE C=>compPost (model X.prog X.w) X.A X.xe (some (assign (.Name y py) X.env)) (λ_ s'=>SP X aa D .next s') aE C) hc ck I2 T tK f2 hC ?_;intro D' C H' s' m I' hm Cj S_ QR VH Ta Tc q;show wpAny _ X.A (assign (.Name y py) X.env (.ref D')) _ _ s';obtain⟨o,es,ep,ho,hd,OD⟩:=hm
 have Ip:Inv X (aa++[(C,o)]) σ H' s':=I'.qw λp hp=>(iu.mp hp).elim (λz=>I'.pin p (gP _ z)) λz=>by
  have e:p=(C,o):=by simpa using z
  subst e;exact⟨ho,Cj,QR,VH,λv z=>by rw[hd]at z;cases z⟩
 have st:=lN (pos:=py) hN hy (.inl hk) (.inr hk) _ s' σ H' (.ref D') (.ref D') (λcU H'=>D.nx cU H') Ip rfl q;refine bX st ?_;rintro _ M_ ⟨Te,XH,VI,XJ⟩;have pc:=VI.pin (C,o) (by simp);refine⟨m,⟨o,es,ep,pc.1,hd,OD⟩,λh' Td=>?_⟩;exact⟨Te,XH,VI.gU.turned (t':=M_.toks) (λb o hb e=>Td.extBut b o hb e) pc.2.1 QR (.inr S_) Ta Tc,XJ⟩
end
end L2
end
section
namespace L2
open PySem PySem.Spec PyProof.Rows
section
variable {prog:Program} {w:World} {A:Around} {E:Value->Shared->Prop} {s:Shared}
noncomputable def pI(prog:Program)(w:World)(A:Around)(s:Shared)(it:Addr)(x:Value)(after:Heap->Prop):Prop :=
 ∀(Q:Value->Shared->Prop)(E:Value->Shared->Prop),(∀h',after h'->Heap.SameBut it s.heap h'->Q x {s with heap:=h'})->wpAny (model prog w) A (Builtin.SmallTypes.nextOf (.ref it)) Q E s
noncomputable def t4(prog:Program)(w:World)(A:Around)(s:Shared)(it:Addr):Prop :=
 ∀(Q:Value->Shared->Prop)(E:Value->Shared->Prop),(∀h' e,Heap.ExtBut it s.heap h'->(∃o,h'.get? e=some o/\o.cls=.type "StopIteration")->E (.ref e) {s with heap:=h'}) ->
  wpAny (model prog w) A (Builtin.SmallTypes.nextOf (.ref it)) Q E s
theorem v8{it l:Addr}{i:Nat}{items:Array Value}{x:Value}(hit:s.heap.IsListIter it l i)(hl:s.heap.IsList l items)(hx:items[i]?=some x):pI prog w A s it x (λh=>h.IsListIter it l (i+1)):=λQ E hq=>wpAny_nextOf_list_item hit hl hx hq
theorem v9{it l:Addr}{i:Nat}{items:Array Value}(hh:A.handled=none)(hit:s.heap.IsListIter it l i)(hl:s.heap.IsList l items)(hx:items[i]?=none):t4 prog w A s it:=λQ E hq=>wpAny_nextOf_list_end hh hit hl hx hq
theorem Ah{it t:Addr}{i:Nat}{items:Array Value}{x:Value}(hit:s.heap.IsTupleIter it t i)(ht:s.heap.IsTuple t items)(hx:items[i]?=some x):pI prog w A s it x (λh=>h.IsTupleIter it t (i+1)):=by
 intro Q E hq;obtain⟨o,e1,e2,e3⟩:=id hit;obtain⟨ot,t1,_,nt,t2⟩:=ht;unfold Builtin.SmallTypes.nextOf;refine af (mi (name:=Str.ofString "__next__") hit.typeIs EY ?_);refine iP EY hit.typeIs F.entry_tuple_iterator_next ?_ (F.args_tuple_iterator_next_1 _);show wpAny _ _ (field (.ref it) 0 >>= _) _ _ s;refine af (eD e1 e3 (x:=.ref t) rfl ?_);show wpAny _ _ (if (Value.ref t==Value.none)=true then _ else _) _ _ s;rw[aU (by intro z;cases z)];refine af (eD e1 e3 (x:=.int i 0) rfl (af (sZ t1 t2 ?_)));simp only[mw,hx];refine af (mC e1 e3 (by simp) (aj ⟨x,rfl,aj (hq _ ⟨_,mj _ e1 (vA (lr e3 _)),(BA ..).trans e2,?_⟩ (lq ..))⟩));rw[lr e3];simp[rawInt]
theorem Ai{it t:Addr}{i:Nat}{items:Array Value}(hh:A.handled=none)(hit:s.heap.IsTupleIter it t i)(ht:s.heap.IsTuple t items)(hx:items[i]?=none):t4 prog w A s it:=by
 intro Q E hq;obtain⟨o,e1,e2,e3⟩:=id hit;obtain⟨ot,t1,_,nt,t2⟩:=ht;unfold Builtin.SmallTypes.nextOf;refine af (mi (name:=Str.ofString "__next__") hit.typeIs EY ?_);refine iP EY hit.typeIs F.entry_tuple_iterator_next ?_ (F.args_tuple_iterator_next_1 _);show wpAny _ _ (field (.ref it) 0 >>= _) _ _ s;refine af (eD e1 e3 (x:=.ref t) rfl ?_);show wpAny _ _ (if (Value.ref t==Value.none)=true then _ else _) _ _ s;rw[aU (by intro z;cases z)];refine af (eD e1 e3 (x:=.int i 0) rfl (af (sZ t1 t2 ?_)));simp only[mw,hx];refine af (oF (af (mC e1 e3 (by simp) ?_)));show wpAny _ _ (newExc (.type "StopIteration") [] >>= _) _ _ _;refine af ?_;simp only[newExc,newTuple];refine af (e9 ?_ (by size_fits));refine af (m:=firstArgMember _ _) (wpAny_of_eq (a:=Value.none) (by first | rfl | (simp only[firstArgMember];rfl)) (e9 ?_ (by size_fits)));simp only[raiseNew];refine af (wpAny_handled ?_)
 first | rw[show A.in1.handled=none from hh] | rw[hh]
 exact af (aj (wpAny_throw (hq _ _ (((lq ..).extBut.push _).push _) ⟨_,cw _ rfl,rfl⟩)))
end
theorem t5{h:Heap}{o:Obj}{b:Addr}(hb:b≠h.objs.size):(h.push o).get? b=h.get? b:=Heap.get?_push_ne h b o hb
theorem Inv.xW{X:Cx}{aa:List (Addr×Obj)}{σ:St}{H:Hp}{s:Shared}{h':Heap}{t':Nat}{ch:List Addr}(I:Inv X aa σ H s)(k:∀b o,b∉ch->s.heap.get? b=some o->h'.get? b=some o)(hf:∀b∈ch,lB X aa H b):Inv X aa σ H {s with heap:=h',toks:=t'}:=by
 have NB:∀b u,H b=some u->b∉ch:=λb u e z=>by rw[(hf b z).1]at e;cases e
 refine I.step (g':=s.gens) (d':=s.drawn) (ch:=ch) (λb hb=>⟨(hf b hb).2.2.2.1,(hf b hb).2.1,(hf b hb).2.2.2.2.1,(hf b hb).2.2.2.2.2⟩) (λb o _ _ hc e _=>k b o hc e) (λb o _ _ hc e _=>⟨o.slots,k b o hc e⟩) (λ_ _ _ _ n=>n)
  (λb o hc e=>⟨o,k b o hc e⟩) (λ_ _ e=>e) (λ_ _ _ e=>e) (λb ps e=>⟨#[],by rw[e];simp⟩) (λm hm=>?_) (λb u e=>?_) I.bare
 ·obtain⟨o,es,ep,ho,r⟩:=hm;exact⟨o,es,ep,k _ o (λz=>(hf _ z).2.1 rfl) ho,r⟩
 ·refine(I.bo b u e).tB (λc v hc q=>k c v ?_ q) (λ_ q=>q) λ_ _ q=>q;rcases hc with z | z
  ·rw[z];exact NB b u e
  ·exact NB c _ z
def sJ(K:PySem.W.Frag)(H:Hp)(l:Bool)(a:Addr)(xs:List V):Prop:=if l=true then eO K H a xs else fF K H a xs
noncomputable def jE(l:Bool)(h:Heap)(it a:Addr)(i:Nat):Prop:=if l=true then h.IsListIter it a i else h.IsTupleIter it a i
theorem jE.at{l:Bool}{h h':Heap}{it a:Addr}{i:Nat}(x:jE l h it a i)(e:∀o,h.get? it=some o->h'.get? it=some o):jE l h' it a i:=by
 cases l with
 | true=>exact Heap.IsListIter.at (show h.IsListIter it a i from x) e
 | false=>exact Heap.IsTupleIter.at (show h.IsTupleIter it a i from x) e
theorem jE.obj{l:Bool}{h:Heap}{it a:Addr}{i:Nat}(x:jE l h it a i):∃o,h.get? it=some o/\o.data=.fields #[.ref a,.int i 0]:=by
 cases l with
 | true=>obtain⟨o,e,_,d⟩:=(show h.IsListIter it a i from x);exact⟨o,e,d⟩
 | false=>obtain⟨o,e,_,d⟩:=(show h.IsTupleIter it a i from x);exact⟨o,e,d⟩
end L2
end
section
namespace L2
open PySem PySem.Spec PyProof.Rows
section
variable {prog:Program} {w:World} {A:Around} {E:Value->Shared->Prop} {s:Shared}
structure ZA (z ti to i j:Addr):Prop where
 tz:ti≠z
 oz:to≠z
 iz:i≠z
 jz:j≠z
 tt:ti≠to
 di:ti≠i
 dj:ti≠j
 oi:to≠i
 oj:to≠j
 ij:i≠j
abbrev Zp(h:Heap)(z ti to:Addr)(f0 f1:Value):Prop :=
 h.get? z=some {cls:=.type "zip",dict:=none,data:=.fields #[f0,f1,.bool false,.ref ti,.ref to],slots:=#[]}
noncomputable def Iq(h:Heap)(z ti to:Addr):Prop:=∃f0 f1,(f0=.none\/∃p:Nat,f0=rawInt p)/\Zp h z ti to f0 f1
theorem mS{z ti to:Addr}{Q:Bool->Shared->Prop}(hz:Iq s.heap z ti to)(hQ:∀b h',Iq h' z ti to->Heap.SameBut z s.heap h'->Q b {s with heap:=h'}):wpAny (model prog w) A (Builtin.SmallTypes.ownedTupleIsFree (.ref z)) Q E s:=by
 obtain⟨f0,f1,hf,hz⟩:=hz;unfold Builtin.SmallTypes.ownedTupleIsFree;rcases hf with rfl | ⟨p,rfl⟩
 ·exact af (eD hz rfl (x:=.none) rfl (aj (hQ true s.heap ⟨_,_,.inl rfl,hz⟩ (.refl _ _))))
 ·refine af (eD hz rfl (x:=rawInt p) rfl ?_);show wpAny _ _ (loadIfAlive _ >>= _) _ _ _;have al:∀{b:Addr}{R:Option Obj->Shared->Prop},R (s.heap.get? b) s->wpAny (model prog w) A (loadIfAlive b) R E s:=λh _ _ _=>h;refine af (al ?_)
  cases s.heap.get? (Int.toNat p)with
  | none=>exact aj (hQ true s.heap ⟨_,_,.inr ⟨p,rfl⟩,hz⟩ (.refl _ _))
  | some o =>
   show wpAny _ _ (field (.ref z) 1 >>= _) _ _ _;refine af (eD hz rfl (x:=f1) rfl ?_);by_cases hb:(f1 != .bool true)=true
   ·rw[aT hb];exact af (sT hz (by simp) λh' z1 s1=>aj (hQ false h' ⟨_,_,.inr ⟨p,rfl⟩,z1⟩ s1))
   ·rw[aU hb];exact aj (hQ false s.heap ⟨_,_,.inr ⟨p,rfl⟩,hz⟩ (.refl _ _))
theorem KD{z ti to a:Addr}{tg:Expr}{Q:Unit->Shared->Prop}(hz:Iq s.heap z ti to)(hQ:∀h',Iq h' z ti to->Heap.SameBut z s.heap h'->Q () {s with heap:=h'}):wpAny (model prog w) A (letOwnedTupleGo tg (.ref z) (.ref a)) Q E s:=by
 obtain⟨f0,f1,hf,hz⟩:=hz;have h0:=hQ s.heap ⟨f0,f1,hf,hz⟩ (.refl _ _)
 have lE:∀c:Bool,wpAny (model prog w) A (if c=true then (do rule "for.unpacks-the-owned-tuple";setField (.ref z) 0 .none) else pure ()) Q E s:=λc=>by
  cases c with
  | false=>exact aj h0
  | true=>exact af (oF (sT hz (by simp) λh' z1 s1=>hQ h' ⟨_,_,.inl rfl,z1⟩ s1))
 unfold letOwnedTupleGo
 cases tg<;>first
  | exact aj h0
  | exact af (zF hz (lE _))
theorem Ck {z ti to i j : Addr} {x y p q : Value} {st1 tK : Heap -> Prop} {Q : Option Value -> Shared -> Prop} (D : ZA z ti to i j) (zz : Iq s.heap z ti to) (yi : IsPair s.heap ti (.ref i) (.ref j)) (yo : IsPair s.heap to p q)
    (n1:∀h',(∀b o,b≠z->s.heap.get? b=some o->h'.get? b=some o)->pI prog w A.in1 {s with heap:=h'} i x st1)
    (n2:∀h',(∀b o,b≠z->b≠to->b≠i->s.heap.get? b=some o->h'.get? b=some o)->pI prog w A.in1 {s with heap:=h'} j y tK)
    (k1:∀h h',st1 h->(∀o,h.get? i=some o->h'.get? i=some o)->st1 h') (k2:∀h h',tK h->(∀o,h.get? j=some o->h'.get? j=some o)->tK h')
    (hQ:∀h',Iq h' z ti to->(∃p q,IsPair h' to p q)->st1 h'->tK h'->h'.get? s.heap.objs.size=some {cls:=.type "tuple",data:=.seq #[x,y]} ->
      (∀b o,b≠z->b≠to->b≠i->b≠j->s.heap.get? b=some o->h'.get? b=some o)->Q (some (.ref s.heap.objs.size)) {s with heap:=h'}) :
    wpAny (model prog w) A (pyNext (.ref z)) Q E s:=by
  have Tf:=zz;obtain⟨f0,f1,hf,z0⟩:=Tf;have hT:s.TypeIs (.ref z) "zip" := ⟨_,z0,rfl⟩;obtain⟨hp,g,d,tk,os⟩:=s;unfold pyNext;refine af (zC (mi (name:=Str.ofString "__next__") hT BE (iP BE hT F.entry_zip_next ?_ (F.args_zip_next_1 _))));show wpAny _ _ (field (.ref z) 2 >>= _) _ _ _;refine af (eD z0 rfl (x:=.bool false) rfl ?_);show wpAny _ _ (field (.ref z) 3 >>= _) _ _ _;refine af (eD z0 rfl (x:=.ref ti) rfl ?_);refine af (sZ yi rfl ?_);show wpAny _ _ (Builtin.SmallTypes.ownedTupleIsFree (.ref z) >>= _) _ _ _;refine af (mS (s:=⟨hp,g,d,tk,os⟩) zz λfr e0 zz s0=>?_);have s0:Heap.SameBut z hp e0:=s0;clear z0 hf f0 f1;obtain⟨f0,f1,hf,zz⟩:=zz
  cases fr with
  | false =>
    refine af ?_;simp only[List.forIn_toArray,vH,zA];refine af (af (fX ?_));show wpAny _ _ (Builtin.SmallTypes.nextOf (.ref i) >>= _) _ _ _;refine af (n1 e0 (λb o hb=>s0.extBut b o hb) _ _ λe2 a2 s2=>aj (aj ?_));have s2:Heap.SameBut i e0 e2:=s2;refine af (af (fX ?_));show wpAny _ _ (Builtin.SmallTypes.nextOf (.ref j) >>= _) _ _ _;refine af (n2 e2 (λb o b1 b2 b3 u=>s2.extBut b o b3 (s0.extBut b o b1 u)) _ _ λe4 a4 s4=>aj (aj (aj ?_)));have s4:Heap.SameBut j e2 e4:=s4;have sz:e4.objs.size=hp.objs.size:=by rw[s4.1,s2.1,s0.1]
    refine af (wpAny_newTuple (aj ⟨_,rfl,aj ?_⟩) (by show 2<=sizeLine;decide));show Q (some (.ref e4.objs.size)) ⟨e4.push {cls:=.type "tuple",data:=.seq #[x,y]},g,d,tk,os⟩;have t8:(e4.push {cls:=.type "tuple",data:=.seq #[x,y]}).get? e4.objs.size=some {cls:=.type "tuple",data:=.seq #[x,y]}:=cw _ rfl;have up:∀b o,b≠i->b≠j->e0.get? b=some o->(e4.push {cls:=.type "tuple",data:=.seq #[x,y]}).get? b=some o:=λb o b1 b2 u=>aR _ (s4.extBut b o b2 (s2.extBut b o b1 u));rw[sz]at t8⊢
    exact hQ _ ⟨f0,f1,hf,up _ _ D.iz.symm D.jz.symm zz⟩ ⟨_,_,up _ _ D.oi D.oj (s0.extBut _ _ D.oz yo)⟩ (k1 e2 _ a2 λo u=>aR _ (s4.extBut _ _ D.ij u)) (k2 e4 _ a4 λo u=>aR _ u) t8
      λb o b1 b2 b3 b4 u=>up b o b3 b4 (s0.extBut b o b1 u)
  | true =>
  show wpAny _ _ (rule _ >>= _) _ _ _;refine af (oF (af (eD (s:=⟨e0,g,d,tk,os⟩) zz rfl (x:=.ref to) rfl ?_)));refine af (sT zz (by simp) λe1 z1 s1=>?_);have s1:Heap.SameBut z hp e1:=s0.trans s1
  replace z1:Zp e1 z ti to .ellipsis f1:=z1
  refine af ?_;simp only[List.zipIdx_cons,List.zipIdx_nil,vH,zA];refine af (af (wpAny_onRaise ?_));show wpAny _ _ (Builtin.SmallTypes.nextOf (.ref i) >>= _) _ _ _;refine af (n1 e1 (λb o hb=>s1.extBut b o hb) _ _ λe2 a2 s2=>aj ?_);have s2:Heap.SameBut i e1 e2:=s2;have o2:IsPair e2 to p q:=s2.extBut _ _ D.oi (s1.extBut _ _ D.oz yo);refine af (sZ o2 rfl ?_);refine af (JA (s:=⟨e2,g,d,tk,os⟩) o2 λe3 o3 s3=>?_);have s3:Heap.SameBut to e2 e3:=s3
  replace o3:IsPair e3 to x q:=o3
  refine af (wpAny_letGo (aj ?_));refine af (af (wpAny_onRaise ?_));show wpAny _ _ (Builtin.SmallTypes.nextOf (.ref j) >>= _) _ _ _;refine af (n2 e3 (λb o b1 b2 b3 u=>s3.extBut b o b2 (s2.extBut b o b3 (s1.extBut b o b1 u))) _ _ λe4 a4 s4=>aj ?_);have s4:Heap.SameBut j e3 e4:=s4;have o4:IsPair e4 to x q:=s4.extBut _ _ D.oj o3;refine af (sZ o4 rfl ?_);refine af (JA (s:=⟨e4,g,d,tk,os⟩) o4 λe5 o5 s5=>?_);have s5:Heap.SameBut to e4 e5:=s5
  replace o5:IsPair e5 to x y:=o5
  refine af (wpAny_letGo (aj (aj ?_)));refine af (sZ o5 rfl ?_);refine af (wpAny_newTuple ?_);have sz:e5.objs.size=hp.objs.size:=by rw[s5.1,s4.1,s3.1,s2.1,s1.1]
  have z5:Zp e5 z ti to .ellipsis f1:=s5.extBut _ _ D.oz.symm (s4.extBut _ _ D.jz.symm (s3.extBut _ _ D.oz.symm (s2.extBut _ _ D.iz.symm z1)))
  have XM:∀b o,b≠z->b≠to->b≠i->b≠j->hp.get? b=some o->e5.get? b=some o:=λb o b1 b2 b3 b4 u =>
    s5.extBut _ _ b2 (s4.extBut _ _ b4 (s3.extBut _ _ b2 (s2.extBut _ _ b3 (s1.extBut _ _ b1 u))))
  have VJ:z<e5.objs.size:=bp z5;show wpAny _ _ (Builtin.SmallTypes.ownedTupleHandOut (.ref z) (.ref e5.objs.size) >>= _) _ _ _;refine af ?_;unfold Builtin.SmallTypes.ownedTupleHandOut;have z6:Zp (e5.push {cls:=.type "tuple",data:=.seq #[x,y]}) z ti to .ellipsis f1:=aR _ z5;refine af (sT z6 (by simp) λe7 z7 s7=>?_);have s7:Heap.SameBut z (e5.push {cls:=.type "tuple",data:=.seq #[x,y]}) e7:=s7
  replace z7:Zp e7 z ti to (rawInt e5.objs.size) f1:=z7
  refine sT (s:=⟨e7,g,d,tk,os⟩) z7 (by simp) λe8 z8 s8=>?_;have s8:Heap.SameBut z e7 e8:=s8
  replace z8:Zp e8 z ti to (rawInt e5.objs.size) (.bool false):=z8
  have up:∀b o,b≠z->e5.get? b=some o->e8.get? b=some o:=λb o b1 u=>s8.extBut _ _ b1 (s7.extBut _ _ b1 (aR _ u));have t8:e8.get? e5.objs.size=some {cls:=.type "tuple",data:=.seq #[x,y]}:=s8.extBut _ _ (kc VJ) (s7.extBut _ _ (kc VJ) (cw _ rfl));rw[sz]at z8 t8;refine aj ⟨_,rfl,aj ?_⟩;show Q (some (.ref e5.objs.size)) _;rw[sz]
  exact hQ e8 ⟨_,_,.inr ⟨_,rfl⟩,z8⟩ ⟨_,_,up _ _ D.oz o5⟩ (k1 e2 e8 a2 λo u=>up _ o D.iz (s5.extBut _ _ D.oi.symm (s4.extBut _ _ D.ij (s3.extBut _ _ D.oi.symm u)))) (k2 e4 e8 a4 λo u=>up _ o D.jz (s5.extBut _ _ D.oj.symm u)) t8
    λb o b1 b2 b3 b4 u=>up b o b1 (XM b o b1 b2 b3 b4 u)
theorem Gd {z ti to i j : Addr} {p q : Value} {st1 : Heap -> Prop} {Q : Option Value -> Shared -> Prop} (D : ZA z ti to i j) (zz : Iq s.heap z ti to) (yi : IsPair s.heap ti (.ref i) (.ref j)) (yo : IsPair s.heap to p q)
    (n:(∀h',(∀b o,b≠z->s.heap.get? b=some o->h'.get? b=some o)->t4 prog w A.in1 {s with heap:=h'} i) \/
      (∃x,(∀h',(∀b o,b≠z->s.heap.get? b=some o->h'.get? b=some o)->pI prog w A.in1 {s with heap:=h'} i x st1) /\
        ∀h',(∀b o,b≠z->b≠to->b≠i->s.heap.get? b=some o->h'.get? b=some o)->t4 prog w A.in1 {s with heap:=h'} j))
    (hQ:∀h',(∀b o,b≠z->b≠to->b≠i->b≠j->s.heap.get? b=some o->h'.get? b=some o)->Q none {s with heap:=h'}) :
    wpAny (model prog w) A (pyNext (.ref z)) Q E s:=by
  have Tf:=zz;obtain⟨f0,f1,hf,z0⟩:=Tf;have hT:s.TypeIs (.ref z) "zip" := ⟨_,z0,rfl⟩;obtain⟨hp,g,d,tk,os⟩:=s
  have d_ : ∀ (h' : Heap) (e : Addr), (∀ b o, b ≠ z -> b ≠ to -> b ≠ i -> b ≠ j -> hp.get? b = some o -> h'.get? b = some o) -> (∃ o, h'.get? e = some o /\ o.cls = .type "StopIteration") ->
      wpAny (model prog w) A (do if <- isInstance (.ref e) (.type "StopIteration") then pure none else throw (.ref e)) Q E ⟨h',g,d,tk,os⟩:=λh' e hk ⟨o,ho,hc⟩ =>
    af (wpAny_isInstance (T := "StopIteration") (b:=true) ⟨o,ho,hc⟩ isSubtype_stop (aj (hQ h' hk)))
  unfold pyNext;refine af (zC (mi (name:=Str.ofString "__next__") hT BE (iP BE hT F.entry_zip_next ?_ (F.args_zip_next_1 _))));show wpAny _ _ (field (.ref z) 2 >>= _) _ _ _;refine af (eD z0 rfl (x:=.bool false) rfl ?_);show wpAny _ _ (field (.ref z) 3 >>= _) _ _ _;refine af (eD z0 rfl (x:=.ref ti) rfl ?_);refine af (sZ yi rfl ?_);show wpAny _ _ (Builtin.SmallTypes.ownedTupleIsFree (.ref z) >>= _) _ _ _;refine af (mS (s:=⟨hp,g,d,tk,os⟩) zz λfr e0 zz s0=>?_);have s0:Heap.SameBut z hp e0:=s0;clear z0 hf f0 f1;obtain⟨f0,f1,hf,zz⟩:=zz
  cases fr with
  | false =>
    refine af ?_;simp only[List.forIn_toArray,vH,zA];refine af (af (fX ?_));show wpAny _ _ (Builtin.SmallTypes.nextOf (.ref i) >>= _) _ _ _;rcases n with n | ⟨x,n1,n2⟩
    · refine af (n e0 (λb o hb=>s0.extBut b o hb) _ _ λe2 e s2 he=>?_);have s2:Heap.ExtBut i e0 e2:=s2;exact d_ e2 e (λb o b1 b2 b3 b4 u=>s2 _ _ b3 (s0.extBut _ _ b1 u)) he
    · refine af (n1 e0 (λb o hb=>s0.extBut b o hb) _ _ λe2 a2 s2=>aj (aj ?_));have s2:Heap.SameBut i e0 e2:=s2;refine af (af (fX ?_));show wpAny _ _ (Builtin.SmallTypes.nextOf (.ref j) >>= _) _ _ _;refine af (n2 e2 (λb o b1 b2 b3 u=>s2.extBut b o b3 (s0.extBut b o b1 u)) _ _ λe4 e s4 he=>?_);have s4:Heap.ExtBut j e2 e4:=s4;exact d_ e4 e (λb o b1 b2 b3 b4 u=>s4 _ _ b4 (s2.extBut _ _ b3 (s0.extBut _ _ b1 u))) he
  | true =>
  show wpAny _ _ (rule _ >>= _) _ _ _;refine af (oF (af (eD (s:=⟨e0,g,d,tk,os⟩) zz rfl (x:=.ref to) rfl ?_)));refine af (sT zz (by simp) λe1 z1 s1=>?_);have s1:Heap.SameBut z hp e1:=s0.trans s1
  replace z1:Zp e1 z ti to .ellipsis f1:=z1
  refine af ?_;simp only[List.zipIdx_cons,List.zipIdx_nil,vH,zA];refine af (af (wpAny_onRaise ?_));show wpAny _ _ (Builtin.SmallTypes.nextOf (.ref i) >>= _) _ _ _;rcases n with n | ⟨x,n1,n2⟩
  · refine af (n e1 (λb o hb=>s1.extBut b o hb) _ _ λe2 e s2 he=>?_);have s2:Heap.ExtBut i e1 e2:=s2;obtain⟨oe,ge,ce⟩:=he;have ge:e2.get? e=some oe:=ge;have z2:Zp e2 z ti to .ellipsis f1:=s2 _ _ D.iz.symm z1;have ez:e≠z:=λu=>by subst u;rw[z2]at ge;cases ge;simp at ce
    refine sT (s:=⟨e2,g,d,tk,os⟩) z2 (by simp) λe3 _ s3=>?_;have s3:Heap.SameBut z e2 e3:=s3;exact d_ e3 e (λb o b1 b2 b3 b4 u=>s3.extBut _ _ b1 (s2 _ _ b3 (s1.extBut _ _ b1 u))) ⟨oe,s3.extBut _ _ ez ge,ce⟩
  · refine af (n1 e1 (λb o hb=>s1.extBut b o hb) _ _ λe2 a2 s2=>aj ?_);have s2:Heap.SameBut i e1 e2:=s2;have o2:IsPair e2 to p q:=s2.extBut _ _ D.oi (s1.extBut _ _ D.oz yo);refine af (sZ o2 rfl ?_);refine af (JA (s:=⟨e2,g,d,tk,os⟩) o2 λe3 o3 s3=>?_);have s3:Heap.SameBut to e2 e3:=s3;refine af (wpAny_letGo (aj ?_));refine af (af (wpAny_onRaise ?_));show wpAny _ _ (Builtin.SmallTypes.nextOf (.ref j) >>= _) _ _ _;refine af (n2 e3 (λb o b1 b2 b3 u=>s3.extBut b o b2 (s2.extBut b o b3 (s1.extBut b o b1 u))) _ _ λe4 e s4 he=>?_);have s4:Heap.ExtBut j e3 e4:=s4;obtain⟨oe,ge,ce⟩:=he;have ge:e4.get? e=some oe:=ge;have z4:Zp e4 z ti to .ellipsis f1:=s4 _ _ D.jz.symm (s3.extBut _ _ D.oz.symm (s2.extBut _ _ D.iz.symm z1));have ez:e≠z:=λu=>by subst u;rw[z4]at ge;cases ge;simp at ce
    refine sT (s:=⟨e4,g,d,tk,os⟩) z4 (by simp) λe5 _ s5=>?_;have s5:Heap.SameBut z e4 e5:=s5;exact d_ e5 e (λb o b1 b2 b3 b4 u=>s5.extBut _ _ b1 (s4 _ _ b4 (s3.extBut _ _ b2 (s2.extBut _ _ b3 (s1.extBut _ _ b1 u))))) ⟨oe,s5.extBut _ _ ez ge,ce⟩
end
def Th(K:PySem.W.Frag)(l m:Bool)(a b:Addr):It :=
  ⟨λi H=>∃xs ys x y,sJ K H l a xs/\sJ K H m b ys/\xs[i]?=some x/\ys[i]?=some y,
   λi H v H'=>∃p x y,v=.ref p/\H p=none/\H'=bu H p (.tup [x,y])/\(∀xs,sJ K H l a xs->xs[i]?=some x)/\∀ys,sJ K H m b ys->ys[i]?=some y,
   λi H=>∃xs ys,sJ K H l a xs/\sJ K H m b ys/\(xs.length<=i\/ys.length<=i)⟩
section
variable {X:Cx} {aa:List (Addr×Obj)} {σ:St} {H:Hp} {s:Shared}
theorem qS{A:Around}{l:Bool}{a it:Addr}{i:Nat}{xs:List V}{x:V}(I:Inv X aa σ H s)(hq:sJ X.K H l a xs)(h2:jE l s.heap it a i)(hx:xs[i]?=some x):(∃u,RelV x u/\∀h',(∀o,s.heap.get? a=some o->h'.get? a=some o)->(∀o,s.heap.get? it=some o->h'.get? it=some o)->pI X.prog X.w A {s with heap:=h'} it u (λh=>jE l h it a (i+1)))/\∀ys,sJ X.K H l a ys->ys[i]?=some x:=by
 cases l with
 | true =>
  have hq:eO X.K H a xs:=hq;obtain⟨aC,rv,p,hz⟩:=I.list hq;obtain⟨u,hu,ru⟩:=rv.get hx;exact⟨⟨u,ru,λh' e1 e2=>v8 (s:={s with heap:=h'}) (Heap.IsListIter.at (show s.heap.IsListIter it a i from h2) e2) (p.isList.at e1) (by simpa using hu)⟩,λys hy=>by rw[I.tF (show eO X.K H a ys from hy) hq];exact hx⟩
 | false =>
  have hq:fF X.K H a xs:=hq;obtain⟨aC,rv,p,hz⟩:=I.tuple hq;obtain⟨u,hu,ru⟩:=rv.get hx;have p:s.heap.IsTuple a aC.toArray:=p;exact⟨⟨u,ru,λh' e1 e2=>Ah (s:={s with heap:=h'}) (Heap.IsTupleIter.at (show s.heap.IsTupleIter it a i from h2) e2) (p.at e1) (by simpa using hu)⟩,λys hy=>by rw[I.ph (show fF X.K H a ys from hy) hq];exact hx⟩
theorem xX{A:Around}{l:Bool}{a it:Addr}{i:Nat}{xs:List V}(hh:A.handled=none)(I:Inv X aa σ H s)(hq:sJ X.K H l a xs)(h2:jE l s.heap it a i)(hx:xs.length<=i):∀h',(∀o,s.heap.get? a=some o->h'.get? a=some o)->(∀o,s.heap.get? it=some o->h'.get? it=some o)->t4 X.prog X.w A {s with heap:=h'} it:=by
 cases l with
 | true =>
  obtain⟨aC,rv,p,hz⟩:=I.list (show eO X.K H a xs from hq);have hl:=rv.length;exact λh' e1 e2=>v9 (s:={s with heap:=h'}) hh (Heap.IsListIter.at (show s.heap.IsListIter it a i from h2) e2) (p.isList.at e1) (by simp;omega)
 | false =>
  obtain⟨aC,rv,p,hz⟩:=I.tuple (show fF X.K H a xs from hq);have hl:=rv.length;have p:s.heap.IsTuple a aC.toArray:=p;exact λh' e1 e2=>Ai (s:={s with heap:=h'}) hh (Heap.IsTupleIter.at (show s.heap.IsTupleIter it a i from h2) e2) (p.at e1) (by simp;omega)
end
theorem Cm{P:Program}{w:World}{K:PySem.W.Frag}{tg:Expr}(l m:Bool)(a b z ti to i j:Addr)(D:ZA z ti to i j)(ha:a≠z)(hb:b≠z/\b≠to/\b≠i):zP P w K tg (Th K l m a b) [z,ti,to,i,j] z (λn h=>Iq h z ti to/\IsPair h ti (.ref i) (.ref j)/\(∃p q,IsPair h to p q)/\jE l h i a n/\jE m h j b n) where
 mem:=by simp
 obj:=λn h st c hc=>by
  obtain⟨⟨_,_,_,h1⟩,h2,⟨p,q,h3⟩,h4,h5⟩:=st;have hc:c=z\/c=ti\/c=to\/c=i\/c=j:=by simpa using hc
  rcases hc with rfl | rfl | rfl | rfl | rfl
  ·exact⟨_,h1,λv u=>by have u':Data.fields _=Data.cell v:=u;cases u'⟩
  ·exact⟨_,h2,λv u=>by have u':Data.seq _ _=Data.cell v:=u;cases u'⟩
  ·exact⟨_,h3,λv u=>by have u':Data.seq _ _=Data.cell v:=u;cases u'⟩
  ·obtain⟨o,q,d⟩:=h4.obj;exact⟨o,q,λv u=>by rw[d]at u;cases u⟩
  ·obtain⟨o,q,d⟩:=h5.obj;exact⟨o,q,λv u=>by rw[d]at u;cases u⟩
 keep:=λn h h' st e=>by
  obtain⟨⟨f0,f1,hf,h1⟩,h2,⟨p,q,h3⟩,h4,h5⟩:=st;exact⟨⟨f0,f1,hf,e z (by simp) _ h1⟩,e ti (by simp) _ h2,⟨p,q,e to (by simp) _ h3⟩,h4.at λo u=>e i (by simp) o u,h5.at λo u=>e j (by simp) o u⟩
 item:=by
  intro X hP hw hK hc n aa s σ H E I hf st hg;subst hP hw hK;obtain⟨h1,h2,⟨p,q,h3⟩,h4,h5⟩:=st;obtain⟨xs,ys,x,y,qx,qy,hx,hy⟩:=hg;obtain⟨⟨u,ru,nu⟩,au⟩:=qS (A:=X.A.in1) I qx h4 hx;obtain⟨⟨v,rv,nv⟩,av⟩:=qS (A:=X.A.in1) I qy h5 hy;obtain⟨oi,gi,_⟩:=h4.obj;obtain⟨oj,gj,_⟩:=h5.obj;refine Ck D h1 h2 h3 (λh' e=>nu h' (λo=>e a o ha) λo=>e i o D.iz) (λh' e=>nv h' (λo=>e b o hb.1 hb.2.1 hb.2.2) λo=>e j o D.jz D.oj.symm D.ij.symm) (λh h' st e=>st.at e) (λh h' st e=>st.at e) λh' o1 o2 o3 o4 o5 o6=>⟨_,rfl,?_⟩;refine KD (s:={s with heap:=h'}) o1 λTi p1 p2=>?_;have p2:Heap.SameBut z h' Ti:=p2;have fr:H s.heap.objs.size=none:=I.bo.fresh (aq _)
  have I1:Inv X aa σ (bu H s.heap.objs.size (.tup [x,y])) {s with heap:=s.heap.push {cls:=.type "tuple",data:=.seq #[u,v]}} :=
   I.laid (t':=s.toks) (λc o e=>aR _ e) (aq _) ⟨by show 2<=sizeLine;decide,[u,v],.cons ru (.cons rv .nil),⟨_,cw _ rfl,rfl,0,rfl⟩⟩
  have ne:∀c∈[z,ti,to,i,j],c≠s.heap.objs.size:=λc hc=>by
   have hc:c=z\/c=ti\/c=to\/c=i\/c=j:=by simpa using hc
   rcases hc with rfl | rfl | rfl | rfl | rfl
   ·obtain⟨_,_,_,h1⟩:=h1;exact bW (bp h1)
   ·exact bW (bp h2)
   ·exact bW (bp h3)
   ·exact bW (bp gi)
   ·exact bW (bp gj)
  have VL:∀c∈[z,ti,to,i,j],lB X aa (bu H s.heap.objs.size (.tup [x,y])) c:=λc hc=>⟨by rw[ax (ne c hc)];exact(hf c hc).1,(hf c hc).2⟩
  have I2:=I1.xW (h':=Ti) (t':=s.toks) (ch:=[z,ti,to,i,j]) (λc o hc e=>by
   have oJ:c≠z/\c≠ti/\c≠to/\c≠i/\c≠j:=by simpa using hc
   refine p2.extBut c o oJ.1 ?_;by_cases hz:c=s.heap.objs.size
   ·subst hz;have e':(s.heap.push {cls:=.type "tuple",data:=.seq #[u,v]}).get? s.heap.objs.size=some _:=cw _ rfl;rw[e']at e;cases e;exact o5
   ·have e2:s.heap.get? c=some o:=by
     cases hs:s.heap.get? c with
     | some o'=>rw[aR _ hs]at e;exact e
     | none=>exact absurd e (by rw[t5 hz,hs];intro z;cases z)
    exact o6 c o oJ.1 oJ.2.2.1 oJ.2.2.2.1 oJ.2.2.2.2 e2) VL
  have up:∀c o,c≠z->h'.get? c=some o->Ti.get? c=some o:=λc o hc e=>p2.extBut c o hc e;exact⟨.ref s.heap.objs.size,_,I2,rfl,⟨s.heap.objs.size,x,y,rfl,fr,rfl,au,av⟩,⟨p1,up _ _ D.tz (o6 _ _ D.tz D.tt D.di D.dj h2),o2.imp λ_=>.imp λ_=>up _ _ D.oz,o3.at λo e=>up _ _ D.iz e,o4.at λo e=>up _ _ D.jz e⟩,λc hc=>(VL c hc).1⟩
 done:=by
  intro X hP hw hK hc n aa s σ H E I hf st hg;subst hP hw hK;obtain⟨h1,h2,⟨p,q,h3⟩,h4,h5⟩:=st;obtain⟨xs,ys,qx,qy,hx⟩:=hg;have hh:X.A.in1.handled=none:=I.ok.hd hc
  have d_:∀h',(∀c o,c≠z->c≠to->c≠i->c≠j->s.heap.get? c=some o->h'.get? c=some o)->(none:Option Value)=none/\Inv X aa σ H {s with heap:=h'}:=λh' e=>⟨rfl,I.xW (t':=s.toks) (ch:=[z,ti,to,i,j]) (λc o hc u=>by
   have oJ:c≠z/\c≠ti/\c≠to/\c≠i/\c≠j:=by simpa using hc
   exact e c o oJ.1 oJ.2.2.1 oJ.2.2.2.1 oJ.2.2.2.2 u) hf⟩
  refine Gd (st1:=λh=>jE l h i a (n+1)) D h1 h2 h3 ?_ λh' e=>d_ h' e;by_cases hl:xs.length<=n
  ·exact .inl λh' e=>xX hh I qx h4 hl h' (λo=>e a o ha) λo=>e i o D.iz
  ·have OE:n<xs.length:=∅;obtain⟨⟨u,ru,nu⟩,au⟩:=qS (A:=X.A.in1) I qx h4 (cf OE);exact .inr ⟨u,λh' e=>nu h' (λo=>e a o ha) λo=>e i o D.iz,λh' e=>xX hh I qy h5 ∅ h' (λo=>e b o hb.1 hb.2.1 hb.2.2) λo=>e j o D.jz D.oj.symm D.ij.symm⟩
 self:=λA n s Q E ⟨⟨_,_,_,hz⟩,_⟩ h=>by
  have hT:s.TypeIs (.ref z) "zip" := ⟨_,hz,rfl⟩;refine wpAny_pyIter_slot hT F.slot_zip_iter (iP F.slot_zip_iter hT F.entry_zip_iter ?_ (F.args_zip_iter_1 _));show wpAny _ _ (ret (.ref z)) _ _ s;exact aj ⟨_,rfl,"zip",_,hT,BE.lookup,h⟩
end L2
end
section
namespace L2
open PySem PySem.Spec PyProof.Rows
abbrev Tj(l:Bool)(a:Addr):Obj:={cls:=.type (if l=true then "list_iterator" else "tuple_iterator"),data:=.fields #[.ref a,.int 0 0]}
noncomputable def OF(l:Bool)(h:Heap)(a:Addr)(xs:Array Value):Prop:=if l=true then h.IsList a xs else h.IsTuple a xs
abbrev QS(h:Heap)(l:Bool)(a:Addr):Heap:=h.push (Tj l a)
abbrev QT(h:Heap)(l m:Bool)(a b:Addr):Heap:=(QS h l a).push (Tj m b)
abbrev QU(h:Heap)(l m:Bool)(a b:Addr):Heap:=(QT h l m a b).push {cls:=.type "tuple",data:=.seq #[.ref h.objs.size,.ref (QS h l a).objs.size]}
abbrev QV(h:Heap)(l m:Bool)(a b:Addr):Heap:=(QU h l m a b).push {cls:=.type "tuple",data:=.seq #[.none,.none]}
abbrev Nd(h:Heap)(l m:Bool)(a b:Addr):Heap:=(QV h l m a b).push {cls:=.type "zip",data:=.fields #[.none,.bool false,.bool false,.ref (QT h l m a b).objs.size,.ref (QU h l m a b).objs.size]}
theorem Aj(l m:Bool)(a b:Addr)(xs ys:Array Value):Meets (Builtin.«zip.__new__» ⟨[.type "zip",.ref a,.ref b],[]⟩) (λ_ R s=>OF l s.heap a xs/\OF m s.heap b ys/\R (.ok (.ret (.ref (QV s.heap l m a b).objs.size))) {s with heap:=Nd s.heap l m a b}) :=
 .of_wp λprog w A R s h=>by
  obtain⟨hp,g,d,tk,os⟩:=s;obtain⟨ha,hb,h⟩:=h;have Tn:=sub_zip;have keep:∀(o:Obj) c v,hp.get? c=some v->(hp.push o).get? c=some v:=λo c v e=>aR _ e
  cases l with
  | true =>
   have h1:Heap.IsList (Shared.heap ⟨hp,g,d,tk,os⟩) a xs:=ha
   cases m with
   | true =>
    have h2:Heap.IsList (Shared.heap ⟨hp.push {cls:=.type "list_iterator",data:=.fields #[.ref a,.int 0 0]},g,d,tk,os⟩) b ys:=(show hp.IsList b ys from hb).at λo e=>keep _ _ _ e
    wp_walk using vD h1,vD h2
    exact⟨_,rfl,h⟩
   | false =>
    have h2:Heap.IsTuple (Shared.heap ⟨hp.push {cls:=.type "list_iterator",data:=.fields #[.ref a,.int 0 0]},g,d,tk,os⟩) b ys:=(show hp.IsTuple b ys from hb).at λo e=>keep _ _ _ e
    wp_walk using vD h1,zq h2
    exact⟨_,rfl,h⟩
  | false =>
   have h1:Heap.IsTuple (Shared.heap ⟨hp,g,d,tk,os⟩) a xs:=ha
   cases m with
   | true =>
    have h2:Heap.IsList (Shared.heap ⟨hp.push {cls:=.type "tuple_iterator",data:=.fields #[.ref a,.int 0 0]},g,d,tk,os⟩) b ys:=(show hp.IsList b ys from hb).at λo e=>keep _ _ _ e
    wp_walk using zq h1,vD h2
    exact⟨_,rfl,h⟩
   | false =>
    have h2:Heap.IsTuple (Shared.heap ⟨hp.push {cls:=.type "tuple_iterator",data:=.fields #[.ref a,.int 0 0]},g,d,tk,os⟩) b ys:=(show hp.IsTuple b ys from hb).at λo e=>keep _ _ _ e
    wp_walk using zq h1,zq h2
    exact⟨_,rfl,h⟩
section
variable {prog:Program} {w:World} {A:Around} {E:Value->Shared->Prop} {s:Shared}
theorem t6{l:Bool}{h:Heap}{it a:Addr}(e:h.get? it=some (Tj l a)):jE l h it a 0:=by
 cases l with
 | true=>exact⟨_,e,rfl,rfl⟩
 | false=>exact⟨_,e,rfl,rfl⟩
theorem Cn {l m : Bool} {a b : Addr} {xs ys : Array Value} {Q : Value -> Shared -> Prop} (ha : OF l s.heap a xs) (hb : OF m s.heap b ys)
    (h:∀h',IsZip h' (s.heap.objs.size+4) (s.heap.objs.size+2) (s.heap.objs.size+3) .none->IsPair h' (s.heap.objs.size+2) (.ref s.heap.objs.size) (.ref (s.heap.objs.size+1))->IsPair h' (s.heap.objs.size+3) .none .none ->
      jE l h' s.heap.objs.size a 0->jE m h' (s.heap.objs.size+1) b 0->(∀c o,s.heap.get? c=some o->h'.get? c=some o)->Q (.ref (s.heap.objs.size+4)) {s with heap:=h'}) :
    wpAny (model prog w) A (call (.type "zip") [.ref a,.ref b]) Q E s:=by
  refine callType_new F.called_zip (by decide) (F.typeCall_zip_2 _ _) (F.newCall_zip_2 _ _) (λobj=>F.args_object_init_3 obj _ _) F.entry_zip_new (Aj l m a b xs ys) ⟨ha,hb,?_⟩;have n1:(QS s.heap l a).objs.size=s.heap.objs.size+1:=iw ..;have n2:(QT s.heap l m a b).objs.size=s.heap.objs.size+2:=by rw[iw,n1]
  have n3:(QU s.heap l m a b).objs.size=s.heap.objs.size+3:=by rw[iw,n2]
  have n4:(QV s.heap l m a b).objs.size=s.heap.objs.size+4:=by rw[iw,n3]
  have e5:(Nd s.heap l m a b).get? (QV s.heap l m a b).objs.size=some _:=cw _ rfl;have e4:(Nd s.heap l m a b).get? (QU s.heap l m a b).objs.size=some _:=aR _ (cw _ rfl);have e3:(Nd s.heap l m a b).get? (QT s.heap l m a b).objs.size=some _:=aR _ (aR _ (cw _ rfl));have e2:(Nd s.heap l m a b).get? (QS s.heap l a).objs.size=some _:=aR _ (aR _ (aR _ (cw _ rfl)));have e1:(Nd s.heap l m a b).get? s.heap.objs.size=some _:=aR _ (aR _ (aR _ (aR _ (cw _ rfl))));show _/\_;rw[n2,n3,n4]at e5;rw[n1,n2]at e3;rw[n3]at e4;rw[n1]at e2;rw[n4];exact⟨⟨_,e5,rfl⟩,h _ e5 e3 e4 (t6 e1) (t6 e2) λc o u=>aR _ (aR _ (aR _ (aR _ (aR _ u))))⟩
end
section
variable {X:Cx}
def To(K:PySem.W.Frag)(ta:TA):TI:=λσ H R=>ta σ H λvs H1=>∃(l m:Bool) (a b:Addr),vs=[.ref a,.ref b]/\(∃xs,sJ K H1 l a xs)/\(∃ys,sJ K H1 m b ys)/\R (Th K l m a b) H1
theorem Co{aa:List (Addr×Obj)}{σ:St}{H:Hp}{s:Shared}{l:Bool}{a:Addr}{xs:List V}(I:Inv X aa σ H s)(h:sJ X.K H l a xs):∃aC:Array Value,OF l s.heap a aC/\a<s.heap.objs.size:=by
 cases l with
 | true =>
  obtain⟨aC,_,p,_⟩:=I.list (show eO X.K H a xs from h);exact⟨aC.toArray,p.isList,by obtain⟨o,e,_⟩:=p.isList;exact bp e⟩
 | false =>
  obtain⟨aC,_,p,_⟩:=I.tuple (show fF X.K H a xs from h);exact⟨aC.toArray,p,by obtain⟨o,e,_⟩:=(show s.heap.IsTuple a aC.toArray from p);exact bp e⟩
theorem OG{n:Nat}:ZA (n+4) (n+2) (n+3) n (n+1) :=
 ⟨(by omega:(n+2:Nat)≠n+4),(by omega:(n+3:Nat)≠n+4),(by omega:(n:Nat)≠n+4),(by omega:(n+1:Nat)≠n+4),(by omega:(n+2:Nat)≠n+3),(by omega:(n+2:Nat)≠n),(by omega:(n+2:Nat)≠n+1),(by omega:(n+3:Nat)≠n),(by omega:(n+3:Nat)≠n+1),(by omega:(n:Nat)≠n+1)⟩
theorem Cp{n c:Nat}(h:c∈[n+4,n+2,n+3,n,n+1]):n<=c:=by
 simp only[bz,iQ,fj]at h;omega
theorem xY{a n k:Nat}(h:a<n):a≠n+k:=∅
theorem KG{a b:Expr}{ta:TA}{tg:Expr}{p pos:Pos} (hg:Gl X "zip") (hm:X.mg "zip" = none) (ha:PA X [a,b] ta) (hs:starEach [a,b] X.env=(false,eval a X.env)::starEach [b] X.env) (Ir:starEach [b] X.env=[(false,eval b X.env)]):PI X tg (.Call (.Name "zip" p) [a,b] [] pos) (To X.K ta):=by
 intro aa s σ H R I h;refine Call_ (iT I hg hm boot_zip (Br (bX (ha pos aa s σ H _ I h) ?_) hs (by rw[Ir];rfl)));rintro us s1 ⟨vs,H1,I1,r1,q1⟩;obtain⟨l,m,c,d,rfl,⟨xs,hx⟩,⟨ys,hy⟩,q⟩:=q1;obtain⟨u1,u2,rfl,ru,Iu⟩:=vals2 r1;cases ru;cases Iu;obtain⟨ix,sx,lx⟩:=Co I1 hx;obtain⟨iy,sy,ly⟩:=Co I1 hy;refine Cn sx sy λh' e1 e2 e3 e4 e5 e6=>?_;refine wpAny_pyIter_zip (s:={s1 with heap:=h'}) e1 ?_;have I2:Inv X aa σ H1 {s1 with heap:=h'}:=I1.kept (t':=s1.toks) e6;exact⟨s1.heap.objs.size+4,[s1.heap.objs.size+4,s1.heap.objs.size+2,s1.heap.objs.size+3,s1.heap.objs.size,s1.heap.objs.size+1],_,_,H1,rfl,I2,Cm l m c d _ _ _ _ _ OG (xY lx) ⟨xY ly,xY ly,xY (k:=0) ly⟩,⟨⟨_,_,.inl rfl,e1⟩,e2,⟨_,_,e3⟩,e4,e5⟩,λc hc=>I1.Fz (Cp hc) (I1.bo.fresh (Cp hc)),q⟩
end
end L2
end
section
namespace L2
open PySem PySem.Spec PyProof.Rows
open AutoSeq1 (wpAny_loadPart')
abbrev pJ(a:Int):Nat->Value->Prop:=λi v=>∃t,v=.int (a+i*1) t
section
variable {prog:Program} {w:World} {A:Around} {E:Value->Shared->Prop} {s:Shared}
theorem t7{Q:List Value->Shared->Prop}{r:Addr}{a b:Int}{t u v:Tok}{n:Nat}(hh:A.handled=none)(hr:IsRange s.heap r a b 1 t u v)(OH:Builtin.Range.small a b 1=true)(hn:Builtin.Range.rangeSize a b 1=n)(hl:n<=2 ^ 24)(hQ:∀h' tk aE,(∀c o,s.heap.get? c=some o->h'.get? c=some o)->ItemsOf (pJ a) aE n->Q aE.toList {s with heap:=h',toks:=tk}):wpAny (model prog w) A (collect (.ref r)) Q E s:=by
  unfold collect;refine af (wpAny_runValue (qg F.entry_proto_collect ?_));rw[vB F.plain_proto_collect _];show wpAny _ A.in1 (newList [] >>= λl=>again (.builtin "list.__iadd__" ⟨[l,.ref r],[]⟩)) _ _ s;refine af (e9 ?_);refine aj ⟨zD F.plain_list_iadd _,qg F.entry_list_iadd ?_⟩;rw[vB F.plain_list_iadd _];show wpAny _ A.in1 (Builtin.List.listExtendWith (.ref s.heap.objs.size) (.ref r) (.ref s.heap.objs.size)) _ _ _;have g0:(s.heap.push {cls:=.type "list",data:=.seq ([]:List Value).toArray}).get? s.heap.objs.size=some {cls:=.type "list",data:=.seq #[] 0}:=cw _ rfl
  have d_ : ∀ (r' : Result) (s' : Shared), (∃ h' tk aE c', r' = .ok (.ret (.ref s.heap.objs.size)) /\ s' = { s with heap := h', toks := tk } /\ (∀ c o, c ≠ s.heap.objs.size -> (s.heap.push { cls := .type "list", data := .seq ([] : List Value).toArray }).get? c = some o -> h'.get? c = some o) /\
      h'.get? s.heap.objs.size=some {cls:=.type "list",dict:=none,data:=.seq aE c',slots:=#[]}/\ItemsOf (pJ a) aE n)->(match r' with
        | .ok (.ret v)=>wpAny (model prog w) A (match v with
          | .ref x=>do
            match (<- load x).data with
              | .seq xs _=>pure xs.toList
              | _=>unsupported "internal:collect"
          | _=>unsupported "internal:collect") Q E s'
        | .ok _=>False
        | .error e=>E e s'):=by
    rintro r' s' ⟨h',tk,aE,c',rfl,rfl,kp,g1,it⟩;show wpAny _ A (load s.heap.objs.size >>= _) _ _ _;refine af (zF g1 (aj ?_));exact hQ h' tk aE (λc o e=>kp c o (bW (bp e)) (aR _ e)) it
  refine kf (wpAny_extend_range (R := fun r' s' => ∃ h' tk aE c', r' = .ok (.ret (.ref s.heap.objs.size)) /\ s' = { s with heap := h', toks := tk } /\ (∀ c o, c ≠ s.heap.objs.size -> (s.heap.push { cls := .type "list", data := .seq ([] : List Value).toArray }).get? c = some o -> h'.get? c = some o) /\
      h'.get? s.heap.objs.size=some {cls:=.type "list",dict:=none,data:=.seq aE c',slots:=#[]}/\ItemsOf (pJ a) aE n)
    (s:={s with heap:=s.heap.push {cls:=.type "list",data:=.seq ([]:List Value).toArray}}) hh (aR _ hr) OH hn hl _ _ _ g0 λh' tk aE c' kp g1 it=>⟨h',tk,aE,c',rfl,rfl,kp,g1,it⟩) (λf s' h=>?_) λe s' h=>?_
  · cases f with
    | done f=>exact d_ _ _ h
    | again c'=>exact⟨h.1,qh h.2 λr M_ hr=>d_ _ _ hr⟩
  · obtain⟨_,_,_,_,z,_⟩:=h;cases z
end
theorem lF (r : Addr) (a b : Int) (t u v : Tok) (n : Nat) (OH : Builtin.Range.small a b 1 = true) (hn : Builtin.Range.rangeSize a b 1 = n) (hl : n <= 2 ^ 24) :
    Meets (Builtin.«tuple.__new__» ⟨[.type "tuple",.ref r],[]⟩) (λA R s=>A.handled=none/\IsRange s.heap r a b 1 t u v/\∀(h':Heap)(tk:Nat)(aE:Array Value),(∀c o,s.heap.get? c=some o->h'.get? c=some o)->ItemsOf (pJ a) aE n ->
      R (.ok (.ret (.ref h'.objs.size))) {s with heap:=h'.push {cls:=.type "tuple",data:=.seq aE},toks:=tk}) :=
  .of_wp λprog w A R s h=>by
    obtain⟨hp,g,d,tk,os⟩:=s;obtain⟨hh,hr,h⟩:=h;have Tn:=sub_tuple_self;have VM:=init_tuple_lookup;have hmh:=madeHere_tuple;have hT:Shared.TypeIs ⟨hp,g,d,tk,os⟩ (.ref r) "range" := ⟨_,hr,rfl⟩;have VF:A.in1.handled=none:=hh;have ho:Heap.get? (Shared.heap ⟨hp,g,d,tk,os⟩) r=some _:=hr
    wp_walk using wpAny_loadPart' ho,tf hT,t7 VF hr OH hn hl
    intro h' XN aE hk it;show wpAny _ _ (Builtin.Tuple.tupleExact aE.toList.toArray >>= λv=>ret v) _ _ _;unfold Builtin.Tuple.tupleExact;refine af (e9 ?_ (show aE.toList.toArray.size<=sizeLine by simp only[Array.toArray_toList];rw[it.1,qj];omega));refine aj ⟨_,rfl,?_⟩;have e:aE.toList.toArray=aE:=by simp
    rw[e];exact h h' XN aE hk it
section
variable {prog:Program} {w:World} {A:Around} {E:Value->Shared->Prop} {s:Shared}
theorem mT{Q:Value->Shared->Prop}{r:Addr}{a b:Int}{t u v:Tok}{n:Nat}(hh:A.handled=none)(hr:IsRange s.heap r a b 1 t u v)(OH:Builtin.Range.small a b 1=true)(hn:Builtin.Range.rangeSize a b 1=n)(hl:n<=2 ^ 24) (h:∀(h':Heap)(tk:Nat)(aE:Array Value),(∀c o,s.heap.get? c=some o->h'.get? c=some o)->ItemsOf (pJ a) aE n->Q (.ref h'.objs.size) {s with heap:=h'.push {cls:=.type "tuple",data:=.seq aE},toks:=tk}):wpAny (model prog w) A (call (.type "tuple") [.ref r]) Q E s :=
 callType_new F.called_tuple (by decide) (F.typeCall_tuple_1 _) (F.newCall_tuple_1 _) (λobj=>F.args_object_init_2 obj _) F.entry_tuple_new (lF r a b t u v n OH hn hl) ⟨hh,hr,λh' tk aE hk it=>⟨⟨_,cw _ rfl,rfl⟩,h h' tk aE hk it⟩⟩
end
noncomputable def ku(i:Int)(n:Nat):List V:=(List.range n).map λk=>V.int (i+((k:Nat):Int))
theorem t9{a:Int}{aE:Array Value}{n:Nat}(h:ItemsOf (pJ a) aE n):aL (ku a n) aE.toList:=by
 have lE:∀(l:List Value)(k:Nat),(∀(j:Nat) v,l[j]?=some v->∃t,v=Value.int (a+(((k+j:Nat)):Int)) t)->aL ((List.range' k l.length).map λk=>V.int (a+((k:Nat):Int))) l:=by
  intro l
  induction l with
  | nil=>intro k _;exact .nil
  | cons x l ih =>
   intro k hv;refine .cons (hv 0 x rfl) (ih (k+1) λj v e=>?_);obtain⟨t,e2⟩:=hv (j+1) v (by simpa using e);exact⟨t,by rw[e2,show k+(j+1)=k+1+j by omega]⟩
 have:=lE aE.toList 0 λj v e=>by
  obtain⟨t,e2⟩:=h.2 j v (by simpa using e);exact⟨t,by rw[e2];simp⟩
 unfold ku;rw[List.range_eq_range'];rw[show aE.toList.length=n by simpa using h.1]at this;exact this
section
variable {X:Cx}
noncomputable def KH(vs:List V)(i j:Int):Prop:=vs=[.int i,.int j]\/(i=0/\vs=[.int j])
def OI(tp:Bool)(ta:TA):TE:=λσ H Q=>ta σ H λvs H1=>∃i j:Int,KH vs i j/\(-(2 ^ 62)<=i/\i<2 ^ 62/\-(2 ^ 62)<=j/\j<2 ^ 62)/\(j-i).toNat<=2 ^ 24/\∀p,H1 p=none->Q (.ref p) (bu H1 p (if tp=true then .tup (ku i (j-i).toNat) else .lst (ku i (j-i).toNat)))
theorem t_{i j:Int}:Builtin.Range.rangeSize i j 1=(((j-i).toNat:Nat):Int):=by rw[rangeSize_one];split<;>omega
theorem Ge{args:List Expr}{a:Expr}{dR:List Expr}{ta:TA}{p pos:Pos} (hg:Gl X "range") (hm:X.mg "range" = none) (ea:args=a::dR) (ha:PA X args ta) (hs:starEach (a::dR) X.env=(false,eval a X.env)::starEach dR X.env) (Ir:(backTo pos (starEach dR X.env)).any (·.1)=false) {aa:List (Addr×Obj)} {s:Shared} {σ:St} {H:Hp} {Q:Value->Shared->Prop} {R:Int->Int->Hp->Prop} (I:Inv X aa σ H s) (h:ta σ H λvs H1=>∃i j:Int,KH vs i j/\R i j H1) (k:∀(r:Addr)(s1:Shared)(H1:Hp)(i j:Int)(t u v:Tok),Inv X aa σ H1 s1->IsRange s1.heap r i j 1 t u v->R i j H1->Q (.ref r) s1):wpAny (model X.prog X.w) X.A (eval (.Call (.Name "range" p) args [] pos) X.env) Q X.xe s:=by
 subst ea;refine Call_ (iT I hg hm boot_range (Br (bX (ha pos aa s σ H _ I h) ?_) hs Ir));rintro us s1 ⟨vs,H1,I1,r1,q1⟩;obtain⟨i,j,e,q⟩:=q1;rcases e with rfl | ⟨rfl,rfl⟩
 ·obtain⟨u1,u2,rfl,⟨t,rfl⟩,⟨t',rfl⟩⟩:=vals2 r1;refine call_range_2 ?_;exact k _ _ H1 i j _ _ _ (I1.kept λb o e=>aR _ e) (IsRange.new ..) q
 ·obtain⟨u1,rfl,⟨t,rfl⟩⟩:=vals1 r1;refine call_range_1 ?_;exact k _ _ H1 0 j _ _ _ (I1.kept λb o e=>aR _ e) (IsRange.new ..) q
theorem Gf{args:List Expr}{a:Expr}{dR:List Expr}{ta:TA}{p pos p2 kx:Pos}(tp:Bool)(hc:X.calm=true) (hg:Gl X "range") (hm:X.mg "range" = none) (VN:Gl X (if tp=true then "tuple" else "list")) (QW:X.mg (if tp=true then "tuple" else "list")=none) (ea:args=a::dR) (ha:PA X args ta) (hs:starEach (a::dR) X.env=(false,eval a X.env)::starEach dR X.env) (Ir:(backTo pos (starEach dR X.env)).any (·.1)=false):PE X (.Call (.Name (if tp=true then "tuple" else "list") p2) [.Call (.Name "range" p) args [] pos] [] kx) (OI tp ta):=by
  intro aa s σ H Q I h
  have sp : ∀ {T : Str} {t : String} {Q2 : Value -> Shared -> Prop}, Gl X T -> X.mg T = none -> bootBuiltins T = some (.type t) -> T ≠ "__name__" -> (T == ("__debug__" : Str)) = false -> (∀ (r : Addr) (s1 : Shared) (H1 : Hp) (i j : Int) (u1 u2 u3 : Tok), Inv X aa σ H1 s1 -> IsRange s1.heap r i j 1 u1 u2 u3 ->
      ((-(2 ^ 62)<=i/\i<2 ^ 62/\-(2 ^ 62)<=j/\j<2 ^ 62)/\(j-i).toNat<=2 ^ 24/\∀p,H1 p=none->Q (.ref p) (bu H1 p (if tp=true then .tup (ku i (j-i).toNat) else .lst (ku i (j-i).toNat)))) ->
      wpAny (model X.prog X.w) X.A (call (.type t) [.ref r]) Q2 X.xe s1)->wpAny (model X.prog X.w) X.A (eval (.Call (.Name T p2) [.Call (.Name "range" p) args [] pos] [] kx) X.env) Q2 X.xe s:=λ{T t Q2} XQ XR hb hn hd k=>by
    refine Call_ (iT I XQ XR hb (Br ?_ rfl rfl) hn hd);show wpAny _ _ (spliced ((false,eval (.Call (.Name "range" p) args [] pos) X.env)::backTo kx [])) _ _ s;refine Calls.spliced_cons (Ge hg hm ea ha hs Ir I h λr s1 H1 i j u1 u2 u3 I1 hr q=>?_);exact Calls.spliced_nil (k r s1 H1 i j u1 u2 u3 I1 hr q)
  cases tp with
  | true =>
    refine sp (T := "tuple") (t := "tuple") VN QW ⋯ ⋯ ⋯ ?_;rintro r s1 H1 i j u1 u2 u3 I1 hr ⟨⟨b1,b2,b3,b4⟩,hl,q⟩;refine mT (I1.ok.hd hc) hr (small_one b1 b2 b3 b4) t_ hl λh' tk aE hk it=>?_;have I2:Inv X aa σ H1 {s1 with heap:=h',toks:=tk}:=I1.kept hk
    have hz:(ku i (j-i).toNat).length<=sizeLine:=by
      unfold ku;rw[aZ,vE,qj];omega
    have I3:Inv X aa σ (bu H1 h'.objs.size (.tup (ku i (j-i).toNat))) {s1 with heap:=h'.push {cls:=.type "tuple",data:=.seq aE},toks:=tk} :=
      I2.laid (t':=tk) (λb o e=>aR _ e) (aq _) (show bf X.prog X.w _ _ _ (.tup _) from ⟨hz,aE.toList,t9 it,by simpa using IsTup.new h' aE⟩)
    exact⟨.ref h'.objs.size,_,I3,rfl,q _ (I2.bo.fresh (aq _))⟩
  | false =>
    refine sp (T := "list") (t := "list") VN QW ⋯ ⋯ ⋯ ?_;rintro r s1 H1 i j u1 u2 u3 I1 hr ⟨⟨b1,b2,b3,b4⟩,hl,q⟩;refine call_list_range (I1.ok.hd hc) hr (small_one b1 b2 b3 b4) t_ hl λh' tk aE c' hk g1 it=>?_
    have hz:(ku i (j-i).toNat).length<=sizeLine:=by
      unfold ku;rw[aZ,vE,qj];omega
    have I3:Inv X aa σ (bu H1 s1.heap.objs.size (.lst (ku i (j-i).toNat))) {s1 with heap:=h',toks:=tk} :=
      I1.laid (t':=tk) hk (aq _) (show bf X.prog X.w _ _ _ (.lst _) from ⟨hz,aE.toList,c',t9 it,by simpa using g1⟩)
    exact⟨.ref s1.heap.objs.size,_,I3,rfl,q _ (I1.bo.fresh (aq _))⟩
end
end L2
end
section
namespace L2
open PySem PySem.Spec PyProof.Rows
end L2
end
section
namespace L2
open PySem PySem.Spec PyProof.Rows
end L2
end
section
namespace L2
open PySem PySem.Spec PyProof.Rows
end L2
end
section
namespace L2
open PySem PySem.Spec PyProof.Rows
section
variable {X:Cx}
theorem Cq:iC X (compareOp .Is) (λx y H Q=>∃b c,x=.bl b/\y=.bl c/\Q (.bl (b==c)) H):=by
 intro aa s σ H x y v u Q I rx ry h;obtain⟨b,c,rfl,rfl,q⟩:=h;cases rx;cases ry;refine wpAny_is_plain rfl (mI I q ?_);cases b<;>cases c<;>rfl
theorem xZ:iC X (compareOp .IsNot) (λx y H Q=>∃b c,x=.bl b/\y=.bl c/\Q (.bl (!(b==c))) H):=by
 intro aa s σ H x y v u Q I rx ry h;obtain⟨b,c,rfl,rfl,q⟩:=h;cases rx;cases ry;refine wpAny_isNot_plain rfl (mI I q ?_);cases b<;>cases c<;>rfl
end
end L2
end
section
namespace L2
open PySem PySem.Spec PyProof.Rows
end L2
end
section
namespace L2
open PySem PySem.Spec PyProof.Rows
end L2
end
section
namespace L2
open PySem PySem.Spec PyProof.Rows
section
variable {X:Cx} {tg:Expr}
noncomputable def Ak(i:Int):List Int->List Int
 | []=>[i]
 | j::js=>if i<=j then i::j::js else j::Ak i js
def kz:List Int->List Int
 | []=>[]
 | i::is=>Ak i (kz is)
theorem mU{i:Int}:∀{is:List Int},(Ak i is).Perm (i::is)
 | []=>List.Perm.refl _
 | j::js=>by
  unfold Ak;split
  ·exact List.Perm.refl _
  ·exact((mU (i:=i) (is:=js)).cons j).trans (List.Perm.swap i j js)
theorem gX:∀{is:List Int},(kz is).Perm is
 | []=>List.Perm.refl _
 | i::is=>mU.trans ((gX (is:=is)).cons i)
theorem mV{i:Int}:∀{is:List Int},is.Pairwise (·<=·)->(Ak i is).Pairwise (·<=·)
 | [],_=>List.pairwise_singleton _ _
 | j::js,h=>by
  unfold Ak;rw[mr]at h;split
  ·rename_i VO
   refine mr.mpr ⟨λx hx=>?_,mr.mpr h⟩;rcases bz.mp hx with rfl | hx
   ·exact VO
   ·have:=h.1 x hx;omega
  ·rename_i VO
   refine mr.mpr ⟨λx hx=>?_,mV h.2⟩;rcases bz.mp (mU.mem_iff.mp hx)with rfl | hx
   ·omega
   ·exact h.1 x hx
theorem gh:∀{is:List Int},(kz is).Pairwise (·<=·)
 | []=>.nil
 | i::is=>mV (gh (is:=is))
theorem iX:∀{a b:List Int},a.Perm b->a.Pairwise (·<=·)->b.Pairwise (·<=·)->a=b
 | [],b,p,_,_=>(List.Perm.nil_eq p)
 | x::a,[],p,_,_=>absurd p.length_eq (by simp)
 | x::a,y::b,p,ha,hb=>by
  rw[mr]at ha hb
  have h1:x=y:=by
   rcases bz.mp (p.mem_iff.mp du)with e | e
   ·exact e
   ·rcases bz.mp (p.mem_iff.mpr du)with e2 | e2
    ·exact e2.symm
    ·have:=ha.1 y e2;have:=hb.1 x e;omega
  subst h1;rw[iX (List.Perm.cons_inv p) ha.2 hb.2]
theorem ua:∀{is:List Int}{aC:List Value},aL (is.map V.int) aC->IntsAre aC is
 | [],_,.nil=>.nil
 | i::is,_,.cons r t=>by
  obtain⟨u,rfl⟩:=r;exact .cons _ _ (ua t)
theorem ub:∀{is:List Int}{aC:List Value},IntsAre aC is->aL (is.map V.int) aC
 | _,_,.nil=>.nil
 | _,_,.cons _ _ t=>.cons ⟨_,rfl⟩ (ub t)
end
end L2
end
section
namespace L2
open PySem PySem.Spec PyProof.Rows
def Al(xs:Array Nat):Prop:=xs.toList.Pairwise (· < ·)
structure Tb (t:SetTable):Prop where
 VP:Al t.place
 Tp:t.dummies=#[]
theorem Al.lt{xs:Array Nat}(h:Al xs){i j x y:Nat}(hi:xs[i]?=some x)(hj:xs[j]?=some y)(l:i<j):x<y:=by
 have a:xs.toList[i]?=some x:=by rw[qc];exact hi
 have b:xs.toList[j]?=some y:=by rw[qc];exact hj
 obtain⟨h1,e1⟩:=cP.mp a;obtain⟨h2,e2⟩:=cP.mp b;rw[<- e1,<- e2];exact Jr.mp h i j h1 h2 l
theorem mW{xs:Array Nat}(r:Al xs)(j:Nat):∀(f lo hi:Nat),hi-lo<=f->lo<=hi->hi<=xs.size->(∀i x,i<lo->xs[i]?=some x->x<j)->(∀i x,hi<=i->xs[i]?=some x->j<=x)->(SetTable.below.go xs j f lo hi<=xs.size/\(∀i x,i<SetTable.below.go xs j f lo hi->xs[i]?=some x->x<j)/\∀i x,SetTable.below.go xs j f lo hi<=i->xs[i]?=some x->j<=x)
 | 0,lo,hi,hf,hl,hs,a,b=>by
  have:lo=hi:=∅;subst this;exact⟨hs,a,b⟩
 | f+1,lo,hi,hf,hl,hs,a,b=>by
  unfold SetTable.below.go;split
  ·rename_i lt
   dsimp only;have hm:(lo+hi) / 2<xs.size:=∅;have hx:xs[(lo+hi) / 2]?=some xs[(lo+hi) / 2]:=la hm;have hd:xs.getD ((lo+hi) / 2) j=xs[(lo+hi) / 2]:=by simp[Array.getD,hm]
   by_cases c:xs.getD ((lo+hi) / 2) j<j
   ·simp only[aT c];rw[hd]at c;refine mW r j f ((lo+hi) / 2+1) hi ∅ ∅ hs (λi x h e=>?_) b;rcases qi i ((lo+hi) / 2)with q | q
    ·exact zE (r.lt e hx q) c
    ·have:i=(lo+hi) / 2:=∅;subst this;rw[hx]at e;cases e;exact c
   ·simp only[aU c];rw[hd]at c;refine mW r j f lo ((lo+hi) / 2) ∅ ∅ ∅ a λi x h e=>?_;rcases qi ((lo+hi) / 2) i with q | q
    ·exact j_ (JC (zH.mp c) (r.lt hx e q))
    ·have:i=(lo+hi) / 2:=∅;subst this;rw[hx]at e;cases e;exact zH.mp c
  ·rename_i lt
   have:lo=hi:=∅;subst this;exact⟨hs,a,b⟩
theorem uc{xs:Array Nat}(r:Al xs)(j:Nat):SetTable.below xs j<=xs.size/\(∀i x,i<SetTable.below xs j->xs[i]?=some x->x<j)/\∀i x,SetTable.below xs j<=i->xs[i]?=some x->j<=x :=
 mW r j xs.size 0 xs.size ∅ (jt _) (aq _) (λi x h=>absurd h (zy _)) λi x h e=>absurd (zl.mp e).1 ∅
theorem Al.insert{xs:Array Nat}(r:Al xs){j:Nat}(n:xs[SetTable.below xs j]?≠some j):Al (SetTable.insertAt xs (SetTable.below xs j) j):=by
 obtain⟨h1,h2,h3⟩:=uc r j;unfold Al;rw[SetTable.toList_insertAt]
 have ta:∀x∈xs.toList.take (SetTable.below xs j),x<j:=λx hx=>by
  obtain⟨i,hi,e⟩:=qd.mp hx;rw[j9]at hi;rw[List.getElem_take]at e;exact h2 i x ∅ (by rw[<- qc,cf ∅,e])
 have tb:∀x∈xs.toList.drop (SetTable.below xs j),j<x:=λx hx=>by
  obtain⟨i,hi,e⟩:=qd.mp hx;rw[mz]at hi;rw[List.getElem_drop]at e;have ex:xs[SetTable.below xs j+i]?=some x:=by rw[<- qc,cf ∅,e]
  have le:=h3 _ x (Nat.le_add_right _ _) ex;rcases qi j x with q | q
  ·exact q
  ·have:x=j:=∅;subst this
   cases i with
   | zero=>exact absurd ex n
   | succ i =>
    have hb:SetTable.below xs x<xs.size:=by have:=(zl.mp ex).1;omega
    have eb:=la hb;exact absurd (r.lt eb ex ∅) (by have:=h3 _ _ (aq _) eb;omega)
 refine List.pairwise_append.mpr ⟨List.Pairwise.sublist (List.take_sublist _ _) r,mr.mpr ⟨tb,List.Pairwise.sublist (List.drop_sublist _ _) r⟩,λa ha b hb=>?_⟩;rcases bz.mp hb with rfl | hb
 ·exact ta a ha
 ·exact zE (ta a ha) (tb b hb)
theorem Tb.slot{t:SetTable}(h:Tb t){j:Nat}:t.slot j=.empty/\t.place[SetTable.below t.place j]?≠some j\/∃i,t.slot j=.live i:=by
 have hz:SetTable.has t.dummies j=false:=by
  rw[h.Tp];unfold SetTable.has;simp
 unfold SetTable.slot;dsimp only;split
 ·exact .inr ⟨_,rfl⟩
 ·rename_i c
  rw[hz];exact .inl ⟨rfl,λe=>c (by rw[e];exact qf _)⟩
theorem ud{t:SetTable}(ti:Tb t){h:Int}{j:Nat}{d:Option Nat}:∀(f:Nat)(p:SetTable.Probe),p.dummy=none->SetTable.probe.go t (λ_=>h+1) h f p=some (.empty j d)->d=none/\t.place[SetTable.below t.place j]?≠some j
 | 0,p,hp,e=>by unfold SetTable.probe.go at e;cases e
 | f+1,p,hp,e=>by
  unfold SetTable.probe.go at e
  have XS:(t.advance p).dummy=none:=by
   unfold SetTable.advance;split
   ·exact hp
   ·exact hp
  rcases ti.slot (j:=p.j)with⟨z,q⟩|⟨i,z⟩
  ·rw[z]at e;dsimp only at e;cases e;exact⟨hp,q⟩
  ·rw[z]at e;dsimp only at e;have hb:(h+1==h)=false:=by rw[qe];omega
   rw[hb]at e;exact ud ti f _ XS e
theorem Tb.free{t:SetTable}(ti:Tb t){h:Int}{sl:Nat}{b:Bool}(e:t.freeSlot h=some (sl,b)):t.place[SetTable.below t.place sl]?≠some sl:=by
 unfold SetTable.freeSlot at e;split at e
 ·rename_i j d q
  obtain⟨rfl,n⟩:=ud ti _ _ rfl q;cases e;exact n
 ·cases e
theorem Am(n:Nat):Al (Array.range n):=by
 unfold Al;rw[Array.toList_range];exact E2
theorem jF(t:SetTable)(n:Nat):Tb (t.standIn n):=⟨Am n,rfl⟩
theorem KI{t:SetTable}(ti:Tb t)(es:Array (Int×Value))(h:Int)(x:Value):Tb (layNew t es h x).2.1/\(layNew t es h x).2.1.led=t.led:=by
 unfold layNew;split
 ·rename_i sl b e
  dsimp only;have hz:SetTable.has t.dummies sl=false:=by rw[ti.Tp];unfold SetTable.has;simp
  have tp:Tb (t.put sl).1/\(t.put sl).1.led=t.led:=by
   unfold SetTable.put;dsimp only;refine⟨⟨ti.VP.insert (ti.free e),?_⟩,rfl⟩;dsimp only;rw[hz];exact ti.Tp
  unfold SetTable.orStandIn;split
  ·exact tp
  ·exact⟨jF _ _,tp.2⟩
 ·exact⟨jF _ _,rfl⟩
theorem Cr(t:SetTable)(es:Array (Int×Value))(n:Nat):Tb (relayAll t es n).2.1/\(relayAll t es n).2.1.led=t.led:=by
 unfold relayAll;split
 ·rename_i t' order e
  dsimp only;split
  ·unfold SetTable.relaid SetTable.laid at e
   cases q:SetTable.layClean (SetTable.sizeAbove n-1) (es.map (·.1))with
   | none=>rw[q]at e;cases e
   | some ow =>
    rw[q]at e;cases e;refine⟨⟨?_,rfl⟩,rfl⟩;unfold Al;dsimp only;rw[List.map_filterMap];refine List.Pairwise.filterMap _ (λa a' lt b hb b' F8=>?_) E2
    cases qa:ow.getD a none with
    | none=>rw[qa]at hb;cases hb
    | some _ =>
     cases qb:ow.getD a' none with
     | none=>rw[qb]at F8;cases F8
     | some _ =>
      rw[qa]at hb;rw[qb]at F8;cases hb;cases F8;exact lt
  ·exact⟨jF _ _,rfl⟩
 ·exact⟨jF _ _,rfl⟩
noncomputable def dP(prog:Program)(w:World)(h:Heap)(a:Addr)(led:Bool)(L:List Int):Prop :=
 ∃o es ep t,h.get? a=some o/\o.ExactSet/\o.data=.set es ep t/\ElemsOf (intKind prog w) es.toList/\(∀k,k∈L↔∃e∈es.toList,(intKind prog w).is k e.2=true)/\es.size<scanBound/\t.fits es.size=true/\es.size=L.length/\Tb t/\t.led=led
noncomputable def fO(L:List Int)(k:Int):List Int:=if k∈L then L else L++[k]
section
variable {prog:Program} {w:World} {A:Around} {E:Value->Shared->Prop} {s:Shared} {a:Addr} {led:Bool} {L:List Int}
theorem x8{h:Heap}{o:Obj}{es gJ:Array (Int×Value)}{ep:Nat}{t t':SetTable}(ho:h.get? a=some o)(vj:o.ExactSet)(hd:o.data=.set es ep t)(x1:ElemsOf (intKind prog w) gJ.toList)(x2:∀k,k∈L↔∃e∈gJ.toList,(intKind prog w).is k e.2=true)(x3:gJ.size<scanBound)(x4:t'.fits gJ.size=true)(x5:gJ.size=L.length)(x6:Tb t')(x7:t'.led=led):∃o',(h.update a (Obj.putSet gJ t')).get? a=some o'/\o'.ExactSet/\o'.data=.set gJ (ep+1) t'/\dP prog w (h.update a (Obj.putSet gJ t')) a led L:=by
 have hg:=mj (Obj.putSet gJ t') ho (by rw[putSet_of gJ t' hd];rfl);rw[putSet_of gJ t' hd]at hg;exact⟨_,hg,vj,rfl,_,gJ,ep+1,t',hg,vj,rfl,x1,x2,x3,x4,x5,x6,x7⟩
theorem ue{g:Bool->Sem Unit}(hg:∀(b:Bool)(bc:Shared)(Q:Unit->Shared->Prop),Q () bc->wpAny (model prog w) A (g b) Q E bc){o:Obj}{es gJ:Array (Int×Value)}{ep:Nat}{t t':SetTable}{wd:Bool}{R:Option Bool->Shared->Prop}(ho:s.heap.get? a=some o)(vj:o.ExactSet)(hd:o.data=.set es ep t)(x1:ElemsOf (intKind prog w) gJ.toList)(x2:∀k,k∈L↔∃e∈gJ.toList,(intKind prog w).is k e.2=true)(x3:gJ.size<scanBound)(x4:t'.fits gJ.size=true)(x5:gJ.size=L.length)(x6:Tb t')(x7:t'.led=led)(h:∀h',Heap.SameBut a s.heap h'->dP prog w h' a led L->R (some true) {s with heap:=h'}):wpAny (model prog w) A (storeSet a gJ t' >>= λ_=>if (!wd&&t'.tooFull)=true then (g (relayAll t' gJ (SetTable.grown gJ.size)).2.2 >>= λ_=>storeSet a (relayAll t' gJ (SetTable.grown gJ.size)).1 (relayAll t' gJ (SetTable.grown gJ.size)).2.1 >>= λ_=>pure (some true)) else pure (some true)) R E s:=by
 obtain⟨o1,e1,z1,d1,i1⟩:=x8 (prog:=prog) (w:=w) ho vj hd x1 x2 x3 x4 x5 x6 x7;refine af (wpAny_storeSet_of ho hd ?_ (Fe x3));have b1:=lq s.heap a (Obj.putSet gJ t');split
 ·have p:=relayAll_perm t' gJ (SetTable.grown gJ.size);have sz:(relayAll t' gJ (SetTable.grown gJ.size)).1.size=gJ.size:=by rw[<- oA,p.length_eq,oA]
  have ti:=Cr t' gJ (SetTable.grown gJ.size);obtain⟨_,_,_,_,i2⟩:=x8 (prog:=prog) (w:=w) (L:=L) (led:=led) e1 z1 d1 (x1.perm p) (λk=>(x2 k).trans ⟨λ⟨e,he,q⟩=>⟨e,p.mem_iff.mpr he,q⟩,λ⟨e,he,q⟩=>⟨e,p.mem_iff.mp he,q⟩⟩) (by rw[sz];exact x3) (relayAll_fits _ _ _) (by rw[sz];exact x5) ti.1 (ti.2.trans x7);refine af (hg _ _ _ (af (wpAny_storeSet_of e1 d1 (aj (h _ (b1.trans (lq _ a _)) i2)) (Fe (by rw[sz];exact x3)))))
 ·exact aj (h _ b1 i1)
theorem Gg{k:Int}{u:Tok}{Q:Bool->Shared->Prop}(hS:dP prog w s.heap a led L)(hr:L.length+1<scanBound)(h:∀b h',Heap.SameBut a s.heap h'->dP prog w h' a led (fO L k)->Q b {s with heap:=h'}):wpAny (model prog w) A (setAddHashed a (.int k u) ((intKind prog w).hash k)) Q E s:=by
 obtain⟨o,es,ep,t,ho,vj,hd,x1,x2,x3,x4,x5,x6,x7⟩:=id hS;have hk:(intKind prog w).is k (.int k u)=true:=intKind_is _ _ _ _;unfold setAddHashed setAddHashedIn;refine fX (af (zt ho hd x4 ?_));dsimp only;rw[byScan_of (knd:=intKind prog w) rfl x3 x1,aT rfl];unfold setAddByScan;refine af (af (oF (af (wpAny_setScan_of (knd:=intKind prog w) hk ho hd x4 x1 ?_))))
 cases q:es.toList.findIdx? (λe=>(intKind prog w).is k e.2)with
 | some j =>
  obtain⟨hj,pj,_⟩:=Nt.mp q;have JP:k∈L:=(x2 k).mpr ⟨_,sV hj,pj⟩;dsimp only;refine aj (aj ?_);have:=h false s.heap (Heap.SameBut.refl a s.heap) (by unfold fO;rw[aT JP];exact hS);exact this
 | none =>
  have Tq:k∉L:=λz=>by
   obtain⟨e,he,p⟩:=(x2 k).mp z;have:=List.findIdx?_eq_none_iff.mp q e he;rw[p]at this;cases this
  dsimp only;have pm:=layNew_perm t es ((intKind prog w).hash k) (.int k u);have ft:=layNew_fits t es ((intKind prog w).hash k) (.int k u);have ti:=KI x6 es ((intKind prog w).hash k) (.int k u);generalize layNew t es ((intKind prog w).hash k) (.int k u)=N at pm ft ti⊢;obtain⟨OJ,t1,wd,gv⟩:=N;dsimp only at pm ft ti⊢;rw[Array.toList_push]at pm;have y1:ElemsOf (intKind prog w) OJ.toList:=(x1.push hk rfl).perm pm;have sz:OJ.size=es.size+1:=by rw[<- oA,pm.length_eq,dv,oA];rfl
  have y2:∀k',k'∈L++[k]↔∃e∈OJ.toList,(intKind prog w).is k' e.2=true:=λk'=>by
   rw[iu,E8,x2 k'];constructor
   ·rintro(⟨e,he,p⟩ | rfl)
    ·exact⟨e,pm.mem_iff.mpr (Bt _ he),p⟩
    ·exact⟨_,pm.mem_iff.mpr (gP _ (E8.mpr rfl)),hk⟩
   ·rintro⟨e,he,p⟩;rcases iu.mp (pm.mem_iff.mp he)with he | he
    ·exact .inl ⟨e,he,p⟩
    ·rw[E8]at he;subst he;exact .inr ((intKind prog w).inj _ k' k p hk)
  have d_:∀h',Heap.SameBut a s.heap h'->dP prog w h' a led (L++[k])->Q true {s with heap:=h'}:=λh' b i=>h true h' b (by unfold fO;rw[aU Tq];exact i)
  have gw:∀(b:Bool)(bc:Shared)(Q':Unit->Shared->Prop),Q' () bc->wpAny (model prog w) A (match b with | true=>rule "set.scan.the-table-gave-way" | false=>pure ()) Q' E bc:=λb bc Q' z=>by
   cases b
   ·exact aj z
   ·exact oF z
  have y5:OJ.size=(L++[k]).length:=by rw[sz,x5,dv];rfl
  refine af (gw _ _ _ ?_);split
  ·rw[hashByValue_scannable 8 (x:=.int k u) rfl];refine af (aj ?_);show wpAny _ _ (storeSet a OJ t1 >>= _) _ _ _;exact ue (L:=L++[k]) (led:=led) (λb bc Q' z=>by cases b<;>first | exact aj z | exact oF z) ho vj hd y1 y2 ∅ ft y5 ti.1 (ti.2.trans x7) λh' b i=>aj (d_ h' b i)
  ·refine af (aj ?_);exact ue (L:=L++[k]) (led:=led) (λb bc Q' z=>by cases b<;>first | exact aj z | exact oF z) ho vj hd y1 y2 ∅ ft y5 ti.1 (ti.2.trans x7) λh' b i=>aj (d_ h' b i)
end
end L2
end
section
namespace L2
open PySem PySem.Spec PyProof.Rows
def uf(val:Nat->Int):Nat->Nat->List Int->List Int
 | 0,_,L=>L
 | k+1,i,L=>uf val k (i+1) (fO L (val i))
theorem dP.keep{prog:Program}{w:World}{h h':Heap}{a:Addr}{led:Bool}{L:List Int}(x:dP prog w h a led L)(k:∀o,h.get? a=some o->h'.get? a=some o):dP prog w h' a led L:=by
 obtain⟨o,es,ep,t,ho,r⟩:=x;exact⟨o,es,ep,t,k o ho,r⟩
theorem Cs(L:List Int)(k:Int):(fO L k).length<=L.length+1:=by
 unfold fO;split
 ·exact vJ _
 ·rw[dv];exact aq _
section
variable {prog:Program} {w:World} {A:Around} {R:Result->Shared->Prop} {I S:Addr} {fp wr:List Addr} {G:Array GenState->Array GenState->Prop} {n:Nat} {P:Nat->Value->Prop} {St:Nat->Shared->Prop} {led:Bool}
theorem ug (W : WalksS prog w A.in1 I fp wr G n P St) (nS : S ∉ fp) (val : Nat -> Int) (OK : ∀ i v, P i v -> ∃ t, v = .int (val i) t) (hb : n + 1 < scanBound) : ∀ (k i : Nat) (s : Shared) (L : List Int), i + k = n -> St i s -> dP prog w s.heap S led L -> L.length <= i ->
      (∀s',Moved (S::wr) G s s'->dP prog w s'.heap S led (uf val k i L)->R (.ok (.ret .none)) s')->codeAny (model prog w) A (.builtin "set.update.loop" ⟨[.ref S,.ref I],[]⟩) R s
  | 0,i,s,L,e,st,x,hl,d_=>by
    have e:i=n:=e;subst e;refine qg F.entry_set_update_loop ?_;rw[vB F.plain_set_update_loop _];show wpAny _ A.in1 (pyNext (.ref I) >>= _) _ _ s;refine af (W.done s _ _ st λs1 mv=>?_);show wpAny _ A.in1 (ret Value.none) _ _ s1;exact aj (d_ s1 (mv.mono λb q=>cZ _ q) (x.keep λo q=>mv.heap S o (λz=>nS (W.sub _ z)) q))
  | k+1,i,s,L,e,st,x,hl,d_=>by
    refine qg F.entry_set_update_loop ?_;rw[vB F.plain_set_update_loop _];show wpAny _ A.in1 (pyNext (.ref I) >>= _) _ _ s;refine af (W.item i s _ _ ∅ st λv s1 pv st1 mv=>?_);obtain⟨t,rfl⟩:=OK i v pv;have x1:dP prog w s1.heap S led L:=x.keep λo q=>mv.heap S o (λz=>nS (W.sub _ z)) q;show wpAny _ A.in1 (holding [Value.int (val i) t] (setAdd S (.int (val i) t)) >>= _) _ _ s1;refine af (fX ?_);unfold setAdd;refine fX (af ((intKind prog w).pyHash (k:=val i) (intKind_is _ _ _ _) ?_));refine Gg (s:={s1 with toks:=s1.toks+1}) x1 ∅ λb h' sb x2=>?_;refine aj ⟨zD F.plain_set_update_loop _,ug W nS val OK hb k (i+1) _ (fO L (val i)) ∅ (W.frame _ s1 _ _ st1 (vJ _) λc hc o q=>?_) x2 (bH (Cs _ _) (Nat.succ_le_succ hl)) λs2 XT x3=>?_⟩
    · rw[sb.2 c λz=>nS (z▸hc)];exact q
    · refine d_ s2 (Moved.trans W.gtrans ((mv.mono λb q=>cZ _ q).then_heap (vJ _) λc o hc q=>?_) XT) x3;rw[sb.2 c λz=>hc (z▸du)];exact q
end
section
variable {prog:Program} {w:World} {A:Around} {E:Value->Shared->Prop} {s:Shared}
abbrev da(led:Bool):Obj:={cls:=.type "set",dict:=none,data:=.set #[] 0 (.fresh 0 0 led)}
theorem Gh(b:Value){Q:Value->Shared->Prop} (h:Q (.ref s.heap.objs.size) {s with heap:=s.heap.push (da (!w.params.followText "set-order"))}):codeAny (model prog w) A (.call (.builtin "set.__new__") ⟨[.type "set",b],[]⟩) (wants Q E) s:=by
 refine codeAny_of_tree ?_;show wpAny _ A.in1 (checkBuiltinCall "set.__new__" ⟨[.type "set",b],[]⟩ >>= λ_=>again (.builtin "set.__new__" ⟨[.type "set",b],[]⟩)) _ _ s;refine af (wpAny_of_eq (F.newCall_set_1 b) (aj ⟨zD F.plain_set_new _,qg F.entry_set_new ?_⟩));rw[vB F.plain_set_new _];unfold Builtin.«set.__new__» Builtin.Frozenset.newClass;have z:=sub_set_self;obtain⟨hp,g,d,tk,os⟩:=s;dsimp only
 wp_walk
 refine zv (aj ?_);dsimp only;simp only[newObj];exact af (wpAny_alloc (aj (aj h)))
theorem An{h:Heap}{a:Addr}{led:Bool}(g:h.get? a=some (da led)):dP prog w h a led [] :=
 ⟨_,#[],0,_,g,⟨rfl,rfl,rfl⟩,rfl,λe he=>by simp at he,λk=>by simp,by decide,rfl,rfl,⟨List.Pairwise.nil,rfl⟩,rfl⟩
theorem Ct{l:Addr}{items:Array Value}{ns:List Int}{led:Bool}{Q:Value->Shared->Prop}(hh:A.handled=none)(hl:s.heap.IsList l items)(hi:IntsAre items.toList ns)(hb:items.size+1<scanBound)(h:∀h' tk,dP prog w h' s.heap.objs.size led (uf (λi=>ns.getD i 0) items.size 0 [])->(∀b o,s.heap.get? b=some o->h'.get? b=some o)->Q .none {s with heap:=h',toks:=tk}):codeAny (model prog w) A (.call (.builtin "set.__init__") ⟨[.ref s.heap.objs.size,.ref l],[]⟩) (wants Q E) {s with heap:=s.heap.push (da led)}:=by
 have gS:(s.heap.push (da led)).get? s.heap.objs.size=some (da led):=cw _ rfl;have hT:Shared.TypeIs {s with heap:=s.heap.push (da led)} (.ref s.heap.objs.size) "set" := ⟨_,gS,rfl⟩;refine E4 tj.init.plain F.entry_set_init (check_set_init_1 hT ?_);obtain⟨⟨oc,od,odt,qG⟩,ho,hc,nl,hd⟩:=id hl;simp only at hc hd;subst hc;subst hd;have KJ:=aR (da led) ho;have Iv:(s.heap.push (da led)).IsList l items:=⟨_,KJ,rfl,nl,rfl⟩;have z1:=F.sub_list_set;have z2:=F.sub_list_frozenset;have z3:(Value.type "list" == Value.type "dict")=false:=by decide
 unfold Builtin.«set.__init__» noKeywords Builtin.Frozenset.updateFrom;generalize hp:pyIter=PI
 wp_walk
 subst hp;refine vD Iv (af (wpAny_runValue ?_));have lt:l<s.heap.objs.size:=bp ho;have e2:(s.heap.push (da led)).objs.size=s.heap.objs.size+1:=iw _ _;refine ug (led:=led) (S:=s.heap.objs.size) (I:=(s.heap.push (da led)).objs.size) (Walks.list (prog:=prog) (w:=w) (by simp[hh]) (s.heap.push (da led)).objs.size l (by rw[e2];exact bW (jm lt)) items).toS (by rw[e2];simp only[bz,zw,fj,not_or];exact⟨bW (jq _),kc lt⟩) (λi=>ns.getD i 0) (λi v q=>IntsAre.int_at hi i v (by rw[qc];exact q)) hb items.size 0 _ [] (Nat.zero_add _) ⟨⟨_,cw _ rfl,rfl,rfl⟩,Iv.push _⟩ (An (aR _ gS)) (aq _) λs1 mv x=>?_;obtain⟨h1,g1,d1,t1,o1⟩:=s1;have q1:g1=s.gens:=mv.gens;have q2:d1=s.drawn:=mv.drawn;have q3:o1=s.os:=mv.os;subst q1 q2 q3;show wpAny _ _ _ _ _ _;refine aj ?_;show wpAny _ _ (ret Value.none) _ _ _;refine aj (h h1 t1 x λb o q=>mv.heap b o ?_ (aR _ (aR _ q)));have q4:b<s.heap.objs.size:=bp q;rw[e2];simp only[bz,zw,fj,not_or];exact⟨bW q4,bW (jm q4)⟩
theorem Cu{l:Addr}{items:Array Value}{ns:List Int}{Q:Value->Shared->Prop}(hh:A.handled=none)(hl:s.heap.IsList l items)(hi:IntsAre items.toList ns)(hb:items.size+1<scanBound) (h:∀h' tk,dP prog w h' s.heap.objs.size (!w.params.followText "set-order") (uf (λi=>ns.getD i 0) items.size 0 [])->(∀b o,s.heap.get? b=some o->h'.get? b=some o)->Q (.ref s.heap.objs.size) {s with heap:=h',toks:=tk}):wpAny (model prog w) A (call (.type "set") [.ref l]) Q E s:=by
 obtain⟨c,tl,f1⟩:=tj.mro;have f2:=tj.made;have f3:=tj.sub;have f4:=tj.notType;have f5:=tj.canCreate;have f6:=F.typeCall_set_1 (.ref l);refine zG (codeAny_of_tree ?_);show wpAny _ _ (callAny (.type "set") _) _ _ _;refine aj ⟨E9 _ ⋯,qg F.entry_type_call ?_⟩;rw[Around.under_plain (weight_type_call_type "set" [.ref l] []) rfl]
 repeat (any_goals (first | assumption | wp_step))
 refine qh (Gh (.ref l) (E:=E) (Q:=λv bc=>v=.ref s.heap.objs.size/\bc={s with heap:=s.heap.push (da (!w.params.followText "set-order"))}) ⟨rfl,rfl⟩) λr bc hr=>?_
 cases r with
 | error e=>exact hr
 | ok fl =>
  cases fl with
  | ret v =>
   obtain⟨rfl,rfl⟩:=hr;have gS:(s.heap.push (da (!w.params.followText "set-order"))).get? s.heap.objs.size=some (da (!w.params.followText "set-order")):=cw _ rfl;have hT:Shared.TypeIs {s with heap:=s.heap.push (da (!w.params.followText "set-order"))} (.ref s.heap.objs.size) "set" := ⟨_,gS,rfl⟩;have f7:=tj.init.lookup;have f8:=tj.init.bind (.ref s.heap.objs.size)
   repeat (any_goals (first | assumption | wp_step))
   refine qh (Ct (A:=A.in1) (E:=E) (led:=!w.params.followText "set-order") (Q:=λv bc=>v=.none/\∃h' tk,bc={s with heap:=h',toks:=tk}/\dP prog w h' s.heap.objs.size (!w.params.followText "set-order") (uf (λi=>ns.getD i 0) items.size 0 [])/\∀b o,s.heap.get? b=some o->h'.get? b=some o) (by simp[hh]) hl hi hb λh' tk x k=>⟨rfl,h',tk,rfl,x,k⟩) λr bc hr=>?_
   cases r with
   | error e=>exact hr
   | ok fl =>
    cases fl with
    | ret v =>
     obtain⟨rfl,h',tk,rfl,x,k⟩:=hr
     repeat (any_goals (first | assumption | wp_step))
     exact h h' tk x k
    | _=>exact hr.elim
  | _=>exact hr.elim
end
end L2
end
section
namespace L2
open PySem PySem.Spec PyProof.Rows
theorem x9:Manifest.owners.lookup (String.ofList "rotareti_tes".toList.reverse)=some Manifest.sig_set_iterator:=nofun
theorem cQ:Slot "set_iterator" "__next__" "set_iterator.__next__" :=
 .of (owner := "set_iterator") (n := "__next__") (by rw[typeLookup_type,Jx];kernel_rfl) ⋯ ⋯ ⋯
  (by first | exact .inl ⋯ | exact .inr ⋯) (by rw[isSubtype_type];kernel_rfl)
theorem lR:entryFor table "set_iterator.__next__" = some Builtin.«set_iterator.__next__»:=entryFor_of_tree (nofun)
theorem jG(a:Value):argsOk "set_iterator.__next__" ⟨[a],[]⟩:=by
 unfold argsOk;rw[signature?_of (id := "set_iterator.__next__") (n := "__txen__".toList) (o := "rotareti_tes".toList) (nofun) x9];kernel_rfl
theorem Ao:entryFor table "set.__iter__" = some Builtin.«frozenset.__iter__»:=entryFor_alias (id' := "frozenset.__iter__") (nofun) rfl ⋯ (nofun)
noncomputable def x_(h:Heap)(it:Addr)(f:Value)(i:Nat)(a:Addr)(n ep:Nat):Prop:=∃o,h.get? it=some o/\o.cls=.type "set_iterator" /\ o.data=.fields #[f,.int i 0,.ref a,.int n 0,.int ep 0]
section
variable {prog:Program} {w:World} {A:Around} {E:Value->Shared->Prop} {s:Shared} {a it:Addr}
theorem x_.ty{f:Value}{i n ep:Nat}(x:x_ s.heap it f i a n ep):s.TypeIs (.ref it) "set_iterator" := by
 obtain⟨o,ho,hc,_⟩:=x;exact⟨o,ho,hc⟩
theorem qT{cM:Source}{n:Nat}{Q:Nat->Shared->Prop}(hn:0<n)(h:∀i d,i<n->Q i {s with drawn:=d}):wpAny (model prog w) A (choose cM n) Q E s :=
 λΓ p hΓ=>⟨kc hn,h _ _ (Nat.mod_lt _ hn)⟩
theorem iY{α:Type}:∀{l:List α}{i:Nat}(h:i<l.length),(l[i]::l.eraseIdx i).Perm l
 | x::l,0,h=>.refl _
 | x::l,i+1,h=>(List.Perm.swap _ _ _).trans (.cons x (iY (l:=l) (i:=i) (Nat.lt_of_succ_lt_succ h)))
theorem jH{α:Type}:∀(n:Nat)(xs:List α)(s:Shared)(Q:List α->Shared->Prop),xs.length=n->(∀ys d,ys.Perm xs->Q ys {s with drawn:=d})->wpAny (model prog w) A (drawOrder n xs) Q E s
 | 0,[],s,Q,e,h=>by unfold drawOrder;exact aj (h [] s.drawn .nil)
 | 0,_::_,s,Q,e,h=>by cases e
 | n+1,[],s,Q,e,h=>by cases e
 | n+1,x::xs,s,Q,e,h=>by
  unfold drawOrder;refine af (qT (by simp) λi d hi=>?_);rw[cf hi];refine af (jH n _ _ _ ?_ λys d' p=>?_)
  ·rw[List.length_eraseIdx,aT hi];rw[e];rfl
  ·exact aj (h _ d' ((List.Perm.cons _ p).trans (iY hi)))
noncomputable def Ap(prog:Program)(w:World)(a:Addr)(o:Obj)(ep:Nat)(sl:Nat->Nat)(vs:List Value):Prop :=
 ∀(A:Around)(E:Value->Shared->Prop)(s:Shared)(Q:Option (Value×Nat)->Shared->Prop)(i:Nat),s.heap.get? a=some o->i<=vs.length->Q (vs[i]?.map λx=>(x,sl (i+1))) s->wpAny (model prog w) A (setNext a (sl i) i ep) Q E s
theorem ya{α:Type}(nx:Nat->Nat):∀(f k:Nat)(l:List α)(out:Array α),l.length=f->∃ys,ys.Perm l/\(pickOrder.go nx f k l out).toList=out.toList++ys
 | 0,k,l,out,e=>by
  obtain rfl:=EZ.mp e;unfold pickOrder.go;exact⟨[],.nil,by simp⟩
 | f+1,k,l,out,e=>by
  unfold pickOrder.go;have hl:nx k % l.length<l.length:=Nat.mod_lt _ ∅;rw[cf hl];obtain⟨ys,p,q⟩:=ya nx f (k+1) (l.eraseIdx (nx k % l.length)) (out.push l[nx k % l.length]) (by rw[List.length_eraseIdx,aT hl];omega);refine⟨l[nx k % l.length]::ys,(List.Perm.cons _ p).trans (iY hl),?_⟩;dsimp only;rw[q];simp
theorem Aq{α:Type}(nx:Nat->Nat)(es:Array α):(pickOrder nx es).toList.Perm es.toList:=by
 unfold pickOrder;obtain⟨ys,p,q⟩:=ya nx es.size 0 es.toList #[] (by simp);rw[q];simpa using p
theorem Ar{o:Obj}{es:Array (Int×Value)}{ep:Nat}{t:SetTable}(hd:o.data=.set es ep t)(hf:t.fits es.size=true) (hT:w.params.followText "set-order" = true):∃vs,vs.Perm (es.toList.map (·.2))/\Ap prog w a o ep (λ_=>0) vs:=by
 refine⟨_,(Aq (w.params.setOrder a ep) es).map (·.2),λA E s Q i ho hi q=>?_⟩;unfold setNext;refine af (zt ho hd hf ?_);dsimp only;unfold setsByText;refine af (af (zv (aj ?_)));rw[show(Setting.params ⟨(model prog w).prog,(model prog w).w.params⟩).followText "set-order" = true from hT,aT rfl];rw[aU (by simp)];unfold setWalk;refine af (af (zt ho hd hf ?_));unfold setsByText;refine af (af (zv (aj ?_)));rw[show(Setting.params ⟨(model prog w).prog,(model prog w).w.params⟩).followText "set-order" = true from hT,aT rfl];refine af (zv (aj (aj ?_)))
 have e:((pickOrder (w.params.setOrder a ep) es)[i]?.map λe=>(e.2,0))=((pickOrder (w.params.setOrder a ep) es).toList.map (·.2))[i]?.map λx=>(x,0):=by
  rw[dy,qc];cases (pickOrder (w.params.setOrder a ep) es)[i]? <;> rfl
 show Q ((pickOrder (w.params.setOrder a ep) es)[i]?.map λe=>(e.2,0)) s;rw[e];exact q
noncomputable def slotAt(xs:Array Nat):Nat->Nat
 | 0=>0
 | i+1=>xs.getD i 0+1
theorem Cv{xs:Array Nat}(r:Al xs){i:Nat}(hi:i<=xs.size):SetTable.below xs (slotAt xs i)=i:=by
 obtain⟨h1,h2,h3⟩:=uc r (slotAt xs i)
 have lo:∀k x,k<i->xs[k]?=some x->x<slotAt xs i:=λk x hk e=>by
  cases i with
  | zero=>exact absurd hk (zy _)
  | succ i =>
   have q:xs[i]?=some xs[i]:=la hi;show x<xs.getD i 0+1;rw[show xs.getD i 0=xs[i] by simp[Array.getD,show i<xs.size from hi]];rcases qi k i with z | z
   ·exact jm (r.lt e q z)
   ·obtain rfl:k=i:=∅;rw[q]at e;cases e;exact jq _
 have up:∀k x,i<=k->xs[k]?=some x->slotAt xs i<=x:=λk x hk e=>by
  cases i with
  | zero=>exact jt _
  | succ i =>
   have q:xs[i]?=some xs[i]:=la hi;show xs.getD i 0+1<=x;rw[show xs.getD i 0=xs[i] by simp[Array.getD,show i<xs.size from hi]];exact r.lt q e hk
 rcases Nat.lt_trichotomy (SetTable.below xs (slotAt xs i)) i with z | z | z
 ·have q:=la (xs:=xs) (i:=SetTable.below xs (slotAt xs i)) ∅;have:=lo _ _ z q;have:=h3 _ _ (aq _) q;omega
 ·exact z
 ·have q:=la (xs:=xs) (i:=i) ∅;have:=h2 _ _ z q;have:=up _ _ (aq _) q;omega
theorem As{o:Obj}{es:Array (Int×Value)}{ep:Nat}{t:SetTable}(hd:o.data=.set es ep t)(hf:t.fits es.size=true) (hT:w.params.followText "set-order" = false) (hl:t.led=true) (ti:Tb t) (hp:(!t.plain&&decide (es.size>1))=false):Ap prog w a o ep (slotAt t.place) (es.toList.map (·.2)):=by
 intro A E s Q i ho hi q
 have sz:t.place.size=es.size:=by
  unfold SetTable.fits at hf;simp only[ay,e_]at hf;exact hf.1
 unfold setNext;refine af (zt ho hd hf ?_);dsimp only;unfold setsByText;refine af (af (zv (aj ?_)));rw[show(Setting.params ⟨(model prog w).prog,(model prog w).w.params⟩).followText "set-order" = false from hT,aU ao]
 rw[aU (λz=>by
  have z:(!t.plain&&decide (es.size>1))=true:=z;rw[hp]at z;cases z)]
 show wpAny _ _ ((if (!t.led && !es.isEmpty)=true then (unsupported "set:maker-not-led" : Sem Unit) else pure ()) >>= _) _ _ _;rw[hl,aU (by simp)];refine af (aj (aj ?_));rw[aZ,oA]at hi;rw[Cv ti.VP ∅];rw[dy,qc]at q;rcases qi i es.size with z | z
 ·rw[la z]at q⊢;rw[la (xs:=t.place) (i:=i) ∅];have e:slotAt t.place (i+1)=t.place[i]+1:=by show t.place.getD i 0+1=_;simp[Array.getD,show i<t.place.size by omega]
  rw[e]at q;exact q
 ·rw[Array.getElem?_eq_none z]at q⊢;exact q
theorem Cy{o:Obj}{es:Array (Int×Value)}{ep i:Nat}{t:SetTable}{sl:Nat->Nat}{vs:List Value}{x:Value}{Q:Option Value->Shared->Prop}(hd:o.data=.set es ep t)(hf:t.fits es.size=true)(rd:Ap prog w a o ep sl vs)(st:x_ s.heap it (.int (sl i) 0) i a es.size ep)(ho:s.heap.get? a=some o)(hx:vs[i]?=some x)(q:∀h,x_ h it (.int (sl (i+1)) 0) (i+1) a es.size ep->Heap.SameBut it s.heap h->Q (some x) {s with heap:=h}):wpAny (model prog w) A (pyNext (.ref it)) Q E s:=by
 obtain⟨oi,yb,hc,uh⟩:=id st;unfold pyNext;refine af (zC (mi (name:=Str.ofString "__next__") st.ty cQ (iP cQ st.ty lR ?_ (jG _))));unfold Builtin.«set_iterator.__next__»;refine af (aj ?_);refine af (wpAny_fieldsOf yb uh ?_);dsimp only;refine af (Bw ho hd hf ?_);rw[aU (by simp)];simp only[mw];refine af (rd _ _ _ _ i ho (j_ (cP.mp hx).1) ?_);rw[hx];dsimp only[Option.map];refine af (mC (i:=0) yb uh (by simp) ?_);have g1:=mj (Obj.mapFields (·.setIfInBounds 0 (rawInt (sl (i+1))))) yb (vA (lr uh _));have d1:=lr uh (·.setIfInBounds 0 (rawInt (sl (i+1))));refine af (mC (i:=1) g1 d1 (by simp) ?_);have g2:=mj (Obj.mapFields (·.setIfInBounds 1 (rawInt ((i:Int)+1)))) g1 (vA (lr d1 _));exact aj ⟨_,rfl,aj (q _ ⟨_,g2,(BA ..).trans ((BA ..).trans hc),by rw[lr d1];simp[rawInt]⟩ ((lq ..).trans (lq ..)))⟩
theorem yc {Q : Option Value -> Shared -> Prop} (hh : A.handled = none) (q : ∀ h, (∀ b o, s.heap.get? b = some o -> h.get? b = some o) -> Q none { s with heap := h }) :
    wpAny (model prog w) A.in1 (newExc (.type "StopIteration") [] >>= λe=>raiseNew e) (λ(d_:Fin) s'=>∃v,d_=Fin.done (Flow.ret v)/\wpAny (model prog w) A (pure (some v)) Q E s')
      (λe s'=>wpAny (model prog w) A (isInstance e (.type "StopIteration") >>= λb=>if b=true then pure none else throw e) Q E s') s:=by
  refine af ?_;simp only[newExc,newTuple];refine af (e9 ?_ (by size_fits));refine af (m:=firstArgMember _ _) (wpAny_of_eq (a:=Value.none) (by first | rfl | (simp only[firstArgMember];rfl)) (e9 ?_ (by size_fits)));simp only[raiseNew];refine af (wpAny_handled ?_);rw[show A.in1.handled=none from hh];refine af (aj (wpAny_throw (af ?_)));refine wpAny_isInstance (T := "StopIteration") (b:=true) ⟨_,cw _ rfl,rfl⟩ isSubtype_stop ?_;exact aj (q _ λb o e=>aR _ (aR _ e))
theorem Gi{o:Obj}{es:Array (Int×Value)}{ep i:Nat}{t:SetTable}{sl:Nat->Nat}{vs:List Value}{Q:Option Value->Shared->Prop}(hh:A.handled=none)(hd:o.data=.set es ep t)(hf:t.fits es.size=true)(rd:Ap prog w a o ep sl vs)(st:x_ s.heap it (.int (sl i) 0) i a es.size ep)(ho:s.heap.get? a=some o)(hx:i=vs.length)(q:∀h,Heap.ExtBut it s.heap h->Q none {s with heap:=h}):wpAny (model prog w) A (pyNext (.ref it)) Q E s:=by
 obtain⟨oi,yb,hc,uh⟩:=id st;unfold pyNext;refine af (zC (mi (name:=Str.ofString "__next__") st.ty cQ (iP cQ st.ty lR ?_ (jG _))));unfold Builtin.«set_iterator.__next__»;refine af (aj (af (wpAny_fieldsOf yb uh ?_)));dsimp only;refine af (Bw ho hd hf ?_);rw[aU (by simp)];simp only[mw];refine af (rd _ _ _ _ i ho (oE hx) ?_);rw[ml (oE hx.symm)];dsimp only[Option.map];refine af (mC (i:=2) yb uh (by simp) ?_);exact yc hh λh k=>q h λb o2 hb e=>k b o2 (((lq s.heap it _).2 b hb).trans e)
theorem Cz{o:Obj}{es:Array (Int×Value)}{ep i p:Nat}{t:SetTable}{tp:Addr}{ps:List Nat}{e:Int×Value}{Q:Option Value->Shared->Prop}(hd:o.data=.set es ep t)(hf:t.fits es.size=true)(st:x_ s.heap it (.ref tp) i a es.size ep)(ho:s.heap.get? a=some o)(ht:∃ot n,s.heap.get? tp=some ot/\ot.data=.seq (ps.map λ(p:Nat)=>rawInt p).toArray n)(hp:ps[i]?=some p)(he:es[p]?=some e)(q:∀h,x_ h it (.ref tp) (i+1) a es.size ep->Heap.SameBut it s.heap h->Q (some e.2) {s with heap:=h}):wpAny (model prog w) A (pyNext (.ref it)) Q E s:=by
 obtain⟨oi,yb,hc,uh⟩:=id st;obtain⟨ot,nt,KL,Tr⟩:=ht;unfold pyNext;refine af (zC (mi (name:=Str.ofString "__next__") st.ty cQ (iP cQ st.ty lR ?_ (jG _))));unfold Builtin.«set_iterator.__next__»;refine af (aj (af (wpAny_fieldsOf yb uh ?_)));dsimp only;refine af (Bw ho hd hf ?_);rw[aU (by simp)];unfold seqItems?;refine af (af (zF KL ?_));rw[Tr];refine aj ?_;dsimp only;simp only[mw,E3,dy,hp,Option.map,rawInt];unfold setNextDrawn;refine af (af (zt ho hd hf ?_));dsimp only;rw[aU (by simp)];simp only[mw,he];refine aj (af (mC (i:=1) yb uh (by simp) ?_));have g2:=mj (Obj.mapFields (·.setIfInBounds 1 (.int ((i:Int)+1) 0))) yb (vA (lr uh _));exact aj ⟨_,rfl,aj (q _ ⟨_,g2,(BA ..).trans hc,by rw[lr uh];simp⟩ (lq ..))⟩
theorem Gj{o:Obj}{es:Array (Int×Value)}{ep i:Nat}{t:SetTable}{tp:Addr}{ps:List Nat}{Q:Option Value->Shared->Prop}(hh:A.handled=none)(hd:o.data=.set es ep t)(hf:t.fits es.size=true)(st:x_ s.heap it (.ref tp) i a es.size ep)(ho:s.heap.get? a=some o)(ht:∃ot n,s.heap.get? tp=some ot/\ot.data=.seq (ps.map λ(p:Nat)=>rawInt p).toArray n)(hp:i=ps.length)(q:∀h,Heap.ExtBut it s.heap h->Q none {s with heap:=h}):wpAny (model prog w) A (pyNext (.ref it)) Q E s:=by
 obtain⟨oi,yb,hc,uh⟩:=id st;obtain⟨ot,nt,KL,Tr⟩:=ht;unfold pyNext;refine af (zC (mi (name:=Str.ofString "__next__") st.ty cQ (iP cQ st.ty lR ?_ (jG _))));unfold Builtin.«set_iterator.__next__»;refine af (aj (af (wpAny_fieldsOf yb uh ?_)));dsimp only;refine af (Bw ho hd hf ?_);rw[aU (by simp)];unfold seqItems?;refine af (af (zF KL ?_));rw[Tr];refine aj ?_;dsimp only;simp only[mw,E3,dy,ml (oE hp.symm),Option.map];refine af (mC (i:=0) yb uh (by simp) ?_);have g1:=mj (Obj.mapFields (·.setIfInBounds 0 (rawInt 0))) yb (vA (lr uh _));have d1:=lr uh (·.setIfInBounds 0 (rawInt 0));refine af (mC (i:=2) g1 d1 (by simp) ?_);exact yc hh λh k=>q h λb o2 hb e=>k b o2 (((lq _ it _).2 b hb).trans (((lq s.heap it _).2 b hb).trans e))
end
end L2
end
section
namespace L2
open PySem PySem.Spec PyProof.Rows
theorem pK:Slot "set_iterator" "__iter__" "set_iterator.__iter__" :=
 .of (owner := "set_iterator") (n := "__iter__") (by rw[typeLookup_type,Jx];kernel_rfl) ⋯ ⋯ ⋯
  (by first | exact .inl ⋯ | exact .inr ⋯) (by rw[isSubtype_type];kernel_rfl)
theorem CA:entryFor table "set_iterator.__iter__" = some Builtin.«dict_keyiterator.__iter__»:=entryFor_alias (id' := "dict_keyiterator.__iter__") (nofun) rfl ⋯ (nofun)
theorem Au(a:Value):argsOk "set_iterator.__iter__" ⟨[a],[]⟩:=by
 unfold argsOk;rw[signature?_of (id := "set_iterator.__iter__") (n := "__reti__".toList) (o := "rotareti_tes".toList) (nofun) x9];kernel_rfl
section
variable {prog:Program} {w:World} {A:Around} {E:Value->Shared->Prop} {s:Shared} {a it:Addr} {o:Obj} {es:Array (Int×Value)} {ep:Nat} {t:SetTable}
theorem OL{f:Value}{i n:Nat}{Q:Value->Shared->Prop}(st:x_ s.heap it f i a n ep)(h:Q (.ref it) s):wpAny (model prog w) A (pyIter (.ref it)) Q E s:=by
 refine wpAny_pyIter_slot st.ty pK (iP pK st.ty CA ?_ (Au _));show wpAny _ _ (ret (.ref it)) _ _ s;exact aj ⟨_,rfl,"set_iterator",_,st.ty,cQ.lookup,h⟩
theorem x_.keep{h h':Heap}{f:Value}{i n:Nat}(x:x_ h it f i a n ep)(k:∀o,h.get? it=some o->h'.get? it=some o):x_ h' it f i a n ep:=by
 obtain⟨o,e,r⟩:=x;exact⟨o,k o e,r⟩
theorem Av{sl:Nat->Nat}{vs:List Value}(hh:A.handled=none)(ne:a≠it)(hd:o.data=.set es ep t)(hf:t.fits es.size=true)(rd:Ap prog w a o ep sl vs):WalksS prog w A it [it,a] [it] (λx y=>y=x) vs.length (λi v=>vs[i]?=some v) (λi s=>x_ s.heap it (.int (sl i) 0) i a es.size ep/\s.heap.get? a=some o) where
 sub:=λb hb=>by simp at hb;simp[hb]
 grefl:=λ_=>rfl
 gtrans:=λ_ _ _ p q=>q.trans p
 frame:=λi s h' tk st _ k=>⟨st.1.keep λo e=>k it (by simp) o e,k a (by simp) _ st.2⟩
 item:=λi s Q E hi st q=>by
  refine Cy hd hf rd st.1 st.2 (cf hi) λh Bm sb=>q _ _ (cf hi) ⟨Bm,(sb.2 a ne).trans st.2⟩ ⟨λb o hb e=>(sb.2 b (by simpa using hb)).trans e,rfl,rfl,rfl,aq _⟩
 done:=λs Q E st q=>Gi hh hd hf rd st.1 st.2 rfl λh eb=>q _ ⟨λb o hb e=>eb b o (by simpa using hb) e,rfl,rfl,rfl,aq _⟩
 self:=λi s Q E st q=>OL st.1 q
theorem v_{tp:Addr}{ps:List Nat}{vs:List Value}(hh:A.handled=none)(ne:a≠it)(nt:tp≠it)(hd:o.data=.set es ep t)(hf:t.fits es.size=true)(hv:∀(i p:Nat),ps[i]?=some p->∃u,es[p]?=some u/\vs[i]?=some u.2)(hl:vs.length=ps.length):WalksS prog w A it [it,a,tp] [it] (λx y=>y=x) vs.length (λi v=>vs[i]?=some v) (λi s=>x_ s.heap it (.ref tp) i a es.size ep/\s.heap.get? a=some o/\∃ot n,s.heap.get? tp=some ot/\ot.data=.seq (ps.map λ(p:Nat)=>rawInt p).toArray n) where
 sub:=λb hb=>by simp at hb;simp[hb]
 grefl:=λ_=>rfl
 gtrans:=λ_ _ _ p q=>q.trans p
 frame:=λi s h' tk st _ k=>⟨st.1.keep λo e=>k it (by simp) o e,k a (by simp) _ st.2.1,by obtain⟨ot,n,e,d⟩:=st.2.2;exact⟨ot,n,k tp (by simp) _ e,d⟩⟩
 item:=λi s Q E hi st q=>by
  obtain⟨st1,tK,ot,n,e,d⟩:=st;have hp:ps[i]?=some ps[i]:=cf ∅;obtain⟨u,he,ev⟩:=hv i _ hp;exact Cz hd hf st1 tK ⟨ot,n,e,d⟩ hp he λh Bm sb=>q _ _ ev ⟨Bm,(sb.2 a ne).trans tK,ot,n,(sb.2 tp nt).trans e,d⟩ ⟨λb o hb e=>(sb.2 b (by simpa using hb)).trans e,rfl,rfl,rfl,aq _⟩
 done:=λs Q E st q=>Gj hh hd hf st.1 st.2.1 st.2.2 hl λh eb=>q _ ⟨λb o hb e=>eb b o (by simpa using hb) e,rfl,rfl,rfl,aq _⟩
 self:=λi s Q E st q=>OL st.1 q
abbrev wa(f:Value)(a:Addr)(n ep:Nat):Obj:={cls:=.type "set_iterator",data:=.fields #[f,.int 0 0,.ref a,.int n 0,.int ep 0]}
theorem CB{Q:Value->Shared->Prop}(ho:s.heap.get? a=some o)(vj:o.ExactSet)(hd:o.data=.set es ep t)(hf:t.fits es.size=true)(ti:Tb t) (hl:t.led=!w.params.followText "set-order") (hb:es.size<scanBound) (q1:∀sl vs,sl 0=0->vs.Perm (es.toList.map (·.2))->Ap prog w a o ep sl vs->Q (.ref s.heap.objs.size) {s with heap:=s.heap.push (wa (.int 0 0) a es.size ep)}) (q2:∀(ps:List Nat) d,ps.Perm (List.range es.size)->Q (.ref (s.heap.objs.size+1)) {s with heap:=(s.heap.push {cls:=.type "tuple",data:=.seq (ps.map λ(p:Nat)=>rawInt p).toArray}).push (wa (.ref s.heap.objs.size) a es.size ep),drawn:=d}):wpAny (model prog w) A (pyIter (.ref a)) Q E s:=by
 have hT:s.TypeIs (.ref a) "set" := ⟨o,ho,vj.1⟩;refine wpAny_pyIter_slot hT PySem.F.slot_set_iter (iP PySem.F.slot_set_iter hT Ao ?_ (PySem.F.args_set_iter_1 _));unfold Builtin.«frozenset.__iter__» Builtin.Frozenset.slot0;refine af (af (aj (aj ?_)));unfold Builtin.Frozenset.sizeOf;refine af (af (Bw ho hd hf (aj ?_)));unfold setDrawn;refine af (af (zt ho hd hf ?_));unfold setsByText;dsimp only;refine af (af (zv (aj (aj ?_))));have nx:=cQ.lookup;by_cases KM:w.params.followText "set-order" = true
 ·rw[show(Setting.params ⟨(model prog w).prog,(model prog w).w.params⟩).followText "set-order" = true from KM];rw[aU (by simp)];refine af (aj (af (wpAny_setEpoch_of ho hd hf ?_)));obtain⟨vs,p,rd⟩:=Ar (prog:=prog) (a:=a) hd hf KM;simp only[newFields];exact af (e9 (aj ⟨_,rfl,"set_iterator",_,⟨_,cw _ rfl,rfl⟩,nx,q1 _ vs rfl p rd⟩))
 ·replace KM:w.params.followText "set-order" = false:=BB.mpr KM
  rw[show(Setting.params ⟨(model prog w).prog,(model prog w).w.params⟩).followText "set-order" = false from KM];by_cases hp:(!t.plain&&decide (es.size>1))=true
  ·show wpAny _ _ (if (!t.plain&&decide (es.size>1))=true then _ else _) _ _ _;rw[aT hp];refine af (jH _ _ _ _ (vE ..) λps d p=>?_);simp only[newFields,newTuple];refine af (e9 ?_ ?_)
   ·refine af (wpAny_setEpoch_of (aR _ ho) hd hf ?_);refine af (e9 (aj ⟨_,rfl,"set_iterator",_,⟨_,cw _ rfl,rfl⟩,nx,?_⟩));have:=q2 ps d p;rw[<- iw s.heap {cls:=.type "tuple",data:=.seq (ps.map λ(p:Nat)=>rawInt p).toArray}]at this;exact this
   ·have hz:=Fe hb;have e:=p.length_eq;rw[vE]at e;show(ps.map λ(p:Nat)=>rawInt p).toArray.size<=sizeLine;rw[cg,aZ,e];exact hz
  ·show wpAny _ _ (if (!t.plain&&decide (es.size>1))=true then _ else _) _ _ _;rw[aU hp];refine af (aj (af (wpAny_setEpoch_of ho hd hf ?_)));simp only[newFields];exact af (e9 (aj ⟨_,rfl,"set_iterator",_,⟨_,cw _ rfl,rfl⟩,nx,q1 _ _ rfl (.refl _) (As hd hf KM (by rw[hl,KM];rfl) ti (BB.mpr hp))⟩))
theorem ui:∀(vs:List Value),(∀v∈vs,∃k t,v=.int k t)->∃ns,IntsAre vs ns/\ns.length=vs.length/\∀k,k∈ns↔∃t,Value.int k t∈vs
 | [],_=>⟨[],.nil,rfl,λk=>by simp⟩
 | v::vs,h=>by
  obtain⟨k,t,rfl⟩:=h v (by simp);obtain⟨ns,r,l,m⟩:=ui vs λu hu=>h u (cZ _ hu);refine⟨k::ns,.cons k t r,by simp[l],λj=>?_⟩;rw[bz,m j];constructor
  ·rintro(rfl | ⟨u,z⟩)
   ·exact⟨t,by simp⟩
   ·exact⟨u,cZ _ z⟩
  ·rintro⟨u,z⟩;rcases bz.mp z with z | z
   ·cases z;exact .inl rfl
   ·exact .inr ⟨u,z⟩
theorem CD{L:List Int}{vs:List Value}(x1:ElemsOf (intKind prog w) es.toList)(x2:∀k,k∈L↔∃e∈es.toList,(intKind prog w).is k e.2=true)(x5:es.size=L.length)(p:vs.Perm (es.toList.map (·.2))):∃ns,IntsAre vs ns/\ns.length=L.length/\∀k,k∈ns↔k∈L:=by
 have shape:∀k v,(intKind prog w).is k v=true->∃t,v=.int k t:=λk v h=>Value.isInt_shape h
 obtain⟨ns,r,l,m⟩:=ui vs λv hv=>by
  obtain⟨e,he,rfl⟩:=iR.mp (p.mem_iff.mp hv);obtain⟨⟨k,hk,_⟩,_⟩:=x1 e he;exact⟨k,shape k _ hk⟩
 refine⟨ns,r,by rw[l,p.length_eq,aZ,oA,x5],λk=>?_⟩;rw[m k,x2 k];constructor
 ·rintro⟨t,z⟩;obtain⟨e,he,q⟩:=iR.mp (p.mem_iff.mp z);exact⟨e,he,by rw[q];exact intKind_is _ _ _ _⟩
 ·rintro⟨e,he,q⟩;obtain⟨t,z⟩:=shape k _ q;exact⟨t,p.mem_iff.mpr (iR.mpr ⟨e,he,z⟩)⟩
theorem uj{Q:Bool->Shared->Prop}(ho:s.heap.get? a=some o)(vj:o.ExactSet)(q:Q false s):wpAny (model prog w) A (Builtin.List.listLengthHint (.ref a)) Q E s:=by
 have hT:s.TypeIs (.ref a) "set" := ⟨o,ho,vj.1⟩;unfold Builtin.List.listLengthHint;refine af (wpAny_specialOf hT PySem.F.slot_set_len.lookup ?_);generalize VQ:("set.__len__" : String)=XU
 wp_delta
 rw[show splitId XU=some ("set","__len__") from by subst VQ;decide +kernel];subst VQ;refine af (wpAny_isInstance (b:=true) hT (by rw[isSubtype_type];kernel_rfl) ?_);refine af (tf hT ?_);exact aj q
theorem uk{l:Addr}{Q:Unit->Shared->Prop} (hl:s.heap.get? l=some {cls:=.type "list",data:=.seq ([]:List Value).toArray}) (q:∀h' c,Heap.SameBut l s.heap h'->h'.get? l=some {cls:=.type "list",dict:=none,data:=.seq #[] c,slots:=#[]}->Q () {s with heap:=h'}):wpAny (model prog w) A (Builtin.List.listTouch (.ref l)) Q E s:=by
 unfold Builtin.List.listTouch;refine af (listUpdate_at hl rfl ?_ (by simp) (by show(#[].push Value.none).size<=_;simp));have g1:=mj (Obj.mapSeq (·.push Value.none)) hl rfl;refine listUpdate_at g1 rfl ?_ (by show(#[].push Value.none).size<=_;simp[qj]) (by show(#[].push Value.none).pop.size<=_;simp);have g2:=mj (Obj.mapSeq (·.pop)) g1 rfl;exact q _ _ ((lq ..).trans (lq ..)) g2
theorem um {fp : List Addr} {n : Nat} {P : Nat -> Value -> Prop} {St : Nat -> Shared -> Prop} {l : Addr} {c : Nat} {Q : List Value -> Shared -> Prop} (W : WalksS prog w A.in1 it fp [it] (fun x y => y = x) n P St) (hn : n <= sizeLine) (hS : l ∉ fp) (st : St 0 s)
    (hl:s.heap.get? l=some {cls:=.type "list",dict:=none,data:=.seq #[] c,slots:=#[]}) (q:∀s' aE,Moved [l,it] (λx y=>y=x) s s'->ItemsOf P aE n->l<s'.heap.objs.size->Q aE.toList s') :
    codeAny (model prog w) A (.builtin "list.extend.loop" ⟨[.ref l,.ref it,.ref l],[]⟩) (λr s'=>match r with
      | .ok (.ret v)=>wpAny (model prog w) A (match v with
        | .ref a=>load a >>= λo=>match o.data with
          | .seq xs _=>pure xs.toList
          | _=>unsupported "internal:collect"
        | _=>unsupported "internal:collect") Q E s'
      | .ok _=>False
      | .error e=>E e s') s:=by
  refine codeAny_extend_loopS W hn l hS _ n 0 s #[] c rfl (jt _) st hl (ItemsOf.nil P) λs' aE c' mv g ia=>?_;dsimp only;refine af (zF g ?_);exact aj (q s' aE mv ia (bp g))
theorem Aw(es:Array (Int×Value)):(List.range es.size).map (λp=>((es[p]?).map (λ(e:Int×Value)=>e.2)).getD .none)=es.toList.map (·.2):=by
 refine JG λi=>?_;rw[dy,dy];rcases qi i es.size with z | z
 ·rw[E5 z,qc,la z];show some (((es[i]?).map (λ(e:Int×Value)=>e.2)).getD .none)=_;rw[la z];rfl
 ·rw[ml (by simpa using z),ml (by simpa using z)];rfl
theorem uo{L:List Int}{Q:List Value->Shared->Prop}(hh:A.handled=none) (x:dP prog w s.heap a (!w.params.followText "set-order") L) (q:∀(vs:List Value)(ns:List Int)(s':Shared),IntsAre vs ns->ns.length=L.length->(∀k,k∈ns↔k∈L)->(∀b o,s.heap.get? b=some o->s'.heap.get? b=some o)->s'.os=s.os->s'.gens=s.gens->s.heap.objs.size<s'.heap.objs.size->Q vs s'):wpAny (model prog w) A (collect (.ref a)) Q E s:=by
 obtain⟨o,es,ep,t,ho,vj,hd,x1,x2,x3,x4,x5,x6,x7⟩:=x;have lt:a<s.heap.objs.size:=bp ho;unfold collect;refine af (wpAny_runValue (qg PySem.F.entry_proto_collect ?_));rw[vB PySem.F.plain_proto_collect _];show wpAny _ A.in1 (newList [] >>= λl=>again (.builtin "list.__iadd__" ⟨[l,.ref a],[]⟩)) _ _ s;refine af (e9 (aj ⟨zD PySem.F.plain_list_iadd _,qg PySem.F.entry_list_iadd ?_⟩));rw[vB PySem.F.plain_list_iadd _];have KJ:=aR {cls:=.type "list",data:=.seq ([]:List Value).toArray} ho;have gl:(s.heap.push {cls:=.type "list",data:=.seq ([]:List Value).toArray}).get? s.heap.objs.size=some {cls:=.type "list",data:=.seq ([]:List Value).toArray}:=cw _ rfl;have nl:Builtin.List.listSameRef (.ref s.heap.objs.size) (.ref a)=false:=by simp[Builtin.List.listSameRef,kc lt]
 show wpAny _ A.in1 (Builtin.List.listExtendWith (.ref s.heap.objs.size) (.ref a) (.ref s.heap.objs.size)) _ _ _;unfold Builtin.List.listExtendWith;refine af (tf (T := "set") ⟨o,KJ,vj.1⟩ ?_);rw[aU (by rw[nl];decide)];have z1:(s.heap.push {cls:=.type "list",data:=.seq ([]:List Value).toArray}).objs.size=s.heap.objs.size+1:=iw _ _;have QX:es.size<=sizeLine:=Fe x3
 have d_:∀{vs:List Value}{aE:Array Value}{s':Shared}{k:Addr},vs.Perm (es.toList.map (·.2))->ItemsOf (λi v=>vs[i]?=some v) aE vs.length->(∀b o,s.heap.get? b=some o->s'.heap.get? b=some o)->s'.os=s.os->s'.gens=s.gens->s.heap.objs.size<s'.heap.objs.size->Q aE.toList s':=λ{vs aE s' k} p ia kp eo eg gr=>by
  have e:aE.toList=vs:=by
   refine JG λi=>?_;rw[qc]
   cases qa:aE[i]? with
   | some v=>exact(ia.2 i v qa).symm
   | none=>exact(ml (by have:=Array.getElem?_eq_none_iff.mp qa;rw[ia.1]at this;exact this)).symm
  obtain⟨ns,r,l,m⟩:=CD x1 x2 x5 p;rw[e];exact q vs ns s' r l m kp eo eg gr
 refine af (CB KJ vj hd x4 x6 x7 x3 (λsl vs s0 p rd=>?_) λps d p=>?_)
 ·have lv:vs.length=es.size:=by rw[p.length_eq,aZ,oA]
  refine af (fX (uj (aR _ KJ) vj ?_));rw[aT ⋯];refine af (oF (af (uk (aR _ gl) λh' c sb g=>?_)));refine aj ⟨zD PySem.F.plain_extend_loop _,um (Av (A:=A.in1) hh (by dsimp only;rw[z1];exact bW (jm lt)) hd x4 rd) (by rw[lv];exact QX) ?_ ?_ g λs' aE mv ia gr=>d_ (k:=0) p ia (λb ob e=>?_) mv.os mv.gens gr⟩
  ·dsimp only;rw[z1];simp only[bz,zw,fj,not_or];exact⟨bW (jq _),kc lt⟩
  ·refine⟨⟨_,(sb.2 _ ?_).trans (cw _ rfl),rfl,by rw[s0];rfl⟩,(sb.2 a (bW lt)).trans (aR _ KJ)⟩;dsimp only;rw[z1];exact kc (jq _)
  ·have lb:b<s.heap.objs.size:=bp e;refine mv.heap b ob ?_ ((sb.2 b (bW lb)).trans (aR _ (aR _ e)));dsimp only;rw[z1];simp only[bz,zw,fj,not_or];exact⟨bW lb,bW (jm lb)⟩
 ·have lp:ps.length=es.size:=by rw[p.length_eq,vE]
  have pv:=p.map (λp=>((es[p]?).map (λ(e:Int×Value)=>e.2)).getD .none);rw[Aw]at pv;have z2:((s.heap.push {cls:=.type "list",data:=.seq ([]:List Value).toArray}).push {cls:=.type "tuple",data:=.seq (ps.map λ(p:Nat)=>rawInt p).toArray}).objs.size=s.heap.objs.size+1+1:=by rw[iw,z1]
  have hv:∀(i p:Nat),ps[i]?=some p->∃u,es[p]?=some u/\(ps.map (λp=>((es[p]?).map (λ(e:Int×Value)=>e.2)).getD .none))[i]?=some u.2:=λi j e=>by
   have hj:j<es.size:=by have:=p.mem_iff.mp (c_ e);simpa using this
   refine⟨es[j],la hj,?_⟩;rw[dy,e];show some (((es[j]?).map (λ(e:Int×Value)=>e.2)).getD .none)=_;rw[la hj];rfl
  have EN:=aR {cls:=.type "tuple",data:=.seq (ps.map λ(p:Nat)=>rawInt p).toArray} KJ;have XV:=aR {cls:=.type "tuple",data:=.seq (ps.map λ(p:Nat)=>rawInt p).toArray} gl;have gt:((s.heap.push {cls:=.type "list",data:=.seq ([]:List Value).toArray}).push {cls:=.type "tuple",data:=.seq (ps.map λ(p:Nat)=>rawInt p).toArray}).get? (s.heap.objs.size+1)=some {cls:=.type "tuple",data:=.seq (ps.map λ(p:Nat)=>rawInt p).toArray}:=by rw[<- z1];exact cw _ rfl
  dsimp only;rw[z1];refine af (fX (uj (aR _ EN) vj ?_));rw[aT ⋯];refine af (oF (af (uk (aR _ XV) λh' c sb g=>?_)));have n1:s.heap.objs.size≠s.heap.objs.size+1+1:=bW (jm (jq _));refine aj ⟨zD PySem.F.plain_extend_loop _,um (v_ (A:=A.in1) (tp:=s.heap.objs.size+1) hh (bW (jm (jm lt))) (bW (jq _)) hd x4 hv (by rw[aZ])) (by rw[aZ,lp];exact QX) ?_ ?_ g λs' aE mv ia gr=>d_ (k:=0) pv ia (λb ob e=>?_) mv.os mv.gens gr⟩
  ·simp only[bz,zw,fj,not_or];exact⟨n1,kc lt,bW (jq _)⟩
  ·refine⟨⟨wa (.ref (s.heap.objs.size+1)) a es.size ep,(sb.2 _ (fk n1)).trans ?_,rfl,rfl⟩,(sb.2 a (bW lt)).trans (aR _ EN),_,_,(sb.2 _ (kc (jq _))).trans (aR _ gt),rfl⟩;rw[<- z2];exact cw _ rfl
  ·have lb:b<s.heap.objs.size:=bp e;refine mv.heap b ob ?_ ((sb.2 b (bW lb)).trans (aR _ (aR _ (aR _ e))));simp only[bz,zw,fj,not_or];exact⟨bW lb,bW (jm (jm lb))⟩
end
end L2
end
section
namespace L2
open PySem PySem.Spec PyProof.Rows
theorem pL:∀(xs pre L:List Int),uf (λi=>(pre++xs).getD i 0) xs.length pre.length L=xs.foldl fO L
 | [],pre,L=>rfl
 | x::xs,pre,L=>by
  have e:pre++x::xs=(pre++[x])++xs:=by simp
  have e2:pre.length+1=(pre++[x]).length:=by simp
  show uf (λi=>(pre++x::xs).getD i 0) xs.length (pre.length+1) (fO L ((pre++x::xs).getD pre.length 0))=xs.foldl fO (fO L x);have g:(pre++x::xs).getD pre.length 0=x:=by simp[List.getD]
  rw[g,e2,e];exact pL xs (pre++[x]) (fO L x)
def vk(is:List Int):List Int:=is.foldl fO []
theorem Gk{L:List Int}(h:L.Nodup)(k:Int):(fO L k).Nodup:=by
 unfold fO;split
 ·exact h
 ·rename_i n
  rw[List.nodup_append];refine⟨h,by simp,λx hx y hy=>?_⟩;obtain rfl:=E8.mp hy;exact λz=>n (z▸hx)
theorem CF{L:List Int}{j k:Int}:j∈fO L k↔j∈L\/j=k:=by
 unfold fO;split
 ·rename_i h
  exact⟨.inl,λz=>z.elim id λe=>e▸h⟩
 ·simp
theorem CG:∀(is L:List Int),L.Nodup->(is.foldl fO L).Nodup/\∀j,j∈is.foldl fO L↔j∈L\/j∈is
 | [],L,h=>⟨h,λj=>by simp⟩
 | k::is,L,h=>by
  obtain⟨a,b⟩:=CG is (fO L k) (Gk h k);refine⟨a,λj=>?_⟩;rw[List.foldl_cons,b j,CF,bz];exact⟨λz=>by rcases z with(z | z) | z<;>simp[z],λz=>by rcases z with z | z | z<;>simp[z]⟩
theorem yd(is:List Int):(vk is).Nodup:=(CG is [] .nil).1
theorem wb{is:List Int}{j:Int}:j∈vk is↔j∈is:=by rw[vk,(CG is [] .nil).2 j];simp
theorem qU:∀{L ns:List Int},L.Nodup->(∀k∈L,k∈ns)->ns.length<=L.length->ns.Perm L
 | [],ns,_,_,h=>by
  obtain rfl:=EZ.mp (Nat.le_zero.mp h);exact .refl _
 | k::L,ns,nd,sub,h=>by
  obtain⟨n1,n2⟩:=zx.mp nd;have hk:=sub k (by simp);have p:=List.perm_cons_erase hk;refine p.trans (.cons k (qU n2 (λj hj=>?_) ?_))
  ·have:j≠k:=λz=>n1 (z▸hj);rw[List.mem_erase_of_ne this];exact sub j (cZ _ hj)
  ·rw[List.length_erase_of_mem hk];simp only[jo]at h;omega
section
variable {prog:Program} {w:World} {A:Around} {E:Value->Shared->Prop} {s:Shared} {a:Addr}
theorem wc{L:List Int}{Q:Value->Shared->Prop}(hh:A.handled=none) (x:dP prog w s.heap a (!w.params.followText "set-order") L) (nd:L.Nodup) (QY:L.length<64) (q:∀(r:Addr)(out:Array Value)(c:Nat)(s':Shared),IntsAre out.toList (kz L)->s.heap.objs.size<=r->s'.heap.get? r=some (seqObj "list" out c)->(∀b o,s.heap.get? b=some o->s'.heap.get? b=some o)->s'.os=s.os->s'.gens=s.gens->Q (.ref r) s'):wpAny (model prog w) A (call (.builtin "sorted") [.ref a]) Q E s:=by
 refine Calls.call_function_entry kind_sorted plain_sorted entry_sorted (args_sorted1 _) ?_;unfold Builtin.«sorted»;refine af (m:=checkCount "sorted" 1 1 _) (aj ?_);refine af (uo (A:=A.in1) (by simp[hh]) x λvs ns s1 ia l m kp eo eg gr=>?_);have hv:vs.length=ns.length:=IntsAre.length ia;refine af (e9 ?_ (by show vs.toArray.size<=sizeLine;rw[cg,qj];omega));have g:(s1.heap.push (seqObj "list" vs.toArray 0)).get? s1.heap.objs.size=some (seqObj "list" vs.toArray 0):=cw _ rfl;refine af (fX (iP slot_list_sort ⟨_,g,rfl⟩ entry_list_sort (list_sort_tree (s:={s1 with heap:=s1.heap.push (seqObj "list" vs.toArray 0)}) g ia ∅ λout XW a1 a2 a3=>⟨_,rfl,?_⟩) (args_list_sort _)));have e:XW=kz L:=iX ((a2.trans (qU nd (λk hk=>(m k).mpr hk) (oE l))).trans gX.symm) a3 gh;subst e;obtain⟨c,gc⟩:=sortedHeap_at (out:=out) g;refine aj ⟨_,rfl,q _ out c _ a1 (j_ gr) gc (λb o e=>?_) eo eg⟩;have e1:=kp b o e;show(sortedHeap _ _ _ _).get? b=_;rw[sortedHeap_old (bW (bp e1)) (bp (aR _ e1))];exact aR _ e1
end
section
variable {X:Cx}
abbrev Gm(X:Cx)(a:Addr)(L:List Int):HO:=.ext λh=>dP X.prog X.w h a (!X.w.params.followText "set-order") L
theorem Ax(hc:X.calm=true):cL X (.type "set") (λxs H Q=>∃p is,xs=[.ref p]/\eO X.K H p (is.map V.int)/\is.length+1<scanBound/\∀l,H l=none->Q (.ref l) (bu H l (Gm X l (vk is)))):=by
 intro aa s σ H xs us Q I r h;obtain⟨p,is,rfl,hq,hb,q⟩:=h;obtain⟨u,rfl,rx⟩:=vals1 r;cases rx;obtain⟨aC,r',pl,hz⟩:=I.list hq;have aY:=r'.length;rw[aZ]at aY;refine Cu (items:=aC.toArray) (ns:=is) (I.ok.hd hc) pl.isList (ua r') (by simpa using (by omega:aC.length+1<scanBound)) λh' tk x kp=>?_;have e:=pL is [] [];rw[show uf (λi=>is.getD i 0) aC.toArray.size 0 []=vk is by rw[show aC.toArray.size=is.length by rw[cg,aY]];exact e]at x;have hx:=id x;obtain⟨o,_,_,_,ho,_⟩:=hx;exact⟨.ref s.heap.objs.size,_,I.laid (t':=tk) kp (aq _) (show bf X.prog X.w _ _ _ (Gm X s.heap.objs.size (vk is)) from ⟨x,⟨o,ho⟩,λh1 h2 y k=>y.keep λo e=>k o e⟩),rfl,q _ (I.bo.fresh (aq _))⟩
theorem we(hc:X.calm=true):cL X (.builtin "sorted") (λxs H Q=>∃p L,xs=[.ref p]/\H p=some (Gm X p L)/\L.Nodup/\L.length<64/\∀l,H l=none->Q (.ref l) (bu H l (.lst ((kz L).map V.int)))):=by
 intro aa s σ H xs us Q I r h;obtain⟨p,L,rfl,hq,nd,QY,q⟩:=h;obtain⟨u,rfl,rx⟩:=vals1 r;cases rx;obtain⟨x,_⟩:=(show bf X.prog X.w H s.heap p (Gm X p L) from I.bo p _ hq);refine wc (I.ok.hd hc) x nd QY λr out c s' ia le g kp eo eg=>?_;have nn:=I.bo.fresh le
 have bo:iB X.prog X.w (bu H r (.lst ((kz L).map V.int))) s'.heap:=I.bo.laid kp le (show bf X.prog X.w _ _ _ (.lst ((kz L).map V.int)) from ⟨by
  rw[aZ,gX.length_eq];exact bH (j_ QY) (by decide),out.toList,c,ub ia,by simpa using g⟩)
 exact⟨.ref r,_,I.xH (ch:=[]) eo (Un.laid kp le nn) bo (by rw[eg];exact I.bare) (λ_ z=>nomatch z),rfl,q _ nn⟩
end
end L2
end
section
namespace L2
open PySem PySem.Spec PyProof.Rows
open Builtin Builtin.ObjectAttr
abbrev VE:List Value:=[.type "ValueError",.type "Exception",.type "BaseException",.type "object"]
structure gk (h:Heap) (C D:Addr) (mN mD:Str->Option Value):Prop where
 cls:∃nm q N bs sn sub ab col dd k0 k1 k2 k3 k5,h.get? C=some (excClassObj nm q C N bs (.ref D::VE) true sn sub ab col dd k0 k1 k2 k3 k5 "ValueError.__new__")/\h.Ns N mN
 par:∃c0 dd cd sl,h.get? D=some {cls:=c0,dict:=dd,data:=.cls cd,slots:=sl}/\h.Ns cd.ns mD
 noi:mD "__init__" = none
theorem gk.keeps{h h':Heap}{C D:Addr}{mN mD:Str->Option Value}(X:gk h C D mN mD)(k:∀b o,h.get? b=some o->h'.get? b=some o):gk h' C D mN mD:=by
 obtain⟨⟨nm,q,N,bs,sn,sub,ab,col,dd,k0,k1,k2,k3,k5,hC,hN⟩,⟨c0,de,cd,sl,hD,hM⟩,n⟩:=X;exact⟨⟨nm,q,N,bs,sn,sub,ab,col,dd,k0,k1,k2,k3,k5,k _ _ hC,hN.keeps k⟩,⟨c0,de,cd,sl,k _ _ hD,hM.keeps k⟩,n⟩
theorem gk.tail{h:Heap}{C D:Addr}{mN mD:Str->Option Value}(X:gk h C D mN mD):OwnTail h VE (.ref D::VE):=by
 obtain⟨_,⟨c0,de,cd,sl,hD,hM⟩,n⟩:=X;exact .own hD hM n .base
section
variable {M:Model} {prog:Program} {w:World} {A:Around} {E:Value->Shared->Prop} {h:Heap} {g:Array GenState} {d:Drawn} {t:Nat} {os:OsState} {C D:Addr} {mN mD mA:Str->Option Value}
theorem iZ{name:Str}{y:Option Value}{Q:Option Value->Shared->Prop}(X:gk h C D mN mD) (hB:typeLookup (.type "ValueError") name=pure y) (hq:Q ((mN name).or ((mD name).or y)) ⟨h,g,d,t,os⟩):wpAny M A (typeLookup (.ref C) name) Q E ⟨h,g,d,t,os⟩:=by
 obtain⟨⟨nm,q,N,bs,sn,sub,ab,col,dd,k0,k1,k2,k3,k5,hC,hN⟩,⟨c0,de,cd,sl,hD,hM⟩,n⟩:=X;have hV:lookupAlong VE name=pure y:=by rw[typeLookup_eq,Bu.mroIs]at hB;exact hB
 rw[typeLookup_eq];refine af (wpAny_mroOf_exc hC ?_);rw[lookupAlong_cons];refine af (wpAny_classOwn_exc hC hN ?_)
 cases e1:mN name with
 | some v=>rw[e1]at hq;exact aj hq
 | none =>
  rw[e1]at hq;show wpAny M A (lookupAlong (.ref D::VE) name) Q E _;rw[lookupAlong_cons];refine af (wpAny_classOwn_cls hD hM ?_)
  cases e2:mD name with
  | some v=>rw[e2]at hq;exact aj hq
  | none=>rw[e2]at hq;show wpAny M A (lookupAlong VE name) Q E _;rw[hV];exact aj hq
theorem uq{b:Value}{Q:Bool->Shared->Prop}(X:gk h C D mN mD)(hq:Q ((Value.ref C::.ref D::VE).contains b) ⟨h,g,d,t,os⟩):wpAny M A (isSubtype (.ref C) b) Q E ⟨h,g,d,t,os⟩:=by
 obtain⟨⟨nm,q,N,bs,sn,sub,ab,col,dd,k0,k1,k2,k3,k5,hC,hN⟩,_⟩:=X;exact wpAny_isSubtype_exc hC hq
theorem ur{vs:List Value}{fI:Addr}{oI:Obj}{Q:Fin->Shared->Prop}(X:gk h C D mN mD) (hi:mN "__init__" = some (.ref fI)) (hf:h.get? fI=some oI) (hc:oI.cls=.type "function") (hq:∀h' e,Heap.MadeExcOf h h' e (.ref C) vs->h.objs.size<=e->wpAny (model prog w) A (call (.ref fI) (.ref e::vs)) (λr s'=>r=.none/\Q (.done (.ret (.ref e))) s') E ⟨h',g,d,t,os⟩) (hl:vs.length<=sizeLine):wpAny (model prog w) A (Builtin.«type.__call__» ⟨.ref C::vs,[]⟩) Q E ⟨h,g,d,t,os⟩:=by
 have X0:=X;have T:=X.tail;obtain⟨⟨nm,q,N,bs,sn,sub,ab,col,dd,k0,k1,k2,k3,k5,hC,hN⟩,_,_⟩:=X
 repeat (first | with_reducible refine jn hC ?_ | with_reducible refine wpAny_madeBy_exc hC ?_ | wp_step)
 refine codeAny_call_builtin_code (E9 _ Bu.quiet) (wpAny_check_new_subT Bu T hC ?_);refine codeAny_exc_new_subT Bu T hC ?_ hl;show wpAny _ _ _ _ _ _;generalize ht:({cls:=.type "tuple",data:=.seq vs.toArray}:Obj)=ot;generalize hx:({cls:=.ref C,data:=.fields #[.ref h.objs.size,.none,.none,.none,.bool false,.none]}:Obj)=ox;have kp:∀b o,h.get? b=some o->((h.push ot).push ox).get? b=some o:=λb o z=>aR _ (aR _ z);have ge:((h.push ot).push ox).get? (h.objs.size+1)=some ox:=by subst ht hx;heap_get
 have gt:((h.push ot).push ox).get? h.objs.size=some ot:=aR _ (Heap.get?_push_at rfl (by subst ht;rfl));have X1:=X0.keeps kp;have cc:ox.cls=.ref C:=by subst hx;rfl
 have hm:Heap.MadeExcOf h ((h.push ot).push ox) (h.objs.size+1) (.ref C) vs:=⟨kp,Jz (vJ _),h.objs.size,by rw[ge];subst hx;rfl,Jz (aq _),by rw[gt];subst ht;rfl⟩;have ct:(Value.ref C::.ref D::VE).contains (.ref C)=true:=by simp
 unfold isInstance
 repeat (first | (with_reducible refine jn ge ?_;rw[cc]) | (with_reducible refine uq X1 ?_;rw[ct]) | wp_step)
 show wpAny _ _ (typeLookup (.ref C) _) _ _ _;refine iZ X1 Bu.init.lookup ?_;rw[hi];refine fX (af ?_);unfold bindSpecial;refine af (tf (T := "function") ⟨_,kp _ _ hf,hc⟩ ?_);rw[aT (by decide)];refine aj (af (kf (hq _ _ hm (vJ _)) (λr s' hr=>?_) λ_ _ z=>z));obtain⟨rfl,hQ⟩:=hr
 wp_walk
 exact hQ
theorem CH{vs:List Value}{fI:Addr}{oI:Obj}{Q:Value->Shared->Prop}(X:gk h C D mN mD) (hi:mN "__init__" = some (.ref fI)) (hf:h.get? fI=some oI) (hc:oI.cls=.type "function") (hq:∀h' e,Heap.MadeExcOf h h' e (.ref C) vs->h.objs.size<=e->wpAny (model prog w) (A.under (.builtin "type.__call__" ⟨.ref C::vs,[]⟩)) (call (.ref fI) (.ref e::vs)) (λr s'=>r=.none/\Q (.ref e) s') E ⟨h',g,d,t,os⟩) (hl:vs.length<=sizeLine):wpAny (model prog w) A (call (.ref C) vs) Q E ⟨h,g,d,t,os⟩:=by
 have X0:=X;obtain⟨⟨nm,q,N,bs,sn,sub,ab,col,dd,k0,k1,k2,k3,k5,hC,hN⟩,_,_⟩:=X;have f1:=tc_lookup;have f2:=tc_bind (.ref C);have hT:(⟨h,g,d,t,os⟩:Shared).TypeIs (.ref C) "type" := ⟨_,hC,rfl⟩;refine zG (codeAny_of_tree ?_);show wpAny _ _ (callAny (.ref C) _) _ _ _
 repeat (any_goals (first | assumption | with_reducible refine jn hC ?_ | wp_step))
 refine⟨rfl,codeAny_call_builtin_at (E9 _ ⋯) entry_typeCall (wpAny_check_type_call_sub hC (ur X0 hi hf hc (λh' e hm l=>hq h' e hm l) hl))⟩
end
end L2
end
section
namespace L2
open PySem PySem.Spec PyProof.Rows
open Builtin Builtin.ObjectAttr
section
variable {M:Model} {prog:Program} {w:World} {A:Around} {E:Value->Shared->Prop} {h:Heap} {g:Array GenState} {d:Drawn} {t:Nat} {os:OsState} {C D:Addr} {mN mD mA:Str->Option Value} {env:Env}
theorem uu{s:Shared}{x:Sem Value}{Q:Flow->Shared->Prop}(hh:A.handled=none)(hx:wpAny M A x (λv s1=>∃e oe vs,v=.ref e/\(∃mN mD,gk s1.heap C D mN mD)/\s1.heap.get? e=some oe/\oe.cls=.ref C/\oe.data=.fields vs/\vs[1]?=some .none/\E (.ref e) s1) E s):wpAny M A (raiseStmt env (some x) none) Q E s:=by
 have ct:(Value.ref C::.ref D::VE).contains (.type "BaseException")=true:=by simp
 unfold raiseStmt;refine af (bX hx λv s1 h1=>?_);obtain⟨e,oe,vs,rfl,⟨mN,mD,X⟩,he,hc,hd,h1,hE⟩:=h1;have X0:=X;obtain⟨⟨nm,q,N,bs,sn,sub,ab,col,dd,k0,k1,k2,k3,k5,hC,hN⟩,_,_⟩:=X;obtain⟨hp,g,d,tk,os⟩:=s1;have nt:oe.data=.fields vs:=hd
 repeat (first | (with_reducible refine jn he ?_;rw[hc]) | with_reducible refine jn hC ?_ | (with_reducible refine uq X0 ?_;rw[ct]) | with_reducible refine eD he hd h1 ?_ | wp_step)
 exact wpAny_raiseNew_none hh hE
theorem Gn {s : Shared} {x : Str} {np dM pos : Pos} {args : List Expr} {Q : Flow -> Shared -> Prop} (hh : A.handled = none) (hp : (backTo dM (starEach args env)).any (·.1) = false)
    (hx:wpAny (model prog w) A (eval (.Name x np) env) (λf s1=>f=.ref C/\wpAny (model prog w) A (evalArgs (.ref C) true (backTo dM (starEach args env)) []) (λa s2=>a.kw=[]/\(∃mN mD,gk s2.heap C D mN mD) /\
      wpAny (model prog w) A (call (.ref C) a.pos) (λv s3=>∃e oe vs,v=.ref e/\(∃mN mD,gk s3.heap C D mN mD)/\s3.heap.get? e=some oe/\oe.cls=.ref C/\oe.data=.fields vs/\vs[1]?=some .none/\E (.ref e) s3) E s2) E s1) E s) :
    wpAny (model prog w) A (exec (.Raise (some (.Call (.Name x np) args [] dM)) none pos) env) Q E s:=by
  rw[arm_exec_Raise];refine af (zB (uu (C:=C) (D:=D) hh ?_));refine af (bX (wpAny_Call_ofName (bX hx λf s1 h1=>?_)) λv s3 h3=>af (zB (aj h3)));obtain⟨rfl,h1⟩:=h1;unfold callWith;refine af (fX (bX h1 λa s2 h2=>af (zB ?_)));obtain⟨ap,ak⟩:=a;obtain⟨hk,⟨mN,mD,X⟩,h2⟩:=h2;obtain rfl:ak=[]:=hk;obtain⟨⟨nm,q,N,bs,sn,sub,ab,col,dd,k0,k1,k2,k3,k5,hC,hN⟩,_,_⟩:=X;obtain⟨KN,g,d,tk,os⟩:=s2;simp only[hp];refine af (wpAny_keeperOf_exc hC ?_);exact af (bX h2 λv s3 h3=>af (fX (wpAny_point (aj h3))))
theorem mX{x:Addr}{o:Obj}{nv:Value}{Q:Unit->Shared->Prop}(X:gk h C D mN mD)(hx:h.get? x=some o)(hc:o.cls=.ref C)(hq:Q () ⟨h,g,d,t,os⟩):wpAny M A (checkBuiltinCall "BaseException.__getattribute__" ⟨[.ref x,nv],[]⟩) Q E ⟨h,g,d,t,os⟩:=by
 have hk:builtinKind "BaseException.__getattribute__" = some .slot:=⋯;have KO:splitId "BaseException.__getattribute__" = some ("BaseException","__getattribute__"):=⋯;have ct:(Value.ref C::.ref D::VE).contains (.type "BaseException")=true:=by simp
 have ha:=F.args_bexc_ga (.ref x) nv;simp only[checkBuiltinCall,hk,KO];refine af ?_
 ·unfold isInstance
  repeat (first | (with_reducible refine jn hx ?_;rw[hc]) | (with_reducible refine uq X ?_;rw[ct]) | wp_step)
  exact hq
theorem qV{x dx:Addr}{name:Str}{v:Value}{tk:Tok}{o:Obj}{vs:Array Value}{Q:Fin->Shared->Prop}(X:gk h C D mN mD)(hn:mN name=none)(hm:mD name=none) (hB:typeLookup (.type "ValueError") name=pure none) (hx:h.get? x=some o) (hc:o.cls=.ref C) (hd:o.data=.fields vs) (hz:o.dict=some dx) (hA:h.Ns1 dx mA) (hv:mA name=some v) (hq:Q (.done (.ret v)) ⟨h,g,d,t,os⟩):wpAny (model prog w) A (Builtin.«object.__getattribute__» ⟨[.ref x,.str name tk],[]⟩) Q E ⟨h,g,d,t,os⟩:=by
 have X0:=X;obtain⟨⟨nm,q,N,bs,sn,sub,ab,col,dd,k0,k1,k2,k3,k5,hC,hN⟩,_,_⟩:=X;unfold Builtin.«object.__getattribute__»
 repeat (first | (with_reducible refine jn hx ?_;rw[hc]) | (with_reducible refine iZ X0 hB ?_;rw[hn,hm]) | wp_step)
 rw[hd];unfold instanceDict inDict
 repeat (first | (with_reducible refine jn hx ?_;rw[hc]) | with_reducible refine jn hC ?_ | rw[hz] | (with_reducible refine wpAny_nsGet hA.ns ?_;rw[hv]) | wp_step)
 exact hq
theorem KP{x dx:Addr}{name:Str}{v:Value}{o:Obj}{vs:Array Value}{e:Bool}{Q:Value->Shared->Prop}(X:gk h C D mN mD) (hg:mN "__getattribute__" = none) (Tt:mD "__getattribute__" = none) (ha:mN "__getattr__" = none) (Tu:mD "__getattr__" = none) (hn:mN name=none) (hm:mD name=none) (hB:typeLookup (.type "ValueError") name=pure none) (hx:h.get? x=some o) (hc:o.cls=.ref C) (hd:o.data=.fields vs) (hz:o.dict=some dx) (hA:h.Ns1 dx mA) (hv:mA name=some v) (hh:handedOut v=pure v) (hq:Q v ⟨h,g,d,t+1,os⟩):wpAny (model prog w) A (getAttr (.ref x) name e) Q E ⟨h,g,d,t,os⟩:=by
 have f3:=sR.ga.bind (.ref x);have q0:(e&&onTheHeap (Value.builtin "BaseException.__getattribute__"))=false:=by cases e<;>rfl
 have q2:(Value.builtin "BaseException.__getattribute__" == Value.builtin "object.__getattribute__")=false:=⋯;have q1:(onTheHeap (Value.ref C)&&Value.builtin "BaseException.__getattribute__" == Value.builtin "object.__getattribute__")=false:=by rw[q2];rfl
 unfold getAttr getAttrBy
 repeat (any_goals (first | assumption | (with_reducible refine jn hx ?_;rw[hc]) | (with_reducible refine iZ X sR.ga.lookup ?_;rw[hg,Tt]) | (with_reducible refine iZ X sR.noGetattr ?_;rw[ha,Tu]) | wp_step))
 refine E4 sR.ga.plain F.entry_bexc_ga (mX X hx hc (qV X hn hm hB hx hc hd hz hA hv ?_));show wpAny _ _ (handedOut v) _ _ _;rw[hh];exact aj hq
end
end L2
end
section
namespace L2
open PySem PySem.Spec PyProof.Rows
open Builtin Builtin.ObjectAttr
end L2
end
section
namespace L2
open PySem PySem.Spec PyProof.Rows
open Builtin Builtin.ObjectAttr
section
variable {M:Model} {prog:Program} {w:World} {A:Around} {E:Value->Shared->Prop} {h:Heap} {g:Array GenState} {d:Drawn} {t:Nat} {os:OsState} {C D x:Addr} {mN mD mA:Str->Option Value} {o:Obj} {vs:Array Value}
theorem uv:typeLookup (.type "ValueError") "__class__" = pure (some (.builtin "object.__class__")):=by rw[typeLookup_type,Jx];kernel_rfl
theorem uw{R:Result->Shared->Prop}(X:gk h C D mN mD)(hx:h.get? x=some o)(hc:o.cls=.ref C)(hq:R (.ok (.ret (.ref C))) ⟨h,g,d,t,os⟩):codeAny (model prog w) A (.call (.builtin "getset_descriptor.__get__") ⟨[.builtin "object.__class__",.ref x,.ref C],[]⟩) R ⟨h,g,d,t,os⟩:=by
 have hT:(⟨h,g,d,t,os⟩:Shared).TypeIs (.builtin "object.__class__") "getset_descriptor" := Jy;have ct:(Value.ref C::.ref D::VE).contains (.type (".".intercalate ("object.__class__".cutAt '.').dropLast))=true:=by rw[F.owner_object_class];simp
 refine E4 F.slot_gs_get.plain F.entry_gs_get (F.slot_gs_get.check _ _ _ _ _ _ _ _ hT (F.args_gs_get _ _ _) ?_)
 repeat (any_goals (first | assumption | (with_reducible refine jn hx ?_;rw[hc]) | (with_reducible refine uq X ?_;rw[ct]) | wp_step))
 refine⟨E9 _ ⋯,qg F.entry_object_class ?_⟩
 repeat (any_goals (first | assumption | (with_reducible refine jn hx ?_;rw[hc]) | wp_step))
theorem oN{tk:Tok}{Q:Fin->Shared->Prop}(X:gk h C D mN mD) (hn:mN "__class__" = none) (hm:mD "__class__" = none) (hx:h.get? x=some o) (hc:o.cls=.ref C) (hq:Q (.done (.ret (.ref C))) ⟨h,g,d,t,os⟩):wpAny (model prog w) A (Builtin.«object.__getattribute__» ⟨[.ref x,.str "__class__" tk],[]⟩) Q E ⟨h,g,d,t,os⟩:=by
 have hT:(⟨h,g,d,t,os⟩:Shared).TypeIs (.builtin "object.__class__") "getset_descriptor" := Jy;have f5:=Jy;have f6:=F.slot_gs_get.lookup;have f7:=F.slot_gs_set.lookup
 repeat (any_goals (first | assumption | (with_reducible refine jn hx ?_;rw[hc]) | (with_reducible refine iZ X uv ?_;rw[hn,hm]) | wp_step))
 refine uw X hx hc ?_
 repeat (any_goals (first | assumption | wp_step))
theorem Go{Q:Option Value->Shared->Prop}(X:gk h C D mN mD) (hg:mN "__getattribute__" = none) (Tt:mD "__getattribute__" = none) (ha:mN "__getattr__" = none) (Tu:mD "__getattr__" = none) (hn:mN "__class__" = none) (hm:mD "__class__" = none) (hx:h.get? x=some o) (hc:o.cls=.ref C) (hq:Q (some (.ref C)) ⟨h,g,d,t+1,os⟩):wpAny (model prog w) A (getAttr? (.ref x) "__class__") Q E ⟨h,g,d,t,os⟩:=by
 have f3:=sR.ga.bind (.ref x);have q2:(Value.builtin "BaseException.__getattribute__" == Value.builtin "object.__getattribute__")=false:=⋯;have q1:(onTheHeap (Value.ref C)&&Value.builtin "BaseException.__getattribute__" == Value.builtin "object.__getattribute__")=false:=by rw[q2];rfl
 unfold getAttr? getAttrBy? getAttrBy
 repeat (any_goals (first | assumption | (with_reducible refine jn hx ?_;rw[hc]) | (with_reducible refine iZ X sR.ga.lookup ?_;rw[hg,Tt]) | (with_reducible refine iZ X sR.noGetattr ?_;rw[ha,Tu]) | wp_step))
 refine E4 sR.ga.plain F.entry_bexc_ga (mX X hx hc (oN X hn hm hx hc ?_))
 repeat (any_goals (first | assumption | wp_step))
end
end L2
end
section
namespace L2
open PySem PySem.Spec PyProof.Rows
structure ye (h:Heap) (lo:Nat) (e:Addr) (C dx:Addr) (tr:Option Addr):Prop where
 le:lo<=e
 obj:∃oe vs,h.get? e=some oe/\oe.cls=.ref C/\oe.dict=some dx/\oe.data=.fields vs/\(match tr with
  | none=>vs[1]?=some .none
  | some T=>vs[1]?=some (.ref T)/\T≠e/\lo<=T/\∃oT ts,h.get? T=some oT/\oT.data=.fields ts/\ts[3]?=some .none)
structure ux (fr:List Addr) (e:Addr) (tr:Option Addr) (h h':Heap):Prop where
 sz:h.objs.size<=h'.objs.size
 keep:∀b o,h.get? b=some o->b≠e->tr≠some b->b∉fr->h'.get? b=some o
 slots:∀b o,h.get? b=some o->b≠e->tr≠some b->∃sl,h'.get? b=some {o with slots:=sl}
section
variable {M:Model} {A:Around} {E:Value->Shared->Prop} {s:Shared}
theorem yf{base:Heap}{env:Env}{outer:List Env}{L e C dx:Addr}{lo:Nat}{h0:Heap}{oe:Obj}{vs:Array Value}{tr:Option Addr}{Gp:Value}{hn:Bool}{Q:Unit->Shared->Prop}(Cj:A.frames=some (env::outer))(hl:s.heap.FunFrames base (env::outer))(hf:env.frame=some L)(Nb:lo<=s.heap.objs.size)(le:lo<=e)(he:s.heap.get? e=some oe)(hc:oe.cls=.ref C)(hx:oe.dict=some dx)(hd:oe.data=.fields vs)(hz:1<vs.size)(k0:ux ((env::outer).filterMap (·.frame)) e tr h0 s.heap)(hq:∀h' T,ye h' lo e C dx (some T)->h0.objs.size<=T->ux ((env::outer).filterMap (·.frame)) e tr h0 h'->Q () {s with heap:=h'}):wpAny M A (do let a <- frameOf env;let pl <- entryPlaceOf L hn;let b <- EntryCells.newEntry Gp a .none (rawInt L) .none pl;setField (.ref e) 1 b) (λ_ s'=>wpAny M A (setFlight (.ref e) none) Q E s') E s:=by
 have ne:e∉(env::outer).filterMap (·.frame):=λhm=>by
  obtain⟨_,o,ho,nf⟩:=hl.mem hm;rw[he]at ho;cases ho;exact nf vs hd
 refine af (wpAny_frameOf_fun Cj hl hf λh1 s1=>af (wpAny_entryPlaceOf λpl hp=>?_));unfold EntryCells.newEntry newFields;refine af (e9 ?_ (hp.sizeOk5 _ _ _ _ _));generalize ho:({cls:=.type "traceback",dict:=none,data:=.fields ([Gp,.ref L,.none,rawInt L,.none]++(if pl.isEmpty then List.replicate 6 Value.none else pl)).toArray}:Obj)=ot;have VR:h1.get? e=some oe:=(s1.2.1 e ne).trans he;have VS:=aR (h:=h1) ot VR;refine mC VS hd hz ?_;have nT:h1.objs.size≠e:=kc (bp VR);have Tv:=lr hd (·.setIfInBounds 1 (Value.ref h1.objs.size));have VT:=mj (Obj.mapFields (·.setIfInBounds 1 (Value.ref h1.objs.size))) VS (vA Tv);have gt:(h1.push ot).get? h1.objs.size=some ot:=cw h1 (by subst ho;rfl);have hT:=(sQ (h1.push ot) (Obj.mapFields (·.setIfInBounds 1 (Value.ref h1.objs.size))) (fk nT)).trans gt;have VU:ot.data=.fields ([Gp,.ref L,.none,rawInt L,.none]++(if pl.isEmpty then List.replicate 6 Value.none else pl)).toArray:=by subst ho;rfl
 unfold setFlight;refine af (eD VT Tv (x:=.ref h1.objs.size) (by simp[hz]) ?_);rw[aT (show(Value.ref h1.objs.size != Value.none)=true from by simp)];have z3:3<([Gp,.ref L,.none,rawInt L,.none]++(if pl.isEmpty then List.replicate 6 Value.none else pl)).toArray.size:=by simp only[cg,dv,jo,BD];omega
 refine mC hT VU z3 ?_;have VW:=lr VU (·.setIfInBounds 3 ((none:Option Addr).elim Value.none λf=>rawInt f));have XX:=mj (Obj.mapFields (·.setIfInBounds 3 ((none:Option Addr).elim Value.none λf=>rawInt f))) hT (vA VW);have XY:=(sQ ((h1.push ot).update e (Obj.mapFields (·.setIfInBounds 1 (Value.ref h1.objs.size)))) (Obj.mapFields (·.setIfInBounds 3 ((none:Option Addr).elim Value.none λf=>rawInt f))) nT).trans VT
 have hk:∀b o,h1.get? b=some o->b≠e->((((h1.push ot).update e (Obj.mapFields (·.setIfInBounds 1 (Value.ref h1.objs.size)))).update h1.objs.size (Obj.mapFields (·.setIfInBounds 3 ((none:Option Addr).elim Value.none λf=>rawInt f))))).get? b=some o:=λb o hb nb=>by
  rw[sQ _ _ (kc (bp hb)),sQ _ _ (fk nb)];exact aR _ hb
 have XZ:h1.objs.size=s.heap.objs.size:=s1.1;refine hq _ h1.objs.size ⟨le,_,_,XY,(BA _ _).trans hc,?_,Tv,by simp[hz],nT,∅,_,_,XX,VW,?_⟩ (by have:=k0.sz;omega) ⟨?_,λb o hb nb nt nf=>?_,λb o hb nb nt=>?_⟩
 ·obtain⟨a1,a2,a3,a4⟩:=oe;obtain rfl:a3=.fields vs:=hd;exact hx
 ·rw[Array.getElem?_setIfInBounds,aT rfl,aT z3];rfl
 ·refine bH k0.sz ?_;rw[<- XZ,Jv,Jv,iw];exact vJ _
 ·exact hk b o ((s1.2.1 b nf).trans (k0.keep b o hb nb nt nf)) nb
 ·obtain⟨sl,h5⟩:=k0.slots b o hb nb nt;obtain⟨R4,h6⟩:=s1.2.2 b _ h5;exact⟨R4,hk b _ h6 nb⟩
theorem ux.refl{fr:List Addr}{e:Addr}{tr:Option Addr}{h:Heap}:ux fr e tr h h:=⟨aq _,λ_ _ z _ _ _=>z,λb o z _ _=>⟨o.slots,z⟩⟩
theorem KQ{base:Heap}{env:Env}{outer:List Env}{L e C dx:Addr}{lo:Nat}{tr:Option Addr}{Q:Unit->Shared->Prop}(Cj:A.frames=some (env::outer))(hl:s.heap.FunFrames base (env::outer))(hf:env.frame=some L)(Nb:lo<=s.heap.objs.size)(hx:ye s.heap lo e C dx tr)(hq:∀h' T,ye h' lo e C dx (some T)->s.heap.objs.size<=T->ux ((env::outer).filterMap (·.frame)) e tr s.heap h'->Q () {s with heap:=h'}):wpAny M A (noteFrame (.ref e) env) (λ_ s'=>wpAny M A (setFlight (.ref e) none) Q E s') E s:=by
 obtain⟨le,oe,vs,he,hc,hx,hd,ht⟩:=hx;unfold noteFrame;simp only[hf]
 cases tr with
 | none =>
  have h1:vs[1]?=some .none:=ht;refine af (eD he hd h1 ?_);rw[aU (by decide)];exact yf Cj hl hf Nb le he hc hx hd (zl.mp h1).1 .refl hq
 | some T =>
  obtain⟨h1,nT,lT,oT,ts,gT,dT,h3⟩:=ht;refine af (eD he hd h1 ?_);rw[aT (show(Value.ref T != Value.none)=true from by simp)];refine af (eD gT dT h3 ?_);rw[aU (show ¬((Value.none==rawInt L)=true) from by simp[rawInt])];refine af (mC gT dT (zl.mp h3).1 ?_);have ot:∀b,b≠T->(s.heap.update T (Obj.mapFields (·.setIfInBounds 3 Value.none))).get? b=s.heap.get? b:=λb hb=>sQ _ _ (fk hb);have z:(s.heap.update T (Obj.mapFields (·.setIfInBounds 3 Value.none))).objs.size=s.heap.objs.size:=Jv ..
  refine yf (h0:=s.heap) Cj (hl.of_keeps λb o hb nf=>⟨o,(ot b λq=>by subst q;rw[gT]at hb;cases hb;exact nf ts dT).trans hb,rfl⟩) hf (by show lo<=(s.heap.update T _).objs.size;rw[z];exact Nb) le ((ot e (fk nT)).trans he) hc hx hd (zl.mp h1).1
   ⟨oE z.symm,λb o hb nb nt nf=>(ot b λq=>nt (by rw[q])).trans hb,λb o hb nb nt=>⟨o.slots,(ot b λq=>nt (by rw[q])).trans hb⟩⟩ hq
end
end L2
end
section
namespace L2
open PySem PySem.Spec PyProof.Rows
noncomputable def XO(a C dx:Addr):HO:=.ext λh=>∃oe vs,h.get? a=some oe/\oe.cls=.ref C/\oe.dict=some dx/\oe.data=.fields vs
theorem XO.ok{P:Program}{w:World}{H:Hp}{h:Heap}{a C dx:Addr}{oe:Obj}{vs:Array Value}(e:h.get? a=some oe)(c:oe.cls=.ref C)(d:oe.dict=some dx)(f:oe.data=.fields vs):bf P w H h a (XO a C dx) :=
 ⟨⟨oe,vs,e,c,d,f⟩,⟨oe,e⟩,λh1 h2 ⟨oe,vs,e,r⟩ k=>⟨oe,vs,k _ e,r⟩⟩
theorem ye.mono{h:Heap}{lo VX:Nat}{e C dx:Addr}{tr:Option Addr}(x:ye h lo e C dx tr)(l:VX<=lo):ye h VX e C dx tr:=by
 obtain⟨le,oe,vs,a,b,c,d,r⟩:=x;refine⟨bH l le,oe,vs,a,b,c,d,?_⟩
 cases tr with
 | none=>exact r
 | some T=>exact⟨r.1,r.2.1,bH l r.2.2.1,r.2.2.2⟩
theorem ye.ok{P:Program}{w:World}{H:Hp}{h:Heap}{lo:Nat}{e C dx:Addr}{tr:Option Addr}(x:ye h lo e C dx tr):bf P w H h e (XO e C dx):=by
 obtain⟨le,oe,vs,a,b,c,d,r⟩:=x;exact XO.ok a b c d
noncomputable def lG(X:Cx)(aa:List (Addr×Obj))(H:Hp)(tr:Option Addr):Prop:=∀T,tr=some T->H T=none/\X.dz.heap.objs.size<=T/\T≠X.env.locals/\(∀x c,X.env.cells.lookup x=some c->c≠T)/\∀p∈X.pn++aa,p.1≠T
section
variable {X:Cx} {aa:List (Addr×Obj)} {σ:St} {H:Hp} {s:Shared}
theorem lG.new(I:Inv X aa σ H s){H':Hp}{T:Addr}(h:s.heap.objs.size<=T)(n:H' T=none):lG X aa H' (some T):=λT' e=>by
 cases e;refine⟨n,bH I.sz h,λz=>?_,λx c e z=>?_,λp hp z=>?_⟩
 ·subst z;exact absurd I.lt (zH.mpr h)
 ·obtain⟨v,o,ho,_⟩:=I.cell x c e;subst z;exact absurd (bp ho) (zH.mpr h)
 ·have:=bp (I.pin p hp).1;rw[z]at this;exact absurd this (zH.mpr h)
theorem lG.none:lG X aa H none:=λ_ e=>nomatch e
theorem uy{M:Model}{E:Value->Shared->Prop}{lo:Nat}{e C dx:Addr}{tr:Option Addr}{Q:Unit->Shared->Prop}(I:Inv X aa σ H s)(xG:X.stack=X.env::X.outer/\X.env.frame=some X.env.locals)(hx:ye s.heap lo e C dx tr)(he:H e=some (XO e C dx))(hT:lG X aa H tr)(Nb:lo<=s.heap.objs.size)(hq:∀s' T,Inv X aa σ H s'->ye s'.heap lo e C dx (some T)->s.heap.objs.size<=T->H T=none->Q () s'):wpAny M X.A (noteFrame (.ref e) X.env) (λ_ s'=>wpAny M X.A (setFlight (.ref e) none) Q E s') E s:=by
 have Cj:=I.ok.frames;rw[xG.1]at Cj;have d0:=I.stack;rw[xG.1]at d0;refine KQ Cj d0 xG.2 Nb hx λh' T x l k=>?_;have hn:H T=none:=I.bo.fresh l
 have OM:∀b,b∈(X.env::X.outer).filterMap (·.frame)->H b=none/\b∈X.env.locals::X.fs:=λb hb=>by
  have F8:b∈zL X.stack:=by rw[xG.1];exact hb
  exact⟨I.qv b F8,I.qu b F8⟩
 have X2:∀b u,H b=some u->tr≠some b:=λb u q z=>by rw[(hT b z).1]at q;cases q
 have kt:∀b u o,H b=some u->b≠e->s.heap.get? b=some o->h'.get? b=some o:=λb u o q nb g=>k.keep b o g nb (X2 b u q) λz=>by rw[(OM b z).1]at q;cases q
 refine hq _ T ?_ x l hn;refine I.step (g':=s.gens) (d':=s.drawn) (t':=s.toks) (ch:=tr.toList) (λb hb=>?_) (λb o nl nf nc g n=>?_) (λb o nl hf nc g n=>?_) (λb o _ _ n=>n) (λb o nc g=>?_) (λ_ _ q=>q) (λ_ _ _ q=>q) (λb ps q=>⟨#[],by rw[q];simp⟩) (λm hm=>?_) (λb u q=>?_) I.bare
 ·cases tr with
  | none=>cases hb
  | some T0 =>
   have:b=T0:=by simpa using hb
   subst this;obtain⟨a1,a2,a3,a4,a5⟩:=hT b rfl;exact⟨.inr a2,a3,a4,a5⟩
 ·refine k.keep b o g (λz=>by subst z;rw[he]at n;cases n) (λz=>nc (by rw[z];simp)) λz=>?_;rcases bz.mp (OM b z).2 with y | y
  ·exact nl y
  ·exact nf y
 ·exact k.slots b o g (λz=>by subst z;rw[he]at n;cases n) λz=>nc (by rw[z];simp)
 ·by_cases hb:b=e
  ·subst hb;obtain⟨_,oe,_,g1,_⟩:=x;exact⟨oe,g1⟩
  ·obtain⟨sl,y⟩:=k.slots b o g hb λz=>nc (by rw[z];simp);exact⟨_,y⟩
 ·obtain⟨o,es,ep,ho,r⟩:=hm;obtain⟨sl,y⟩:=k.slots _ o ho (λz=>by have f:=I.free;rw[z,he]at f;cases f) λz=>(hT _ z).2.2.1 rfl;exact⟨_,es,ep,y,r⟩
 ·by_cases hb:b=e
  ·subst hb;rw[he]at q;cases q;exact x.ok
  ·refine(I.bo b u q).tB (λc o hc g=>?_) (λ_ z=>z) λ_ _ z=>z;rcases hc with z | z
   ·subst z;exact kt _ u o q hb g
   ·refine kt c _ o z (λy=>?_) g;subst y;rw[he]at z;cases z
def Ay(P:Program)(w:World):xO:=λouter H s E e s'=>∃ea C dx T H',e=.ref ea/\s'.os=s.os/\AllBare s'.gens/\Un (zL outer) [] H H' s.heap s'.heap/\iB P w H' s'.heap/\ye s'.heap s.heap.objs.size ea C dx (some T)/\H' ea=some (XO ea C dx)/\H' T=none/\E (.ref C) (some dx) H'
structure pM (X:Cx) (E:XK):Prop where
 xe:∀{aa:List (Addr×Obj)}{σ:St}{H:Hp}{s:Shared}{e C dx:Addr}{tr:Option Addr}{lo:Nat},Inv X aa σ H s->ye s.heap lo e C dx tr->H e=some (XO e C dx)->lG X aa H tr->X.dz.heap.objs.size<=lo->lo<=s.heap.objs.size->E (.ref C) (some dx) H->X.xe (.ref e) s
 own:PassesOwn (model X.prog X.w) X.A X.env X.xe
theorem pM.pass{E:XK}(p:pM X E):iV (Ay X.prog X.w) X E:=by
 rintro aa σ H s e s' I ⟨ea,C,dx,T,H',rfl,os,bare,un,bo,x,he,hT,hE⟩;have I':Inv X aa σ H' s':=I.xH os un bo bare (λb z=>absurd z (by simp));have x0:=x;obtain⟨l1,oe,vs,g,c,d,f,h1,h2,lT,_⟩:=x;exact p.xe I' x0 he (lG.new I lT hT) I.sz (bH l1 (j_ (bp g))) hE
end
theorem qW{P:Program}{w:World}{K:PySem.W.Frag}{mg:Str->Option Value}{base:Heap}{N:List Str}{qual:Str}{scope:Scope}{f:Addr}{cd:Value}{A:Around}{outer:List Env}{dz:Shared}{mF:Hp}{E:XK}:pM (vV (Ay P w) P w K mg base N qual scope f cd A outer dz mF E) E where
 own:=PassesOwn.leaving
 xe:=by
  intro aa σ H s e C dx tr lo I x he hT l1 l2 hE;show wpAny _ _ (leaving _ _) _ _ _;unfold leaving;refine af (uy I ⟨rfl,rfl⟩ x he hT l2 λs' T I' x' lT nT=>?_);exact⟨e,C,dx,T,H,rfl,I'.os,I'.bare,I'.base,I'.bo,x'.mono l1,he,nT,hE⟩
end L2
end
section
namespace L2
open PySem PySem.Spec PyProof.Rows
noncomputable def gY:List Str:=["__setattr__","__getattribute__","__getattr__","__class__"]
structure CI (K:PySem.W.Frag) (C D fI:Addr) (fs:List Str):Prop where
 cls:∃nm q N bs sn sub ab col dd k0 k1 k2 k3 k5,K.lookup C=some (excClassObj nm q C N bs (.ref D::VE) true sn sub ab col dd k0 k1 k2 k3 k5 "ValueError.__new__")/\PySem.W.nsOkIn K N=true/\PySem.W.nsIn K N "__init__" = some (some (.ref fI))/\∀n∈fs++gY,PySem.W.nsIn K N n=some none
 par:∃c0 dd cd sl,K.lookup D=some {cls:=c0,dict:=dd,data:=.cls cd,slots:=sl}/\PySem.W.nsOkIn K cd.ns=true/\∀n∈("__init__" : Str)::(fs++gY),PySem.W.nsIn K cd.ns n=some none
 ve:∀f∈fs,typeLookup (.type "ValueError") f=pure none
theorem wg{K:PySem.W.Frag}{h:Heap}{N:Addr}{m:Str->Option Value}{n:Str}{v:Value}(X:K.In h)(G:h.Ns N m)(e:PySem.W.nsIn K N n=some (some v)):m n=some v:=by
 obtain⟨o,es,ep,ho,hd,_,hf⟩:=G;unfold PySem.W.nsIn at e;split at e
 ·rename_i q
  have z:=X _ _ q;rw[ho]at z;cases z;cases hd;split at e
  ·rename_i en he
   cases e;rw[<- hf];unfold nsFind findBy;rw[<- Array.find?_toList,he];rfl
  ·split at e<;>cases e
 ·cases e
theorem CI.at{K:PySem.W.Frag}{C D fI:Addr}{fs:List Str}(x:CI K C D fI fs){h:Heap}(X:K.In h):∃mN mD,gk h C D mN mD/\mN "__init__" = some (.ref fI)/\∀n∈fs++gY,mN n=none/\mD n=none:=by
 obtain⟨⟨nm,q,N,bs,sn,sub,ab,col,dd,k0,k1,k2,k3,k5,hC,o1,i1,n1⟩,⟨c0,de,cd,sl,hD,o2,n2⟩,_⟩:=x;have a:h.Ns N (h.nsMap N):=.of_isNs (PySem.W.isNs_of_in X o1);have b:h.Ns cd.ns (h.nsMap cd.ns):=.of_isNs (PySem.W.isNs_of_in X o2);exact⟨_,_,⟨⟨nm,q,N,bs,sn,sub,ab,col,dd,k0,k1,k2,k3,k5,X _ _ hC,a⟩,⟨c0,de,cd,sl,X _ _ hD,b⟩,JD X b (n2 _ du)⟩,wg X a i1,λn hn=>⟨JD X a (n1 n hn),JD X b (n2 n (cZ _ hn))⟩⟩
noncomputable def X0(a C:Addr):HO:=.ext λh=>∃oe t,h.get? a=some oe/\oe.cls=.ref C/\oe.dict=none/\oe.data=.fields #[.ref t,.none,.none,.none,.bool false,.none]
noncomputable def X1(a C dx:Addr):HO:=.ext λh=>∃oe t,h.get? a=some oe/\oe.cls=.ref C/\oe.dict=some dx/\oe.data=.fields #[.ref t,.none,.none,.none,.bool false,.none]
def QZ(K:PySem.W.Frag)(C D fI:Addr)(fs:List Str):Sp:=λvs H Q _=>∃a ys,vs=.ref a::ys/\ys.length=fs.length/\H a=some (X0 a C)/\CI K C D fI fs/\∀dx,H dx=none->dx≠a->Q .a6 (bu (bu H dx (.xd (fs.zip ys))) a (X1 a C dx))
section
variable {X:Cx}
def Tw(E:XK)(C:Addr)(fs:List Str)(t:TA):TS:=λ_ σ H=>t σ H λvs H1=>vs.length=fs.length/\∀e dx,H1 e=none->H1 dx=none->dx≠e->E (.ref C) (some dx) (bu (bu H1 dx (.xd (fs.zip vs))) e (XO e C dx))
theorem CJ{E:XK}{k:Nat}{C D fI:Addr}{fd:FuncData}{oI:Obj}{fs:List Str}{sf x:Str}{e:Expr}{es:List Expr}{np dM pos:Pos}{t:TA}(p:pM X E)(hc:X.A.handled=none)(xi:CI X.K C D fI fs)(hf:X.K.lookup fI=some oI) (X3:oI.cls=.type "function") (F:f_ X.prog X.w X.K X.mg X.base Nc k fI fd (sf::fs) (QZ X.K C D fI fs)) (hr:fK (k+1) X.A) (hb:Binds X.K fd (sf::fs) []) (X4:fs.length<=sizeLine) (hg:Gl X x) (hm:X.mg x=some (.ref C)) (ha:PA X (e::es) t) (hs:starEach (e::es) X.env=(false,eval e X.env)::starEach es X.env) (jx:(backTo dM (starEach (e::es) X.env)).any (·.1)=false) (zZ:(x==("__debug__" : Str))=false):PS X (.Raise (some (.Call (.Name x np) (e::es) [] dM)) none pos) (Tw E C fs t):=by
 intro aa s σ H Z I h;refine Gn (C:=C) (D:=D) hc jx (ic I hg hm ⟨rfl,?_⟩ zZ);have ha:=ha dM aa s σ H _ I h;rw[hs]at ha⊢;refine Calls.evalArgs_plain (bX ha ?_);rintro us s1 ⟨vs,H1,I1,r,ev,q⟩;obtain⟨mN,mD,xc,hi,_⟩:=xi.at I1.ju;refine⟨rfl,⟨mN,mD,xc⟩,?_⟩;obtain⟨h1,g1,d1,t1,VY⟩:=s1;refine CH xc hi (I1.ju _ _ hf) X3 (λh2 e hm l=>?_) (by rw[<- r.length,ev];exact X4);obtain⟨t,ge,_⟩:=hm.there;have ne:H1 e=none:=I1.bo.fresh l;have I2:Inv X aa σ (bu H1 e (X0 e C)) ⟨h2,g1,d1,t1,VY⟩:=I1.laid (t':=t1) hm.keeps l ⟨⟨_,t,ge,rfl,rfl,rfl⟩,⟨_,ge⟩,λh1 h2 ⟨oe,t,e,r⟩ k=>⟨oe,t,k _ e,r⟩⟩
 have z_:QZ X.K C D fI fs (.ref e::vs) (bu H1 e (X0 e C)) (λw H2=>w=.a6/\∃dx,H1 dx=none/\dx≠e/\H2=bu (bu (bu H1 e (X0 e C)) dx (.xd (fs.zip vs))) e (X1 e C dx)) E0 :=
  ⟨e,vs,rfl,ev,aV,xi,λdx nd VZ=>⟨rfl,dx,by rw[ax VZ]at nd;exact nd,VZ,rfl⟩⟩
 have r2:aL (V.ref e::vs) (Value.ref e::us):=.cons rfl r;refine zG (qh (F.run _ X.stack _ _ ⟨.ref e::us,[]⟩ (.ref e::us) _ _ E0 (hr.make C us []) (I2.FN.make C us []) (by have:=hb ⟨h2,g1,d1,t1,VY⟩ (.ref e::us) I2.ju (by rw[sX,jo,jo,<- r.length,ev]);rw[sX]at this;exact this) r2 z_) λr s3 hq=>?_)
 cases r with
 | error e=>exact hq.elim
 | ok fl =>
  cases fl with
  | ret u =>
   obtain⟨w,H',I3,ie,ew,dx,nd,X5,eH⟩:=I2.after hq;subst ew;refine⟨ie,?_⟩;have e1:H' e=some (X1 e C dx):=by rw[eH];exact aV
   obtain⟨⟨oe,t3,g3,c3,d3,f3⟩,_⟩:=(show bf X.prog X.w H' s3.heap e (X1 e C dx) from I3.bo e _ e1)
   have X6:bu H' e (XO e C dx)=bu (bu H1 dx (.xd (fs.zip vs))) e (XO e C dx):=by
    rw[eH];funext b;by_cases hb:b=e
    ·subst hb;rw[aV,aV]
    ·rw[ax hb,ax hb,ax hb];by_cases hd:b=dx
     ·subst hd;rw[aV,aV]
     ·rw[ax hd,ax hd,ax hb]
   have I4:Inv X aa σ (bu H' e (XO e C dx)) s3:=I3.write (t':=s3.toks) (h':=s3.heap) (by rw[e1];exact True.intro) (.inl rfl) (λ_ _ _ z=>z) ⟨_,g3⟩ (XO.ok g3 c3 d3 f3);obtain⟨mN,mD,X7,_⟩:=xi.at I3.ju;refine⟨e,oe,_,rfl,⟨mN,mD,X7⟩,g3,c3,f3,rfl,?_⟩;refine p.xe I4 (lo:=h1.objs.size) ⟨l,oe,_,g3,c3,d3,f3,rfl⟩ aV lG.none I1.sz (bH l (j_ (bp g3))) ?_;rw[X6];exact q e dx ne nd X5
  | next=>exact hq.elim
  | brk=>exact hq.elim
  | cont=>exact hq.elim
end
end L2
end
section
namespace L2
open PySem PySem.Spec PyProof.Rows
theorem Az{K:PySem.W.Frag}{M:Model}{A:Around}{E:Value->Shared->Prop}{s:Shared}{e C B:Addr}{oe:Obj}{Q:Bool->Shared->Prop}(X:K.In s.heap)(he:s.heap.get? e=some oe)(hc:oe.cls=.ref C)(h1:PySem.W.kitCls K (.ref C) (.ref B)=some true) (h2:PySem.W.kitCls K (.ref B) (.type "BaseException")=some true) (hq:Q true s):wpAny M A (excMatches (.ref e) (.ref B)) Q E s:=by
 obtain⟨a1,a2,a3⟩:=PySem.W.kit_cls (M:=M) X h1;obtain⟨_,_,b3⟩:=PySem.W.kit_cls (M:=M) X h2;have t1:PySem.W.Looks M s.heap (isInstance (.ref B) (.type "tuple")) false:=a1.andThen (PySem.W.Looks.of_pure tc_notTuple);unfold excMatches isExcClass;refine af (t1.at ?_);simp only[E_,vK];obtain⟨hp,g,d,tk,os⟩:=s;refine af (aj ?_);simp only[vH,zA]
 have t2:PySem.W.Looks M hp (typeOf (.ref e)) (.ref C):=by
  unfold typeOf;intro A' Q' E' s' k q;rw[<- hc]at q;exact af (wpAny_loadPart (k _ _ he) (aj q))
 refine af (af (af (af (a2.at ?_))));simp only[fm];refine b3.at ?_;simp only[Bool.not_true,E_,vK];refine aj (aj (af (t2.at (af (af (af (a3.at ?_)))))));simp only[fm];exact aj (aj (aj hq))
noncomputable def Cx.hx(X:Cx)(e:Addr):Cx:={X with A:=X.A.mark (some (.ref e)),calm:=false,xe:=λ_ _=>False}
section
variable {X:Cx} {aa:List (Addr×Obj)} {σ:St} {H:Hp} {s:Shared} {e:Addr}
theorem Inv.hx(I:Inv X aa σ H s)(e:Addr):Inv (X.hx e) aa σ H s :=
 ⟨⟨I.ok.mod,I.ok.kind,I.ok.glob,I.ok.blt,I.ok.above,I.ok.inj,I.ok.has,I.ok.HV,λz=>Bool.noConfusion z,I.ok.frames,I.ok.xG,I.ok.QC,I.ok.bs,I.ok.EM,I.ok.zM,I.ok.zN,I.ok.kg,I.ok.HW⟩,I.os,I.bare,I.base,I.loc,I.cell,I.free,I.fJ,I.pin,I.bo,I.len⟩
theorem Inv.Tz(ok:X.Ok)(I:Inv (X.hx e) aa σ H s):Inv X aa σ H s:=⟨ok,I.os,I.bare,I.base,I.loc,I.cell,I.free,I.fJ,I.pin,I.bo,I.len⟩
theorem name_goes{M:Model}{A:Around}{E:Value->Shared->Prop}{i:Nat}{n:Str}{pos:Pos}{Q:Unit->Shared->Prop}(I:Inv X aa σ H s)(hN:X.N.Nodup)(hi:X.N[i]?=some n)(hl:X.env.scope.names.lookup n=some .local)(h:∀s',Inv X aa (σ.set i none) H s'->Q () s'):wpAny M A (do bindName X.env n .none;unbindBehindTheSuite X.env n pos) Q E s:=by
 obtain⟨m,hn,OE⟩:=id I.loc;have JQ:(X.env.scope.kind == .class||(X.env.scope.kind == .module&&X.env.locals != X.env.globals))=false:=by rw[I.ok.kind];rfl
 refine wpAny_nameGoes_keeps hl hn JQ λh' v R6 hs=>?_;have MX:∀b o,X.dz.heap.get? b=some o->b≠X.env.locals:=λb o e=>bW (eZ (bp e) I.ok.above);refine h _ ⟨I.ok,I.os,I.bare,⟨λb o e n hb hx=>(hs.2 b (MX b o e)).trans (I.base.keep b o e n hb hx),λb o e n hb hx=>?_,I.base.free,λb o e hx=>?_,I.base.fH,I.base.oH,I.base.qq⟩,⟨_,R6,λj y v' e1 e2 e3=>?_⟩,λy c e=>?_,I.free,I.fJ,λp hp=>?_,λb ob q=>?_,by rw[sY];exact I.len⟩
 ·obtain⟨sl,e1⟩:=I.base.slot b o e n hb hx;exact⟨sl,(hs.2 b (MX b o e)).trans e1⟩
 ·obtain⟨o',e1⟩:=I.base.there b o e hx;exact⟨o',(hs.2 b (MX b o e)).trans e1⟩
 ·have hj:j≠i:=λz=>by
   subst z;rw[List.getElem?_set]at e2;split at e2
   ·split at e2<;>cases e2
   ·exact absurd rfl ‹_›
  rw[mq (fk hj)]at e2;obtain⟨u',r',q⟩:=OE j y v' e1 e2 e3;refine⟨u',r',?_⟩;rcases q with⟨k,q⟩|⟨k,c,q,z⟩
  ·have ny:y≠n:=λz=>hj (mG hN e1 (by rw[z];exact hi));exact .inl ⟨k,by show(if y=n then v else m y)=_;rw[aU ny];exact q⟩
  ·exact .inr ⟨k,c,q,z.sameBut hs (I.Fq y c q)⟩
 ·obtain⟨w',z⟩:=I.cell y c e;exact⟨w',z.sameBut hs (I.Fq y c e)⟩
 ·obtain⟨e,n,ne,nf,d⟩:=I.pin p hp;exact⟨(hs.2 p.1 ne).trans e,n,ne,nf,d⟩
 ·refine(I.bo b ob q).tB (λc w' hc q'=>(hs.2 c ?_).trans q') (λ_ q=>q) λ_ _ q=>q;rintro rfl;rcases hc with z | z
  ·have:=I.free;rw[z,q]at this;cases this
  ·have:=I.free;rw[z]at this;cases this
theorem wj{Z:kh}{lo:Nat}{C dx B:Addr}{tr:Option Addr}{cn n:Str}{tp ON:Pos}{b0:Stmt}{hb:List Stmt}{th:TS}{i:Nat}(I:Inv X aa σ H s)(xG:X.stack=X.env::X.outer/\X.env.frame=some X.env.locals)(x:ye s.heap lo e C dx tr)(he:H e=some (XO e C dx))(hT:lG X aa H tr)(l2:lo<=s.heap.objs.size)(hg:Gl X cn)(hm:X.mg cn=some (.ref B)) (zZ:(cn==("__debug__" : Str))=false) (k1:PySem.W.kitCls X.K (.ref C) (.ref B)=some true) (k2:PySem.W.kitCls X.K (.ref B) (.type "BaseException")=some true) (hN:X.N.Nodup) (hi:X.N[i]?=some n) (hl:X.env.scope.names.lookup n=some .local) (hh:vL (X.hx e) (b0::hb) th) (q:th {nx:=λFA H2=>Z.nx (FA.set i none) H2,rt:=λ_ _=>False} (σ.set i (some (.ref e))) H):wpAny (model X.prog X.w) X.A (noteFrame (.ref e) X.env) (λ_ s2=>wpAny (model X.prog X.w) X.A (setFlight (.ref e) none) (λ_ s3=>wpAny (model X.prog X.w) X.A (handleBy (.ref e) X.env [.ExceptHandler (some (.Name cn tp)) (some n) (b0::hb) ON]) (SP X aa Z) X.xe s3) X.xe s2) X.xe s:=by
 refine uy I xG x he hT l2 λs1 T I1 x1 lT nT=>?_;obtain⟨le,oe,vs,g1,c1,d1,f1,h1,nTe,_,oT,ts,gT,dT,h3⟩:=id x1;refine wpAny_handleBy_cons (codeAny_handlers_test ?_) (by intro q;cases q);refine ic (X:=X.hx e) (I1.hx e) hg hm ?_ zZ;refine Az I1.ju g1 c1 k1 k2 ?_;refine codeAny_handlers_suite_as (wpAny_setFlight_none g1 f1 h1 gT dT (zl.mp h3).1 ?_);have tt:=lG.new (H':=H) I lT nT T rfl;have I2:Inv X aa σ H {s1 with heap:=s1.heap.update T (Obj.mapFields (·.setIfInBounds 3 .none))}:=I1.turned (t':=s1.toks) (it:=T) (λb o nb z=>(sQ _ _ (fk nb)).trans z) nT tt.2.2.1 (.inr tt.2.1) tt.2.2.2.1 tt.2.2.2.2;refine jv (v:=.ref e) I2 hN hi (.inl hl) rfl (λs3 I3=>?_) (.inr hl);refine kf (hh aa s3 _ H _ (I3.hx e) q) (λf s4 h4=>?_) λ_ _ z=>z.elim
 cases f with
 | next =>
  obtain⟨σ4,H4,I4,q4⟩:=h4;exact name_goes (I4.Tz I.ok) hN hi hl λs5 I5=>⟨_,H4,I5,q4⟩
 | brk=>obtain⟨_,_,_,q4⟩:=h4;exact q4.elim
 | cont=>obtain⟨_,_,_,q4⟩:=h4;exact q4.elim
 | ret u=>obtain⟨_,_,_,_,_,q4⟩:=h4;exact q4.elim
end
end L2
end
section
namespace L2
open PySem PySem.Spec PyProof.Rows
theorem CK{K:PySem.W.Frag}{x C D fI:Addr}{f:List Str}(xi:CI K C D fI f):PySem.W.KitX K (.ref x) (.ref C) (λh=>∃o,h.get? x=some o/\o.cls=.ref C) where
 ty:=λM h _ ⟨o,e,c⟩=>by
  unfold typeOf;intro A' Q' E' s' k q;rw[<- c]at q;exact af (wpAny_loadPart (k _ _ e) (aj q))
 it:=λM h X _=>by
  obtain⟨⟨nm,q,N,bs,sn,sub,ab,col,dd,k0,k1,k2,k3,k5,hC,_⟩,_,_⟩:=xi;intro A' Q' E' s' k q;unfold isType loadHead;exact af (wpAny_loadPart (k _ _ (X _ _ hC)) (aj q))
 ne:=λh tp dd aC n sl X X8=>by
  obtain⟨⟨nm,q,N,bs,sn,sub,ab,col,de,k0,k1,k2,k3,k5,hC,_⟩,_,_⟩:=xi;refine BB.mpr λq=>?_;have e:C=tp:=Value.ref.inj (e_.mp q);subst e;have z:=oG Obj.cls (cH ((X _ _ hC).symm.trans X8));exact absurd (show Value.type "type" = Value.type "tuple" from z) (by decide)
 ca:=λ{prog w A E Q s} X ⟨o,e,c⟩ k=>by
  obtain⟨mN,mD,xc,_,hn⟩:=xi.at X;obtain⟨h,g,d,t,os⟩:=s;have n1:=hn "__getattribute__" (gP _ (by simp[gY]));have n2:=hn "__getattr__" (gP _ (by simp[gY]));have n3:=hn "__class__" (gP _ (by simp[gY]));exact Go xc n1.1 n1.2 n2.1 n2.2 n3.1 n3.2 e c k
section
variable {X:Cx}
theorem XO.at{P:Program}{w:World}{H:Hp}{h:Heap}{a C dx:Addr}(x:iB P w H h)(e:H a=some (XO a C dx)):∃oe vs,h.get? a=some oe/\oe.cls=.ref C/\oe.dict=some dx/\oe.data=.fields vs:=(show bf P w H h a (XO a C dx) from x a _ e).1
def TC(K:PySem.W.Frag):List V->Hp->VK->Prop:=λxs H Q=>∃a C dx D fI f y b,xs=[.ref a,y]/\H a=some (XO a C dx)/\CI K C D fI f/\( (∃c,RelV y c/\PySem.W.kitOne K (.ref C) c=some b)\/∃(tp:Addr) (cs:List Addr),y=.ref tp/\H tp=some (.tup (cs.map V.ref))/\PySem.W.kitAny K (.ref C) (cs.map Value.ref)=some b)/\Q (.bl b) H
theorem pN:∀{cs:List Addr}{us:List Value},aL (cs.map V.ref) us->us=cs.map Value.ref
 | [],_,.nil=>rfl
 | _::_,_,.cons r t=>by rw[(show _=Value.ref _ from r),pN t];rfl
theorem Gq{y:V}{c u:Value}(h:RelV y c)(k:RelV y u)(n:∀i,y≠.int i)(m:∀i,y≠.str i)(o:∀i,y≠.HU i)(p:∀i,y≠.Fo i):c=u:=by
 cases y with
 | int i=>exact absurd rfl (n i)
 | str i=>exact absurd rfl (m i)
 | HU i=>exact absurd rfl (o i)
 | Fo i=>exact absurd rfl (p i)
 | a6=>exact(show c=_ from h).trans (show u=_ from k).symm
 | bl b=>exact(show c=_ from h).trans (show u=_ from k).symm
 | ref b=>exact(show c=_ from h).trans (show u=_ from k).symm
 | ty b=>exact(show c=_ from h).trans (show u=_ from k).symm
theorem CL:cL X (.builtin "isinstance") (TC X.K):=by
 intro aa s σ H xs us Q I r h;obtain⟨a,C,dx,D,fI,f,y,b,rfl,ea,xi,hc,q⟩:=h
 obtain⟨u1,u2,rfl,r1,r2⟩:∃u1 u2,us=[u1,u2]/\RelV (.ref a) u1/\RelV y u2:=by
  cases r with
  | cons r1 t=>cases t with
   | cons r2 t=>cases t;exact⟨_,_,rfl,r1,r2⟩
 obtain rfl:u1=Value.ref a:=r1;obtain⟨oe,vs,g1,c1,_,_⟩:=XO.at I.bo ea;have d_:∀tk,EP X aa σ Q (.bool b) {s with toks:=tk}:=λtk=>⟨.bl b,H,I.tok tk,rfl,q⟩;rcases hc with⟨c,rc,e⟩|⟨tp,cs,rfl,et,e⟩
 ·have:c=u2:=by
   refine Gq rc r2 ?_ ?_ ?_ ?_<;>(rintro i rfl;obtain⟨t,rfl⟩:=rc;exact absurd e (by unfold PySem.W.kitOne;rw[aU (by simp)];exact λz=>nomatch z))
  subst this;exact lz (CK xi) I.ju ⟨oe,g1,c1⟩ e (λz=>nomatch z) d_
 ·obtain rfl:u2=Value.ref tp:=r2;obtain⟨_,aC,rv,o,go,co,n,d1⟩:=(show bf X.prog X.w H s.heap tp (.tup (cs.map V.ref)) from I.bo tp _ et);have:=pN rv;subst this;obtain⟨oc,od,TH,qG⟩:=o;obtain rfl:oc=.type "tuple" := co;obtain rfl:TH=_:=d1;exact PySem.W.kia_tup (CK xi) I.ju ⟨oe,g1,c1⟩ go e (λz=>nomatch z) d_
theorem AA{v:V}{u:Value}(r:RelV v u):handedOut u=pure u:=by
 cases v with
 | a6=>cases (show u=Value.none from r);rfl
 | bl b=>cases (show u=Value.bool b from r);rfl
 | int i=>obtain⟨t,e⟩:=(show ∃t,u=Value.int i t from r);cases e;rfl
 | str i=>obtain⟨t,e⟩:=(show ∃t,u=Value.str i t from r);cases e;rfl
 | HU i=>obtain⟨t,e⟩:=r;cases e;rfl
 | Fo i=>obtain⟨t,e⟩:=r;cases e;rfl
 | ref b=>cases (show u=Value.ref b from r);rfl
 | ty b=>cases (show u=Value.type b from r);rfl
def X9(K:PySem.W.Frag)(te:TE)(f:Str):TE:=λσ H Q=>te σ H λx H1=>∃a C D fI dx gs fs i,x=.ref a/\H1 a=some (XO a C dx)/\CI K C D fI gs/\f∈gs/\H1 dx=some (.xd fs)/\fs.lookup f=some i/\Q i H1
theorem OO{e:Expr}{f:Str}{pos:Pos}{te:TE}(he:PE X e te)(hb:attributeBase e f X.env (eval e X.env)=eval e X.env):PE X (.Attribute e f pos) (X9 X.K te f):=by
 intro aa s σ H Q I h;refine FL hb (bX (he aa s σ H _ I h) ?_);rintro u s1 ⟨x,H1,I1,rx,a,C,D,fI,dx,gs,fs,i,rfl,ea,xi,mf,ed,l,q⟩;obtain rfl:u=Value.ref a:=rx;obtain⟨oe,vs,g1,c1,d1,f1⟩:=XO.at I1.bo ea;obtain⟨mA,n1,rl⟩:=(show bf X.prog X.w H1 s1.heap dx (.xd fs) from I1.bo dx _ ed);have r:=rl f;rw[l]at r;obtain⟨mN,mD,xc,_,hn⟩:=xi.at I1.ju;have m1:=hn "__getattribute__" (gP _ (by simp[gY]));have m2:=hn "__getattr__" (gP _ (by simp[gY]));have m3:=hn f (Bt _ mf)
 cases hv:mA f with
 | none=>rw[hv]at r;exact r.elim
 | some v =>
  rw[hv]at r;obtain⟨h1,g,d,tk,os⟩:=s1;exact KP xc m1.1 m1.2 m2.1 m2.2 m3.1 m3.2 (xi.ve f mf) g1 c1 f1 d1 n1 hv (AA r) ⟨i,H1,I1.tok _,r,q⟩
end
end L2
end
section
namespace L2
open PySem PySem.Spec PyProof.Rows
structure yg (k:Nat) (A:Around):Prop where
 dp:A.depth+3*k+5<recursionLimit
 un:A.units+16*k+200<cLine
structure yh (P:Program) (w:World) (K:PySem.W.Frag) (mg:Str->Option Value) (base:Heap) (CX:xO) (k:Nat) (f:Addr) (fd:FuncData) (ps:List Str) (sp:Sp):Prop where
 len:∀vs H Q E,sp vs H Q E->vs.length=ps.length
 run:∀(A:Around)(outer:List Env)(s:Shared)(H:Hp)(args:Args)(us:List Value)(vs:List V)(Q:VK)(E:XK),yg k A->tL P w K mg base A outer s H->BindsTo s fd args (ps.zip us)->aL vs us->sp vs H Q E ->
  codeAny (model P w) A (.call (.ref f) args) (CR CX outer P w H s Q E) s
section
variable {X:Cx} {CX:xO} {k:Nat} {f C:Addr} {fd:FuncData} {ps:List Str} {sp:Sp} {vU:List V} {ds:List Value} {E:XK} {x m:Str} {p pos zY:Pos} {e o:Expr} {es:List Expr} {ta:TE} {t:TA}
theorem Gr{aa:List (Addr×Obj)}{σ:St}{H:Hp}{s:Shared}{Q:VK}{us:List Value}{vs:List V}(F:yh X.prog X.w X.K X.mg X.base CX k f fd ps sp)(hr:yg k X.A)(hb:Binds X.K fd ps ds)(hd:aL vU ds)(hx:iV CX X E)(I:Inv X aa σ H s)(r:aL vs us)(h:sp (vs++vU) H Q E):wpAny (model X.prog X.w) X.A (call (.ref f) us) (EP X aa σ Q) X.xe s:=by
 have r2:aL (vs++vU) (us++ds):=r.append hd;have hl:(us++ds).length=ps.length:=by rw[<- r2.length];exact F.len _ _ _ _ h
 refine zG (qh (F.run X.A X.stack s H ⟨us,[]⟩ (us++ds) (vs++vU) Q E hr I.FN (hb s us I.ju hl) r2 h) λr s' hq=>?_)
 cases r with
 | error e=>exact hx aa σ H s e s' I hq
 | ok fl =>
  cases fl with
  | ret u=>exact I.after hq
  | next=>exact False.elim hq
  | brk=>exact False.elim hq
  | cont=>exact False.elim hq
theorem CM(F:yh X.prog X.w X.K X.mg X.base CX k f fd ps sp)(hr:yg k X.A)(hg:Gl X x)(hm:X.mg x=some (.ref f))(hk:PySem.W.keepIn X.K (.ref f)=true)(hb:Binds X.K fd ps ds)(hd:aL vU ds)(hx:iV CX X E)(ha:PA X (e::es) t) (zZ:(x==("__debug__" : Str))=false:=by decide) (he:starEach (e::es) X.env=(false,eval e X.env)::starEach es X.env:=by rfl) (jx:(backTo pos (starEach es X.env)).any (·.1)=false:=by rfl):PE X (.Call (.Name x p) (e::es) [] pos) (Ih sp vU E t):=by
 intro aa s σ H Q I h;refine Bx (ic I hg hm ?_ zZ);refine JB (h₀:=X.base) I.ok.mod.JP hk (bX (ha pos aa s σ H _ I h) λus s1 ⟨vs,H1,I1,r,q⟩=>⟨I1.ju,?_⟩) he jx;exact Gr F hr hb hd hx I1 r q
end
end L2
end
section
namespace L2
open PySem PySem.Spec PyProof.Rows
open Builtin
theorem kA:fillsNumberSlot (.type "tuple") "mul" = pure false :=
 PySem.fillsNumberSlot_seq (id := "tuple.__mul__") (r:=some (.builtin "tuple.__rmul__")) Fg.lookup ⋯ F.slot_tuple_rmul.lookup ⋯
theorem qX:seqRepeat? (.type "tuple")=pure (some (.builtin "tuple.__mul__")):=by
 unfold seqRepeat?;rw[PySem.seqSlot_of (T := "tuple") (name := "__mul__") (id := "tuple.__mul__") Fg.lookup ⋯,PySem.seqSlot_of (T := "tuple") (name := "__rmul__") (id := "tuple.__rmul__") F.slot_tuple_rmul.lookup ⋯];rfl
theorem mY(a:Int)(t:Tok)(l:Addr)(items:Array Value)(n:Nat)(od:Option Addr)(qG:Array (Option Value)):Meets (Builtin.«int.__rmul__» ⟨[.int a t,.ref l],[]⟩) (λ_ R s=>s.heap.get? l=some {cls:=.type "tuple",dict:=od,data:=.seq items n,slots:=qG}/\R (.ok (.ret Value.notImplemented)) s) :=
 .of_wp λprog w A R s h=>by obtain⟨hp,g,d,tk,os⟩:=s;obtain⟨hl,h⟩:=h;wp_walk;exact⟨_,rfl,h⟩
theorem mZ(l:Addr)(items:Array Value)(n:Nat)(od:Option Addr)(qG:Array (Option Value))(x:Int)(u:Tok)(h1:-(2 ^ 63)<=x)(h2:x<2 ^ 63)(hs:(items.isEmpty||x==1)=true):Meets (Builtin.«tuple.__mul__» ⟨[.ref l,.int x u],[]⟩) (λ_ R s=>s.heap.get? l=some {cls:=.type "tuple",dict:=od,data:=.seq items n,slots:=qG}/\R (.ok (.ret (Value.ref l))) s) :=
 .of_wp λprog w A R s h=>by
  obtain⟨hp,g,d,tk,os⟩:=s;obtain⟨hl,h⟩:=h;have f1:=AutoSeq1.idx_int;have f2:=AutoSeq1.sub_tuple_tuple;have hf:(decide (x < -(2 ^ 63))||decide (x ≥ 2 ^ 63))=false:=by rw[cx ∅,cx ∅];rfl
  wp_walk using wpAny_loadPart' hl
  rw[aU (by rw[hf];exact ao)]
  wp_walk using wpAny_loadPart' hl
  exact⟨_,rfl,h⟩
theorem oO(l:Addr)(items:Array Value)(n:Nat)(od:Option Addr)(qG:Array (Option Value))(x:Int)(u:Tok)(h1:-(2 ^ 63)<=x)(h2:x<2 ^ 63)(hs:(items.isEmpty||x==1)=false)(hz:items.size*x.toNat<=sizeLine):Meets (Builtin.«tuple.__mul__» ⟨[.ref l,.int x u],[]⟩) (λ_ R s=>s.heap.get? l=some {cls:=.type "tuple",dict:=od,data:=.seq items n,slots:=qG}/\R (.ok (.ret (Value.ref s.heap.objs.size))) {s with heap:=s.heap.push {cls:=.type "tuple",data:=.seq (List.foldl (λx1 x2=>x1++x2) #[] (List.replicate x.toNat items))}}) :=
 .of_wp λprog w A R s h=>by
  obtain⟨hp,g,d,tk,os⟩:=s;obtain⟨hl,h⟩:=h;have f1:=AutoSeq1.idx_int;have f2:=AutoSeq1.sub_tuple_tuple;have hf:(decide (x < -(2 ^ 63))||decide (x ≥ 2 ^ 63))=false:=by rw[cx ∅,cx ∅];rfl
  have he:items.isEmpty=false:=(Bool.or_eq_false_iff.mp hs).1
  wp_walk using wpAny_loadPart' hl
  rw[aU (by rw[hf];exact ao)]
  wp_walk using wpAny_loadPart' hl
  rw[aU (by rw[hs];exact ao)];by_cases h0:x<=0
  ·rw[aT (by rw[dQ h0];rfl)];have e0:x.toNat=0:=∅;rw[e0]at h
   wp_walk
   exact⟨_,rfl,h⟩
  ·rw[aU (by rw[cx h0,he];exact ao)];have ez:(items.size:Int)*x=((items.size*x.toNat:Nat):Int):=by rw[Int.natCast_mul,Int.toNat_of_nonneg ∅]
   have hb:¬(items.size:Int)*x>(2 ^ 63-1) / 8:=by
    rw[ez];have:(sizeLine:Nat)<=1000000000000:=by decide
    omega
   have ht:Tuple.tupleTooMany ((items.size:Int)*x)=false:=by
    unfold Tuple.tupleTooMany;rw[ez];exact cx ∅
   rw[aU hb,aU (by rw[ht];exact ao)]
   have hsz:(List.foldl (λx1 x2=>x1++x2) #[] (List.replicate x.toNat items)).size<=sizeLine:=by
    have:=foldl_rep items.toList x.toNat [];rw[Fh,Array.toArray_toList]at this;rw[this,cg,qP,Nat.mul_comm];exact hz
   wp_walk
   exact⟨_,rfl,h⟩
def OP:R2:=λx y H Q=>∃l k xs,x=.ref l/\y=.int k/\H l=some (.tup xs)/\-(2 ^ 63)<=k/\k<2 ^ 63/\xs.length*k.toNat<=sizeLine /\
 ((List.replicate k.toNat xs).flatten=xs->Q (.ref l) H)/\∀p,H p=none->Q (.ref p) (bu H p (.tup (List.replicate k.toNat xs).flatten))
section
variable {X:Cx}
theorem Gs:iC X (binaryOp .Mult) OP:=by
 intro aa s σ H x y v u Q I rx ry h;obtain⟨l,k,xs,rfl,rfl,hH,h1,h2,hz,q1,q2⟩:=h;cases rx;obtain⟨t,rfl⟩:=ry;obtain⟨hx,aC,r,o,e,c,n,d⟩:=(show bf X.prog X.w H s.heap l (.tup xs) from I.bo l _ hH);obtain⟨oc,od,TH,qG⟩:=o;obtain rfl:oc=.type "tuple" := c;obtain rfl:TH=.seq aC.toArray n:=d;have aY:aC.toArray.size*k.toNat<=sizeLine:=by rw[cg,<- r.length];exact hz
 refine wpAny_binaryOp_repeat_ref (T := "tuple") (U := "int") (by decide) ⟨_,e,rfl⟩ (λs'=>typeIs_int s' k t) kA F.fills_int_mul Fi qX F.slot_int_index.lookup
  (tq Fi (typeIs_int s k t) F.entry_int_rmul (F.args_int_rmul_2 _ _) (mY k t l aC.toArray n od qG)
   ⟨e,rfl,⟨_,e,rfl⟩,?_⟩)
 cases hs:(aC.toArray.isEmpty||k==1)with
 | true =>
  refine tq Fg ⟨_,e,rfl⟩ F.entry_tuple_mul (F.args_tuple_mul_2 _ _) (mZ l aC.toArray n od qG k t h1 h2 hs) ⟨e,?_⟩;refine⟨.ref l,H,I,rfl,q1 ?_⟩;rcases Bool.or_eq_true_iff.mp hs with z | z
  ·have:aC=[]:=by simpa using z
   subst this;have:xs=[]:=EZ.mp (by rw[r.length];rfl);subst this;simp
  ·have:k=1:=by simpa using z
   subst this;simp
 | false =>
  refine tq Fg ⟨_,e,rfl⟩ F.entry_tuple_mul (F.args_tuple_mul_2 _ _) (oO l aC.toArray n od qG k t h1 h2 hs aY) ⟨e,?_⟩
  have oM:List.foldl (λx1 x2=>x1++x2) #[] (List.replicate k.toNat aC.toArray)=(List.replicate k.toNat aC).flatten.toArray:=by
   have:=foldl_rep aC k.toNat [];rw[Fh]at this;exact this
  rw[oM];have hf:H s.heap.objs.size=none:=I.bo.fresh (aq _);refine⟨.ref s.heap.objs.size,bu H s.heap.objs.size (.tup (List.replicate k.toNat xs).flatten),I.laid (t':=s.toks) (λb u e=>aR _ e) (aq _) ?_,rfl,q2 _ hf⟩;exact⟨by rw[qP,Nat.mul_comm];exact hz,_,r.rep k.toNat,⟨_,cw _ rfl,rfl,_,rfl⟩⟩
end
end L2
end
section
open PySem PySem.Spec PyProof.Rows
namespace HT
section
variable {prog:Program} {w:World} {A:Around} {E:Value->Shared->Prop} {s:Shared}
theorem iE{t sl:Addr}{items:Array Value}{vl vu:Value}{lo hi:Option Int}{Q:Value->Shared->Prop}(ht:IsTup s.heap t items)(hs:s.heap.IsSliceOf sl vl vu .none)(pl:IsPart vl lo)(pu:IsPart vu hi)(hw:cB items.size 0 lo=0/\cB items.size items.size hi=items.size)(h:Q (.ref t) s):wpAny (model prog w) A (getItem (.ref t) (.ref sl)) Q E s:=by
 obtain⟨os,Ac,Kn,EO⟩:=id hs;have N_:s.TypeIs (.ref sl) "slice" := ⟨os,Ac,Kn⟩;unfold getItem
 try with_reducible refine fX ?_
 first | refine af (aj ?_) | skip
 refine af (wpAny_sequenceKey ht.typeIs (by decide) ?_)
 refine af (mi (name:=Str.ofString "__getitem__") ht.typeIs p9
  (iP p9 ht.typeIs entry_tuple_getitem ?_ (args_tuple_getitem _ _)))
 show wpAny _ _ (Builtin.Tuple.tupleItemsOf (.ref t) >>= _) _ _ s;refine af (tupleItemsOf_ ht ?_);refine af (tf N_ ?_);rw[aT (by decide)];refine af (fN hs pl pu ?_)
 have TJ:(((cB items.size 0 lo:Nat):Int)==0&&(1:Int)==1&&(cB items.size items.size hi-cB items.size 0 lo)==items.size)=true:=by
  rw[hw.1,hw.2];simp
 show wpAny _ _ (if (((cB items.size 0 lo:Nat):Int)==0&&(1:Int)==1&&(cB items.size items.size hi-cB items.size 0 lo)==items.size)=true then _ else _) _ _ s;rw[aT TJ];unfold Builtin.Tuple.tupleIsExact;refine af (af (tf ht.typeIs (aj ?_)));rw[aT (by decide)]
 wp_walk
 exact⟨_,rfl,aj h⟩
end
end HT
namespace L2
def TK(K:PySem.W.Frag):V->Option Int->Option Int->Hp->VK->Prop:=λx lo hi H Q=>∃a xs,x=.ref a/\fF K H a xs /\
 (HT.cB xs.length 0 lo=0/\HT.cB xs.length xs.length hi=xs.length)/\Q x H
theorem Gu{X:Cx}:Ob X (TK X.K):=by
 intro aa s σ H x v vl vu lo hi sl Q I rx hs pl pu h;obtain⟨a,xs,rfl,hx,hw,q⟩:=h;cases rx;obtain⟨aC,r,ht,hz⟩:=I.tuple hx;have aY:aC.toArray.size=xs.length:=by rw[cg];exact r.length.symm
 refine⟨"tuple",_,p9.lookup,ht.typeIs,?_⟩;exact HT.iE ht hs pl pu (by rw[aY];exact hw) ⟨.ref a,H,I,rfl,q⟩
end L2
end
section
namespace Ev
open L2
open PySem PySem.Spec PyProof.Rows
set_option genInjectivity true in
inductive D where
 | a6 | bl (b:Bool) | int (i:Int) | str (s:Str) | tup (ds:List D) | aJ (n:Nat) | ls (ds:List D)
 deriving Inhabited
set_option genInjectivity true in
inductive MO where
 | lst (ds:List D) | iJ (ds:List D) | dK (az:List (bS×D)) | dT (az:List (List bS×D)) | dF (az:List (List bS×D)) | xc (C:Addr) (fs:List (Str×D))
 deriving Inhabited
abbrev ag:=List MO
abbrev En:=List (Option D)
inductive W where
 | d (x:D) | lv (ds:List D)
 deriving Inhabited
structure AB where
 cls:Addr
 fs:List (Str×D)
inductive bF (α:Type) where
 | ok (a:α) (M:ag) | err (x:AB) (M:ag) | ae
noncomputable def bF.bind{α β:Type}(o:bF α)(f:α->ag->bF β):bF β:=match o with
 | .ok a M=>f a M
 | .err x M=>.err x M
 | .ae=>.ae
noncomputable def bF.b0{α β:Type}(o:bF α)(f:α->ag->bF β):bF β:=match o with
 | .ok a M=>f a M
 | _=>.ae
noncomputable def uz(K:PySem.W.Frag)(H:Hp)(a:Addr)(xs:List V):Prop :=
 (∃o,H a=some (.gI o (.lst xs)))\/∃(o:Obj) (aC:Array Value) (n:Nat),K.lookup a=some o/\o.cls=.type "list" /\ o.dict=none/\o.data=.seq aC n/\aC.size<=sizeLine/\aL xs aC.toList
theorem uz.sq{K:PySem.W.Frag}{H:Hp}{a:Addr}{xs:List V}(h:uz K H a xs):eO K H a xs:=by
 rcases h with⟨o,h⟩ | h
 ·exact .inl (.inr ⟨o,h⟩)
 ·exact .inr h
mutual
noncomputable def RD(K:PySem.W.Frag)(ads:List Addr)(H:Hp):D->V->Prop
 | .a6,v=>v=.a6
 | .bl b,v=>v=.bl b
 | .int i,v=>v=.int i
 | .str s,v=>v=.str s
 | .tup ds,v=>∃a xs,v=.ref a/\H a=some (.tup xs)/\aN K ads H ds xs
 | .aJ n,v=>∃a,v=.ref a/\ads[n]?=some a
 | .ls ds,v=>∃a xs,v=.ref a/\uz K H a xs/\aN K ads H ds xs
noncomputable def aN(K:PySem.W.Frag)(ads:List Addr)(H:Hp):List D->List V->Prop
 | [],xs=>xs=[]
 | d::ds,xs=>∃x r,xs=x::r/\RD K ads H d x/\aN K ads H ds r
end
section
variable (K:PySem.W.Frag) (ads:List Addr) (H:Hp)
def bN{κ:Type}:List (κ×D)->List (κ×V)->Prop
 | [],xs=>xs=[]
 | p::ps,xs=>∃x r,xs=x::r/\p.1=x.1/\RD K ads H p.2 x.2/\bN ps r
def KR(a:Addr):MO->Prop
 | .lst ds=>∃xs,H a=some (.lst xs)/\aN K ads H ds xs
 | .iJ ds=>∃o xs,H a=some (.gI o (.lst xs))/\aN K ads H ds xs
 | .dK az=>∃ks,H a=some (.dK ks)/\bN K ads H az ks
 | .dT az=>∃ks,H a=some (.dT ks)/\bN K ads H az ks
 | .dF az=>∃o ks,H a=some (.gI o (.dT ks))/\bN K ads H az ks
 | .xc C fs=>∃dx gs,H a=some (XO a C dx)/\H dx=some (.xd gs)/\bN K ads H fs gs/\∃D fI,CI K C D fI (fs.map (·.1))
structure aI (M:ag):Prop where
 nd:∀(i j:Nat)(a:Addr),ads[i]?=some a->ads[j]?=some a->i=j\/∃C fs,M[i]?=some (.xc C fs)
 len:ads.length=M.length
 obj:∀(n:Nat)(o:MO)(a:Addr),M[n]?=some o->ads[n]?=some a->KR K ads H a o
def OQ(ρ:En)(σ:L2.St):Prop:=∀(i:Nat)(d:D),ρ[i]?=some (some d)->∃v,σ[i]?=some (some v)/\RD K ads H d v
def RW:W->V->Prop
 | .d x,v=>RD K ads H x v
 | .lv ds,v=>∃a xs,v=.ref a/\H a=some (.lst xs)/\a∉ads/\aN K ads H ds xs
end
noncomputable def Kept(ads:List Addr)(H H':Hp):Prop:=∀b o,b∉ads->H b=some o->H' b=some o
noncomputable def OR(H H':Hp):Prop:=∀b xs,H b=some (.tup xs)->H' b=some (.tup xs)
structure aB (ads aw:List Addr) (H H':Hp):Prop where
 pre:∃r,aw=ads++r
 new:∀b∈aw,b∉ads->H b=none
 kept:Kept ads H H'
 fH:OR H H'
 gI:∀b o u,H b=some (.gI o u)->H' b=some (.gI o u)
theorem aB.refl(ads:List Addr)(H:Hp):aB ads ads H H:=⟨⟨[],by simp⟩,λb h n=>absurd h n,λ_ _ _ h=>h,λ_ _ h=>h,λ_ _ _ h=>h⟩
theorem aB.trans{a b c:List Addr}{H H1 H2:Hp}(g:aB a b H H1)(k:aB b c H1 H2):aB a c H H2:=by
 obtain⟨r,e⟩:=g.pre;obtain⟨r',e'⟩:=k.pre;refine⟨⟨r++r',by rw[e',e,By]⟩,λx h n=>?_,λx o n h=>?_,λx xs h=>k.fH x xs (g.fH x xs h),λx o u h=>k.gI x o u (g.gI x o u h)⟩
 ·by_cases hb:x∈b
  ·exact g.new x hb n
  ·have:=k.new x h hb
   cases q:H x with
   | none=>rfl
   | some o=>rw[g.kept x o n q]at this;cases this
 ·refine k.kept x o (λhb=>?_) (g.kept x o n h);rw[g.new x hb n]at h;cases h
class EX where
 post:PySem.W.Frag->List Addr->Hp->AB->ag->Prop
 shift:∀{K:PySem.W.Frag}{ads aw:List Addr}{H H':Hp}{x:AB}{M:ag},post K ads H x M->aB ads aw H H'->post K aw H' x M
@[reducible] noncomputable def never:EX:=⟨λ_ _ _ _ _=>False,λh _=>h⟩
instance (priority:=low) Q0:EX:=never
@[reducible] def CN(E:XK):EX:=⟨λK ads H x M=>∀H' aw dx fs,aB ads aw H H'->aI K aw H' M->H' dx=some (.xd fs)->bN K aw H' x.fs fs->E (.ref x.cls) (some dx) H',λh g H1 ah dx fs g1 m1 e r=>h H1 ah dx fs (g.trans g1) m1 e r⟩
section
variable {K:PySem.W.Frag} {ads aw:List Addr} {H H':Hp}
theorem aB.get(g:aB ads aw H H'){n:Nat}{a:Addr}(h:ads[n]?=some a):aw[n]?=some a:=by
 obtain⟨r,e⟩:=g.pre;rw[e,gH (by have:=(cP.mp h).1;exact this)];exact h
theorem aB.iJ(g:aB ads aw H H'){a:Addr}{xs:List V}(h:uz K H a xs):uz K H' a xs:=by
 rcases h with⟨o,h⟩ | h
 ·exact .inl ⟨o,g.gI _ _ _ h⟩
 ·exact .inr h
mutual
theorem aB.rd(g:aB ads aw H H'):∀(d:D)(v:V),RD K ads H d v->RD K aw H' d v
 | .a6,_,h=>by unfold RD at *;exact h
 | .bl _,_,h=>by unfold RD at *;exact h
 | .int _,_,h=>by unfold RD at *;exact h
 | .str _,_,h=>by unfold RD at *;exact h
 | .aJ n,v,h=>by unfold RD at *;obtain⟨a,e,h⟩:=h;exact⟨a,e,g.get h⟩
 | .tup ds,v,h=>by unfold RD at *;obtain⟨a,xs,e,h,r⟩:=h;exact⟨a,xs,e,g.fH _ _ h,aB.oP g ds xs r⟩
 | .ls ds,v,h=>by unfold RD at *;obtain⟨a,xs,e,h,r⟩:=h;exact⟨a,xs,e,g.iJ h,aB.oP g ds xs r⟩
theorem aB.oP(g:aB ads aw H H'):∀(ds:List D)(vs:List V),aN K ads H ds vs->aN K aw H' ds vs
 | [],_,h=>by unfold aN at *;exact h
 | d::ds,vs,h=>by unfold aN at *;obtain⟨x,r,e,h1,h2⟩:=h;exact⟨x,r,e,aB.rd g d x h1,aB.oP g ds r h2⟩
end
theorem aB.CO{κ:Type}(g:aB ads aw H H'):∀(ds:List (κ×D))(vs:List (κ×V)),bN K ads H ds vs->bN K aw H' ds vs
 | [],_,h=>by unfold bN at *;exact h
 | d::ds,vs,h=>by unfold bN at *;obtain⟨x,r,e,h0,h1,h2⟩:=h;exact⟨x,r,e,h0,g.rd d.2 x.2 h1,aB.CO g ds r h2⟩
theorem aB.V0(g:aB ads aw H H'){ρ:En}{σ:L2.St}(h:OQ K ads H ρ σ):OQ K aw H' ρ σ:=λi d e=>by
 obtain⟨v,e1,r⟩:=h i d e;exact⟨v,e1,g.rd d v r⟩
theorem aB.iK(g:aB ads aw H H'){a:Addr}{o:HO}(n:a∉ads)(e:H a=some o):a∉aw:=λh=>by
 rw[g.new a h n]at e;cases e
theorem aB.rw(g:aB ads aw H H'){w:W}{v:V}(h:RW K ads H w v):RW K aw H' w v:=by
 cases w with
 | d x=>exact g.rd x v h
 | lv ds =>
  obtain⟨a,xs,e,h,n,r⟩:=h;exact⟨a,xs,e,g.kept a _ n h,g.iK n h,g.oP ds xs r⟩
theorem aN.len:∀{ds:List D}{vs:List V},aN K ads H ds vs->ds.length=vs.length
 | [],_,h=>by unfold aN at h;subst h;rfl
 | d::ds,vs,h=>by unfold aN at h;obtain⟨x,r,e,h1,h2⟩:=h;subst e;simp[aN.len h2]
theorem aN.get:∀{ds:List D}{vs:List V}{i:Nat}{d:D},aN K ads H ds vs->ds[i]?=some d->∃v,vs[i]?=some v/\RD K ads H d v
 | [],_,_,_,h,e=>by simp at e
 | d::ds,vs,0,d',h,e=>by unfold aN at h;obtain⟨x,r,rfl,h1,h2⟩:=h;simp at e;subst e;exact⟨x,rfl,h1⟩
 | d::ds,vs,i+1,d',h,e=>by
  unfold aN at h;obtain⟨x,r,rfl,h1,h2⟩:=h;obtain⟨v,e',r'⟩:=aN.get (i:=i) h2 (by simpa using e);exact⟨v,by simpa using e',r'⟩
theorem aN.app:∀{ds es:List D}{vs ws:List V},aN K ads H ds vs->aN K ads H es ws->aN K ads H (ds++es) (vs++ws)
 | [],_,vs,_,h,k=>by unfold aN at h;subst h;exact k
 | d::ds,es,vs,ws,h,k=>by
  unfold aN at h;obtain⟨x,r,rfl,h1,h2⟩:=h;show aN K ads H (d::(ds++es)) (x::(r++ws));unfold aN;exact⟨x,_,rfl,h1,aN.app h2 k⟩
theorem aN.one{d:D}{v:V}(h:RD K ads H d v):aN K ads H [d] [v]:=by
 unfold aN;exact⟨v,[],rfl,h,by unfold aN;rfl⟩
theorem aN.take:∀{ds:List D}{vs:List V}(n:Nat),aN K ads H ds vs->aN K ads H (ds.take n) (vs.take n)
 | _,_,0,_=>by simp;unfold aN;rfl
 | [],vs,n+1,h=>by unfold aN at h;subst h;simp;unfold aN;rfl
 | d::ds,vs,n+1,h=>by unfold aN at h;obtain⟨x,r,rfl,h1,h2⟩:=h;simp only[List.take_succ_cons];unfold aN;exact⟨x,_,rfl,h1,aN.take n h2⟩
theorem aN.drop:∀{ds:List D}{vs:List V}(n:Nat),aN K ads H ds vs->aN K ads H (ds.drop n) (vs.drop n)
 | _,_,0,h=>by simpa using h
 | [],vs,n+1,h=>by unfold aN at h;subst h;simp;unfold aN;rfl
 | d::ds,vs,n+1,h=>by unfold aN at h;obtain⟨x,r,rfl,h1,h2⟩:=h;simp only[List.drop_succ_cons];exact aN.drop n h2
theorem aN.setAt:∀{ds:List D}{vs:List V}(n:Nat){d:D}{v:V},aN K ads H ds vs->RD K ads H d v->aN K ads H (ds.set n d) (vs.set n v)
 | [],vs,n,_,_,h,_=>by unfold aN at h;subst h;simp;unfold aN;rfl
 | d::ds,vs,0,_,_,h,k=>by unfold aN at h;obtain⟨x,r,rfl,h1,h2⟩:=h;simp only[List.set_cons_zero];unfold aN;exact⟨_,_,rfl,k,h2⟩
 | d::ds,vs,n+1,_,_,h,k=>by unfold aN at h;obtain⟨x,r,rfl,h1,h2⟩:=h;simp only[List.set_cons_succ];unfold aN;exact⟨_,_,rfl,h1,aN.setAt n h2 k⟩
theorem aN.rev{ds:List D}{vs:List V}(h:aN K ads H ds vs):aN K ads H ds.reverse vs.reverse:=by
 induction ds generalizing vs with
 | nil=>unfold aN at h;subst h;simp;unfold aN;rfl
 | cons d ds ih=>unfold aN at h;obtain⟨x,r,rfl,h1,h2⟩:=h;simp only[Fd];exact(ih h2).app (.one h1)
theorem aI.CP{M:ag}(m:aI K ads H M){a:Addr}(h:a∈ads):∃o,H a=some o/\(∀xs,o≠.tup xs)/\∀xs,o≠.xd xs:=by
 obtain⟨n,hn,e⟩:=qd.mp h;have e2:ads[n]?=some a:=by rw[cf hn,e]
 have hM:n<M.length:=by rw[<- m.len];exact hn
 have h:=m.obj n M[n] a (cf hM) e2
 cases q:M[n]with
 | lst ds=>rw[q]at h;obtain⟨xs,h,r⟩:=h;exact⟨_,h,(λ_ z=>by cases z),λ_ z=>by cases z⟩
 | iJ ds=>rw[q]at h;obtain⟨o,xs,h,r⟩:=h;exact⟨_,h,(λ_ z=>by cases z),λ_ z=>by cases z⟩
 | dK ds=>rw[q]at h;obtain⟨xs,h,r⟩:=h;exact⟨_,h,(λ_ z=>by cases z),λ_ z=>by cases z⟩
 | dT ds=>rw[q]at h;obtain⟨xs,h,r⟩:=h;exact⟨_,h,(λ_ z=>by cases z),λ_ z=>by cases z⟩
 | dF ds=>rw[q]at h;obtain⟨o,xs,h,r⟩:=h;exact⟨_,h,(λ_ z=>by cases z),λ_ z=>by cases z⟩
 | xc C ds=>rw[q]at h;obtain⟨dx,gs,h,r⟩:=h;exact⟨_,h,(λ_ z=>by cases z),λ_ z=>by cases z⟩
theorem aI.there{M:ag}(m:aI K ads H M){a:Addr}(h:a∈ads):∃o,H a=some o/\∀xs,o≠.tup xs:=by
 obtain⟨o,e,n,_⟩:=m.CP h;exact⟨o,e,n⟩
theorem aI.xd{M:ag}(m:aI K ads H M){a:Addr}{gs:List (Str×V)}(h:H a=some (.xd gs)):a∉ads:=λz=>by
 obtain⟨o,e,_,n⟩:=m.CP z;rw[h]at e;exact n gs (cH e).symm
theorem aI.grow{M:ag}(m:aI K ads H M)(g:aB ads ads H H')(k:∀a∈ads,H' a=H a):aI K ads H' M:=⟨m.nd,m.len,λn o a e1 e2=>by
 have h:=m.obj n o a e1 e2;have ha:=k a (c_ e2)
 cases o with
 | lst ds=>obtain⟨xs,h,r⟩:=h;exact⟨xs,ha.trans h,g.oP _ _ r⟩
 | iJ ds=>obtain⟨o,xs,h,r⟩:=h;exact⟨o,xs,ha.trans h,g.oP _ _ r⟩
 | dK ds=>obtain⟨xs,h,r⟩:=h;exact⟨xs,ha.trans h,g.CO _ _ r⟩
 | dT ds=>obtain⟨xs,h,r⟩:=h;exact⟨xs,ha.trans h,g.CO _ _ r⟩
 | dF ds=>obtain⟨o,xs,h,r⟩:=h;exact⟨o,xs,ha.trans h,g.CO _ _ r⟩
 | xc C ds=>obtain⟨dx,gs,h,hd,r,x⟩:=h;exact⟨dx,gs,ha.trans h,g.kept _ _ (m.xd hd) hd,g.CO _ _ r,x⟩⟩
theorem aI.fresh{M:ag}(m:aI K ads H M){p:Addr}(h:H p=none):p∉ads:=λz=>by
 obtain⟨o,e,_⟩:=m.there z;rw[h]at e;cases e
theorem aB.dN{M:ag}(m:aI K ads H M){p:Addr}{o:HO}(h:H p=none):aB ads ads H (bu H p o) :=
 ⟨⟨[],by simp⟩,λb h n=>absurd h n,λb u n e=>by rw[ax (λz=>by subst z;rw[h]at e;cases e)];exact e,λb xs e=>by rw[ax (λz=>by subst z;rw[h]at e;cases e)];exact e,λb u x e=>by rw[ax (λz=>by subst z;rw[h]at e;cases e)];exact e⟩
theorem aI.dN{M:ag}(m:aI K ads H M){p:Addr}{o:HO}(h:H p=none):aI K ads (bu H p o) M :=
 m.grow (aB.dN m h) λa ha=>ax (λz=>by subst z;exact m.fresh h ha)
mutual
theorem RD.wide{a:Addr}:∀(d:D)(v:V),RD K ads H d v->RD K (ads++[a]) H d v
 | .a6,_,h=>by unfold RD at *;exact h
 | .bl _,_,h=>by unfold RD at *;exact h
 | .int _,_,h=>by unfold RD at *;exact h
 | .str _,_,h=>by unfold RD at *;exact h
 | .aJ n,v,h=>by
  unfold RD at *;obtain⟨b,e,h⟩:=h;exact⟨b,e,by rw[gH (cP.mp h).1];exact h⟩
 | .tup ds,v,h=>by unfold RD at *;obtain⟨b,xs,e,h,r⟩:=h;exact⟨b,xs,e,h,aN.wide ds xs r⟩
 | .ls ds,v,h=>by unfold RD at *;obtain⟨b,xs,e,h,r⟩:=h;exact⟨b,xs,e,h,aN.wide ds xs r⟩
theorem aN.wide{a:Addr}:∀(ds:List D)(vs:List V),aN K ads H ds vs->aN K (ads++[a]) H ds vs
 | [],_,h=>by unfold aN at *;exact h
 | d::ds,vs,h=>by unfold aN at *;obtain⟨x,r,e,h1,h2⟩:=h;exact⟨x,r,e,RD.wide d x h1,aN.wide ds r h2⟩
end
theorem bN.wide{κ:Type}{a:Addr}:∀(ds:List (κ×D))(vs:List (κ×V)),bN K ads H ds vs->bN K (ads++[a]) H ds vs
 | [],_,h=>by unfold bN at *;exact h
 | d::ds,vs,h=>by unfold bN at *;obtain⟨x,r,e,h0,h1,h2⟩:=h;exact⟨x,r,e,h0,RD.wide d.2 x.2 h1,bN.wide ds r h2⟩
theorem KR.wide{a b:Addr}{o:MO}(h:KR K ads H b o):KR K (ads++[a]) H b o:=by
 cases o with
 | lst ds=>obtain⟨xs,h,r⟩:=h;exact⟨xs,h,r.wide⟩
 | iJ ds=>obtain⟨o,xs,h,r⟩:=h;exact⟨o,xs,h,r.wide⟩
 | dK ds=>obtain⟨xs,h,r⟩:=h;exact⟨xs,h,r.wide⟩
 | dT ds=>obtain⟨xs,h,r⟩:=h;exact⟨xs,h,r.wide⟩
 | dF ds=>obtain⟨o,xs,h,r⟩:=h;exact⟨o,xs,h,r.wide⟩
 | xc C ds=>obtain⟨dx,gs,h,hd,r,x⟩:=h;exact⟨dx,gs,h,hd,r.wide,x⟩
theorem aI.pushX{M:ag}{o:MO}{a:Addr}(m:aI K ads H M)(n:a∉ads\/∃C dx fs,o=.xc C fs/\H a=some (XO a C dx))(h:KR K ads H a o):aI K (ads++[a]) H (M++[o]) where
 nd:=λi j b e1 e2=>by
  have li:=(cP.mp e1).1;have lj:=(cP.mp e2).1;rw[dv,List.length_singleton]at li lj;have old:∀k,k<ads.length->(ads++[a])[k]?=some b->ads[k]?=some b:=λk hk e=>by rw[gH hk]at e;exact e
  have new:∀k,¬k<ads.length->k<ads.length+1->(ads++[a])[k]?=some b->b=a:=λk hk X_ e=>by
   obtain rfl:k=ads.length:=∅;rw[oy (aq _)]at e;simp at e;exact e.symm
  have uA:∀k,k<ads.length->ads[k]?=some a->(∃C dx,H a=some (XO a C dx))->∃C fs,M[k]?=some (.xc C fs):=λk hk e ⟨C,dx,hx⟩=>by
   have hM:k<M.length:=by rw[<- m.len];exact hk
   have q:=m.obj k M[k] a (cf hM) e
   cases w:M[k]with
   | lst ds=>rw[w]at q;obtain⟨xs,q,_⟩:=q;rw[hx]at q;cases q
   | iJ ds=>rw[w]at q;obtain⟨o,xs,q,_⟩:=q;rw[hx]at q;cases q
   | dK ds=>rw[w]at q;obtain⟨xs,q,_⟩:=q;rw[hx]at q;cases q
   | dT ds=>rw[w]at q;obtain⟨xs,q,_⟩:=q;rw[hx]at q;cases q
   | dF ds=>rw[w]at q;obtain⟨o,xs,q,_⟩:=q;rw[hx]at q;cases q
   | xc C fs=>exact⟨C,fs,by rw[cf hM,w]⟩
  by_cases hi:i<ads.length
  ·by_cases hj:j<ads.length
   ·rcases m.nd i j b (old i hi e1) (old j hj e2)with z | ⟨C,fs,z⟩
    ·exact .inl z
    ·exact .inr ⟨C,fs,by rw[gH (by rw[<- m.len];exact hi)];exact z⟩
   ·obtain rfl:=new j hj lj e2;rcases n with n | ⟨C,dx,fs,rfl,hx⟩
    ·exact absurd (c_ (old i hi e1)) n
    ·obtain⟨C,fs,z⟩:=uA i hi (old i hi e1) ⟨C,dx,hx⟩;exact .inr ⟨C,fs,by rw[gH (by rw[<- m.len];exact hi)];exact z⟩
  ·obtain rfl:=new i hi li e1;by_cases hj:j<ads.length
   ·rcases n with n | ⟨C,dx,fs,rfl,hx⟩
    ·exact absurd (c_ (old j hj e2)) n
    ·refine .inr ⟨C,fs,?_⟩;obtain rfl:i=M.length:=by rw[<- m.len];omega
     rw[oy (aq _)];simp
   ·exact .inl ∅
 len:=by simp[m.len]
 obj:=λi o' b e1 e2=>by
  by_cases hi:i<M.length
  ·rw[gH hi]at e1;rw[gH (by rw[m.len];exact hi)]at e2;exact(m.obj i o' b e1 e2).wide
  ·have Yb:i=M.length:=by
    have:=(cP.mp e1).1;simp at this;omega
   subst Yb;rw[oy (aq _)]at e1;rw[oy (by rw[m.len];exact aq _)]at e2;simp[m.len]at e1 e2;subst e1 e2;exact h.wide
theorem aI.push{M:ag}{o:MO}{a:Addr}(m:aI K ads H M)(n:a∉ads)(h:KR K ads H a o):aI K (ads++[a]) H (M++[o]):=m.pushX (.inl n) h
theorem aI.write{M:ag}{n:Nat}{a:Addr}{u o:MO}{ho:HO}(m:aI K ads H M)(e:M[n]?=some u)(ea:ads[n]?=some a)(nf:∀o x,H a≠some (.gI o x))(hn:KR K ads (bu H a ho) a o)(hu:∀C fs,u≠.xc C fs:=by intro _ _ z;cases z):aB ads ads H (bu H a ho)/\aI K ads (bu H a ho) (M.set n o):=by
  have KS:a∈ads:=c_ ea;obtain⟨o1,e1,nt⟩:=m.there KS
  have g : aB ads ads H (bu H a ho) := ⟨⟨[], by simp⟩, fun b h n => absurd h n, fun b x nb h => by rw [ax (by intro z; subst z; exact nb KS)]; exact h, fun b xs h => by
      rw[ax (λz=>by subst z;rw[e1]at h;exact nt xs (cH h))];exact h,λb o u h=>by rw[ax (λz=>by subst z;exact nf _ _ h)];exact h⟩
  have ne:∀(i:Nat)(o':MO)(b:Addr),i≠n->M[i]?=some o'->ads[i]?=some b->b≠a:=λi o' b hi x1 x2 z=>by
    subst z;rcases m.nd n i b ea x2 with q | ⟨C,fs,q⟩
    · exact hi q.symm
    · rw[e]at q;exact hu C fs (cH q)
  refine⟨g,λi j b x1 x2=>?_,by rw[sY];exact m.len,λi o' b x1 x2=>?_⟩
  · rcases m.nd i j b x1 x2 with z | ⟨C,fs,z⟩
    · exact .inl z
    · refine .inr ⟨C,fs,?_⟩;rw[mq (λq=>?_)]
      · exact z
      · subst q;rw[e]at z;exact hu C fs (cH z)
  by_cases hi:i=n
  · subst hi;rw[ea]at x2;cases x2;rw[vt (cP.mp e).1]at x1;cases x1;exact hn
  · rw[mq (fk hi)]at x1;have hb:b≠a:=ne i o' b hi x1 x2;have h:=m.obj i o' b x1 x2
    cases o' with
    | lst ds=>obtain⟨xs,h,r⟩:=h;exact⟨xs,by rw[ax hb];exact h,g.oP _ _ r⟩
    | iJ ds=>obtain⟨o,xs,h,r⟩:=h;exact⟨o,xs,by rw[ax hb];exact h,g.oP _ _ r⟩
    | dK ds=>obtain⟨xs,h,r⟩:=h;exact⟨xs,by rw[ax hb];exact h,g.CO _ _ r⟩
    | dT ds=>obtain⟨xs,h,r⟩:=h;exact⟨xs,by rw[ax hb];exact h,g.CO _ _ r⟩
    | dF ds=>obtain⟨o,xs,h,r⟩:=h;exact⟨o,xs,by rw[ax hb];exact h,g.CO _ _ r⟩
    | xc C ds=>obtain⟨dx,gs,h,hd,r,x⟩:=h;exact⟨dx,gs,by rw[ax hb];exact h,g.kept _ _ (m.xd hd) hd,g.CO _ _ r,x⟩
end
mutual
noncomputable def dB(M:ag):Nat->D->Option PyData
 | _,.a6=>some .none
 | _,.bl b=>some (.bool b)
 | _,.int i=>some (.int i)
 | _,.str s=>some (.str s)
 | 0,.tup _=>none
 | 0,.aJ _=>none
 | 0,.ls _=>none
 | n+1,.ls ds=>(bO M n ds).map .list
 | n+1,.tup ds=>(bO M n ds).map .tuple
 | n+1,.aJ k=>match M[k]? with
  | some (.lst ds)=>(bO M n ds).map .list
  | some (.iJ ds)=>(bO M n ds).map .list
  | _=>none
noncomputable def bO(M:ag):Nat->List D->Option (List PyData)
 | _,[]=>some []
 | n,d::ds=>match dB M n d,bO M n ds with
  | some p,some ps=>some (p::ps)
  | _,_=>none
end
def lH(M:ag):W->Option PyData
 | .d x=>dB M 30 x
 | .lv ds=>(bO M 30 ds).map .list
inductive ES where
 | add | sub | mul | fdiv | mod | pow
 deriving DecidableEq
inductive AD where
 | eq | ne | lt | le | gt | ge | vm | iF | isin | iK
 deriving DecidableEq
inductive Ty where
 | int | bool | str | tuple | list | dict | none
 deriving DecidableEq
inductive Bi where
 | len | max2 | min2 | uB | list1 | tuple1 | d5 | j5 (t:Ty) | all1 | Gv | yj | min1 | Gw | yk | str1
 deriving DecidableEq
inductive Me where
 | append | insert | reverse | extend | remove | clear | pop
 deriving DecidableEq
inductive SK where
 | seq | fB | CQ | enum | zip | Gx | keys | vals
 deriving DecidableEq
inductive IX where
 | one (x:Str) | ve | many (xs:List Str)
 deriving DecidableEq
mutual
inductive C where
 | lI (i:Nat)
 | bx (d:D)
 | bin (op:ES) (a b:C)
 | cmp (op:AD) (a b:C)
 | chain (o1 o2:AD) (a b c:C)
 | dc (cs:List C) | dw (cs:List C) | neg (a:C)
 | tup (cs:List C) | lst (cs:List C)
 | sub (a b:C)
 | oQ (a:C) (lo hi:Option C)
 | ym (a:C) (k:Int)
 | fP (a b:C)
 | call (f:Nat) (cs:List C)
 | bi (b:Bi) (cs:List C)
 | me (m:Me) (o:C) (cs:List C)
 | yn (ks:List Str) (cs:List C)
 | jl (tp:Bool) (cs:List C)
 | Bn (x:Str) (v:Int)
 | eh (ng:Bool) (a:C)
 | sset (a:C)
 | xf (a:C) (f:Str)
 | uA (a:C) (k:IX) (tb:List (Addr×Bool))
 | fQ (f:Nat) (cs:List C)
 | comp (k:SK) (cM:List C) (tg:List Nat) (cond:Option ef) (elt:C) (cA:List (Option Nat))
inductive ef where
 | val (c:C) | dc (ts:List ef) | dw (ts:List ef) | neg (a:ef)
end
instance (n:Nat):OfNat C n:=⟨.lI n⟩
abbrev C.kn(k:Int):C:=.bx (.int k)
abbrev C.ks(i:Nat)(k:Int):C:=.sub (.lI i) (.bx (.int k))
noncomputable def bC(M:ag):W->Option (Bool×List D)
 | .lv ds=>some (true,ds)
 | .d (.tup ds)=>some (false,ds)
 | .d (.ls ds)=>some (true,ds)
 | .d (.aJ n)=>match M[n]? with
  | some (.lst ds)=>some (true,ds)
  | some (.iJ ds)=>some (true,ds)
  | _=>none
 | _=>none
noncomputable def df(M:ag):W->Option (List D)
 | .lv ds=>some ds
 | .d (.aJ n)=>match M[n]? with
  | some (.lst ds)=>some ds
  | _=>none
 | _=>none
noncomputable def own:W->ag->bF D
 | .d x,M=>.ok x M
 | .lv ds,M=>.ok (.aJ M.length) (M++[.lst ds])
def Q3(ds:List D)(i:Int):Option D:=tW ds i
def cutD(ds:List D)(lo hi:Option Int):List D:=(ds.drop (HT.cB ds.length 0 lo)).take (HT.cB ds.length ds.length hi-HT.cB ds.length 0 lo)
def qY(op:ES)(a b:W)(M:ag):bF W :=
 match op,a,b with
 | .add,.d (.int i),.d (.int j)=>.ok (.d (.int (i+j))) M
 | .sub,.d (.int i),.d (.int j)=>.ok (.d (.int (i-j))) M
 | .mul,.d (.int i),.d (.int j)=>if (-(2 ^ 64)<i/\i<2 ^ 64)\/(-(2 ^ 64)<j/\j<2 ^ 64) then .ok (.d (.int (i*j))) M else .ae
 | .fdiv,.d (.int i),.d (.int j)=>if 0<j/\j<1073741824 then .ok (.d (.int (i / j))) M else .ae
 | .mod,.d (.int i),.d (.int j)=>if 0<j then .ok (.d (.int (i % j))) M else .ae
 | .pow,.d (.int i),.d (.int j)=>if 0<=j/\j<=1000000/\i.natAbs<2 ^ 64 then .ok (.d (.int (i ^ j.toNat))) M else .ae
 | .add,.d (.tup xs),.d (.tup ys)=>if xs.length+ys.length<=sizeLine then .ok (.d (.tup (xs++ys))) M else .ae
 | .add,a,b=>match df M a,df M b with
  | some xs,some ys=>if xs.length+ys.length<=sizeLine then .ok (.lv (xs++ys)) M else .ae
  | _,_=>.ae
 | .mul,.d (.tup xs),.d (.int k)=>if -(2 ^ 63)<=k/\k<2 ^ 63/\xs.length*k.toNat<=sizeLine then .ok (.d (.tup (List.replicate k.toNat xs).flatten)) M else .ae
 | .mul,a,.d (.int k)=>match df M a with
  | some xs=>if -(2 ^ 63)<=k/\k<2 ^ 63/\xs.length*k.toNat<=sizeLine then .ok (.lv (List.replicate k.toNat xs).flatten) M else .ae
  | none=>.ae
 | _,_,_=>.ae
noncomputable def oR(p:PyData):List PyData->Bool
 | []=>false
 | q::qs=>PyData.eqv q p||oR p qs
noncomputable def i4(M:ag):W->Option (List (bS×D))
 | .d (.aJ n)=>match M[n]? with
  | some (.dK az)=>some az
  | _=>none
 | _=>none
noncomputable def wk:W->Option bS
 | .d (.int i)=>some (Sum.inl i)
 | .d (.str s)=>some (Sum.inr s)
 | _=>none
noncomputable def lJ{κ:Type}[DecidableEq κ](az:List (κ×D))(k:κ):Option D:=(az.find? λp=>decide (p.1=k)).map (·.2)
def wm(M:ag)(kb:List (bS×D)):List (bS×D)->Option Bool
 | []=>some true
 | (k,v)::r=>match lJ kb k with
  | none=>some false
  | some y=>match dB M 30 v,dB M 30 y with
   | some p,some q=>if SeqAt.shaped p=true/\SeqAt.shaped q=true then (wm M kb r).map (PyData.eqv p q && ·) else none
   | _,_=>none
def bG(op:AD)(a b:W)(M:ag):bF Bool :=
 match op with
 | .eq=>match lH M a,lH M b with
  | some p,some q=>if SeqAt.shaped p=true/\SeqAt.shaped q=true then .ok (PyData.eqv p q) M else .ae
  | _,_=>match i4 M a,i4 M b with
   | some ka,some kb=>match wm M kb ka with
    | some r=>.ok (ka.length==kb.length&&r) M
    | none=>.ae
   | _,_=>.ae
 | .ne=>match lH M a,lH M b with
  | some p,some q=>if SeqAt.shaped p=true/\SeqAt.shaped q=true then .ok (!PyData.eqv p q) M else .ae
  | _,_=>.ae
 | .lt=>match a,b with
  | .d (.int i),.d (.int j)=>.ok (decide (i<j)) M
  | .d (.str x),.d (.str y)=>.ok (decide (x.cps.toList<y.cps.toList)) M
  | _,_=>.ae
 | .le=>match a,b with
  | .d (.int i),.d (.int j)=>.ok (decide (i<=j)) M
  | .d (.str x),.d (.str y)=>.ok (!decide (y.cps.toList<x.cps.toList)) M
  | _,_=>.ae
 | .gt=>match a,b with
  | .d (.int i),.d (.int j)=>.ok (decide (j<i)) M
  | _,_=>.ae
 | .ge=>match a,b with
  | .d (.int i),.d (.int j)=>.ok (decide (j<=i)) M
  | _,_=>.ae
 | .vm=>match a with
  | .d .a6=>.ok true M
  | _=>.ok false M
 | .iF=>match a with
  | .d .a6=>.ok false M
  | _=>.ok true M
 | .isin=>match lH M a,bC M b with
  | some p,some (_,ds)=>match bO M 30 ds with
   | some qs=>if SeqAt.shaped p=true/\qs.all SeqAt.shaped=true then .ok (oR p qs) M else .ae
   | none=>.ae
  | _,none=>match wk a,i4 M b with
   | some k,some az=>.ok (lJ az k).isSome M
   | _,_=>.ae
  | _,_=>.ae
 | .iK=>match lH M a,bC M b with
  | some p,some (_,ds)=>match bO M 30 ds with
   | some qs=>if SeqAt.shaped p=true/\qs.all SeqAt.shaped=true then .ok (!oR p qs) M else .ae
   | none=>.ae
  | _,none=>match wk a,i4 M b with
   | some k,some az=>.ok (!(lJ az k).isSome) M
   | _,_=>.ae
  | _,_=>.ae
def oS(M:ag):W->Option Bool
 | .d .a6=>some false
 | .d (.bl b)=>some b
 | .d (.int i)=>some (i != 0)
 | w=>(bC M w).map λp=>!p.2.isEmpty
def d6(a b:W)(M:ag):bF W :=
  match b with
  | .d (.int i)=>match bC M a with
    | some (_,ds)=>match Q3 ds i with
      | some d=>.ok (.d d) M
      | none=>.ae
    | none=>match a with
      | .d (.str s) => if s.length <= sizeLine then match tW s.cps.toList i with
          | some c=>.ok (.d (.str ⟨#[c]⟩)) M
          | none=>.ae
        else .ae
      | .d (.aJ n)=>match M[n]? with
        | some (.dK az)=>match lJ az (Sum.inl i:bS)with
          | some d=>.ok (.d d) M
          | none=>.ae
        | _=>.ae
      | _=>.ae
  | .d (.str k)=>match a with
    | .d (.aJ n)=>match M[n]? with
      | some (.dK az)=>match (az.find? λp=>decide (p.1=(Sum.inr k:bS))).map (·.2)with
        | some d=>.ok (.d d) M
        | none=>.ae
      | _=>.ae
    | _=>.ae
  | _=>.ae
def kB(a:W)(lo hi:Option Int)(M:ag):bF W :=
 match bC M a with
 | some (true,ds)=>.ok (.lv (cutD ds lo hi)) M
 | some (false,ds)=>.ok (.d (.tup (cutD ds lo hi))) M
 | none=>.ae
noncomputable def wq(M:ag):W->Option Ty
 | .lv _=>some .list
 | .d .a6=>some .none
 | .d (.bl _)=>some .bool
 | .d (.int _)=>some .int
 | .d (.str _)=>some .str
 | .d (.tup _)=>some .tuple
 | .d (.ls _)=>none
 | .d (.aJ n)=>match M[n]? with
  | some (.lst _)=>some .list
  | some (.iJ _)=>some .list
  | some (.dK _)=>some .dict
  | some (.dT _)=>some .dict
  | some (.dF _)=>none
  | some (.xc _ _)=>none
  | none=>none
noncomputable def oU:List D->Option (List Bool)
 | []=>some []
 | .bl b::ds=>(oU ds).map (b::·)
 | _::_=>none
noncomputable def gZ:List D->Option (List Int)
 | []=>some []
 | .int b::ds=>(gZ ds).map (b::·)
 | _::_=>none
noncomputable def dh{α:Type}(xs:List α)(k:Int):List α:=(List.range (Builtin.Slice.slicePlaces (Builtin.Slice.sliceAdjust none none k (xs.length:Int)).1 (Builtin.Slice.sliceAdjust none none k (xs.length:Int)).2 k)).filterMap λ(j:Nat)=>xs[((Builtin.Slice.sliceAdjust none none k (xs.length:Int)).1+(j:Int)*k).toNat]?
def qZ(a:W)(k:Int)(M:ag):bF W :=
 match a with
 | .d (.tup ds)=>if (k=2\/k=-1)/\(dh ds k).length<=sizeLine then .ok (.d (.tup (dh ds k))) M else .ae
 | _=>.ae
noncomputable def kU(a b:W)(M:ag):bF W :=
 match a,b with
 | .d (.str x),.d (.str y)=>.ok (.d (.int (Txt.find x y))) M
 | _,_=>.ae
noncomputable def uC{κ:Type}[DecidableEq κ](az:List (κ×D))(k:κ)(v:D):List (κ×D) :=
 if (az.any λkv=>decide (kv.1=k))=true then az.map (λkv=>if kv.1=k then (kv.1,v) else kv) else az++[(k,v)]
noncomputable def pairD:D->Option (bS×D)
 | .tup [.int i,d]=>some (Sum.inl i,d)
 | .tup [.str x,d]=>some (Sum.inr x,d)
 | _=>none
def OS(aE:List (bS×D)):List D->Option (List (bS×D))
 | []=>some aE
 | d::ds=>match pairD d with
  | some (k,x)=>OS (uC aE k x) ds
  | none=>none
def fG(b:Bi)(ws:List W)(M:ag):bF W :=
 match b,ws with
 | .len,[w]=>match bC M w with
  | some (_,ds)=>.ok (.d (.int ds.length)) M
  | none=>match w with
   | .d (.str x)=>if x.length<=sizeLine then .ok (.d (.int x.length)) M else .ae
   | _=>.ae
 | .all1,[w]=>match bC M w with
  | some (_,ds)=>match oU ds with
   | some bs=>.ok (.d (.bl (bs.all id))) M
   | none=>.ae
  | none=>.ae
 | .Gv,[w]=>match bC M w with
  | some (_,ds)=>match oU ds with
   | some bs=>.ok (.d (.bl (bs.any id))) M
   | none=>.ae
  | none=>.ae
 | .yk,[w]=>match bC M w with
  | some (true,ds)=>match gZ ds with
   | some is=>if is.length<64 then .ok (.lv ((L2.kz is).map D.int)) M else .ae
   | none=>.ae
  | _=>.ae
 | .min1,[w]=>match bC M w with
  | some (_,ds)=>match gZ ds with
   | some (i::is)=>.ok (.d (.int (is.foldl (λa b=>if b<a then b else a) i))) M
   | _=>.ae
  | none=>.ae
 | .Gw,[w]=>match bC M w with
  | some (_,ds)=>match gZ ds with
   | some (i::is)=>.ok (.d (.int (is.foldl (λa b=>if a<b then b else a) i))) M
   | _=>.ae
  | none=>.ae
 | .max2,[.d (.int i),.d (.int j)]=>.ok (.d (.int (if j>i then j else i))) M
 | .min2,[.d (.int i),.d (.int j)]=>.ok (.d (.int (if j<i then j else i))) M
 | .uB,[.d (.int i)]=>.ok (.d (.int i)) M
 | .uB,[.d (.bl k)]=>.ok (.d (.int (if k then 1 else 0))) M
 | .list1,[w]=>match bC M w with
  | some (_,ds)=>.ok (.lv ds) M
  | none=>.ae
 | .tuple1,[w]=>match bC M w with
  | some (_,ds)=>.ok (.d (.tup ds)) M
  | none=>.ae
 | .str1,[.d (.int i)]=>if i.natAbs.log2<1920 then .ok (.d (.str (Str.ofString (toString i)))) M else .ae
 | .d5,[w]=>match lH M w with
  | some p=>if p.showable=true/\p.depth<=40/\p.shown.length<=sizeLine then .ok (.d (.str p.shown)) M else .ae
  | none=>.ae
 | .yj,[w]=>match i4 M w with
  | some az=>.ok (.d (.aJ M.length)) (M++[.dK az])
  | none=>match bC M w with
   | some (true,ds)=>match OS [] ds with
    | some az=>.ok (.d (.aJ M.length)) (M++[.dK az])
    | none=>.ae
   | _=>.ae
 | .j5 t,[w]=>match wq M w with
  | some g=>.ok (.d (.bl (decide (g=t)||(decide (g=.bool)&&decide (t=.int))))) M
  | none=>.ae
 | _,_=>.ae
noncomputable def m7:List W->Option (Int×Int)
 | [.d (.int i),.d (.int j)]=>some (i,j)
 | [.d (.int j)]=>some (0,j)
 | _=>none
noncomputable def oV(i:Int)(n:Nat):List D:=(List.range n).map λk=>D.int (i+((k:Nat):Int))
noncomputable def q_(tp:Bool)(ds:List D):W:=if tp=true then .d (.tup ds) else .lv ds
def wt(tp:Bool)(ws:List W)(M:ag):bF W:=match m7 ws with
 | some (i,j)=>if (-(2 ^ 62)<=i/\i<2 ^ 62/\-(2 ^ 62)<=j/\j<2 ^ 62)/\(j-i).toNat<=2 ^ 24 then .ok (q_ tp (oV i (j-i).toNat)) M else .ae
 | none=>.ae
def sL(m:Me)(o:W)(ws:List D)(M:ag):bF W :=
 match o with
 | .d (.aJ n)=>match M[n]? with
  | some (.lst ds)=>match m,ws with
   | .append,[x]=>if ds.length<sizeLine then .ok (.d .a6) (M.set n (.lst (ds++[x]))) else .ae
   | .insert,[.int i,x]=>if ds.length<sizeLine/\0<=i/\i<=ds.length then .ok (.d .a6) (M.set n (.lst (ds.take i.toNat++x::ds.drop i.toNat))) else .ae
   | .reverse,[]=>.ok (.d .a6) (M.set n (.lst ds.reverse))
   | .clear,[]=>.ok (.d .a6) (M.set n (.lst []))
   | .pop,[]=>match ds[ds.length-1]? with
    | some d=>.ok (.d d) (M.set n (.lst ds.dropLast))
    | none=>.ae
   | .extend,[.aJ k]=>match M[k]? with
    | some (.lst es)=>if ds.length+es.length<=sizeLine then .ok (.d .a6) (M.set n (.lst (ds++es))) else .ae
    | _=>.ae
   | .extend,[.tup es]=>if ds.length+es.length<=sizeLine then .ok (.d .a6) (M.set n (.lst (ds++es))) else .ae
   | .remove,[.int i]=>match gZ ds with
    | some is=>if i∈is then .ok (.d .a6) (M.set n (.lst ((is.erase i).map D.int))) else .ae
    | none=>.ae
   | _,_=>.ae
  | _=>.ae
 | _=>.ae
inductive Z1 where
 | items (ds:List D) | at (n:Nat)
noncomputable def lK(M:ag):Z1->Option (List D)
 | .items ds=>some ds
 | .at n=>match M[n]? with
  | some (.lst ds)=>some ds
  | some (.iJ ds)=>some ds
  | _=>none
def wu(M:ag):W->Option Z1
 | .lv ds=>some (.items ds)
 | .d (.tup ds)=>some (.items ds)
 | .d (.ls ds)=>some (.items ds)
 | .d (.aJ n)=>if (bC M (.d (.aJ n))).isSome then some (.at n) else none
 | _=>none
noncomputable def kW(xs ys:List D)(i:Nat):Option D:=match xs[i]?,ys[i]? with
 | some x,some y=>some (.tup [x,y])
 | _,_=>none
inductive It where
 | at (n:Nat) | items (ds:List D) | jl (lo:Int) (n:Nat) | wz (n:Nat) | m8 (ds:List D) | zip (a b:Z1)
def itemAt(M:ag)(i:Nat):It->Option (Option D)
 | .at n=>match M[n]? with
  | some (.lst ds)=>some ds[i]?
  | some (.iJ ds)=>some ds[i]?
  | _=>none
 | .items ds=>some ds[i]?
 | .jl lo n=>some (if i<n then some (.int (lo+i)) else none)
 | .wz n=>match M[n]? with
  | some (.lst ds)=>some (ds[i]?.map λd=>.tup [.int i,d])
  | some (.iJ ds)=>some (ds[i]?.map λd=>.tup [.int i,d])
  | _=>none
 | .m8 ds=>some (ds[i]?.map λd=>.tup [.int i,d])
 | .zip a b=>match lK M a,lK M b with
  | some xs,some ys=>some (kW xs ys i)
  | _,_=>none
def cR(M:ag):It->Nat
 | .at n=>match M[n]? with
  | some (.lst ds)=>ds.length
  | some (.iJ ds)=>ds.length
  | _=>0
 | .items ds=>ds.length
 | .jl _ n=>n
 | .wz n=>match M[n]? with
  | some (.lst ds)=>ds.length
  | some (.iJ ds)=>ds.length
  | _=>0
 | .m8 ds=>ds.length
 | .zip a b=>match lK M a,lK M b with
  | some xs,some ys=>min xs.length ys.length
  | _,_=>0
def kD:bS->D
 | .inl i=>.int i
 | .inr x=>.str x
def OT(p:List bS×D):D:=.tup (p.1.map kD)
noncomputable def CS:List D->Option (List bS)
 | []=>some []
 | .int i::ds=>(CS ds).map (Sum.inl i::·)
 | .str x::ds=>(CS ds).map (Sum.inr x::·)
 | _::_=>none
def TL:W->Option (List bS)
 | .d (.tup ds)=>CS ds
 | _=>none
def yp(a b:W)(d:D)(M:ag):bF Unit:=match a with
 | .d (.aJ n)=>match M[n]?,TL b with
  | some (.dT az),some k=>if az.length<sizeLine then .ok () (M.set n (.dT (uC az k d))) else .ae
  | _,_=>.ae
 | _=>.ae
noncomputable def TM(i:Int)(n:Nat):List D:=(List.range n).map λk=>.int (i-(k:Nat))
def jI(k:SK)(ws:List W)(M:ag):bF It :=
 match k,ws with
 | .seq,[.lv ds]=>.ok (.items ds) M
 | .seq,[.d (.tup ds)]=>.ok (.items ds) M
 | .seq,[.d (.ls ds)]=>.ok (.items ds) M
 | .seq,[.d (.aJ n)]=>if (bC M (.d (.aJ n))).isSome then .ok (.at n) M else .ae
 | .fB,[.d (.int j)]=>if -(2 ^ 62)<=j/\j<2 ^ 62 then .ok (.jl 0 j.toNat) M else .ae
 | .CQ,[.d (.int i),.d (.int j)]=>if -(2 ^ 62)<=i/\i<2 ^ 62/\-(2 ^ 62)<=j/\j<2 ^ 62 then .ok (.jl i (j-i).toNat) M else .ae
 | .enum,[.lv ds]=>.ok (.m8 ds) M
 | .enum,[.d (.tup ds)]=>.ok (.m8 ds) M
 | .enum,[.d (.ls ds)]=>.ok (.m8 ds) M
 | .enum,[.d (.aJ n)]=>if (bC M (.d (.aJ n))).isSome then .ok (.wz n) M else .ae
 | .Gx,[.d (.int i),.d (.int j),.d (.int k)]=>if k=-1/\-(2 ^ 62)<=i/\i<2 ^ 62/\-(2 ^ 62)<=j/\j<2 ^ 62 then .ok (.items (TM i (i-j).toNat)) M else .ae
 | .keys,[.d (.aJ n)]=>match M[n]? with
  | some (.dT az)=>.ok (.items (az.map OT)) (M.set n (.dF az))
  | some (.dF az)=>.ok (.items (az.map OT)) M
  | _=>.ae
 | .vals,[.d (.aJ n)]=>match M[n]? with
  | some (.dT az)=>.ok (.items (az.map (·.2))) (M.set n (.dF az))
  | some (.dF az)=>.ok (.items (az.map (·.2))) M
  | _=>.ae
 | .zip,[u,v]=>match wu M u,wu M v with
  | some a,some b=>.ok (.zip a b) M
  | _,_=>.ae
 | _,_=>.ae
noncomputable def dC(tg:List Nat)(ds:List D)(ρ:En):Option En :=
 match tg,ds with
 | [],[]=>some ρ
 | i::tg,d::ds=>dC tg ds (ρ.set i (some d))
 | _,_=>none
def bM(tg:List Nat)(d:D)(ρ:En):Option En :=
 match tg with
 | [i]=>some (ρ.set i (some d))
 | _=>match d with
  | .tup ds=>dC tg ds ρ
  | _=>none
abbrev a8:=Nat->List D->ag->bF W
def eB(cA:List (Option Nat))(ρ:En):En:=cA.map λo=>o.bind λj=>(ρ[j]?).join
def bq(cond:En->ag->bF Bool)(elt:En->ag->bF D)(it:It)(tg:List Nat):Nat->Nat->En->ag->List D->bF W
  | 0,i,_,M,aE=>match itemAt M i it with
    | some none=>.ok (.lv aE) M
    | _=>.ae
  | f+1,i,τ,M,aE=>match itemAt M i it with
    | some none=>.ok (.lv aE) M
    | some (some d)=>match bM tg d τ with
      | none=>.ae
      | some τ => if aE.length < sizeLine then
          (cond τ M).b0 λb M=>if b then (elt τ M).b0 λx M=>bq cond elt it tg f (i+1) τ M (aE++[x]) else bq cond elt it tg f (i+1) τ M aE
        else .ae
    | none=>.ae
noncomputable def yq(ng:Bool)(x:W)(M:ag):bF W:=match x with
 | .d (.bl b)=>.ok (.d (.bl (ng != b))) M
 | _=>.ae
noncomputable def Q4(f:Str)(x:W)(M:ag):bF W:=match x with
 | .d (.aJ n)=>match M[n]? with
  | some (.xc _ fs)=>match fs.lookup f with
   | some d=>.ok (.d d) M
   | none=>.ae
  | _=>.ae
 | _=>.ae
noncomputable def Gy(tb:List (Addr×Bool))(x:W)(M:ag):bF W:=match x with
 | .d (.aJ n)=>match M[n]? with
  | some (.xc C _)=>match tb.lookup C with
   | some b=>.ok (.d (.bl b)) M
   | none=>.ae
  | _=>.ae
 | _=>.ae
def m9(x:W)(M:ag):bF W:=match df M x with
 | some ds=>match gZ ds with
  | some is=>if is.length+1<scanBound/\(vk is).length<64 then .ok (.lv ((kz (vk is)).map D.int)) M else .ae
  | none=>.ae
 | none=>.ae
mutual
noncomputable def ev(G:a8):C->En->ag->bF W
  | .lI i,ρ,M=>match ρ[i]? with
    | some (some d)=>.ok (.d d) M
    | _=>.ae
  | .bx d,_,M=>.ok (.d d) M
  | .bin op a b,ρ,M=>(ev G a ρ M).bind λx M=>(ev G b ρ M).bind λy M=>qY op x y M
  | .cmp op a b,ρ,M=>(ev G a ρ M).bind λx M=>(ev G b ρ M).bind λy M=>(bG op x y M).bind λr M=>.ok (.d (.bl r)) M
  | .chain o1 o2 a b c, ρ, M => (ev G a ρ M).bind fun x M => (ev G b ρ M).bind fun y M => (bG o1 x y M).bind fun r M =>
      if r then (ev G c ρ M).bind λz M=>(bG o2 y z M).bind λr M=>.ok (.d (.bl r)) M else .ok (.d (.bl false)) M
  | .dc cs,ρ,M=>iL G cs ρ M
  | .dw cs,ρ,M=>oW G cs ρ M
  | .neg a,ρ,M=>(ev G a ρ M).bind λx M=>match x with
    | .d (.bl r)=>.ok (.d (.bl (!r))) M
    | _=>.ae
  | .tup cs,ρ,M=>(a_ G cs ρ M).bind λds M=>if ds.length<=sizeLine then .ok (.d (.tup ds)) M else .ae
  | .lst cs,ρ,M=>(a_ G cs ρ M).bind λds M=>if ds.length<=sizeLine then .ok (.lv ds) M else .ae
  | .sub a b,ρ,M=>(ev G a ρ M).bind λx M=>(ev G b ρ M).bind λy M=>d6 x y M
  | .oQ a lo hi,ρ,M=>(ev G a ρ M).bind λx M=>(sM G lo ρ M).bind λl M=>(sM G hi ρ M).bind λh M=>kB x l h M
  | .ym a k,ρ,M=>(ev G a ρ M).bind λx M=>qZ x k M
  | .fP a b,ρ,M=>(ev G a ρ M).bind λx M=>match x with
    | .d (.str z)=>(ev G b ρ M).bind λy M=>kU (.d (.str z)) y M
    | _=>.ae
  | .call f cs,ρ,M=>(a_ G cs ρ M).bind λds M=>G f ds M
  | .bi b cs,ρ,M=>(cI G cs ρ M).bind λws M=>fG b ws M
  | .me m o cs,ρ,M=>(ev G o ρ M).bind λx M=>if (df M x).isSome then (a_ G cs ρ M).bind λds M=>sL m x ds M else .ae
  | .yn ks cs,ρ,M=>(a_ G cs ρ M).bind λds M=>if ks.length=ds.length then .ok (.d (.aJ M.length)) (M++[.dK ((ks.map Sum.inr).zip ds)]) else .ae
  | .jl tp cs,ρ,M=>(cI G cs ρ M).bind λws M=>wt tp ws M
  | .Bn _ v,_,M=>.ok (.d (.int v)) M
  | .eh ng a,ρ,M=>(ev G a ρ M).bind λx M=>yq ng x M
  | .sset a,ρ,M=>(ev G a ρ M).bind λx M=>m9 x M
  | .xf a f,ρ,M=>(ev G a ρ M).bind λx M=>Q4 f x M
  | .uA a _ tb,ρ,M=>(ev G a ρ M).bind λx M=>Gy tb x M
  | .fQ f cs,ρ,M=>(a_ G cs ρ M).bind λds M=>(G f ds M).b0 .ok
  | .comp k cM tg cond elt cA, ρ, M => (cI G cM ρ M).bind fun ws M => (jI k ws M).bind fun it M =>
      bq (λτ M=>bP G cond τ M) (λτ M=>(ev G elt τ M).bind own) it tg (cR M it) 0 (eB cA ρ) M []
noncomputable def dS(G:a8):ef->En->ag->bF Bool
 | .dc ts,ρ,M=>fb G ts ρ M
 | .dw ts,ρ,M=>fc G ts ρ M
 | .neg a,ρ,M=>(dS G a ρ M).bind λr M=>.ok (!r) M
 | .val c,ρ,M=>(ev G c ρ M).bind λw M=>match oS M w with
  | some r=>.ok r M
  | none=>.ae
noncomputable def iL(G:a8):List C->En->ag->bF W
 | [],_,_=>.ae
 | c::cs,ρ,M=>(ev G c ρ M).bind λx M=>match cs,x with
  | [],x=>.ok x M
  | _,.d (.bl true)=>iL G cs ρ M
  | _,.d (.bl false)=>.ok (.d (.bl false)) M
  | _,_=>.ae
noncomputable def oW(G:a8):List C->En->ag->bF W
 | [],_,_=>.ae
 | c::cs,ρ,M=>(ev G c ρ M).bind λx M=>match cs,x with
  | [],x=>.ok x M
  | _,.d (.bl false)=>oW G cs ρ M
  | _,.d (.bl true)=>.ok (.d (.bl true)) M
  | _,_=>.ae
noncomputable def fb(G:a8):List ef->En->ag->bF Bool
 | [],_,_=>.ae
 | c::cs,ρ,M=>(dS G c ρ M).bind λx M=>match cs,x with
  | [],x=>.ok x M
  | _,true=>fb G cs ρ M
  | _,false=>.ok false M
noncomputable def fc(G:a8):List ef->En->ag->bF Bool
 | [],_,_=>.ae
 | c::cs,ρ,M=>(dS G c ρ M).bind λx M=>match cs,x with
  | [],x=>.ok x M
  | _,false=>fc G cs ρ M
  | _,true=>.ok true M
noncomputable def a_(G:a8):List C->En->ag->bF (List D)
 | [],_,M=>.ok [] M
 | c::cs,ρ,M=>((ev G c ρ M).bind own).bind λd M=>(a_ G cs ρ M).bind λds M=>.ok (d::ds) M
noncomputable def cI(G:a8):List C->En->ag->bF (List W)
 | [],_,M=>.ok [] M
 | c::cs,ρ,M=>(ev G c ρ M).bind λd M=>(cI G cs ρ M).bind λds M=>.ok (d::ds) M
noncomputable def sM(G:a8):Option C->En->ag->bF (Option Int)
 | none,_,M=>.ok none M
 | some c,ρ,M=>(ev G c ρ M).bind λw M=>match w with
  | .d (.int i)=>.ok (some i) M
  | _=>.ae
noncomputable def bP(G:a8):Option ef->En->ag->bF Bool
 | none,_,M=>.ok true M
 | some c,ρ,M=>dS G c ρ M
end
section
variable {G:a8} {lo hi:Option C} {cond:Option ef}
theorem CT : ev G (.lI i) ρ M = (match ρ[i]? with
    | some (some d)=>.ok (.d d) M
    | _=>.ae):=rfl
theorem KU:ev G (.bx d) u0 M=.ok (.d d) M:=rfl
theorem KW:ev G (.bin op a b) ρ M=(ev G a ρ M).bind λx M=>(ev G b ρ M).bind λy M=>qY op x y M:=rfl
theorem CU:ev G (.cmp op a b) ρ M=(ev G a ρ M).bind λx M=>(ev G b ρ M).bind λy M=>(bG op x y M).bind λr M=>.ok (.d (.bl r)) M:=rfl
theorem uD : ev G (.chain o1 o2 a b c) ρ M = ((ev G a ρ M).bind fun x M => (ev G b ρ M).bind fun y M => (bG o1 x y M).bind fun r M =>
      if r then (ev G c ρ M).bind λz M=>(bG o2 y z M).bind λr M=>.ok (.d (.bl r)) M else .ok (.d (.bl false)) M):=rfl
theorem Gz:ev G (.dc cs) ρ M=iL G cs ρ M:=rfl
theorem GA:ev G (.dw cs) ρ M=oW G cs ρ M:=rfl
theorem KY : ev G (.neg a) ρ M = ((ev G a ρ M).bind fun x M => match x with
    | .d (.bl r)=>.ok (.d (.bl (!r))) M
    | _=>.ae):=rfl
theorem CV:ev G (.tup cs) ρ M=(a_ G cs ρ M).bind λds M=>if ds.length<=sizeLine then .ok (.d (.tup ds)) M else .ae:=rfl
theorem CW:ev G (.lst cs) ρ M=(a_ G cs ρ M).bind λds M=>if ds.length<=sizeLine then .ok (.lv ds) M else .ae:=rfl
theorem KZ:ev G (.sub a b) ρ M=(ev G a ρ M).bind λx M=>(ev G b ρ M).bind λy M=>d6 x y M:=rfl
theorem K0:ev G (.oQ a lo hi) ρ M=(ev G a ρ M).bind λx M=>(sM G lo ρ M).bind λl M=>(sM G hi ρ M).bind λh M=>kB x l h M:=rfl
theorem K1:ev G (.ym a k) ρ M=(ev G a ρ M).bind λx M=>qZ x k M:=rfl
theorem uE : ev G (.fP a b) ρ M = ((ev G a ρ M).bind fun x M => match x with
    | .d (.str z)=>(ev G b ρ M).bind λy M=>kU (.d (.str z)) y M
    | _=>.ae):=rfl
theorem yr:ev G (.call f cs) ρ M=(a_ G cs ρ M).bind λds M=>G f ds M:=rfl
theorem CY:ev G (.bi b cs) ρ M=(cI G cs ρ M).bind λws M=>fG b ws M:=rfl
theorem CZ:ev G (.me m o cs) ρ M=(ev G o ρ M).bind λx M=>if (df M x).isSome then (a_ G cs ρ M).bind λds M=>sL m x ds M else .ae:=rfl
theorem wA:ev G (.yn ks cs) ρ M=(a_ G cs ρ M).bind λds M=>if ks.length=ds.length then .ok (.d (.aJ M.length)) (M++[.dK ((ks.map Sum.inr).zip ds)]) else .ae:=rfl
theorem C0:ev G (.jl tp cs) ρ M=(cI G cs ρ M).bind λws M=>wt tp ws M:=rfl
theorem K2:ev G (.Bn u0 v) u1 M=.ok (.d (.int v)) M:=rfl
theorem yt:ev G (.eh ng a) ρ M=(ev G a ρ M).bind λx M=>yq ng x M:=rfl
theorem OU{f:Str}:ev G (.xf a f) ρ M=(ev G a ρ M).bind λx M=>Q4 f x M:=rfl
theorem K3{k:IX}{tb:List (Addr×Bool)}:ev G (.uA a k tb) ρ M=(ev G a ρ M).bind λx M=>Gy tb x M:=rfl
theorem uF:ev G (.fQ f cs) ρ M=(a_ G cs ρ M).bind λds M=>(G f ds M).b0 .ok:=rfl
theorem GB:ev G (.sset a) ρ M=(ev G a ρ M).bind λx M=>m9 x M:=rfl
theorem rf : ev G (.comp k cM tg cond elt cA) ρ M = ((cI G cM ρ M).bind fun ws M => (jI k ws M).bind fun it M =>
      bq (λτ M=>bP G cond τ M) (λτ M=>(ev G elt τ M).bind own) it tg (cR M it) 0 (eB cA ρ) M []):=rfl
theorem C1:dS G (.dc ts) ρ M=fb G ts ρ M:=rfl
theorem C2:dS G (.dw ts) ρ M=fc G ts ρ M:=rfl
theorem GC:dS G (.neg a) ρ M=(dS G a ρ M).bind λr M=>.ok (!r) M:=rfl
theorem rg : dS G (.val c) ρ M = ((ev G c ρ M).bind fun w M => match oS M w with
    | some r=>.ok r M
    | none=>.ae):=rfl
theorem kC:iL G [] u0 u1=.ae:=rfl
theorem i_ : iL G (c :: cs) ρ M = ((ev G c ρ M).bind fun x M => match cs, x with
    | [],x=>.ok x M
    | _,.d (.bl true)=>iL G cs ρ M
    | _,.d (.bl false)=>.ok (.d (.bl false)) M
    | _,_=>.ae):=rfl
theorem m_:oW G [] u0 u1=.ae:=rfl
theorem kE : oW G (c :: cs) ρ M = ((ev G c ρ M).bind fun x M => match cs, x with
    | [],x=>.ok x M
    | _,.d (.bl false)=>oW G cs ρ M
    | _,.d (.bl true)=>.ok (.d (.bl true)) M
    | _,_=>.ae):=rfl
theorem kF:fb G [] u0 u1=.ae:=rfl
theorem ja : fb G (c :: cs) ρ M = ((dS G c ρ M).bind fun x M => match cs, x with
    | [],x=>.ok x M
    | _,true=>fb G cs ρ M
    | _,false=>.ok false M):=rfl
theorem kG:fc G [] u0 u1=.ae:=rfl
theorem jb : fc G (c :: cs) ρ M = ((dS G c ρ M).bind fun x M => match cs, x with
    | [],x=>.ok x M
    | _,false=>fc G cs ρ M
    | _,true=>.ok true M):=rfl
theorem fR:a_ G [] u0 M=.ok [] M:=rfl
theorem eJ:a_ G (c::cs) ρ M=((ev G c ρ M).bind own).bind λd M=>(a_ G cs ρ M).bind λds M=>.ok (d::ds) M:=rfl
theorem g6:cI G [] u0 M=.ok [] M:=rfl
theorem fS:cI G (c::cs) ρ M=(ev G c ρ M).bind λd M=>(cI G cs ρ M).bind λds M=>.ok (d::ds) M:=rfl
theorem na:sM G none u0 M=.ok none M:=rfl
theorem nh : sM G (some c) ρ M = ((ev G c ρ M).bind fun w M => match w with
    | .d (.int i)=>.ok (some i) M
    | _=>.ae):=rfl
end
section
variable [EX]
def GD(K:PySem.W.Frag)(ads:List Addr)(mF H:Hp):W->V->Prop
 | .d x,v=>RD K ads H x v
 | .lv ds,v=>∃a xs,v=.ref a/\mF a=none/\H a=some (.lst xs)/\a∉ads/\aN K ads H ds xs
def kX(K:PySem.W.Frag)(ads:List Addr)(H:Hp)(w:W)(M':ag)(Q:VK):Prop :=
 ∀v H' aw,aB ads aw H H'->aI K aw H' M'->GD K aw H H' w v->Q v H'
def K4(K:PySem.W.Frag)(ads:List Addr)(H:Hp)(ds:List D)(M':ag)(Q:List V->Hp->Prop):Prop :=
 ∀vs H' aw,aB ads aw H H'->aI K aw H' M'->aN K aw H' ds vs->Q vs H'
noncomputable def OV(K:PySem.W.Frag)(ads:List Addr)(H:Hp)(b:Bool)(M':ag)(Q:Bool->Hp->Prop):Prop :=
 ∀H' aw,aB ads aw H H'->aI K aw H' M'->Q b H'
def bL(K:PySem.W.Frag)(ads:List Addr)(H:Hp)(Q:VK):bF W->Prop
 | .ok w M=>kX K ads H w M Q
 | .err x M=>EX.post K ads H x M
 | .ae=>False
def uG(K:PySem.W.Frag)(ads:List Addr)(H:Hp)(Q:List V->Hp->Prop):bF (List D)->Prop
 | .ok w M=>K4 K ads H w M Q
 | .err x M=>EX.post K ads H x M
 | .ae=>False
def ET(K:PySem.W.Frag)(ads:List Addr)(H:Hp)(Q:Bool->Hp->Prop):bF Bool->Prop
 | .ok w M=>OV K ads H w M Q
 | .err x M=>EX.post K ads H x M
 | .ae=>False
structure SR (K:PySem.W.Frag) (ads:List Addr) (M:ag) (ρ:En) (σ:L2.St) (H:Hp):Prop where
 mem:aI K ads H M
 en:OQ K ads H ρ σ
 ln:ρ.length=σ.length
def tE(K:PySem.W.Frag)(o:En->ag->bF W):TE:=λσ H Q=>∃ads M ρ,SR K ads M ρ σ H/\bL K ads H Q (o ρ M)
def Bo(K:PySem.W.Frag)(o:En->ag->bF (List D)):TA:=λσ H Q=>∃ads M ρ,SR K ads M ρ σ H/\uG K ads H Q (o ρ M)
def ni(K:PySem.W.Frag)(o:En->ag->bF Bool):TT:=λσ H Q=>∃ads M ρ,SR K ads M ρ σ H/\ET K ads H Q (o ρ M)
section
variable {K:PySem.W.Frag} {ads aw aK:List Addr} {H H' H2:Hp} {M M2:ag} {ρ:En} {σ:L2.St}
theorem GD.rw{mF:Hp}{w:W}{v:V}(h:GD K ads mF H w v):RW K ads H w v:=by
 cases w with
 | d x=>exact h
 | lv ds=>obtain⟨a,xs,e,_,h1,n,r⟩:=h;exact⟨a,xs,e,h1,n,r⟩
theorem SR.grow(s:SR K ads M ρ σ H)(g:aB ads aw H H')(m:aI K aw H' M2):SR K aw M2 ρ σ H':=⟨m,g.V0 s.en,s.ln⟩
theorem AE(g:aB ads aw H H')(m:aI K ads H M)(m':aI K aw H' M2){a:Addr}(h:H' a=none):H a=none:=by
 by_cases hb:a∈ads
 ·have:a∈aw:=by obtain⟨r,e⟩:=g.pre;rw[e];exact Bt _ hb
  exact absurd this (m'.fresh h)
 ·cases q:H a with
  | none=>rfl
  | some o=>rw[g.kept a o hb q]at h;cases h
theorem GD.back{w:W}{v:V}(g:aB ads aw H H')(m:aI K ads H M)(m':aI K aw H' M2)(h:GD K aK H' H2 w v):GD K aK H H2 w v:=by
 cases w with
 | d x=>exact h
 | lv ds=>obtain⟨a,xs,e,h0,h1,n,r⟩:=h;exact⟨a,xs,e,AE g m m' h0,h1,n,r⟩
theorem kX.shift{w:W}{Mw:ag}{Q:VK}(p:kX K ads H w Mw Q)(g:aB ads aw H H')(m:aI K ads H M)(m':aI K aw H' M2):kX K aw H' w Mw Q :=
 λv H1 ah g1 m1 r=>p v H1 ah (g.trans g1) m1 (r.back g m m')
theorem bL.shift{o:bF W}{Q:VK}(p:bL K ads H Q o)(g:aB ads aw H H')(m:aI K ads H M)(m':aI K aw H' M2):bL K aw H' Q o:=by
 cases o with
 | ok w Mw=>exact kX.shift p g m m'
 | err _ _=>exact EX.shift p g
 | ae=>exact p
theorem ET.shift{o:bF Bool}{Q:Bool->Hp->Prop}(p:ET K ads H Q o)(g:aB ads aw H H'):ET K aw H' Q o:=by
 cases o with
 | ok w Mw=>exact λH1 ah g1 m1=>p H1 ah (g.trans g1) m1
 | err _ _=>exact EX.shift p g
 | ae=>exact p
theorem bL.imp{e1 e2:EX}(im:∀{K:PySem.W.Frag}{ads:List Addr}{H:Hp}{x:AB}{M:ag},e1.post K ads H x M->e2.post K ads H x M){o:bF W}{Q:VK}(p:@bL e1 K ads H Q o):@bL e2 K ads H Q o:=by
 cases o with
 | ok w Mw=>exact p
 | err _ _=>exact im p
 | ae=>exact p
theorem cq{o:En->ag->bF W}{k:W->ag->bF W}{Q:VK}{R:V->Hp->Prop}(s:SR K ads M ρ σ H)(h:bL K ads H Q ((o ρ M).bind k))(hk:∀w M1 v H1 ah,SR K ah M1 ρ σ H1->RW K ah H1 w v->bL K ah H1 Q (k w M1)->R v H1):tE K o σ H R:=by
 refine⟨ads,M,ρ,s,?_⟩
 cases q:o ρ M with
 | ok w M1 =>
  rw[q]at h;have h:bL K ads H Q (k w M1):=h;exact λv H1 ah g1 m1 r=>hk w M1 v H1 ah (s.grow g1 m1) r.rw (h.shift g1 s.mem m1)
 | err _ _=>rw[q]at h;exact h
 | ae=>rw[q]at h;exact h
theorem two{oa ob:En->ag->bF W}{f:W->W->ag->bF W}{r:R2}{Q:VK}(hr:∀ {ads M H x y vx vy Q},aI K ads H M->RW K ads H x vx->RW K ads H y vy->bL K ads H Q (f x y M)->r vx vy H Q)(h:tE K (λρ M=>(oa ρ M).bind λx M=>(ob ρ M).bind λy M=>f x y M) σ H Q):FF r (tE K oa) (tE K ob) σ H Q:=by
 obtain⟨ads,M,ρ,s,h⟩:=h;refine cq s h λw M1 v H1 ah s1 ie h1=>?_;refine⟨ah,M1,ρ,s1,?_⟩
 cases q:ob ρ M1 with
 | ok y M2 =>
  rw[q]at h1;have h1:bL K ah H1 Q (f w y M2):=h1;exact λvy H2 aK g2 m2 ry=>hr m2 (g2.rw ie) ry.rw (h1.shift g2 s1.mem m2)
 | err _ _=>rw[q]at h1;exact h1
 | ae=>rw[q]at h1;exact h1
theorem bL.plain{Q:VK}{x:D}{v:V}(h:bL K ads H Q (.ok (.d x) M))(m:aI K ads H M)(r:RD K ads H x v):Q v H:=h v H ads (aB.refl _ _) m r
theorem bL.list{Q:VK}{ds:List D}{xs:List V}(h:bL K ads H Q (.ok (.lv ds) M))(m:aI K ads H M)(r:aN K ads H ds xs){p:Addr}(hp:H p=none):Q (.ref p) (bu H p (.lst xs)) :=
 h _ _ ads (aB.dN m hp) (m.dN hp) ⟨p,xs,rfl,hp,aV,m.fresh hp,(aB.dN m hp).oP _ _ r⟩
theorem bL.tuple{Q:VK}{ds:List D}{xs:List V}(h:bL K ads H Q (.ok (.d (.tup ds)) M))(m:aI K ads H M)(r:aN K ads H ds xs){p:Addr}(hp:H p=none):Q (.ref p) (bu H p (.tup xs)):=by
 refine h _ _ ads (aB.dN m hp) (m.dN hp) ?_;show RD _ _ _ (.tup ds) _;unfold RD;exact⟨p,xs,rfl,aV,(aB.dN m hp).oP _ _ r⟩
theorem eQ{w:W}{v:V}{l:Bool}{ds:List D}(m:aI K ads H M)(r:RW K ads H w v)(e:bC M w=some (l,ds)):∃a xs,v=.ref a/\aN K ads H ds xs/\((l=true/\eO K H a xs)\/(l=false/\fF K H a xs)):=by
 cases w with
 | lv es =>
  simp only[bC,vF,Prod.mk.injEq]at e;obtain⟨rfl,rfl⟩:=e;obtain⟨a,xs,e,h,n,r⟩:=r;exact⟨a,xs,e,r,.inl ⟨rfl,eO.of h⟩⟩
 | d x =>
  cases x with
  | tup es =>
   simp only[bC,vF,Prod.mk.injEq]at e;obtain⟨rfl,rfl⟩:=e;have r:RD K ads H (.tup es) v:=r;unfold RD at r;obtain⟨a,xs,e,h,r⟩:=r;exact⟨a,xs,e,r,.inr ⟨rfl,fF.of h⟩⟩
  | ls es =>
   simp only[bC,vF,Prod.mk.injEq]at e;obtain⟨rfl,rfl⟩:=e;have r:RD K ads H (.ls es) v:=r;unfold RD at r;obtain⟨a,xs,e,h,r⟩:=r;exact⟨a,xs,e,r,.inl ⟨rfl,h.sq⟩⟩
  | aJ n =>
   have r:RD K ads H (.aJ n) v:=r;unfold RD at r;obtain⟨a,ev,ea⟩:=r;unfold bC at e;dsimp only at e
   cases q:M[n]? with
   | none=>rw[q]at e;cases e
   | some o =>
    rw[q]at e;have ho:=m.obj n o a q ea
    cases o with
    | lst es=>cases e;obtain⟨xs,h,r⟩:=ho;exact⟨a,xs,ev,r,.inl ⟨rfl,eO.of h⟩⟩
    | iJ es=>cases e;obtain⟨o,xs,h,r⟩:=ho;exact⟨a,xs,ev,r,.inl ⟨rfl,.inl (.inr ⟨o,h⟩)⟩⟩
    | dK _=>cases e
    | dT _=>cases e
    | dF _=>cases e
    | xc _ _=>cases e
  | a6=>cases e
  | bl _=>cases e
  | int _=>cases e
  | str _=>cases e
theorem kH{w:W}{v:V}{ds:List D}(m:aI K ads H M)(r:RW K ads H w v)(e:df M w=some ds):∃a xs,v=.ref a/\aN K ads H ds xs/\H a=some (.lst xs):=by
 cases w with
 | lv es =>
  simp only[df,vF]at e;subst e;obtain⟨a,xs,e,h,n,r⟩:=r;exact⟨a,xs,e,r,h⟩
 | d x =>
  cases x with
  | aJ n =>
   have r:RD K ads H (.aJ n) v:=r;unfold RD at r;obtain⟨a,ev,ea⟩:=r;simp only[df]at e
   cases q:M[n]? with
   | none=>rw[q]at e;cases e
   | some o =>
    rw[q]at e;have ho:=m.obj n o a q ea
    cases o with
    | lst es=>cases e;obtain⟨xs,h,r⟩:=ho;exact⟨a,xs,ev,r,h⟩
    | iJ es=>cases e
    | dK _=>cases e
    | dT _=>cases e
    | dF _=>cases e
    | xc _ _=>cases e
  | tup _=>cases e
  | ls _=>cases e
  | a6=>cases e
  | bl _=>cases e
  | int _=>cases e
  | str _=>cases e
theorem aP{i:Int}{v:V}(r:RW K ads H (.d (.int i)) v):v=.int i:=by
 have r:RD K ads H (.int i) v:=r;unfold RD at r;exact r
theorem dD{i:Str}{v:V}(r:RW K ads H (.d (.str i)) v):v=.str i:=by
 have r:RD K ads H (.str i) v:=r;unfold RD at r;exact r
theorem iM{i:Bool}{v:V}(r:RW K ads H (.d (.bl i)) v):v=.bl i:=by
 have r:RD K ads H (.bl i) v:=r;unfold RD at r;exact r
theorem nj{v:V}(r:RW K ads H (.d .a6) v):v=.a6:=by
 have r:RD K ads H .a6 v:=r;unfold RD at r;exact r
theorem cu(i:Int):RD K ads H (.int i) (.int i):=by unfold RD;rfl
theorem iN(i:Bool):RD K ads H (.bl i) (.bl i):=by unfold RD;rfl
theorem rm(i:Str):RD K ads H (.str i) (.str i):=by unfold RD;rfl
theorem jc:RD K ads H .a6 .a6:=by unfold RD;rfl
end
section
variable {X:Cx}
def TN(K:PySem.W.Frag)(op:ES):R2:=λx y H Q=>∃ads M wx wy,aI K ads H M/\RW K ads H wx x/\RW K ads H wy y/\bL K ads H Q (qY op wx wy M)
noncomputable def GF:ES->Operator
 | .add=>.Add | .sub=>.Sub | .mul=>.Mult | .fdiv=>.FloorDiv | .mod=>.Mod | .pow=>.Pow
theorem GG:iC X (binaryOp .Add) (λx y H Q=>∃a b ys,x=.ref a/\y=.ref b/\fF X.K H a []/\fF X.K H b ys/\Q (.ref b) H):=by
 intro aa s σ H x y v u Q I rx ry h;obtain⟨a,b,ys,rfl,rfl,ha,hb,q⟩:=h;cases rx;cases ry;obtain⟨aC,r1,p1,_⟩:=I.tuple ha;obtain⟨B8,r2,p2,_⟩:=I.tuple hb;cases r1;obtain⟨⟨cls,dd,data,sl⟩,ho,hc,n,hd⟩:=id p1;obtain⟨⟨SA,QJ,data2,QK⟩,EN,Ij,n2,N9⟩:=id p2;simp only at hc hd Ij N9;subst hc hd Ij N9
 exact concat_meets ⟨_,ho,rfl⟩ ⟨_,EN,rfl⟩ noFill_tuple_add seq_tuple_add Ju Jt (Js _ _)
  (tuple_addW0 a b _ B8.toArray n n2 dd QJ sl QK rfl) ⟨ho,EN,⟨.ref b,H,I,rfl,q⟩⟩
theorem aN.rep{K:PySem.W.Frag}{ads:List Addr}{H:Hp}{ds:List D}{vs:List V}(r:aN K ads H ds vs):∀k:Nat,aN K ads H (List.replicate k ds).flatten (List.replicate k vs).flatten
 | 0=>by simp;unfold aN;rfl
 | k+1=>by simp only[vC,zr];exact r.app (aN.rep r k)
theorem K5(op:ES):iC X (binaryOp (GF op)) (TN X.K op):=by
 intro aa s σ H x y v u Q I rx ry h;obtain⟨ads,M,wx,wy,m,r1,r2,h⟩:=h
 have OW:∀ {op},op=ES.add->bL X.K ads H Q (match df M wx,df M wy with
  | some xs,some ys=>if xs.length+ys.length<=sizeLine then .ok (.lv (xs++ys)) M else .ae
  | _,_=>.ae)->wpAny (model X.prog X.w) X.A (binaryOp (GF op) v u) (EP X aa σ Q) X.xe s:=by
  intro op e h;subst e
  cases q1:df M wx with
  | none=>rw[q1]at h;exact h.elim
  | some xs =>
   cases q2:df M wy with
   | none=>rw[q1,q2]at h;exact h.elim
   | some ys =>
    rw[q1,q2]at h;dsimp only at h;split at h
    ·rename_i hz
     obtain⟨a,vs,e1,ra,ha⟩:=kH m r1 q1;obtain⟨b,ws,e2,rb,hb⟩:=kH m r2 q2;subst e1 e2;refine Kv aa s σ H _ _ v u Q I rx ry ⟨a,b,vs,ws,rfl,rfl,ha,hb,by rw[<- ra.len,<- rb.len];exact hz,λp hp=>h.list m (ra.app rb) hp⟩
    ·exact h.elim
 unfold qY at h;split at h
 ·rw[aP r1]at rx;rw[aP r2]at ry;exact J8 aa s σ H _ _ v u Q I rx ry ⟨_,_,rfl,rfl,h.plain m (cu _)⟩
 ·rw[aP r1]at rx;rw[aP r2]at ry;exact J9 aa s σ H _ _ v u Q I rx ry ⟨_,_,rfl,rfl,h.plain m (cu _)⟩
 ·rw[aP r1]at rx;rw[aP r2]at ry;split at h
  ·rename_i hc
   exact J_ aa s σ H _ _ v u Q I rx ry ⟨_,_,rfl,rfl,hc,h.plain m (cu _)⟩
  ·exact h.elim
 ·rw[aP r1]at rx;rw[aP r2]at ry;split at h
  ·rename_i hc
   exact FI aa s σ H _ _ v u Q I rx ry ⟨_,_,rfl,rfl,hc,h.plain m (cu _)⟩
  ·exact h.elim
 ·rw[aP r1]at rx;rw[aP r2]at ry;split at h
  ·rename_i hc
   exact Ka aa s σ H _ _ v u Q I rx ry ⟨_,_,rfl,rfl,hc,h.plain m (cu _)⟩
  ·exact h.elim
 ·rw[aP r1]at rx;rw[aP r2]at ry;split at h
  ·rename_i hc
   exact Kb aa s σ H _ _ v u Q I rx ry ⟨_,_,rfl,rfl,hc,h.plain m (cu _)⟩
  ·exact h.elim
 ·rename_i xs ys
  split at h
  ·rename_i hc
   have r1:RD X.K ads H (.tup xs) x:=r1;have r2:RD X.K ads H (.tup ys) y:=r2;unfold RD at r1 r2;obtain⟨a,vs,e1,ha,ra⟩:=r1;obtain⟨b,ws,e2,hb,rb⟩:=r2;subst e1 e2;by_cases TQ:vs=[]
   ·have ex:xs=[]:=List.eq_nil_of_length_eq_zero (by rw[ra.len,TQ];rfl);subst ex TQ;refine GG aa s σ H _ _ v u Q I rx ry ⟨a,b,ws,rfl,rfl,fF.of ha,fF.of hb,bL.plain (x:=.tup ys) h m ?_⟩;unfold RD;exact⟨b,ws,rfl,hb,rb⟩
   refine FY aa s σ H _ _ v u Q I rx ry ⟨a,b,vs,ws,rfl,rfl,fF.of ha,fF.of hb,TQ,by rw[<- ra.len,<- rb.len];exact hc,λz=>?_,λ_ p hp=>h.tuple m (ra.app rb) hp⟩;have ey:ys=[]:=List.eq_nil_of_length_eq_zero (by rw[rb.len,z];rfl);subst ey;rw[sX]at h;refine h.plain m ?_;unfold RD;exact⟨a,vs,rfl,ha,ra⟩
  ·exact h.elim
 ·exact OW rfl h
 ·rename_i xs k
  split at h
  ·rename_i hc
   have r1:RD X.K ads H (.tup xs) x:=r1;unfold RD at r1;obtain⟨a,vs,e1,ha,ra⟩:=r1;subst e1;rw[aP r2]at ry;refine Gs aa s σ H _ _ v u Q I rx ry ⟨a,k,vs,rfl,rfl,ha,hc.1,hc.2.1,by rw[<- ra.len];exact hc.2.2,λz=>h.plain m ?_,λp hp=>h.tuple m (aN.rep ra k.toNat) hp⟩;unfold RD;exact⟨a,vs,rfl,ha,by have:=aN.rep ra k.toNat;rw[z]at this;exact this⟩
  ·exact h.elim
 ·rename_i k _ _
  cases q1:df M wx with
  | none=>rw[q1]at h;exact h.elim
  | some xs =>
   rw[q1]at h;dsimp only at h;split at h
   ·rename_i hz
    obtain⟨a,vs,e1,ra,ha⟩:=kH m r1 q1;subst e1;rw[aP r2]at ry;refine Kw aa s σ H _ _ v u Q I rx ry ⟨a,k,vs,rfl,rfl,ha,hz.1,hz.2.1,by rw[<- ra.len];exact hz.2.2,λp hp=>h.list m (aN.rep ra k.toNat) hp⟩
   ·exact h.elim
 ·exact h.elim
end
end
section
variable [EX]
section
variable {X:Cx} {aa:List (Addr×Obj)} {σ:L2.St} {H:Hp} {s:Shared} {ads:List Addr} {M:ag}
theorem cJ(I:Inv X aa σ H s)(n:Nat)(hA:∀d v u p,RD X.K ads H d v->RelV v u->dB M n d=some p->∃as,Reads s.heap u p as):∀(ds:List D)(vs:List V)(us:List Value)(ps:List PyData),aN X.K ads H ds vs->aL vs us->bO M n ds=some ps->∃as,ReadsAll s.heap us ps as
 | [],vs,us,ps,r,rv,e=>by
  unfold aN at r;subst r;cases rv;unfold bO at e;cases e;exact⟨[],.nil⟩
 | d::ds,vs,us,ps,r,rv,e=>by
  unfold aN at r;obtain⟨x,r',rfl,h1,h2⟩:=r
  cases rv with
  | cons rx rr =>
   unfold bO at e
   cases q1:dB M n d with
   | none=>rw[q1]at e;cases e
   | some p =>
    cases q2:bO M n ds with
    | none=>rw[q1,q2]at e;cases e
    | some qs =>
     rw[q1,q2]at e;cases e;obtain⟨as,k1⟩:=hA d x _ p h1 rx q1;obtain⟨bs,k2⟩:=cJ I n hA ds r' _ qs h2 rr q2;exact⟨as++bs,.cons k1 k2⟩
theorem ff(I:Inv X aa σ H s)(m:aI X.K ads H M):∀(n:Nat)(d:D)(v:V)(u:Value)(p:PyData),RD X.K ads H d v->RelV v u->dB M n d=some p->∃as,Reads s.heap u p as:=by
 intro n
 induction n with
 | zero =>
  intro d v u p r rv e
  cases d with
  | a6=>unfold RD at r;subst r;cases rv;unfold dB at e;cases e;exact⟨_,.none⟩
  | bl b=>unfold RD at r;subst r;cases rv;unfold dB at e;cases e;exact⟨_,.bool _⟩
  | int b=>unfold RD at r;subst r;obtain⟨t,rfl⟩:=rv;unfold dB at e;cases e;exact⟨_,.int _ _⟩
  | str b=>unfold RD at r;subst r;obtain⟨t,rfl⟩:=rv;unfold dB at e;cases e;exact⟨_,.str _ _⟩
  | tup _=>unfold dB at e;cases e
  | aJ _=>unfold dB at e;cases e
  | ls _=>unfold dB at e;cases e
 | succ n ih =>
  intro d v u p r rv e
  cases d with
  | a6=>unfold RD at r;subst r;cases rv;unfold dB at e;cases e;exact⟨_,.none⟩
  | bl b=>unfold RD at r;subst r;cases rv;unfold dB at e;cases e;exact⟨_,.bool _⟩
  | int b=>unfold RD at r;subst r;obtain⟨t,rfl⟩:=rv;unfold dB at e;cases e;exact⟨_,.int _ _⟩
  | str b=>unfold RD at r;subst r;obtain⟨t,rfl⟩:=rv;unfold dB at e;cases e;exact⟨_,.str _ _⟩
  | tup ds =>
   unfold RD at r;obtain⟨a,xs,rfl,hs,r⟩:=r;cases rv;unfold dB at e
   cases q:bO M n ds with
   | none=>rw[q]at e;cases e
   | some ps =>
    rw[q]at e;cases e;obtain⟨aC,rv,⟨o,h1,h2,k,h3⟩,_⟩:=I.tuple (fF.of (K:=X.K) hs);obtain⟨as,ra⟩:=cJ I n ih ds xs aC ps r rv q;exact⟨as,.tuple h1 h2 h3 (by simpa using ra)⟩
  | ls ds =>
   unfold RD at r;obtain⟨a,xs,rfl,hs,r⟩:=r;cases rv;unfold dB at e
   cases q:bO M n ds with
   | none=>rw[q]at e;cases e
   | some ps =>
    rw[q]at e;cases e;obtain⟨aC,rv,⟨o,kk,h1,h2,h3,h4⟩,_⟩:=I.list hs.sq;obtain⟨as,ra⟩:=cJ I n ih ds xs aC ps r rv q;exact⟨a::as,.list h1 h2 h4 (by simpa using ra)⟩
  | aJ k =>
   unfold RD at r;obtain⟨a,rfl,ea⟩:=r;cases rv;unfold dB at e
   have lst:∀ds,eO X.K H a ds->∀es,aN X.K ads H es ds->(bO M n es).map PyData.list=some p->∃as,Reads s.heap (.ref a) p as:=by
    intro xs hs es r e
    cases q:bO M n es with
    | none=>rw[q]at e;cases e
    | some ps =>
     rw[q]at e;cases e;obtain⟨aC,rv,⟨o,kk,h1,h2,h3,h4⟩,_⟩:=I.list hs;obtain⟨as,ra⟩:=cJ I n ih es xs aC ps r rv q;exact⟨a::as,.list h1 h2 h4 (by simpa using ra)⟩
   cases q:M[k]? with
   | none=>rw[q]at e;cases e
   | some o =>
    rw[q]at e;have ho:=m.obj k o a q ea
    cases o with
    | lst es=>obtain⟨xs,h,r⟩:=ho;exact lst xs (eO.of h) es r e
    | iJ es=>obtain⟨o,xs,h,r⟩:=ho;exact lst xs (.inl (.inr ⟨o,h⟩)) es r e
    | dK _=>cases e
    | dT _=>cases e
    | dF _=>cases e
    | xc _ _=>cases e
theorem gm(I:Inv X aa σ H s)(m:aI X.K ads H M){w:W}{v:V}{u:Value}{p:PyData}(r:RW X.K ads H w v)(rv:RelV v u)(e:lH M w=some p):∃as,Reads s.heap u p as:=by
 cases w with
 | d x=>exact ff I m 30 x v u p r rv e
 | lv ds =>
  obtain⟨a,xs,rfl,h,n,r⟩:=r;cases rv;have e:(bO M 30 ds).map PyData.list=some p:=e
  cases q:bO M 30 ds with
  | none=>rw[q]at e;cases e
  | some ps =>
   rw[q]at e;cases e;obtain⟨aC,rv,⟨o,kk,h1,h2,h3,h4⟩,_⟩:=I.list (eO.of (K:=X.K) h);obtain⟨as,ra⟩:=cJ I 30 (ff I m 30) ds xs aC ps r rv q;exact⟨a::as,.list h1 h2 h4 (by simpa using ra)⟩
end
section
variable {K:PySem.W.Frag} {ads:List Addr} {H:Hp}
theorem bN.find{κ:Type}[DecidableEq κ]{k:κ}:∀{az:List (κ×D)}{ks:List (κ×V)}{d:D},bN K ads H az ks->(az.find? λp=>decide (p.1=k)).map (·.2)=some d->∃v,ko ks k=some v/\RD K ads H d v
 | [],_,_,_,e=>by cases e
 | p::ps,ks,d,r,e=>by
  unfold bN at r;obtain⟨x,r',rfl,h0,h1,h2⟩:=r;by_cases hk:p.1=k
  ·have e':p.2=d:=by simpa[oD,hk]using e
   subst e';exact⟨x.2,jy (h0▸hk),h1⟩
  ·obtain⟨v,e1,rv⟩:=bN.find h2 (by simpa[oD,hk]using e);exact⟨v,(gV (h0▸hk)).trans e1,rv⟩
theorem bN.len{κ:Type}:∀{az:List (κ×D)}{ks:List (κ×V)},bN K ads H az ks->az.length=ks.length
 | [],_,r=>by unfold bN at r;subst r;rfl
 | p::ps,ks,r=>by unfold bN at r;obtain⟨x,r',rfl,h0,h1,h2⟩:=r;simp[bN.len h2]
theorem bN.C3{κ:Type}[DecidableEq κ]{k:κ}:∀{az:List (κ×D)}{ks:List (κ×V)},bN K ads H az ks->lJ az k=none->ko ks k=none
 | [],_,r,_=>by unfold bN at r;subst r;rfl
 | p::ps,ks,r,e=>by
  unfold bN at r;obtain⟨x,r',rfl,h0,h1,h2⟩:=r;by_cases hk:p.1=k
  ·unfold lJ at e;simp[oD,hk]at e
  ·exact(gV (h0▸hk)).trans (bN.C3 h2 (by unfold lJ at e⊢;simpa[oD,hk]using e))
end
section
variable {X:Cx} {aa:List (Addr×Obj)} {σ:L2.St} {H:Hp} {s:Shared} {ads:List Addr} {M:ag}
theorem rn{w:W}{v:V}{az:List (bS×D)}{K:PySem.W.Frag}(m:aI K ads H M)(r:RW K ads H w v)(e:i4 M w=some az):∃a ks,v=.ref a/\H a=some (.dK ks)/\bN K ads H az ks:=by
 cases w with
 | lv es=>cases e
 | d x =>
  cases x with
  | aJ n =>
   have r:RD K ads H (.aJ n) v:=r;unfold RD at r;obtain⟨a,ev,ea⟩:=r;simp only[i4]at e
   cases q:M[n]? with
   | none=>rw[q]at e;cases e
   | some o =>
    rw[q]at e;have ho:=m.obj n o a q ea
    cases o with
    | lst es=>cases e
    | iJ es=>cases e
    | dK _=>cases e;obtain⟨ks,h,r⟩:=ho;exact⟨a,ks,ev,h,r⟩
    | dT _=>cases e
    | dF _=>cases e
    | xc _ _=>cases e
  | tup _=>cases e
  | ls _=>cases e
  | a6=>cases e
  | bl _=>cases e
  | int _=>cases e
  | str _=>cases e
theorem C4{w:W}{v:V}{k:bS}{K:PySem.W.Frag}(r:RW K ads H w v)(e:wk w=some k):v=kV k:=by
 cases w with
 | lv es=>cases e
 | d x =>
  cases x with
  | int i=>cases e;exact aP r
  | str i=>cases e;exact dD r
  | aJ _=>cases e
  | tup _=>cases e
  | ls _=>cases e
  | a6=>cases e
  | bl _=>cases e
theorem yu{K:PySem.W.Frag}{az:List (bS×D)}{ks:List (bS×V)}{a:Addr}{k:bS}(ha:H a=some (.dK ks))(r:bN K ads H az ks):∃o,lC H a (kV k) o/\o.isSome=(lJ az k).isSome:=by
 refine⟨_,lC.k (k:=k) ha,?_⟩
 cases q:lJ az k with
 | none=>rw[r.C3 q];rfl
 | some d=>obtain⟨v,e,_⟩:=r.find q;rw[e];rfl
theorem yv(I:Inv X aa σ H s)(m:aI X.K ads H M)(hu:X.A.units+100<cLine){kb:List (bS×D)}{TR:List (bS×V)}{Q5:List (bS×Value)}(rb:bN X.K ads H kb TR)(vb:KV TR Q5):∀{ka:List (bS×D)}{OX:List (bS×V)}{Nf:List (bS×Value)}{r:Bool},bN X.K ads H ka OX->KV OX Nf->wm M kb ka=some r->PySem.W.KeqHits X.A.in1 s Q5 Nf r
 | [],OX,Nf,r,ra,va,e=>by
  unfold bN at ra;subst ra;cases va;cases e;exact .nil
 | (k,d)::ka,OX,Nf,r,ra,va,e=>by
  unfold bN at ra;obtain⟨x,r',rfl,h0,h1,h2⟩:=ra;obtain⟨x1,x2⟩:=x;have h0:k=x1:=h0;subst h0;have h1:RD X.K ads H d x2:=h1
  cases va with
  | cons hp hr =>
   rename_i q vr
   obtain⟨q1,q2⟩:=q;obtain⟨e1,e2⟩:=hp;have e1:k=q1:=e1;subst e1;have e2:RelV x2 q2:=e2;have hv:=vb.val k;simp only[wm]at e
   cases hg:lJ kb k with
   | none =>
    rw[hg]at e;cases e;rw[rb.C3 hg]at hv;exact .miss (iS.none_of hv)
   | some y =>
    rw[hg]at e;dsimp only at e;obtain⟨v',TU,Q6⟩:=rb.find hg;rw[TU]at hv;obtain⟨u',eu,ru⟩:=iS.qF hv
    cases p1:dB M 30 d with
    | none=>rw[p1]at e;cases e
    | some p =>
     cases p2:dB M 30 y with
     | none=>rw[p1,p2]at e;cases e
     | some p' =>
      rw[p1,p2]at e;dsimp only at e;split at e
      ·rename_i hs
       cases Q7:wm M kb ka with
       | none=>rw[Q7]at e;cases e
       | some b =>
        rw[Q7]at e;have e:(PyData.eqv p p'&&b)=r:=cH e;subst e;obtain⟨as,Yc⟩:=ff I m 30 d x2 q2 p h1 e2 p1;obtain⟨bs,Yd⟩:=ff I m 30 y v' u' p' Q6 ru p2;exact .hit eu (PySem.W.keq_at Yc Yd hs.1 hs.2 (by show X.A.units+1+64<cLine;omega)) (yv I m hu rb vb h2 hr Q7)
      ·cases e
end
noncomputable def K6:AD->CmpOp
 | .eq=>.Eq | .ne=>.NotEq | .lt=>.Lt | .le=>.LtE | .gt=>.Gt | .ge=>.GtE | .vm=>.Is | .iF=>.IsNot | .isin=>.In | .iK=>.NotIn
noncomputable def GH(K:PySem.W.Frag)(ads:List Addr)(H:Hp)(Q:VK):bF Bool->Prop
 | .ok b M=>∀H' aw,aB ads aw H H'->aI K aw H' M->Q (.bl b) H'
 | .err x M=>EX.post K ads H x M
 | .ae=>False
def GI(K:PySem.W.Frag)(op:AD):R2:=λx y H Q=>∃ads M wx wy,aI K ads H M/\RW K ads H wx x/\RW K ads H wy y/\((op=.vm\/op=.iF)->y=.a6)/\GH K ads H Q (bG op wx wy M)
theorem GH.now{K:PySem.W.Frag}{ads:List Addr}{H:Hp}{Q:VK}{b:Bool}{M:ag}(h:GH K ads H Q (.ok b M))(m:aI K ads H M):Q (.bl b) H:=h H ads (aB.refl _ _) m
section
variable {X:Cx}
open Classical in
noncomputable def uH(h:Heap)(p:PyData)(y:Value):Bool:=decide (∃q' OY,Reads h y q' OY/\PyData.eqv q' p=true)
open Classical in
theorem uI{h:Heap}{p q:PyData}{y:Value}{cs:List Addr}(ry:Reads h y q cs):uH h p y=PyData.eqv q p:=by
 unfold uH
 cases hb:PyData.eqv q p with
 | true=>exact dQ ⟨q,cs,ry,hb⟩
 | false =>
  refine cx ?_;rintro⟨q',OY,Ye,OZ⟩;obtain⟨e,_⟩:=PyProof.Rows.reads_det (λ_ _ e _=>e) ry Ye;rw[<- e,OZ]at hb;cases hb
theorem C5{s:Shared}{A:Around}{x:Value}{p:PyData}{as:List Addr}(rx:Reads s.heap x p as)(hx:SeqAt.shaped p=true)(hu:A.units+65<cLine):∀{us:List Value}{qs:List PyData}{bs:List Addr},ReadsAll s.heap us qs bs->qs.all SeqAt.shaped=true->(∀y∈us,SeqAt.EqAt A.in1 s y x (uH s.heap p y))/\us.any (uH s.heap p)=oR p qs
 | _,_,_,.nil,_=>⟨(λy hy=>by cases hy),rfl⟩
 | _,_,_,.cons (v:=v) (d:=q) ry rr,hq=>by
  rw[List.all_cons,ay]at hq;have OZ:=hq;obtain⟨k1,k2⟩:=C5 rx hx hu rr OZ.2;have e0:=SeqAt.eqAt_reads q p A.in1 s v x _ _ ry rx (SeqAt.canLay_of_shaped OZ.1) (SeqAt.canLay_of_shaped hx) (SeqAt.room_of_shaped OZ.1 (by show A.units+1+64<cLine;omega));rw[<- uI ry]at e0;refine⟨λy hy=>?_,?_⟩
  ·rcases bz.mp hy with z | z
   ·subst z;exact e0
   ·exact k1 y z
  ·rw[BG,k2,uI ry];rfl
theorem lS{s:Shared}{A:Around}{x:Value}{p:PyData}{as:List Addr}(rx:Reads s.heap x p as)(hx:SeqAt.shaped p=true)(hu:A.units+65<cLine){us:List Value}{qs:List PyData}{bs:List Addr}(r:ReadsAll s.heap us qs bs)(hq:qs.all SeqAt.shaped=true):∃e:Value->Bool,(∀y∈us,SeqAt.EqAt A.in1 s y x (e y))/\us.any e=oR p qs :=
 ⟨uH s.heap p,C5 rx hx hu r hq⟩
theorem AF:iC X (compareOp .LtE) (λx y H Q=>∃i j,x=.str i/\y=.str j/\Q (.bl (!decide (j.cps.toList<i.cps.toList))) H):=by
 intro aa s σ H x y v u Q I rx ry h;obtain⟨i,j,rfl,rfl,q⟩:=h;obtain⟨t,rfl⟩:=rx;obtain⟨t',rfl⟩:=ry;exact PySem.P.le_str ⟨.bl _,H,I,rfl,q⟩
theorem kI(hu:X.A.units+100<cLine)(op:AD):iC X (compareOp (K6 op)) (GI X.K op):=by
 intro aa s σ H x y v u Q I rx ry h;obtain⟨ads,M,wx,wy,m,r1,r2,hn,h⟩:=h;unfold bG at h
 cases op with
 | eq =>
  dsimp only at h
  have Iw:GH X.K ads H Q (match i4 M wx,i4 M wy with
   | some ka,some kb=>match wm M kb ka with
    | some r=>.ok (ka.length==kb.length&&r) M
    | none=>.ae
   | _,_=>.ae)->wpAny (model X.prog X.w) X.A (compareOp .Eq v u) (EP X aa σ Q) X.xe s:=by
   intro h
   cases q1:i4 M wx with
   | none=>rw[q1]at h;exact h.elim
   | some ka =>
    cases q2:i4 M wy with
    | none=>rw[q1,q2]at h;exact h.elim
    | some kb =>
     rw[q1,q2]at h;dsimp only at h
     cases q3:wm M kb ka with
     | none=>rw[q3]at h;exact h.elim
     | some r =>
      rw[q3]at h;dsimp only at h;obtain⟨a,OX,rfl,ha,ra⟩:=rn m r1 q1;obtain⟨b,TR,rfl,hb,rb⟩:=rn m r2 q2;cases rx;cases ry;obtain⟨za,Yg,Nf,va,Yh⟩:=xP I.bo ha;obtain⟨zb,zZ,Q5,vb,Yi⟩:=xP I.bo hb;refine PySem.W.keq_eq Yg zZ Yh Yi ∅ (λ_=>yv I m hu rb vb ra va q3) ⟨.bl _,H,I,rfl,?_⟩;have e1:Nf.length=ka.length:=by rw[<- va.length,ra.len]
      have e2:Q5.length=kb.length:=by rw[<- vb.length,rb.len]
      rw[e1,e2];exact h.now m
  cases q1:lH M wx with
  | none=>rw[q1]at h;exact Iw h
  | some p =>
   cases q2:lH M wy with
   | none=>rw[q1,q2]at h;exact Iw h
   | some q =>
    rw[q1,q2]at h;dsimp only at h;split at h
    ·rename_i hs
     obtain⟨as,ra⟩:=gm I m r1 rx q1;obtain⟨bs,rb⟩:=gm I m r2 ry q2;exact SeqAt.compareEq_shaped ra rb hs.1 hs.2 ∅ ⟨.bl _,H,I,rfl,h.now m⟩
    ·exact h.elim
 | ne =>
  dsimp only at h
  cases q1:lH M wx with
  | none=>rw[q1]at h;exact h.elim
  | some p =>
   cases q2:lH M wy with
   | none=>rw[q1,q2]at h;exact h.elim
   | some q =>
    rw[q1,q2]at h;dsimp only at h;split at h
    ·rename_i hs
     obtain⟨as,ra⟩:=gm I m r1 rx q1;obtain⟨bs,rb⟩:=gm I m r2 ry q2;exact SeqAt.compareNe_shaped ra rb hs.1 hs.2 ∅ ⟨.bl _,H,I,rfl,h.now m⟩
    ·exact h.elim
 | lt =>
  dsimp only at h;split at h
  ·rw[aP r1]at rx;rw[aP r2]at ry;exact NV aa s σ H _ _ v u Q I rx ry ⟨_,_,rfl,rfl,h.now m⟩
  ·rw[dD r1]at rx;rw[dD r2]at ry;exact zT aa s σ H _ _ v u Q I rx ry ⟨_,_,rfl,rfl,h.now m⟩
  ·exact h.elim
 | le =>
  dsimp only at h;split at h
  ·rw[aP r1]at rx;rw[aP r2]at ry;exact NW aa s σ H _ _ v u Q I rx ry ⟨_,_,rfl,rfl,h.now m⟩
  ·rw[dD r1]at rx;rw[dD r2]at ry;exact AF aa s σ H _ _ v u Q I rx ry ⟨_,_,rfl,rfl,h.now m⟩
  ·exact h.elim
 | gt =>
  dsimp only at h;split at h
  ·rw[aP r1]at rx;rw[aP r2]at ry;exact NX aa s σ H _ _ v u Q I rx ry ⟨_,_,rfl,rfl,h.now m⟩
  ·exact h.elim
 | ge =>
  dsimp only at h;split at h
  ·rw[aP r1]at rx;rw[aP r2]at ry;exact NY aa s σ H _ _ v u Q I rx ry ⟨_,_,rfl,rfl,h.now m⟩
  ·exact h.elim
 | vm =>
  have e:=hn (.inl rfl)
  have hx:∀b,bG .vm wx wy M=.ok b M->b=decide (x=.a6):=by
   intro b e;unfold bG at e;dsimp only at e;split at e
   ·cases e;rw[nj r1];rfl
   ·rename_i vn
    cases e;refine(cx ?_).symm;intro z;subst z
    cases wx with
    | lv ds=>obtain⟨a,xs,e,_⟩:=r1;cases e
    | d z=>cases z with
     | a6=>exact vn rfl
     | bl b=>have:=iM r1;cases this
     | int b=>have:=aP r1;cases this
     | str b=>have:=dD r1;cases this
     | tup b=>have r1:RD X.K ads H (.tup b) .a6:=r1;unfold RD at r1;obtain⟨a,xs,e,_⟩:=r1;cases e
     | aJ b=>have r1:RD X.K ads H (.aJ b) .a6:=r1;unfold RD at r1;obtain⟨a,e,_⟩:=r1;cases e
     | ls b=>have r1:RD X.K ads H (.ls b) .a6:=r1;unfold RD at r1;obtain⟨a,xs,e,_⟩:=r1;cases e
  subst e;have:∃b,bG .vm wx wy M=.ok b M:=by unfold bG;dsimp only;split<;>exact⟨_,rfl⟩
  obtain⟨b,hb⟩:=this;have h:GH X.K ads H Q (bG .vm wx wy M):=h;rw[hb]at h;refine Kc aa s σ H _ _ v u Q I rx ry ⟨rfl,?_⟩;rw[<- hx b hb];exact h.now m
 | iF =>
  have e:=hn (.inr rfl)
  have hx:∀b,bG .iF wx wy M=.ok b M->b=!decide (x=.a6):=by
   intro b e;unfold bG at e;dsimp only at e;split at e
   ·cases e;rw[nj r1];rfl
   ·rename_i vn
    cases e
    have:decide (x=.a6)=false:=by
     refine cx ?_;intro z;subst z
     cases wx with
     | lv ds=>obtain⟨a,xs,e,_⟩:=r1;cases e
     | d z=>cases z with
      | a6=>exact vn rfl
      | bl b=>have:=iM r1;cases this
      | int b=>have:=aP r1;cases this
      | str b=>have:=dD r1;cases this
      | tup b=>have r1:RD X.K ads H (.tup b) .a6:=r1;unfold RD at r1;obtain⟨a,xs,e,_⟩:=r1;cases e
      | aJ b=>have r1:RD X.K ads H (.aJ b) .a6:=r1;unfold RD at r1;obtain⟨a,e,_⟩:=r1;cases e
      | ls b=>have r1:RD X.K ads H (.ls b) .a6:=r1;unfold RD at r1;obtain⟨a,xs,e,_⟩:=r1;cases e
    rw[this];rfl
  subst e;have:∃b,bG .iF wx wy M=.ok b M:=by unfold bG;dsimp only;split<;>exact⟨_,rfl⟩
  obtain⟨b,hb⟩:=this;have h:GH X.K ads H Q (bG .iF wx wy M):=h;rw[hb]at h;refine FJ aa s σ H _ _ v u Q I rx ry ⟨rfl,?_⟩;rw[<- hx b hb];exact h.now m
 | isin =>
  dsimp only at h
  cases q2:bC M wy with
  | none =>
   rw[q2]at h
   have h:GH X.K ads H Q (match wk wx,i4 M wy with
    | some k,some az=>.ok ((lJ az k).isSome) M
    | _,_=>.ae):=by cases hp:lH M wx<;>rw[hp]at h<;>exact h
   cases q3:wk wx with
   | none=>rw[q3]at h;exact h.elim
   | some k =>
    cases q4:i4 M wy with
    | none=>rw[q3,q4]at h;exact h.elim
    | some az =>
     rw[q3,q4]at h;have ek:=C4 r1 q3;subst ek;obtain⟨a,ks,rfl,ha,ra⟩:=rn m r2 q4;cases ry;obtain⟨o,g,eo⟩:=yu (k:=k) ha ra;refine Sz ∅ I g rx λs' I'=>⟨.bl _,H,I',rfl,?_⟩;rw[eo];exact h.now m
  | some TV =>
   cases q1:lH M wx with
   | none=>rw[q1,q2]at h;exact h.elim
   | some p =>
    obtain⟨l,ds⟩:=TV;rw[q1,q2]at h;dsimp only at h
    cases q3:bO M 30 ds with
    | none=>rw[q3]at h;exact h.elim
    | some qs =>
     rw[q3]at h;dsimp only at h;split at h
     ·rename_i hs
      obtain⟨as,ra⟩:=gm I m r1 rx q1;obtain⟨a,xs,ea,rd,sq⟩:=eQ m r2 q2;subst ea;cases ry;rcases sq with⟨_,sq⟩|⟨_,sq⟩
      ·obtain⟨aC,rv,pl,_⟩:=I.list sq;obtain⟨bs,rb⟩:=cJ I 30 (ff I m 30) ds xs aC qs rd rv q3;obtain⟨e,he,wB⟩:=lS (A:=X.A) ra hs.1 ∅ rb hs.2;refine SeqAt.in_listAt e pl.isList (λy hy=>he y (by simpa using hy)) ⟨.bl _,H,I,rfl,?_⟩;have:aC.toArray.any e=oR p qs:=by rw[<- wB];simp
       rw[this];exact h.now m
      ·obtain⟨aC,rv,pl,_⟩:=I.tuple sq;obtain⟨bs,rb⟩:=cJ I 30 (ff I m 30) ds xs aC qs rd rv q3;obtain⟨e,he,wB⟩:=lS (A:=X.A) ra hs.1 ∅ rb hs.2;refine SeqAt.in_tupleAt e (show s.heap.IsTuple a aC.toArray from pl) (λy hy=>he y (by simpa using hy)) ⟨.bl _,H,I,rfl,?_⟩;have:aC.toArray.any e=oR p qs:=by rw[<- wB];simp
       rw[this];exact h.now m
     ·exact h.elim
 | iK =>
  dsimp only at h
  cases q2:bC M wy with
  | none =>
   rw[q2]at h
   have h:GH X.K ads H Q (match wk wx,i4 M wy with
    | some k,some az=>.ok (!(lJ az k).isSome) M
    | _,_=>.ae):=by cases hp:lH M wx<;>rw[hp]at h<;>exact h
   cases q3:wk wx with
   | none=>rw[q3]at h;exact h.elim
   | some k =>
    cases q4:i4 M wy with
    | none=>rw[q3,q4]at h;exact h.elim
    | some az =>
     rw[q3,q4]at h;have ek:=C4 r1 q3;subst ek;obtain⟨a,ks,rfl,ha,ra⟩:=rn m r2 q4;cases ry;obtain⟨o,g,eo⟩:=yu (k:=k) ha ra;refine FQ ∅ I g rx λs' I'=>⟨.bl _,H,I',rfl,?_⟩;rw[eo];exact h.now m
  | some TV =>
   cases q1:lH M wx with
   | none=>rw[q1,q2]at h;exact h.elim
   | some p =>
    obtain⟨l,ds⟩:=TV;rw[q1,q2]at h;dsimp only at h
    cases q3:bO M 30 ds with
    | none=>rw[q3]at h;exact h.elim
    | some qs =>
     rw[q3]at h;dsimp only at h;split at h
     ·rename_i hs
      obtain⟨as,ra⟩:=gm I m r1 rx q1;obtain⟨a,xs,ea,rd,sq⟩:=eQ m r2 q2;subst ea;cases ry;rcases sq with⟨_,sq⟩|⟨_,sq⟩
      ·obtain⟨aC,rv,pl,_⟩:=I.list sq;obtain⟨bs,rb⟩:=cJ I 30 (ff I m 30) ds xs aC qs rd rv q3;obtain⟨e,he,wB⟩:=lS (A:=X.A) ra hs.1 ∅ rb hs.2;refine SeqAt.notIn_listAt e pl.isList (λy hy=>he y (by simpa using hy)) ⟨.bl _,H,I,rfl,?_⟩;have:aC.toArray.any e=oR p qs:=by rw[<- wB];simp
       rw[this];exact h.now m
      ·obtain⟨aC,rv,pl,_⟩:=I.tuple sq;obtain⟨bs,rb⟩:=cJ I 30 (ff I m 30) ds xs aC qs rd rv q3;obtain⟨e,he,wB⟩:=lS (A:=X.A) ra hs.1 ∅ rb hs.2;refine SeqAt.notIn_tupleAt e (show s.heap.IsTuple a aC.toArray from pl) (λy hy=>he y (by simpa using hy)) ⟨.bl _,H,I,rfl,?_⟩;have:aC.toArray.any e=oR p qs:=by rw[<- wB];simp
       rw[this];exact h.now m
     ·exact h.elim
end
end
section
variable [EX]
section
variable {K:PySem.W.Frag} {ads:List Addr} {H:Hp} {M:ag}
theorem O0{w:W}{v:V}{k:Bool}(m:aI K ads H M)(r:RW K ads H w v)(e:oS M w=some k):BY K v H k:=by
 have seq:∀w,RW K ads H w v->((bC M w).map λp=>!p.2.isEmpty)=some k->BY K v H k:=by
  intro w r e
  cases q:bC M w with
  | none=>rw[q]at e;cases e
  | some p =>
   obtain⟨l,ds⟩:=p;rw[q]at e;have e:(!ds.isEmpty)=k:=cH e;obtain⟨a,xs,rfl,rd,sq⟩:=eQ m r q;have hl:=rd.len
   have ex:k=!xs.isEmpty:=by
    rw[<- e];cases ds<;>cases xs<;>simp_all
   rcases sq with⟨_,sq⟩|⟨_,sq⟩
   ·exact .inl ⟨xs,sq,ex⟩
   ·exact .inr (.inl ⟨xs,sq,ex⟩)
 cases w with
 | lv ds=>exact seq _ r e
 | d x =>
  cases x with
  | a6=>rw[nj r];exact(cH e).symm
  | bl b=>rw[iM r];exact(cH e).symm
  | int i=>rw[aP r];exact(cH e).symm
  | str s=>exact seq _ r e
  | tup ds=>exact seq _ r e
  | aJ n=>exact seq _ r e
  | ls n=>exact seq _ r e
theorem aN.tW{ds:List D}{xs:List V}{i:Int}{d:D}(r:aN K ads H ds xs)(e:L2.tW ds i=some d):∃v,L2.tW xs i=some v/\RD K ads H d v:=by
 unfold L2.tW at e⊢;rw[<- r.len]
 cases q:FZ ds.length i with
 | none=>rw[q]at e;cases e
 | some j=>rw[q]at e;exact r.get e
theorem aN.cut{ds:List D}{xs:List V}{lo hi:Option Int}(r:aN K ads H ds xs):aN K ads H (cutD ds lo hi) (tV xs lo hi):=by
 unfold cutD tV;rw[<- r.len];exact(r.drop _).take _
theorem bN.any{κ:Type}[DecidableEq κ]{k:κ}:∀{az:List (κ×D)}{ks:List (κ×V)},bN K ads H az ks->(az.any λkv=>decide (kv.1=k))=(ks.any λkv=>decide (kv.1=k))
 | [],_,r=>by unfold bN at r;subst r;rfl
 | p::ps,ks,r=>by unfold bN at r;obtain⟨x,r',rfl,h0,h1,h2⟩:=r;simp[bN.any h2,h0]
theorem bN.map{κ:Type}[DecidableEq κ]{k:κ}{d:D}{v:V}(rd:RD K ads H d v):∀{az:List (κ×D)}{ks:List (κ×V)},bN K ads H az ks->bN K ads H (az.map λkv=>if kv.1=k then (kv.1,d) else kv) (ks.map λkv=>if kv.1=k then (kv.1,v) else kv)
 | [],_,r=>by unfold bN at r;subst r;simp;unfold bN;rfl
 | p::ps,ks,r=>by
  unfold bN at r;obtain⟨x,r',rfl,h0,h1,h2⟩:=r;simp only[eM];unfold bN;refine⟨_,_,rfl,?_,?_,bN.map rd h2⟩
  ·rw[h0];split<;>first | rfl | exact h0
  ·rw[h0];split<;>first | exact rd | exact h1
theorem bN.app{κ:Type}:∀{az es:List (κ×D)}{ks fs:List (κ×V)},bN K ads H az ks->bN K ads H es fs->bN K ads H (az++es) (ks++fs)
 | [],_,_,_,r,q=>by unfold bN at r;subst r;exact q
 | p::ps,es,ks,fs,r,q=>by
  unfold bN at r;obtain⟨x,r',rfl,h0,h1,h2⟩:=r;show bN K ads H (p::(ps++es)) (x::(r'++fs));unfold bN;exact⟨x,_,rfl,h0,h1,bN.app h2 q⟩
theorem bN.put{κ:Type}[DecidableEq κ]{k:κ}{d:D}{v:V}{az:List (κ×D)}{ks:List (κ×V)}(r:bN K ads H az ks)(rd:RD K ads H d v):bN K ads H (uC az k d) (fu ks k v):=by
 unfold uC fu;rw[r.any (k:=k)];split
 ·exact bN.map rd r
 ·refine r.app ?_;unfold bN;exact⟨_,[],rfl,rfl,rd,by unfold bN;rfl⟩
end
section
variable {X:Cx} {M':ag}
def N0(K:PySem.W.Frag):R2:=λx y H Q=>∃ads M wx wy,aI K ads H M/\RW K ads H wx x/\RW K ads H wy y/\bL K ads H Q (d6 wx wy M)
theorem K7(hu:X.A.units+1<cLine):Od X (N0 X.K):=by
 intro value jB aa s σ H x y v u Q I rx ry h hs;obtain⟨ads,M,wx,wy,m,r1,r2,h⟩:=h;unfold d6 at h;split at h
 ·rename_i i
  have ey:=aP r2;subst ey
  cases q:bC M wx with
  | some p =>
   obtain⟨l,ds⟩:=p;rw[q]at h;dsimp only at h
   cases q2:Q3 ds i with
   | none=>rw[q2]at h;exact h.elim
   | some d =>
    rw[q2]at h;obtain⟨a,xs,rfl,rd,sq⟩:=eQ m r1 q;obtain⟨z,e2,rz⟩:=rd.tW q2;rcases sq with⟨_,sq⟩|⟨_,sq⟩
    ·exact F0 value jB aa s σ H _ _ v u Q I rx ry ⟨a,xs,i,z,rfl,rfl,sq,e2,h.plain m rz⟩ hs
    ·exact Kq value jB aa s σ H _ _ v u Q I rx ry ⟨a,xs,i,z,rfl,rfl,sq,e2,h.plain m rz⟩ hs
  | none =>
   rw[q]at h;dsimp only at h;split at h
   ·split at h
    ·rename_i z hz
     have ex:=dD r1;subst ex
     cases q2:L2.tW z.cps.toList i with
     | none=>rw[q2]at h;exact h.elim
     | some c =>
      rw[q2]at h;exact Kr value jB aa s σ H _ _ v u Q I rx ry ⟨_,i,c,rfl,rfl,hz,q2,h.plain m (rm _)⟩ hs
    ·exact h.elim
   ·rename_i n
    have r1:RD X.K ads H (.aJ n) x:=r1;unfold RD at r1;obtain⟨a,rfl,ea⟩:=r1;split at h
    ·rename_i az q
     obtain⟨ks,hk,rk⟩:=m.obj n _ a q ea;split at h
     ·rename_i d q2
      obtain⟨z,e2,rz⟩:=rk.find (k:=Sum.inl i) q2;cases rx;have g:lC H a (kV (Sum.inl i)) (some z):=by have:=lC.k (k:=Sum.inl i) hk;rw[e2]at this;exact this
      exact tail_any (kS I g) F.slot_dict_getitem.lookup (pE hu I g ry λw' s' I' Aa=>⟨z,H,I',Aa,h.plain m rz⟩) hs
     ·exact h.elim
    ·exact h.elim
   ·exact h.elim
 ·rename_i k
  have ey:=dD r2;subst ey;split at h
  ·rename_i n
   have r1:RD X.K ads H (.aJ n) x:=r1;unfold RD at r1;obtain⟨a,rfl,ea⟩:=r1;split at h
   ·rename_i az q
    obtain⟨ks,hk,rk⟩:=m.obj n _ a q ea;split at h
    ·rename_i d q2
     obtain⟨z,e2,rz⟩:=rk.find (k:=Sum.inr k) q2;cases rx;have g:lC H a (kV (Sum.inr k)) (some z):=by have:=lC.k (k:=Sum.inr k) hk;rw[e2]at this;exact this
     exact tail_any (kS I g) F.slot_dict_getitem.lookup (pE hu I g ry λw' s' I' Aa=>⟨z,H,I',Aa,h.plain m rz⟩) hs
    ·exact h.elim
   ·exact h.elim
  ·exact h.elim
 ·exact h.elim
def TX(K:PySem.W.Frag):V->Option Int->Option Int->Hp->VK->Prop:=λx lo hi H Q=>∃ads M wx,aI K ads H M/\RW K ads H wx x/\bL K ads H Q (kB wx lo hi M)
theorem K8:Ob X (TX X.K):=by
 intro aa s σ H x v vl vu lo hi sl Q I rx hs pl pu h;obtain⟨ads,M,wx,m,r1,h⟩:=h;unfold kB at h;split at h
 ·rename_i ds q
  obtain⟨a,xs,rfl,rd,sq⟩:=eQ m r1 q;rcases sq with⟨_,sq⟩|⟨e,_⟩
  ·exact F1 aa s σ H _ v vl vu lo hi sl Q I rx hs pl pu ⟨a,xs,rfl,sq,λp hp=>h.list m rd.cut hp⟩
  ·cases e
 ·rename_i ds q
  obtain⟨a,xs,rfl,rd,sq⟩:=eQ m r1 q;rcases sq with⟨e,_⟩|⟨_,sq⟩
  ·cases e
  ·by_cases hw:HT.cB ds.length 0 lo=0/\HT.cB ds.length ds.length hi=ds.length
   ·have e:cutD ds lo hi=ds:=by
     unfold cutD;rw[hw.1,hw.2,List.drop_zero,Nat.sub_zero,List.take_length]
    rw[e]at h;refine Gu aa s σ H _ v vl vu lo hi sl Q I rx hs pl pu ⟨a,xs,rfl,sq,by rw[<- rd.len];exact hw,h.plain m ?_⟩;rcases wx with d | l
    ·cases d with
     | tup es=>cases q;exact r1
     | aJ n =>
      unfold bC at q
      try dsimp only at q
      split at q<;>cases q
     | _=>cases q
    ·cases q
   ·refine Ko aa s σ H _ v vl vu lo hi sl Q I rx hs pl pu ⟨a,xs,rfl,sq,by rw[<- rd.len];exact hw,λp hp=>h.tuple m rd.cut hp⟩
 ·exact h.elim
theorem bL.TY{K:PySem.W.Frag}{ads:List Addr}{H:Hp}{Q:VK}{M:ag}{az:List (bS×D)}{ks:List (bS×V)}{p:Addr}(q:bL K ads H Q (.ok (.d (.aJ M.length)) (M++[.dK az])))(m:aI K ads H M)(hp:H p=none)(r:bN K ads H az ks):Q (.ref p) (bu H p (.dK ks)):=by
 have pn:=m.fresh hp;have g0:aB ads ads H (bu H p (.dK ks)):=aB.dN m hp;have m1:aI K ads (bu H p (.dK ks)) M:=m.dN hp;have m2:=m1.push (o:=.dK az) pn ⟨_,aV,g0.CO _ _ r⟩;refine q (.ref p) _ (ads++[p]) ⟨⟨[p],rfl⟩,λb hb nb=>?_,g0.kept,g0.fH,g0.gI⟩ m2 ?_
 ·rcases iu.mp hb with z | z
  ·exact absurd z nb
  ·have:b=p:=by simpa using z
   subst this;exact hp
 ·show RD K (ads++[p]) (bu H p (.dK ks)) (.aJ M.length) (.ref p);unfold RD;exact⟨p,rfl,by rw[oy (by rw[m.len];exact aq _)];simp[m.len]⟩
def GJ(K:PySem.W.Frag)(ads:List Addr)(H:Hp):List W->List V->Prop
 | [],vs=>vs=[]
 | w::ws,vs=>∃v r,vs=v::r/\RW K ads H w v/\GJ K ads H ws r
def C6(K:PySem.W.Frag)(b:Bi):List V->Hp->VK->Prop:=λvs H Q=>∃ads M ws,aI K ads H M/\GJ K ads H ws vs/\bL K ads H Q (fG b ws M)
theorem GJ.one{K:PySem.W.Frag}{ads:List Addr}{H:Hp}{w:W}{vs:List V}(r:GJ K ads H [w] vs):∃v,vs=[v]/\RW K ads H w v:=by
 obtain⟨v,r,rfl,h,h2⟩:=r;have h2:r=[]:=h2;subst h2;exact⟨v,rfl,h⟩
theorem GJ.two{K:PySem.W.Frag}{ads:List Addr}{H:Hp}{w w2:W}{vs:List V}(r:GJ K ads H [w,w2] vs):∃v v2,vs=[v,v2]/\RW K ads H w v/\RW K ads H w2 v2:=by
 obtain⟨v,r,rfl,h,h2⟩:=r;obtain⟨v2,rfl,h3⟩:=GJ.one h2;exact⟨v,v2,rfl,h,h3⟩
theorem K9:cL X (.builtin "len") (C6 X.K .len):=by
 intro aa s σ H xs us Q I r h;obtain⟨ads,M,ws,m,rw,h⟩:=h;rcases ws with _|⟨w,_|⟨w2,ws⟩⟩
 ·exact h.elim
 ·obtain⟨v,rfl,rv⟩:=rw.one;unfold fG at h;dsimp only at h;split at h
  ·rename_i l ds q
   obtain⟨a,ys,rfl,rd,sq⟩:=eQ m rv q;refine qM aa s σ H _ us Q I r ⟨a,ys,rfl,?_,by rw[<- rd.len];exact h.plain m (cu _)⟩;rcases sq with⟨_,sq⟩|⟨_,sq⟩
   ·exact .inl sq
   ·exact .inr sq
  ·split at h
   ·split at h
    ·rename_i hz
     have e1:=dD rv;subst e1;exact qN aa s σ H _ us Q I r ⟨_,rfl,hz,h.plain m (cu _)⟩
    ·exact h.elim
   ·exact h.elim
 ·exact h.elim
theorem AG {aa : List (Addr × Obj)} {σ : L2.St} {H : Hp} {s : Shared} {a : Addr} {xs : List V} {A : Around} (hh : A.handled = none) (I : Inv X aa σ H s) (sq : eO X.K H a xs \/ fF X.K H a xs) {Q : Value -> Shared -> Prop} {E : Value -> Shared -> Prop}
    (q:∀(aC:List Value)(I1:Addr)(fp wr:List Addr)(St:Nat->Heap->Prop)(s2:Shared),aL xs aC->Walks X.prog X.w A I1 fp wr aC.length (λi v=>aC[i]?=some v) St->St 0 s2.heap->(∀b∈fp,b<s2.heap.objs.size) ->
      (∀h' tk,(∀b o,b∉wr->s2.heap.get? b=some o->h'.get? b=some o)->Inv X aa σ H {s2 with heap:=h',toks:=tk})->Q (.ref I1) s2):wpAny (model X.prog X.w) A (pyIter (.ref a)) Q E s:=by
  have kp:∀{o:Obj}{h':Heap}{tk:Nat},(∀b u,b∉[s.heap.objs.size]->(s.heap.push o).get? b=some u->h'.get? b=some u)->Inv X aa σ H {s with heap:=h',toks:=tk}:=λ{o h' tk} k =>
    I.kept λb u e=>k b u (λz=>by
      have hb:b=s.heap.objs.size:=by simpa using z
      exact absurd (bp e) (by rw[hb];exact mE _)) (aR _ e)
  rcases sq with sq | sq
  · obtain⟨aC,rv,pl,hz⟩:=I.list sq;obtain⟨o,ho,hc,n,hd⟩:=pl.isList;have EU:=bp ho;have W:=Walks.list (prog:=X.prog) (w:=X.w) hh s.heap.objs.size a (bW EU) aC.toArray;simp only[cg,E3]at W;refine vD pl.isList (q aC _ _ _ _ _ rv W ⟨⟨_,cw _ rfl,rfl,rfl⟩,⟨o,aR _ ho,hc,n,hd⟩⟩ (λb hb=>?_) λh' tk k=>kp k);show b<(s.heap.push _).objs.size;rw[iw];have hb:b=s.heap.objs.size\/b=a:=by simpa using hb
    rcases hb with z | z
    · rw[z];exact jq _
    · rw[z];exact jm EU
  · obtain⟨aC,rv,pl,hz⟩:=I.tuple sq;obtain⟨o,ho,hc,n,hd⟩:=id pl;have EU:=bp ho;have W:=Walks.tuple (prog:=X.prog) (w:=X.w) hh s.heap.objs.size a (bW EU) aC.toArray;simp only[cg,E3]at W;refine zq (show s.heap.IsTuple a aC.toArray from pl) (q aC _ _ _ _ _ rv W ⟨⟨_,cw _ rfl,rfl,rfl⟩,⟨o,aR _ ho,hc,n,hd⟩⟩ (λb hb=>?_) λh' tk k=>kp k);show b<(s.heap.push _).objs.size;rw[iw];have hb:b=s.heap.objs.size\/b=a:=by simpa using hb
    rcases hb with z | z
    · rw[z];exact jq _
    · rw[z];exact jm EU
theorem C7{K:PySem.W.Frag}{ads:List Addr}{H:Hp}:∀{ds:List D}{bs:List Bool}{ys:List V}{aC:List Value},oU ds=some bs->aN K ads H ds ys->aL ys aC->aC=bs.map Value.bool
 | [],bs,ys,aC,e,r,v=>by
  cases e;unfold aN at r;subst r;cases v;rfl
 | d::ds,bs,ys,aC,e,r,v=>by
  unfold aN at r;obtain⟨x,r',rfl,h1,h2⟩:=r;cases d<;>first | cases e | skip
  rename_i b
  unfold RD at h1;subst h1
  cases v with
  | cons hv hr =>
   cases hv;unfold oU at e
   cases q:oU ds with
   | none=>rw[q]at e;cases e
   | some cs =>
    rw[q]at e;cases e;rw[C7 q h2 hr];rfl
theorem AH(bs:List Bool):(List.range bs.length).all (λi=>bs.getD i true)=bs.all id:=by
 rw[Bool.eq_iff_iff,ir,ir];constructor
 ·intro h b hb;obtain⟨i,hi,rfl⟩:=qd.mp hb;have:=h i (Fl.mpr hi);simpa[p_,hi]using this
 ·intro h i hi;have hi:=Fl.mp hi;have:=h bs[i] (sV hi);simpa[p_,hi]using this
theorem AI{A:Around}(bs:List Bool):TruthOf X.prog X.w A (λi v=>(bs.map Value.bool)[i]?=some v) λi=>bs.getD i true:=by
 intro i v s Q E hP hQ;rw[dy]at hP
 cases q:bs[i]? with
 | none=>rw[q]at hP;cases hP
 | some b =>
  rw[q]at hP;cases hP;have e:bs.getD i true=b:=by rw[p_,q];rfl
  have hQ:Q (bs.getD i true) s:=hQ;rw[e]at hQ;unfold truthy;exact aj hQ
theorem K_(hc:X.calm=true):cL X (.builtin "all") (C6 X.K .all1):=by
 intro aa s σ H xs us Q I r h;obtain⟨ads,M,ws,m,rw,h⟩:=h;rcases ws with _|⟨w,_|⟨w2,ws⟩⟩
 ·exact h.elim
 ·obtain⟨v,rfl,rv⟩:=rw.one;unfold fG at h;dsimp only at h;split at h
  ·rename_i l ds q
   split at h
   ·rename_i bs qb
    obtain⟨a,ys,rfl,rd,sq⟩:=eQ m rv q;obtain⟨u,rfl,ru⟩:=vals1 r;cases ru;refine call_all_walk (AG (A:=X.A.in1) (I.ok.hd hc) I (sq.elim (λz=>.inl z.2) λz=>.inr z.2) λaC I1 fp wr St s2 vs W st hfp inv=>?_);have e:=C7 qb rd vs;subst e;refine⟨I1,fp,wr,(bs.map Value.bool).length,_,St,λi=>bs.getD i true,rfl,W,st,AI bs,λh' tk hk=>⟨.bl (bs.all id),H,inv h' tk hk,?_,h.plain m (iN _)⟩⟩;rw[aZ,AH];rfl
   ·exact h.elim
  ·exact h.elim
 ·exact h.elim
theorem GK:cL X (.type "list") (C6 X.K .list1):=by
 intro aa s σ H xs us Q I r h;obtain⟨ads,M,ws,m,rw,h⟩:=h;rcases ws with _|⟨w,_|⟨w2,ws⟩⟩
 ·exact h.elim
 ·obtain⟨v,rfl,rv⟩:=rw.one;unfold fG at h;dsimp only at h;split at h
  ·rename_i l ds q
   obtain⟨a,ys,rfl,rd,sq⟩:=eQ m rv q;refine qO aa s σ H _ us Q I r ⟨a,ys,rfl,?_,λp hp=>h.list m rd hp⟩;rcases sq with⟨_,sq⟩|⟨_,sq⟩
   ·exact .inl sq
   ·exact .inr sq
  ·exact h.elim
 ·exact h.elim
theorem C8:cL X (.type "tuple") (C6 X.K .tuple1):=by
 intro aa s σ H xs us Q I r h;obtain⟨ads,M,ws,m,rw,h⟩:=h;rcases ws with _|⟨w,_|⟨w2,ws⟩⟩
 ·exact h.elim
 ·obtain⟨v,rfl,rv⟩:=rw.one;unfold fG at h;dsimp only at h;split at h
  ·rename_i l ds q
   have hq:=q;obtain⟨a,ys,rfl,rd,sq⟩:=eQ m rv q;rcases sq with⟨_,sq⟩|⟨el,sq⟩
   ·exact iI aa s σ H _ us Q I r ⟨a,ys,rfl,.inl ⟨sq,λp hp=>h.tuple m rd hp⟩⟩
   ·refine iI aa s σ H _ us Q I r ⟨a,ys,rfl,.inr ⟨sq,h.plain m ?_⟩⟩;subst el
    cases w with
    | lv es=>cases hq
    | d x =>
     cases x with
     | tup es =>
      have e:es=ds:=by simpa[bC]using hq
      subst e;exact rv
     | aJ n =>
      simp only[bC]at hq;split at hq<;>cases hq
     | ls _=>cases hq
     | a6=>cases hq
     | bl _=>cases hq
     | int _=>cases hq
     | str _=>cases hq
  ·exact h.elim
 ·exact h.elim
theorem La(hc:X.calm=true):cL X (.builtin "max") (C6 X.K .max2):=by
 intro aa s σ H xs us Q I r h;obtain⟨ads,M,ws,m,rw,h⟩:=h;rcases ws with _|⟨w,_|⟨w2,_|⟨w3,ws⟩⟩⟩
 ·exact h.elim
 ·rcases w with⟨_|_|_|_|_|_⟩|_<;>exact h.elim
 ·rcases w with⟨_|_ | i | _|_|_⟩|_<;>first | exact h.elim | skip
  rcases w2 with⟨_|_ | j | _|_|_⟩|_<;>first | exact h.elim | skip
  obtain⟨v,v2,rfl,r1,r2⟩:=rw.two;have e1:=aP r1;have e2:=aP r2;subst e1 e2;exact zU hc aa s σ H _ us Q I r ⟨i,j,rfl,bL.plain h m (cu _)⟩
 ·rcases w with⟨_|_ | i | _|_|_⟩|_<;>first | exact h.elim | skip
  rcases w2 with⟨_|_ | j | _|_|_⟩|_<;>exact h.elim
theorem Lb(hc:X.calm=true):cL X (.builtin "min") (C6 X.K .min2):=by
 intro aa s σ H xs us Q I r h;obtain⟨ads,M,ws,m,rw,h⟩:=h;rcases ws with _|⟨w,_|⟨w2,_|⟨w3,ws⟩⟩⟩
 ·exact h.elim
 ·rcases w with⟨_|_|_|_|_|_⟩|_<;>exact h.elim
 ·rcases w with⟨_|_ | i | _|_|_⟩|_<;>first | exact h.elim | skip
  rcases w2 with⟨_|_ | j | _|_|_⟩|_<;>first | exact h.elim | skip
  obtain⟨v,v2,rfl,r1,r2⟩:=rw.two;have e1:=aP r1;have e2:=aP r2;subst e1 e2;exact zV hc aa s σ H _ us Q I r ⟨i,j,rfl,bL.plain h m (cu _)⟩
 ·rcases w with⟨_|_ | i | _|_|_⟩|_<;>first | exact h.elim | skip
  rcases w2 with⟨_|_ | j | _|_|_⟩|_<;>exact h.elim
theorem dU(n:Nat)(hA:∀d p,dB M' n d=some p->p.hasDict=false):∀(ds:List D)(ps:List PyData),bO M' n ds=some ps->PyData.hasDictAll ps=false
 | [],ps,e=>by unfold bO at e;cases e;rfl
 | d::ds,ps,e=>by
  unfold bO at e
  cases q1:dB M' n d with
  | none=>rw[q1]at e;cases e
  | some p =>
   cases q2:bO M' n ds with
   | none=>rw[q1,q2]at e;cases e
   | some qs =>
    rw[q1,q2]at e;cases e;rw[PyData.hasDictAll,hA d p q1,dU n hA ds qs q2];rfl
theorem uJ:∀(n:Nat)(d:D)(p:PyData),dB M' n d=some p->p.hasDict=false:=by
 intro n
 induction n with
 | zero=>intro d p e;cases d<;>(unfold dB at e;cases e)<;>simp[PyData.hasDict]
 | succ n ih =>
  intro d p e
  cases d with
  | tup ds =>
   unfold dB at e
   cases q:bO M' n ds with
   | none=>rw[q]at e;cases e
   | some ps=>rw[q]at e;cases e;rw[PyData.hasDict];exact dU n ih ds ps q
  | aJ k =>
   unfold dB at e;split at e
   ·cases q:bO M' n _ with
    | none=>rw[q]at e;cases e
    | some ps=>rw[q]at e;cases e;rw[PyData.hasDict];exact dU n ih _ ps q
   ·cases q:bO M' n _ with
    | none=>rw[q]at e;cases e
    | some ps=>rw[q]at e;cases e;rw[PyData.hasDict];exact dU n ih _ ps q
   ·cases e
  | ls ds =>
   unfold dB at e
   cases q:bO M' n ds with
   | none=>rw[q]at e;cases e
   | some ps=>rw[q]at e;cases e;rw[PyData.hasDict];exact dU n ih ds ps q
  | a6=>unfold dB at e;cases e;simp[PyData.hasDict]
  | bl _=>unfold dB at e;cases e;simp[PyData.hasDict]
  | int _=>unfold dB at e;cases e;simp[PyData.hasDict]
  | str _=>unfold dB at e;cases e;simp[PyData.hasDict]
theorem Lc:cL X (.type "int") (C6 X.K .uB):=by
 intro aa s σ H xs us Q I r h;obtain⟨ads,M,ws,m,rw,h⟩:=h;rcases ws with _|⟨w,_|⟨w2,ws⟩⟩
 ·exact h.elim
 ·obtain⟨v,rfl,rv⟩:=rw.one
  cases w with
  | lv ds=>exact h.elim
  | d x =>
   cases x with
   | int i =>
    have e:=aP rv;subst e;exact pk aa s σ H _ us Q I r (.inl ⟨i,rfl,bL.plain h m (cu _)⟩)
   | bl i =>
    have e:=iM rv;subst e;exact pk aa s σ H _ us Q I r (.inr ⟨i,rfl,bL.plain h m (cu _)⟩)
   | a6=>exact h.elim
   | str _=>exact h.elim
   | tup _=>exact h.elim
   | aJ _=>exact h.elim
   | ls _=>exact h.elim
 ·rcases w with⟨_|_|_|_|_|_⟩|_<;>exact h.elim
theorem GL{k:Nat}(hr:fK k X.A):cL X (.builtin "repr") (C6 X.K .d5):=by
 intro aa s σ H xs us Q I r h;obtain⟨ads,M,ws,m,rw,h⟩:=h;rcases ws with _|⟨w,_|⟨w2,ws⟩⟩
 ·exact h.elim
 ·obtain⟨v,rfl,rv⟩:=rw.one;unfold fG at h;dsimp only at h;split at h
  ·rename_i p q
   split at h
   ·rename_i hs
    obtain⟨u,rfl,ru⟩:=vals1 r;obtain⟨as,ra⟩:=gm I m rv ru q;have Q8:=hr.un
    have d_:∀(h':Heap)(t:Tok)(tk:Nat),(∀b o,s.heap.get? b=some o->h'.get? b=some o)->EP X aa σ Q (.str p.shown t) {s with heap:=h',toks:=tk}:=λh' t tk hk =>
     ⟨.str p.shown,H,I.kept hk,⟨t,rfl⟩,h.plain m (rm _)⟩
    have GN:∀(t:Tok)(tk:Nat),EP X aa σ Q (.str p.shown t) {s with toks:=tk}:=λt tk=>d_ s.heap t tk λ_ _ e=>e
    have nd:p.hasDict=false:=by
     cases w with
     | d x=>exact uJ 30 x p q
     | lv ds =>
      have e:(bO M 30 ds).map PyData.list=some p:=q
      cases q2:bO M 30 ds with
      | none=>rw[q2]at e;cases e
      | some ps=>rw[q2]at e;cases e;rw[PyData.hasDict];exact dU 30 (uJ 30) ds ps q2
    cases ra with
    | none=>exact PySem.P.repr_of_none (GN _ _)
    | bool b=>exact PySem.P.repr_of_bool (GN _ _)
    | int i t=>exact PySem.P.repr_of_int (of_decide_eq_true hs.1) (GN _ _)
    | str x t=>exact PySem.P.repr_of_str (GN _ _) hs.2.2
    | list h1 h2 h3 h4=>exact repr_of_reads' (.list h1 h2 h3 h4) hs.1 (PyData.noDict_hsm nd) hr.gd (by have:=hs.2.1;omega) (λ_ _ e=>e) (λh' t tk hk=>d_ h' t tk hk) hs.2.2
    | tuple h1 h2 h3 h4=>exact repr_of_reads' (.tuple h1 h2 h3 h4) hs.1 (PyData.noDict_hsm nd) hr.gd (by have:=hs.2.1;omega) (λ_ _ e=>e) (λh' t tk hk=>d_ h' t tk hk) hs.2.2
    | dict h1 h2 h3 h4 h5=>rw[PyData.hasDict]at nd;cases nd
   ·exact h.elim
  ·exact h.elim
 ·exact h.elim
theorem Ld:cL X (.type "str") (C6 X.K .str1):=by
 intro aa s σ H xs us Q I r h;obtain⟨ads,M,ws,m,rw,h⟩:=h;rcases ws with _|⟨w,_|⟨w2,ws⟩⟩
 ·exact h.elim
 ·obtain⟨v,rfl,rv⟩:=rw.one;rcases w with⟨_|_ | i | _|_|_|_⟩|_<;>first | exact h.elim | skip
  have h:bL X.K ads H Q (if i.natAbs.log2<1920 then .ok (.d (.str (Str.ofString (toString i)))) M else .ae):=h;split at h
  ·rename_i hi
   obtain⟨u,rfl,ru⟩:=vals1 r;rw[aP rv]at ru;obtain⟨t,rfl⟩:=ru;exact PySem.P.str_of_int hi ⟨.str _,H,I.tok _,⟨_,rfl⟩,h.plain m (rm _)⟩
  ·exact h.elim
 ·rcases w with⟨_|_|_|_|_|_|_⟩|_<;>exact h.elim
noncomputable def uK:Ty->String
 | .int => "int" | .bool => "bool" | .str => "str" | .tuple => "tuple" | .list => "list" | .dict => "dict" | .none => "NoneType"
theorem GO(K:PySem.W.Frag):∀g t:Ty,PySem.W.kitOne K (.type (uK g)) (.type (uK t))=some (decide (g=t)||(decide (g=.bool)&&decide (t=.int))):=by
 intro g t;cases g<;>cases t<;>kernel_rfl
theorem Le{K:PySem.W.Frag}{ads:List Addr}{H:Hp}{M:ag}{w:W}{v:V}{g:Ty}(m:aI K ads H M)(r:RW K ads H w v)(e:wq M w=some g):km K H v (.type (uK g)):=by
 cases w with
 | lv ds=>cases e;obtain⟨a,xs,rfl,h,_⟩:=r;exact .lst h
 | d x =>
  cases x with
  | a6=>cases e;rw[nj r];exact .a6
  | bl b=>cases e;rw[iM r];exact .bl b
  | int b=>cases e;rw[aP r];exact .int b
  | str b=>cases e;rw[dD r];exact .str b
  | ls b=>cases e
  | tup b=>cases e;have r:RD K ads H (.tup b) v:=r;unfold RD at r;obtain⟨a,xs,rfl,h,_⟩:=r;exact .tup h
  | aJ n =>
   have r:RD K ads H (.aJ n) v:=r;unfold RD at r;obtain⟨a,rfl,ea⟩:=r;unfold wq at e;dsimp only at e
   cases q:M[n]? with
   | none=>rw[q]at e;cases e
   | some o =>
    rw[q]at e;have ho:=m.obj n o a q ea
    cases o with
    | lst es=>cases e;obtain⟨xs,h,_⟩:=ho;exact .lst h
    | iJ es=>cases e;obtain⟨o,xs,h,_⟩:=ho;exact .gI h
    | dK es=>cases e;obtain⟨xs,h,_⟩:=ho;exact .dK h
    | dT es=>cases e;obtain⟨xs,h,_⟩:=ho;exact .dT h
    | dF es=>cases e
    | xc _ _=>cases e
theorem Lf(t:Ty):cL X (.builtin "isinstance") (λvs H Q=>∃v,vs=[v,.ty (uK t)]/\C6 X.K (.j5 t) [v] H Q):=by
 intro aa s σ H xs us Q I r h;obtain⟨v,rfl,ads,M,ws,m,rw,h⟩:=h;obtain⟨u,u2,rfl,r1,r2⟩:=vals2 r;rcases ws with _|⟨w,_|⟨w2,ws⟩⟩
 ·exact h.elim
 ·obtain⟨v',e,rv⟩:=rw.one;cases e;unfold fG at h;dsimp only at h;split at h
  ·rename_i g q
   have e2:u2=Value.type (uK t):=r2;subst e2;exact zX I r1 (Le m rv q) (GO X.K g t) λtk=>⟨.bl _,H,I.tok tk,rfl,h.plain m (iN _)⟩
  ·exact h.elim
 ·obtain⟨_,_,e,_,_,_,e2,_⟩:=rw;cases e;cases e2
end
end
section
variable [EX]
section
variable {X:Cx}
def O1(K:PySem.W.Frag)(me:Me):V->List V->Hp->VK->Prop:=λx vs H Q=>∃ads M wx ds,aI K ads H M/\RW K ads H wx x/\aN K ads H ds vs/\bL K ads H Q (sL me wx ds M)
theorem aN.O2{K:PySem.W.Frag}{ads:List Addr}{H:Hp}{d:D}{vs:List V}(r:aN K ads H [d] vs):∃v,vs=[v]/\RD K ads H d v:=by
 unfold aN at r;obtain⟨v,r',rfl,h,h2⟩:=r;unfold aN at h2;subst h2;exact⟨v,rfl,h⟩
theorem aN.TZ{K:PySem.W.Frag}{ads:List Addr}{H:Hp}{vs:List V}(r:aN K ads H [] vs):vs=[]:=by
 unfold aN at r;exact r
theorem aN.T1{K:PySem.W.Frag}{ads:List Addr}{H:Hp}{d e:D}{vs:List V}(r:aN K ads H [d,e] vs):∃v w,vs=[v,w]/\RD K ads H d v/\RD K ads H e w:=by
 unfold aN at r;obtain⟨v,r',rfl,h,h2⟩:=r;obtain⟨w,rfl,h3⟩:=h2.O2;exact⟨v,w,rfl,h,h3⟩
theorem bL.wrote{K:PySem.W.Frag}{ads:List Addr}{H:Hp}{M:ag}{n:Nat}{a:Addr}{ds es:List D}{ys:List V}{x:D}{Q:VK}{v:V}(h:bL K ads H Q (.ok (.d x) (M.set n (.lst es))))(m:aI K ads H M)(q:M[n]?=some (.lst ds))(ea:ads[n]?=some a)(ha:∃xs,H a=some (.lst xs))(ry:aN K ads H es ys)(rx:RD K ads (bu H a (.lst ys)) x v):Q v (bu H a (.lst ys)):=by
 obtain⟨xs,ha⟩:=ha;have nf:∀o x,H a≠some (.gI o x):=λo x z=>by rw[ha]at z;cases z
 have g:aB ads ads H (bu H a (.lst ys)):=by
  have KS:a∈ads:=c_ ea
  exact⟨⟨[],by simp⟩,λb h n=>absurd h n,λb x nb h=>by rw[ax (by intro z;subst z;exact nb KS)];exact h,λb xs h=>by
   rw[ax (λz=>by subst z;rw[ha]at h;cases h)];exact h,λb o u h=>by rw[ax (λz=>by subst z;exact nf _ _ h)];exact h⟩
 obtain⟨g',m'⟩:=m.write (o:=.lst es) (ho:=.lst ys) q ea nf ⟨ys,aV,g.oP _ _ ry⟩;exact h v _ ads g m' rx
theorem pO:Kp X "list.append" (O1 X.K .append):=by
 intro aa s σ H x vs v us Q I rx rv h;obtain⟨ads,M,wx,ds,m,r1,r2,h⟩:=h;rcases wx with⟨_|_|_|_|_ | n⟩|_<;>first | exact h.elim | skip
 have r1:RD X.K ads H (.aJ n) x:=r1;unfold RD at r1;obtain⟨a,rfl,ea⟩:=r1;unfold sL at h;dsimp only at h
 cases q:M[n]? with
 | none=>rw[q]at h;exact h.elim
 | some o =>
  rw[q]at h
  cases o with
  | lst es =>
   rcases ds with _|⟨d,_|⟨d2,ds⟩⟩
   ·exact h.elim
   ·dsimp only at h;split at h
    ·rename_i hz
     obtain⟨y,rfl,ry⟩:=r2.O2;obtain⟨xs,ha,rd⟩:=m.obj n _ a q ea;exact pF aa s σ H _ _ v us Q I rx rv ⟨a,xs,y,rfl,rfl,ha,by rw[<- rd.len];exact hz,bL.wrote h m q ea ⟨xs,ha⟩ (rd.app (.one ry)) jc⟩
    ·exact h.elim
   ·exact h.elim
  | iJ _=>exact h.elim
  | dK _=>exact h.elim
  | dT _=>exact h.elim
  | dF _=>exact h.elim
  | xc _ _=>exact h.elim
theorem yw{K:PySem.W.Frag}{ads:List Addr}{H:Hp}:∀(is:List Int),aN K ads H (is.map D.int) (is.map V.int)
 | []=>by unfold aN;rfl
 | i::is=>by
  show aN K ads H (D.int i::is.map D.int) (V.int i::is.map V.int);unfold aN;exact⟨_,_,rfl,cu _,yw is⟩
theorem ints_of{K:PySem.W.Frag}{ads:List Addr}{H:Hp}:∀{ds:List D}{is:List Int}{xs:List V},gZ ds=some is->aN K ads H ds xs->xs=is.map V.int
 | [],_,_,e,r=>by cases e;unfold aN at r;exact r
 | d::ds,_,_,e,r=>by
  unfold aN at r;obtain⟨y,r',rfl,h1,h2⟩:=r;cases d<;>first | cases e | skip
  rename_i b
  have e:(gZ ds).map (b::·)=some _:=e
  cases q:gZ ds with
  | none=>rw[q]at e;cases e
  | some bs =>
   rw[q]at e;cases e;unfold RD at h1;rw[h1,ints_of q h2];rfl
theorem nk:Kp X "list.reverse" (O1 X.K .reverse):=by
 intro aa s σ H x vs v us Q I rx rv h;obtain⟨ads,M,wx,ds,m,r1,r2,h⟩:=h;rcases wx with⟨_|_|_|_|_ | n⟩|_<;>first | exact h.elim | skip
 have r1:RD X.K ads H (.aJ n) x:=r1;unfold RD at r1;obtain⟨a,rfl,ea⟩:=r1;unfold sL at h;dsimp only at h
 cases q:M[n]? with
 | none=>rw[q]at h;exact h.elim
 | some o =>
  rw[q]at h
  cases o with
  | lst es =>
   rcases ds with _|⟨d,ds⟩
   ·dsimp only at h;obtain rfl:=r2.TZ;obtain⟨xs,ha,rd⟩:=m.obj n _ a q ea;exact v5 aa s σ H _ _ v us Q I rx rv ⟨a,xs,rfl,rfl,ha,bL.wrote h m q ea ⟨xs,ha⟩ rd.rev jc⟩
   ·exact h.elim
  | iJ _=>exact h.elim
  | dK _=>exact h.elim
  | dT _=>exact h.elim
  | dF _=>exact h.elim
  | xc _ _=>exact h.elim
def GP:V->List V->Hp->VK->Prop:=λx vs H Q=>∃l xs i y,x=.ref l/\vs=[.int i,y]/\H l=some (.lst xs)/\xs.length<sizeLine/\0<=i/\i<=xs.length/\Q .a6 (bu H l (.lst (xs.take i.toNat++y::xs.drop i.toNat)))
theorem AJ:Kp X "list.insert" GP:=by
 intro aa s σ H x vs v us Q I rx rv h;obtain⟨l,xs,i,y,rfl,rfl,hH,hz,h0,h1,q⟩:=h;cases rx;obtain⟨u,w,rfl,ru,Aa⟩:=rv.two;obtain⟨t,rfl⟩:=ru;obtain⟨z,aC,n,r,hl,e⟩:=I.Ad hH;have hs:sizeLine=16777216:=qj;refine tq F.slot_list_insert ⟨_,e,rfl⟩ F.entry_list_insert (F.args_list_insert_3 _ _ _) (AutoSeq1.list_insert_list_int_val_1 l aC.toArray n i t w ?_ (by rw[cg];omega)) ⟨e,?_⟩
 ·simp only[Builtin.List.listFitsIndex,gQ,Bool.not_eq_false];have:(i:Int)<=16777216:=∅;simp;omega
 ·refine⟨.a6,_,I.Ku (its':=aC.take i.toNat++w::aC.drop i.toNat) hH e ?_ ((r.take _).append (.cons Aa (r.drop _))) ?_,rfl,q⟩
  ·dsimp only;rw[aU ∅];have hk:min i.toNat aC.toArray.size=i.toNat:=by rw[cg];omega
   rw[hk];apply Array.ext';simp only[Array.toList_append,Array.toList_push,Array.toList_extract,List.extract_eq_take_drop,cg,List.drop_zero,Nat.sub_zero];rw[Bs (l:=List.drop i.toNat aC) (by simp)];simp
  ·simp;omega
theorem pP:Kp X "list.insert" (O1 X.K .insert):=by
 intro aa s σ H x vs v us Q I rx rv h;obtain⟨ads,M,wx,ds,m,r1,r2,h⟩:=h;rcases wx with⟨_|_|_|_|_ | n⟩|_<;>first | exact h.elim | skip
 have r1:RD X.K ads H (.aJ n) x:=r1;unfold RD at r1;obtain⟨a,rfl,ea⟩:=r1;unfold sL at h;dsimp only at h
 cases q:M[n]? with
 | none=>rw[q]at h;exact h.elim
 | some o =>
  rw[q]at h
  cases o with
  | lst es =>
   rcases ds with _|⟨d,_|⟨d2,_|⟨d3,ds⟩⟩⟩
   ·exact h.elim
   ·rcases d with _|_|_|_|_|_<;>exact h.elim
   ·rcases d with _|_ | i | _|_|_<;>first | exact h.elim | skip
    dsimp only at h;split at h
    ·rename_i hz
     obtain⟨vi,y,rfl,ri,ry⟩:=r2.T1;unfold RD at ri;subst ri;obtain⟨xs,ha,rd⟩:=m.obj n _ a q ea;refine AJ aa s σ H _ _ v us Q I rx rv ⟨a,xs,i,y,rfl,rfl,ha,by rw[<- rd.len];exact hz.1,hz.2.1,by rw[<- rd.len];exact hz.2.2,bL.wrote h m q ea ⟨xs,ha⟩ ((rd.take _).app ?_) jc⟩;show aN X.K ads H (d2::es.drop i.toNat) (y::xs.drop i.toNat);unfold aN;exact⟨y,_,rfl,ry,rd.drop _⟩
    ·exact h.elim
   ·rcases d with _|_ | i | _|_|_<;>exact h.elim
  | iJ _=>exact h.elim
  | dK _=>exact h.elim
  | dT _=>exact h.elim
  | dF _=>exact h.elim
  | xc _ _=>exact h.elim
def jJ(o i:W)(d:D)(M:ag):bF Unit :=
 match o with
 | .d (.aJ n)=>match M[n]? with
  | some (.lst ds)=>match i with
   | .d (.int k)=>match FZ ds.length k with
    | some j=>.ok () (M.set n (.lst (ds.set j d)))
    | none=>.ae
   | _=>.ae
  | some (.dK az)=>match i with
   | .d (.str k)=>if az.length<sizeLine then .ok () (M.set n (.dK (uC az (Sum.inr k) d))) else .ae
   | .d (.int k)=>if az.length<sizeLine then .ok () (M.set n (.dK (uC az (Sum.inl k) d))) else .ae
   | _=>.ae
  | _=>.ae
 | _=>.ae
noncomputable def V1(K:PySem.W.Frag)(ads:List Addr)(H:Hp)(Q:Hp->Prop):bF Unit->Prop
 | .ok _ M=>∀H' aw,aB ads aw H H'->aI K aw H' M->Q H'
 | .err x M=>EX.post K ads H x M
 | .ae=>False
def T3(K:PySem.W.Frag):Fx:=λo i v H Q=>∃ads M wo wi d,aI K ads H M/\RW K ads H wo o/\RW K ads H wi i/\RD K ads H d v/\V1 K ads H Q (jJ wo wi d M)
theorem Lg(hu:X.A.units+1<cLine):J1 X (T3 X.K):=by
 intro aa s σ H o i v ov iv u Q I ro ri rv h;obtain⟨ads,M,wo,wi,d,m,r1,r2,r3,h⟩:=h;rcases wo with⟨_|_|_|_|_ | n⟩|_<;>first | exact h.elim | skip
 have r1:RD X.K ads H (.aJ n) o:=r1;unfold RD at r1;obtain⟨a,rfl,ea⟩:=r1;unfold jJ at h;dsimp only at h
 cases q:M[n]? with
 | none=>rw[q]at h;exact h.elim
 | some ob =>
  rw[q]at h;have KS:a∈ads:=c_ ea
  cases ob with
  | lst ds =>
   rcases wi with⟨_|_ | k | _|_|_⟩|_<;>first | exact h.elim | skip
   have ei:=aP r2;subst ei;dsimp only at h
   cases q2:FZ ds.length k with
   | none=>rw[q2]at h;exact h.elim
   | some j =>
    rw[q2]at h;obtain⟨xs,ha,rd⟩:=m.obj n _ a q ea;refine B9 aa s σ H _ _ v ov iv u Q I ro ri rv ⟨a,xs,k,j,rfl,rfl,ha,by rw[<- rd.len];exact q2,?_⟩;have nf:∀o x,H a≠some (.gI o x):=λo x z=>by rw[ha]at z;cases z
    have hg:aB ads ads H (bu H a (.lst (xs.set j v))):=⟨⟨[],by simp⟩,λb h n=>absurd h n,λb x nb h=>by rw[ax (by intro z;subst z;exact nb KS)];exact h,λb xs h=>by
     rw[ax (λz=>by subst z;rw[ha]at h;cases h)];exact h,λb o u h=>by rw[ax (λz=>by subst z;exact nf _ _ h)];exact h⟩
    obtain⟨g',m'⟩:=m.write (o:=.lst (ds.set j d)) (ho:=.lst (xs.set j v)) q ea nf ⟨_,aV,hg.oP _ _ (rd.setAt j r3)⟩;exact h _ ads hg m'
  | dK az =>
   obtain⟨ks,ha,rk⟩:=m.obj n _ a q ea;have nf:∀o x,H a≠some (.gI o x):=λo x z=>by rw[ha]at z;cases z
   have put:∀(k:bS),i=kV k->az.length<sizeLine->V1 X.K ads H Q (.ok () (M.set n (.dK (uC az k d))))->wpAny (model X.prog X.w) X.A (setItem ov iv u) (λ_ s'=>∃H',Inv X aa σ H' s'/\Q H') X.xe s:=by
    intro k ek hz h;subst ek;cases ro;refine Ab hu I (FP.k (k:=k) ha (by rw[<- rk.len];exact hz)) ri rv λs' I'=>⟨_,I',?_⟩
    have hg:aB ads ads H (bu H a (.dK (fu ks k v))):=⟨⟨[],by simp⟩,λb h n=>absurd h n,λb x nb h=>by rw[ax (by intro z;subst z;exact nb KS)];exact h,λb xs h=>by
     rw[ax (λz=>by subst z;rw[ha]at h;cases h)];exact h,λb o u h=>by rw[ax (λz=>by subst z;exact nf _ _ h)];exact h⟩
    obtain⟨g',m'⟩:=m.write (o:=.dK (uC az k d)) (ho:=.dK (fu ks k v)) q ea nf ⟨_,aV,hg.CO _ _ (rk.put r3)⟩;exact h _ ads hg m'
   rcases wi with⟨_|_ | k | k | _|_⟩|_<;>first | exact h.elim | skip
   ·have ei:=aP r2;subst ei;dsimp only at h;split at h
    ·rename_i hz
     exact put (Sum.inl k) rfl hz h
    ·exact h.elim
   ·have ei:=dD r2;subst ei;dsimp only at h;split at h
    ·rename_i hz
     exact put (Sum.inr k) rfl hz h
    ·exact h.elim
  | iJ _=>exact h.elim
  | dT _=>exact h.elim
  | dF _=>exact h.elim
  | xc _ _=>exact h.elim
end
end
section
variable [EX]
structure XI where
 cl:List (Str×Addr×List Str)
 kt:List (IX×Addr×Bool)
 ct:List (Str×Addr×List Str)
 hs:List Nat
abbrev GQ:XI:=⟨[],[],[],[]⟩
structure CC where
 N:List Str
 names:List (Str×NameKind)
 fs:List (Str×Nat)
 gs:List (Str×Int)
 xs:XI
noncomputable def Ng(cc:CC)(x:Str):Bool:=match cc.names.lookup x with
 | some .local=>true
 | some .cell=>true
 | some .free=>true
 | _=>false
noncomputable def glob(cc:CC)(x:Str):Bool:=match cc.names.lookup x with
 | some .globalImplicit=>true
 | _=>false
noncomputable def aS(x:Str):Bool:=!(x==("__debug__" : Str)) && !(x==("__classdict__" : Str)) && !(x==("__name__" : Str))
theorem bD{p:Prop}[d:Decidable p]{f:p->Bool}(h:(if h:p then f h else false)=true):p:=by
 cases d with
 | isTrue q=>exact q
 | isFalse q=>rw[dif_neg q]at h;exact absurd h ao
noncomputable def fT(e:Expr)(f:BoolOp->List Expr->Pos->Bool):Bool:=if h:e.ctorIdx=0 then Expr.BoolOp.elim (motive_1:=λ_=>Bool) e h f else false
theorem dk{P:Expr->Prop}{e:Expr}{f:BoolOp->List Expr->Pos->Bool}(h:fT e f=true)(k:∀a b c,f a b c=true->P (.BoolOp a b c)):P e :=
 Expr.BoolOp.elim (motive_1:=λe=>fT e f=true->P e) e (bD h) (λa b c h=>k a b c h) h
noncomputable def rp(e:Expr)(f:Expr->Operator->Expr->Pos->Bool):Bool:=if h:e.ctorIdx=2 then Expr.BinOp.elim (motive_1:=λ_=>Bool) e h f else false
theorem wC{P:Expr->Prop}{e:Expr}{f:Expr->Operator->Expr->Pos->Bool}(h:rp e f=true)(k:∀a b c d,f a b c d=true->P (.BinOp a b c d)):P e :=
 Expr.BinOp.elim (motive_1:=λe=>rp e f=true->P e) e (bD h) (λa b c d h=>k a b c d h) h
noncomputable def eK(e:Expr)(f:UnaryOp->Expr->Pos->Bool):Bool:=if h:e.ctorIdx=3 then Expr.UnaryOp.elim (motive_1:=λ_=>Bool) e h f else false
theorem dE{P:Expr->Prop}{e:Expr}{f:UnaryOp->Expr->Pos->Bool}(h:eK e f=true)(k:∀a b c,f a b c=true->P (.UnaryOp a b c)):P e :=
 Expr.UnaryOp.elim (motive_1:=λe=>eK e f=true->P e) e (bD h) (λa b c h=>k a b c h) h
noncomputable def wD(e:Expr)(f:List (Option Expr)->List Expr->Pos->Bool):Bool:=if h:e.ctorIdx=6 then Expr.Dict.elim (motive_1:=λ_=>Bool) e h f else false
theorem AK{P:Expr->Prop}{e:Expr}{f:List (Option Expr)->List Expr->Pos->Bool}(h:wD e f=true)(k:∀a b c,f a b c=true->P (.Dict a b c)):P e :=
 Expr.Dict.elim (motive_1:=λe=>wD e f=true->P e) e (bD h) (λa b c h=>k a b c h) h
noncomputable def gn(e:Expr)(f:Expr->List Comprehension->Scope->Pos->Bool):Bool:=if h:e.ctorIdx=8 then Expr.ListComp.elim (motive_1:=λ_=>Bool) e h f else false
theorem iO{P:Expr->Prop}{e:Expr}{f:Expr->List Comprehension->Scope->Pos->Bool}(h:gn e f=true)(k:∀a b c d,f a b c d=true->P (.ListComp a b c d)):P e :=
 Expr.ListComp.elim (motive_1:=λe=>gn e f=true->P e) e (bD h) (λa b c d h=>k a b c d h) h
noncomputable def fU(e:Expr)(f:Expr->List CmpOp->List Expr->Pos->Bool):Bool:=if h:e.ctorIdx=15 then Expr.Compare.elim (motive_1:=λ_=>Bool) e h f else false
theorem gp{P:Expr->Prop}{e:Expr}{f:Expr->List CmpOp->List Expr->Pos->Bool}(h:fU e f=true)(k:∀a b c d,f a b c d=true->P (.Compare a b c d)):P e :=
 Expr.Compare.elim (motive_1:=λe=>fU e f=true->P e) e (bD h) (λa b c d h=>k a b c d h) h
noncomputable def cE(e:Expr)(f:Expr->List Expr->List Keyword->Pos->Bool):Bool:=if h:e.ctorIdx=16 then Expr.Call.elim (motive_1:=λ_=>Bool) e h f else false
theorem bj{P:Expr->Prop}{e:Expr}{f:Expr->List Expr->List Keyword->Pos->Bool}(h:cE e f=true)(k:∀a b c d,f a b c d=true->P (.Call a b c d)):P e :=
 Expr.Call.elim (motive_1:=λe=>cE e f=true->P e) e (bD h) (λa b c d h=>k a b c d h) h
noncomputable def cv(e:Expr)(f:Const->Nat->Pos->Bool):Bool:=if h:e.ctorIdx=19 then Expr.Constant.elim (motive_1:=λ_=>Bool) e h f else false
theorem bT{P:Expr->Prop}{e:Expr}{f:Const->Nat->Pos->Bool}(h:cv e f=true)(k:∀a b c,f a b c=true->P (.Constant a b c)):P e :=
 Expr.Constant.elim (motive_1:=λe=>cv e f=true->P e) e (bD h) (λa b c h=>k a b c h) h
noncomputable def d7(e:Expr)(f:Expr->Str->Pos->Bool):Bool:=if h:e.ctorIdx=20 then Expr.Attribute.elim (motive_1:=λ_=>Bool) e h f else false
theorem dG{P:Expr->Prop}{e:Expr}{f:Expr->Str->Pos->Bool}(h:d7 e f=true)(k:∀a b c,f a b c=true->P (.Attribute a b c)):P e :=
 Expr.Attribute.elim (motive_1:=λe=>d7 e f=true->P e) e (bD h) (λa b c h=>k a b c h) h
noncomputable def dm(e:Expr)(f:Expr->Expr->Pos->Bool):Bool:=if h:e.ctorIdx=21 then Expr.Subscript.elim (motive_1:=λ_=>Bool) e h f else false
theorem cF{P:Expr->Prop}{e:Expr}{f:Expr->Expr->Pos->Bool}(h:dm e f=true)(k:∀a b c,f a b c=true->P (.Subscript a b c)):P e :=
 Expr.Subscript.elim (motive_1:=λe=>dm e f=true->P e) e (bD h) (λa b c h=>k a b c h) h
noncomputable def br(e:Expr)(f:Str->Pos->Bool):Bool:=if h:e.ctorIdx=23 then Expr.Name.elim (motive_1:=λ_=>Bool) e h f else false
theorem aG{P:Expr->Prop}{e:Expr}{f:Str->Pos->Bool}(h:br e f=true)(k:∀a b,f a b=true->P (.Name a b)):P e :=
 Expr.Name.elim (motive_1:=λe=>br e f=true->P e) e (bD h) (λa b h=>k a b h) h
noncomputable def wF(e:Expr)(f:List Expr->Pos->Bool):Bool:=if h:e.ctorIdx=24 then Expr.List.elim (motive_1:=λ_=>Bool) e h f else false
theorem AM{P:Expr->Prop}{e:Expr}{f:List Expr->Pos->Bool}(h:wF e f=true)(k:∀a b,f a b=true->P (.List a b)):P e :=
 Expr.List.elim (motive_1:=λe=>wF e f=true->P e) e (bD h) (λa b h=>k a b h) h
noncomputable def ig(e:Expr)(f:List Expr->Nat->Pos->Bool):Bool:=if h:e.ctorIdx=25 then Expr.Tuple.elim (motive_1:=λ_=>Bool) e h f else false
theorem eR{P:Expr->Prop}{e:Expr}{f:List Expr->Nat->Pos->Bool}(h:ig e f=true)(k:∀a b c,f a b c=true->P (.Tuple a b c)):P e :=
 Expr.Tuple.elim (motive_1:=λe=>ig e f=true->P e) e (bD h) (λa b c h=>k a b c h) h
noncomputable def lU(e:Expr)(f:Option Expr->Option Expr->Option Expr->Pos->Bool):Bool:=if h:e.ctorIdx=26 then Expr.Slice.elim (motive_1:=λ_=>Bool) e h f else false
theorem nq{P:Expr->Prop}{e:Expr}{f:Option Expr->Option Expr->Option Expr->Pos->Bool}(h:lU e f=true)(k:∀a b c d,f a b c d=true->P (.Slice a b c d)):P e :=
 Expr.Slice.elim (motive_1:=λe=>lU e f=true->P e) e (bD h) (λa b c d h=>k a b c d h) h
noncomputable def jK(e:Stmt)(f:Option Expr->Pos->Bool):Bool:=if h:e.ctorIdx=3 then Stmt.Return.elim (motive_2:=λ_=>Bool) e h f else false
theorem g7{P:Stmt->Prop}{e:Stmt}{f:Option Expr->Pos->Bool}(h:jK e f=true)(k:∀a b,f a b=true->P (.Return a b)):P e :=
 Stmt.Return.elim (motive_2:=λe=>jK e f=true->P e) e (bD h) (λa b h=>k a b h) h
noncomputable def rq(e:Stmt)(f:Option Expr->Option Expr->Pos->Bool):Bool:=if h:e.ctorIdx=16 then Stmt.Raise.elim (motive_2:=λ_=>Bool) e h f else false
theorem wG{P:Stmt->Prop}{e:Stmt}{f:Option Expr->Option Expr->Pos->Bool}(h:rq e f=true)(k:∀a b c,f a b c=true->P (.Raise a b c)):P e :=
 Stmt.Raise.elim (motive_2:=λe=>rq e f=true->P e) e (bD h) (λa b c h=>k a b c h) h
noncomputable def eS(e:Stmt)(f:List Expr->Expr->Pos->Bool):Bool:=if h:e.ctorIdx=5 then Stmt.Assign.elim (motive_2:=λ_=>Bool) e h f else false
theorem dq{P:Stmt->Prop}{e:Stmt}{f:List Expr->Expr->Pos->Bool}(h:eS e f=true)(k:∀a b c,f a b c=true->P (.Assign a b c)):P e :=
 Stmt.Assign.elim (motive_2:=λe=>eS e f=true->P e) e (bD h) (λa b c h=>k a b c h) h
noncomputable def C9(e:Stmt)(f:Expr->Expr->List Stmt->List Stmt->Pos->Bool):Bool:=if h:e.ctorIdx=9 then Stmt.For.elim (motive_2:=λ_=>Bool) e h f else false
theorem C_{P:Stmt->Prop}{e:Stmt}{f:Expr->Expr->List Stmt->List Stmt->Pos->Bool}(h:C9 e f=true)(k:∀a b c d e,f a b c d e=true->P (.For a b c d e)):P e :=
 Stmt.For.elim (motive_2:=λe=>C9 e f=true->P e) e (bD h) (λa b c d e h=>k a b c d e h) h
noncomputable def Lh(e:Stmt)(f:Expr->List Stmt->List Stmt->Pos->Bool):Bool:=if h:e.ctorIdx=12 then Stmt.If.elim (motive_2:=λ_=>Bool) e h f else false
theorem yx{P:Stmt->Prop}{e:Stmt}{f:Expr->List Stmt->List Stmt->Pos->Bool}(h:Lh e f=true)(k:∀a b c d,f a b c d=true->P (.If a b c d)):P e :=
 Stmt.If.elim (motive_2:=λe=>Lh e f=true->P e) e (bD h) (λa b c d h=>k a b c d h) h
noncomputable def rB(e:Stmt)(f:Expr->Pos->Bool):Bool:=if h:e.ctorIdx=24 then Stmt.Expr.elim (motive_2:=λ_=>Bool) e h f else false
theorem kJ{P:Stmt->Prop}{e:Stmt}{f:Expr->Pos->Bool}(h:rB e f=true)(k:∀a b,f a b=true->P (.Expr a b)):P e :=
 Stmt.Expr.elim (motive_2:=λe=>rB e f=true->P e) e (bD h) (λa b h=>k a b h) h
noncomputable def wH(e:Stmt)(f:Pos->Bool):Bool:=if h:e.ctorIdx=25 then Stmt.Pass.elim (motive_2:=λ_=>Bool) e h f else false
theorem pQ{P:Stmt->Prop}{e:Stmt}{f:Pos->Bool}(h:wH e f=true)(k:∀a,f a=true->P (.Pass a)):P e :=
 Stmt.Pass.elim (motive_2:=λe=>wH e f=true->P e) e (bD h) (λa h=>k a h) h
noncomputable def rC(e:Stmt)(f:Pos->Bool):Bool:=if h:e.ctorIdx=26 then Stmt.Break.elim (motive_2:=λ_=>Bool) e h f else false
theorem wI{P:Stmt->Prop}{e:Stmt}{f:Pos->Bool}(h:rC e f=true)(k:∀a,f a=true->P (.Break a)):P e :=
 Stmt.Break.elim (motive_2:=λe=>rC e f=true->P e) e (bD h) (λa h=>k a h) h
noncomputable def jd(e:Stmt)(f:Pos->Bool):Bool:=if h:e.ctorIdx=27 then Stmt.Continue.elim (motive_2:=λ_=>Bool) e h f else false
theorem oX{P:Stmt->Prop}{e:Stmt}{f:Pos->Bool}(h:jd e f=true)(k:∀a,f a=true->P (.Continue a)):P e :=
 Stmt.Continue.elim (motive_2:=λe=>jd e f=true->P e) e (bD h) (λa h=>k a h) h
def isInt(k:Int):Const->Bool
 | .int j=>k==j
 | _=>false
def GR:Const->Bool
 | .none=>true
 | _=>false
def isNone(e:Expr):Bool:=cv e λc _ _=>GR c
def GS:Const->Bool
 | .bool true=>true
 | _=>false
def rD(e:Expr):Bool:=cv e λc _ _=>GS c
def yz:BoolOp->Bool
 | .And=>true
 | .Or=>false
def Dc:UnaryOp->Bool
 | .USub=>true
 | _=>false
def Iy:UnaryOp->Bool
 | .Not=>true
 | _=>false
def jL(e:Expr):Bool:=!Nat.beq e.ctorIdx 26
noncomputable def ik(e:Expr):Bool:=[23,16,21,24,25,19,2].contains e.ctorIdx
def g8(e:Expr):Bool:=!(cE e λf as ks _=>Nat.beq f.ctorIdx 23&&as.isEmpty&&ks.isEmpty)
def aF(e:Expr):Bool:=!Nat.beq e.ctorIdx 22
noncomputable def Dd:Bi->Str
 | .len => "len" | .max2 => "max" | .min2 => "min" | .uB => "int" | .list1 => "list" | .tuple1 => "tuple" | .d5 => "repr" | .j5 _ => "isinstance" | .all1 => "all" | .Gv => "any" | .yj => "dict" | .min1 => "min" | .Gw => "max" | .yk => "sorted" | .str1 => "str"
noncomputable def De:Me->Str
 | .append => "append" | .insert => "insert" | .reverse => "reverse" | .extend => "extend" | .remove => "remove" | .clear => "clear" | .pop => "pop"
noncomputable def bI:List Str:=["len","max","min","int","list","tuple","repr","isinstance","all","any","bool","str","dict","range","enumerate","zip","sorted","set"]
noncomputable def O3:Me->Bool
 | .append=>true | .insert=>true | .reverse=>true | .extend=>false | .remove=>false | .clear=>false | .pop=>false
noncomputable def O4:Bi->Bool
 | .Gv=>false
 | .min1=>false
 | .Gw=>false
 | .yj=>false
 | .yk=>false
 | .j5 _=>false
 | _=>true
def isStr(k:Str):Const->Bool
 | .str s=>k==s
 | _=>false
def jM:List Str->List (Option Expr)->Bool
 | [],[]=>true
 | k::ks,some e::es=>(cv e λc _ _=>isStr k c)&&jM ks es
 | _,_=>false
noncomputable def ej(sc:Scope):List Str:=(sc.names.filter λy=>y.2 == .local||y.2 == .free||y.2 == .cell).map (·.1)
def nr(cc:CC)(sc:Scope):List (Option Nat):=(ej sc).map λx=>if sc.names.lookup x==some .free then cc.N.findIdx? (· == x) else none
def pR(cc:CC)(sc:Scope):CC:=⟨ej sc,sc.names,cc.fs,cc.gs,GQ⟩
def uL(cc:CC)(sc:Scope):Bool:=sc.kind == .function&&sc.names.all (λy=>y.2 != .cell||sc.names.lookup y.1==some .cell)&&sc.names.all (λy=>y.2 != .local||sc.names.lookup y.1==some .local)&&decide (ej sc).Nodup &&
 sc.names.all (λy=>y.2 != .free||(sc.names.lookup y.1==some .free&&(cc.names.lookup y.1==some .cell||cc.names.lookup y.1==some .free)))
def jN(cc:CC):List Nat->List Expr->Bool
 | [],[]=>true
 | i::tg,e::es=>(br e λx _=>cc.N[i]? == some x&&(cc.names.lookup x==some .local||cc.names.lookup x==some .cell))&&jN cc tg es
 | _,_=>false
def g9(cc:CC)(tg:List Nat)(e:Expr):Bool:=match tg with
 | []=>false
 | [i]=>jN cc [i] [e]
 | i::j::r=>ig e λes _ _=>jN cc (i::j::r) es&&decide ((i::j::r).length<20)
def lV(e:Expr):Bool:=Nat.beq e.ctorIdx 25
def fC(e:Expr):Bool:=!Nat.beq e.ctorIdx 7
noncomputable def T4:D->Const->Bool
 | .int i,.int j=>i==j
 | .bl i,.bool j=>i==j
 | .str i,.str j=>i==j
 | .a6,.none=>true
 | _,_=>false
noncomputable def Li:D->Const->Bool
 | .int i,.int j=>i == -j
 | _,_=>false
def Df(d:D)(e:Expr):Bool:=(cv e λc _ _=>T4 d c)||eK e λop x _=>Dc op&&cv x λc _ _=>Li d c
def Dg:Bi->Option Ty
 | .j5 t=>some t
 | _=>none
theorem wJ{b:Bi}{t:Ty}(h:Dg b=some t):b=.j5 t:=by
 cases b<;>first | (cases h;rfl) | cases h
def yA(cc:CC):List Str->List Expr->Bool
 | [],[]=>true
 | x::xs,e::es=>(br e λy _=>y==x&&glob cc y&&aS y)&&yA cc xs es
 | _,_=>false
def Iz(cc:CC):IX->Expr->Bool
 | .one x,e=>br e λy _=>y==x&&glob cc y&&aS y
 | .ve,e=>br e λy _=>y == "ValueError" && glob cc y
 | .many xs,e=>ig e λes _ _=>yA cc xs es&&decide (xs.length<100)
mutual
noncomputable def bE(cc:CC):C->Expr->Bool
 | .lI i,e=>br e λx _=>cc.N[i]? == some x&&Ng cc x&&aS x
 | .bx d,e=>Df d e
 | .bin op a b,e=>rp e λl o r _=>o==GF op&&bE cc a l&&bE cc b r
 | .cmp op a b,e=>fU e λl os rs _=>match os,rs with
  | [o],[r]=>o==K6 op && !behindInMarks o r&&(if op=.vm\/op=.iF then isNone r else true)&&bE cc a l&&bE cc b r
  | _,_=>false
 | .chain o1 o2 a b c,e=>fU e λl os rs _=>match os,rs with
  | [p,q],[m,r]=>p==K6 o1&&q==K6 o2 && !lastMarks [p,q] [m,r] && !(decide (o1=.vm)||decide (o1=.iF)||decide (o2=.vm)||decide (o2=.iF))&&bE cc a l&&bE cc b m&&bE cc c r
  | _,_=>false
 | .dc cs,e=>fT e λop es _=>yz op&&bt cc cs es && !es.isEmpty
 | .dw cs,e=>fT e λop es _=>!yz op&&bt cc cs es && !es.isEmpty
 | .neg a,e=>eK e λop x _=>Iy op&&bE cc a x
 | .tup cs,e=>ig e λes _ _=>bt cc cs es
 | .lst cs,e=>wF e λes _=>bt cc cs es
 | .sub a b,e=>dm e λe i _=>jL i&&bE cc a e&&bE cc b i
 | .oQ a lo hi,e=>dm e λe i _=>lU i λl h st _=>st.isNone&&bE cc a e&&Lj cc lo l&&Lj cc hi h
 | .ym a k,e=>dm e λe i _=>lU i λl h st _=>match l,h,st with
  | none,none,some ke=>((cv ke λc _ _=>isInt k c)||eK ke λop x _=>Dc op&&cv x λc _ _=>isInt (-k) c)&&bE cc a e
  | _,_,_=>false
 | .fP a b,e=>cE e λfe args cO cp=>d7 fe λe n ap=>match args,cO with
  | [x],[]=>n == "find" && ap.endLine==cp.line&&g8 e&&aF x&&bE cc a e&&bE cc b x
  | _,_=>false
 | .call f cs,e=>cE e λfe args cO _=>br fe λx _=>match args,cO with
  | e::es,[]=>cc.fs[f]? == some (x,cs.length)&&glob cc x&&aS x&&bt cc cs (e::es)
  | _,_=>false
 | .xf a f,e=>d7 e λe n _=>n==f&&(br e λ_ _=>true)&&bE cc a e
 | .uA a k tb,e=>cE e λfe args cO _=>br fe λx _=>match args,cO with
  | [u,v],[]=>x == "isinstance" && glob cc x&&aF u&&bE cc a u&&Iz cc k v&&tb.all λp=>cc.xs.kt.contains (k,p.1,p.2)
  | _,_=>false
 | .fQ f cs,e=>cE e λfe args cO _=>br fe λx _=>match args,cO with
  | e::es,[]=>cc.fs[f]? == some (x,cs.length)&&cc.xs.hs.contains f&&glob cc x&&aS x&&bt cc cs (e::es)
  | _,_=>false
 | .bi b cs,e=>cE e λfe args cO _=>br fe λx _=>cO.isEmpty&&x==Dd b&&glob cc x&&match Dg b,args with
  | some t,[e,f]=>(br f λy _=>y==Str.ofString (uK t)&&glob cc y&&decide (t≠.none))&&bt cc cs [e]
  | none,e::es=>O4 b&&bt cc cs (e::es)
  | _,_=>false
 | .me m o cs,e=>cE e λfe es cO cp=>d7 fe λe n ap=>cO.isEmpty&&n==De m&&O3 m&&ap.endLine==cp.line&&g8 e&&bE cc o e&&bt cc cs es&&decide (es.length<20)
 | .yn ks cs,e=>wD e λkeys vs _=>(jM ks keys&&decide ks.Nodup && !keys.isEmpty&&decide (keys.length<=15)&&bt cc cs vs&&decide (ks.length=cs.length))||(ks.isEmpty&&cs.isEmpty&&keys.isEmpty&&vs.isEmpty)
 | .jl tp cs,e=>cE e λfe args cO _=>br fe λx _=>match args,cO with
  | [a],[]=>cE a λf2 pS AN _=>br f2 λy _=>match pS,AN with
   | e::es,[]=>x==(if tp=true then ("tuple" : Str) else ("list" : Str))&&y == "range" && glob cc x&&glob cc y&&bt cc cs (e::es)
   | _,_=>false
  | _,_=>false
 | .Bn x v,e=>br e λy _=>y==x&&glob cc x&&aS x&&cc.gs.lookup x==some v
 | .eh ng a,e=>fU e λl os rs _=>match os,rs with
  | [o],[r]=>o==(if ng=true then CmpOp.IsNot else CmpOp.Is) && !behindInMarks o r&&rD r&&bE cc a l
  | _,_=>false
 | .sset a,e=>cE e λfe args cO _=>br fe λx _=>match args,cO with
  | [i],[]=>cE i λf2 pS AN _=>br f2 λy _=>match pS,AN with
   | [b],[]=>x == "sorted" && y == "set" && glob cc x&&glob cc y&&aF b&&bE cc a b
   | _,_=>false
  | _,_=>false
 | .comp k cM tg cond elt cA,e=>gn e λel gens sc _=>match gens with
  | [⟨t,aM,ifs,as⟩]=>as==0&&uL cc sc&&decide (cA=nr cc sc)&&rE cc k cM t aM&&g9 (pR cc sc) tg t&&GU (pR cc sc) cond ifs&&bE (pR cc sc) elt el
  | _=>false
noncomputable def GU(cc:CC):Option ef->List Expr->Bool
 | none,[]=>true
 | some t,[e]=>jO cc t e
 | _,_=>false
noncomputable def rE(cc:CC):SK->List C->Expr->Expr->Bool
 | .seq,[c],_,e=>fC e&&bE cc c e
 | .fB,[c],_,e=>cE e λfe args cO _=>br fe λx _=>match args,cO with
  | [a],[]=>x == "range" && glob cc x&&aF a&&bE cc c a
  | _,_=>false
 | .zip,[c,d],t,e=>cE e λfe args cO _=>br fe λx _=>match args,cO with
  | [a,b],[]=>x == "zip" && glob cc x&&aF a&&aF b&&bE cc c a&&bE cc d b
  | _,_=>false
 | _,_,_,_=>false
noncomputable def jO(cc:CC):ef->Expr->Bool
 | .dc ts,e=>fT e λop es _=>yz op&&nz cc ts es && !es.isEmpty
 | .dw ts,e=>fT e λop es _=>!yz op&&nz cc ts es && !es.isEmpty
 | .neg a,e=>eK e λop x _=>Iy op&&jO cc a x
 | .val (.cmp op a b),e=>bE cc (.cmp op a b) e
 | .val (.chain o1 o2 a b c),e=>bE cc (.chain o1 o2 a b c) e
 | .val (.eh ng a),e=>bE cc (.eh ng a) e
 | .val c,e=>ik e&&bE cc c e
noncomputable def nz(cc:CC):List ef->List Expr->Bool
 | [],[]=>true
 | c::cs,e::es=>jO cc c e&&nz cc cs es
 | _,_=>false
noncomputable def bt(cc:CC):List C->List Expr->Bool
 | [],[]=>true
 | c::cs,e::es=>aF e&&bE cc c e&&bt cc cs es
 | _,_=>false
noncomputable def Lj(cc:CC):Option C->Option Expr->Bool
 | none,none=>true
 | some c,some e=>bE cc c e
 | _,_=>false
end
end
noncomputable def Lk(X:Cx)(x:Str):NameKind->Prop
 | .local=>X.env.kindOf x=some .local
 | .cell=>X.env.kindOf x=some .cell
 | .free=>X.env.kindOf x=some .cell\/X.env.kindOf x=some .free
 | .globalImplicit=>X.env.kindOf x=some .globalImplicit
 | _=>True
def Bp(K:PySem.W.Frag)(n:Nat)(F:List D->ag->bF W):Sp:=λvs H Q E=>∃ads M ds,aI K ads H M/\aN K ads H ds vs/\ds.length=n/\@bL (CN E) K ads H Q (F ds M)
noncomputable def Dh(K:PySem.W.Frag)(mg:Str->Option Value)(k:IX)(C:Addr)(r:Bool):Prop:=match k with
 | .one x=>∃c,mg x=some (.ref c)/\PySem.W.kitOne K (.ref C) (.ref c)=some r
 | .ve=>mg "ValueError" = none/\PySem.W.kitOne K (.ref C) (.type "ValueError")=some r
 | .many xs=>∃cs:List Addr,xs.map mg=cs.map (λc=>some (.ref c))/\PySem.W.kitAny K (.ref C) (cs.map Value.ref)=some r
noncomputable def IA(K:PySem.W.Frag)(mg:Str->Option Value)(cb:Str)(C:Addr)(fs:List Str):Prop:=∃B D fI,mg cb=some (.ref B)/\PySem.W.kitCls K (.ref C) (.ref B)=some true/\PySem.W.kitCls K (.ref B) (.type "BaseException")=some true/\CI K C D fI fs
structure bZ (kk:Nat) (X:Cx) (cc:CC) (G:a8):Prop where
 rh:yg kk X.A
 N:X.N=cc.N
 nd:cc.N.Nodup
 kinds:∀x k,cc.names.lookup x=some k->Lk X x k
 T5:∀x,cc.names.lookup x=some .cell->X.fn x=true
 blt:∀b∈bI,X.mg b=none
 Q9:∀(x:Str)(v:Int),cc.gs.lookup x=some v->∃t,X.mg x=some (.int v t)
 T6:∀k C r,(k,C,r)∈cc.xs.kt->Dh X.K X.mg k C r
 cat:∀cb C fs,(cb,C,fs)∈cc.xs.ct->IA X.K X.mg cb C fs
 Ll:∀(i:Nat)(x:Str)(n:Nat),cc.fs[i]?=some (x,n)->i∈cc.xs.hs->∃f fd ps,yh X.prog X.w X.K X.mg X.base Nc kk f fd ps (Bp X.K n (G i))/\X.mg x=some (.ref f)/\PySem.W.keepIn X.K (.ref f)=true/\Binds X.K fd ps []
section
variable [EX]
structure Good (kk:Nat) (X:Cx) (cc:CC) (G:a8):Prop extends cW:bZ kk X cc G where
 calm:X.calm=true
 room:fK kk X.A
 fns:∀(i:Nat)(x:Str)(n:Nat),cc.fs[i]?=some (x,n)->∃f fd ps,f_ X.prog X.w X.K X.mg X.base (Ay X.prog X.w) kk f fd ps (Bp X.K n (G i))/\X.mg x=some (.ref f)/\PySem.W.keepIn X.K (.ref f)=true/\Binds X.K fd ps []
 ex:∃E:XK,iV (Ay X.prog X.w) X E/\∀{K:PySem.W.Frag}{ads:List Addr}{H:Hp}{x:AB}{M:ag},EX.post K ads H x M->(CN E).post K ads H x M
section
variable {kk:Nat} {X:Cx} {cc:CC} {G:a8}
theorem bZ.Ng(g:bZ kk X cc G){x:Str}(h:Ng cc x=true):R1 X.env.scope x:=by
 unfold Ev.Ng at h;split at h
 ·rename_i q;exact .inl (g.kinds x _ q)
 ·rename_i q;exact .inr (.inl (g.kinds x _ q))
 ·rename_i q
  rcases g.kinds x _ q with z | z
  ·exact .inr (.inl z)
  ·exact .inr (.inr z)
 ·cases h
theorem bZ.gl(g:bZ kk X cc G){x:Str}(h:glob cc x=true):Gl X x:=by
 unfold glob at h;split at h
 ·rename_i q;exact g.kinds x _ q
 ·cases h
theorem cK{x:Str}(h:aS x=true):(x==("__debug__" : Str))=false/\(x==("__classdict__" : Str))=false/\x≠("__name__" : Str):=by
 unfold aS at h;simp only[ay,gQ]at h;exact⟨h.1.1,h.1.2,λz=>by rw[z]at h;simp at h⟩
theorem eF{e:Expr}{t u:TE}(h:PE X e t)(f:∀σ H Q,u σ H Q->t σ H Q):PE X e u:=λaa s σ H Q I q=>h aa s σ H Q I (f σ H Q q)
theorem Di{e:Expr}{t u:TT}(h:PT X e t)(f:∀σ H Q,u σ H Q->t σ H Q):PT X e u:=λaa s σ H Q I q=>h aa s σ H Q I (f σ H Q q)
theorem Q_{e:Expr}{t u:TT}(h:PW X e t)(f:∀σ H Q,u σ H Q->t σ H Q):PW X e u:=λwh aa s σ H Q I q=>h wh aa s σ H Q I (f σ H Q q)
theorem Nh{e:List Expr}{t u:TA}(h:PA X e t)(f:∀σ H Q,u σ H Q->t σ H Q):PA X e u:=λp aa s σ H Q I q=>h p aa s σ H Q I (f σ H Q q)
theorem a7{e:Expr}(h:aF e=true)(es:List Expr)(env:Env):starEach (e::es) env=(false,eval e env)::starEach es env:=by
 cases e<;>first | rfl | exact absurd (show false=true from h) ao
theorem IB{i:Nat}{e:Expr}(g:bZ kk X cc G)(h:bE cc (.lI i) e=true):PE X e (tE X.K (ev G (.lI i))):=by
 refine aG (P:=λe=>PE X e _) h λx pos h=>?_;have h:(cc.N[i]? == some x&&Ng cc x&&aS x)=true:=h;simp only[ay,e_]at h;obtain⟨⟨h1,h2⟩,h3⟩:=h;obtain⟨d1,d2,_⟩:=cK h3;refine eF (JR (i:=i) (by rw[g.N];exact h1) (g.Ng h2) d1 d2) λσ H Q q=>?_;obtain⟨ads,M,ρ,s,q⟩:=q;simp only[CT]at q;split at q
 ·rename_i d e
  obtain⟨v,TU,r⟩:=s.en i d e;exact⟨v,TU,q.plain s.mem r⟩
 ·exact q.elim
theorem uM{d:D}{v:V}(hd:∀ads H,RD X.K ads H d v)(σ:L2.St)(H:Hp)(Q:VK)(h:tE X.K (ev G (.bx d)) σ H Q):tC v σ H Q:=by
 obtain⟨ads,M,ρ,s,q⟩:=h;exact bL.plain q s.mem (hd _ _)
theorem IC{d:D}{e:Expr}(h:bE cc (.bx d) e=true):PE X e (tE X.K (ev G (.bx d))):=by
 replace h:Df d e=true:=h
 rcases(BF _ _).mp h with h | h
 case inr =>
  refine dE (P:=λe=>PE X e _) h λop x pos h=>?_
  replace h:=(ay _ _).mp h
  have h0:=h.1
  replace h:=h.2
  cases op<;>first | exact absurd (show false=true from h0) ao | skip
  refine bT (P:=λx=>PE X (.UnaryOp .USub x pos) _) h λc j p h=>?_;clear h0;rcases d with _|_ | i | _|_|_|_<;>first | exact absurd (show false=true from h) ao | skip
  rcases c with _|_ | k | _|_|_|_|_<;>first | exact absurd (show false=true from h) ao | skip
  have h:i=-k:=eq_of_beq h;subst h;exact eF (Ig BV qz) λσ H Q q=>⟨k,rfl,uM (λ_ _=>cu _) σ H Q q⟩
 refine bT (P:=λe=>PE X e _) h λc j pos h=>?_
 cases d with
 | int i =>
  cases c<;>first | exact absurd (show false=true from h) ao | skip
  have h:=eq_of_beq (show(i==_)=true from h);subst h;exact eF qz (uM λ_ _=>cu _)
 | bl i =>
  cases c<;>first | exact absurd (show false=true from h) ao | skip
  have h:=eq_of_beq (show(i==_)=true from h);subst h;exact eF HZ (uM λ_ _=>iN _)
 | str i =>
  cases c<;>first | exact absurd (show false=true from h) ao | skip
  have h:=eq_of_beq (show(i==_)=true from h);subst h;exact eF BK (uM λ_ _=>rm _)
 | a6 =>
  cases c<;>first | exact absurd (show false=true from h) ao | skip
  exact eF JS (uM λ_ _=>jc)
 | tup _=>cases h
 | aJ _=>cases h
 | ls _=>cases h
theorem ID{op:ES}{a b:C}{e:Expr}(yB:∀e,bE cc a e=true->PE X e (tE X.K (ev G a)))(Lm:∀e,bE cc b e=true->PE X e (tE X.K (ev G b)))(h:bE cc (.bin op a b) e=true):PE X e (tE X.K (ev G (.bin op a b))):=by
 refine wC (P:=λe=>PE X e _) h λl o r pos h=>?_;have h:(o==GF op&&bE cc a l&&bE cc b r)=true:=h;simp only[ay,e_]at h;obtain⟨⟨rfl,h1⟩,h2⟩:=h;refine eF (NT (K5 op) (yB l h1) (Lm r h2)) λσ H Q q=>?_;exact two (λm r1 r2 h=>⟨_,_,_,_,m,r1,r2,h⟩) q
theorem wK{K:PySem.W.Frag}{ads:List Addr}{H:Hp}{Q:VK}{o:bF Bool}(h:bL K ads H Q (o.bind λr M=>.ok (.d (.bl r)) M)):GH K ads H Q o:=by
 cases o with
 | ok b M=>exact λH' aw g m=>h (.bl b) H' aw g m (show RD K aw H' (.bl b) _ from iN _)
 | err _ _=>exact h
 | ae=>exact h
theorem Dj{b:C}{e:Expr}(hn:isNone e=true)(hb:bE cc b e=true):b=.bx .a6:=by
 revert hb;refine bT (P:=λe=>bE cc b e=true->b=.bx .a6) hn λc j pos hn hb=>?_;cases c<;>first | cases hn | skip
 cases b<;>first | exact absurd (show false=true from hb) ao | skip
 rename_i d
 cases d<;>first | rfl | exact absurd (show false=true from hb) ao
theorem yC{op:AD}{a b:C}{e:Expr}(g:bZ kk X cc G)(yB:∀e,bE cc a e=true->PE X e (tE X.K (ev G a)))(Lm:∀e,bE cc b e=true->PE X e (tE X.K (ev G b)))(h:bE cc (.cmp op a b) e=true):PE X e (tE X.K (ev G (.cmp op a b)))/\PT X e (jw (tE X.K (ev G (.cmp op a b)))):=by
 refine gp (P:=λe=>PE X e (tE X.K (ev G (.cmp op a b)))/\PT X e (jw (tE X.K (ev G (.cmp op a b))))) h λl ops rs pos h=>?_;rcases ops with _|⟨o,_|⟨o2,ops⟩⟩<;>rcases rs with _|⟨r,_|⟨r2,rs⟩⟩<;>first | exact absurd (show false=true from h) ao | skip
 have h:(o==K6 op && !behindInMarks o r&&(if op=.vm\/op=.iF then isNone r else true)&&bE cc a l&&bE cc b r)=true:=h;simp only[ay,e_,gQ]at h;obtain⟨⟨⟨⟨rfl,hm⟩,hn⟩,h1⟩,h2⟩:=h;have Q8:=g.rh.un
 have lE:∀σ H Q,tE X.K (ev G (.cmp op a b)) σ H Q->FF (GI X.K op) (tE X.K (ev G a)) (tE X.K (ev G b)) σ H Q:=by
  intro σ H Q q;by_cases V2:op=.vm\/op=.iF
  ·rw[aT V2]at hn;have eb:=Dj hn h2;subst eb;obtain⟨ads,M,ρ,s,q⟩:=q;refine cq s q λw M1 v H1 ah s1 ie q1=>⟨ah,M1,ρ,s1,?_⟩;intro vy H2 aK g2 m2 ry;have ey:=nj ry;refine⟨aK,M1,w,.d .a6,m2,g2.rw ie,(show RD X.K aK H2 .a6 vy by rw[ey];exact jc),λ_=>ey,?_⟩;have q1:bL X.K ah H1 Q ((bG op w (.d .a6) M1).bind λr M=>.ok (.d (.bl r)) M):=q1;exact wK (q1.shift g2 s1.mem m2)
  ·exact two (λm r1 r2 h=>⟨_,_,_,_,m,r1,r2,λz=>absurd z V2,wK h⟩) q
 exact⟨eF (qD (kI ∅ op) (yB l h1) (Lm r h2) hm) lE,Di (qE (kI ∅ op) (yB l h1) (Lm r h2) hm) λσ H Q q=>lE σ H _ q⟩
theorem IE{a:C}{e:Expr}(yB:∀e,bE cc a e=true->PE X e (tE X.K (ev G a)))(h:bE cc (.neg a) e=true):PE X e (tE X.K (ev G (.neg a))):=by
 refine dE (P:=λe=>PE X e _) h λop x pos h=>?_;obtain⟨h0,h⟩:=(ay _ _).mp h;cases op<;>first | exact absurd (show false=true from h0) ao | skip
 refine eF (JX (yB x h)) λσ H Q q=>?_;obtain⟨ads,M,ρ,s,q⟩:=q;refine cq s q λw M1 v H1 ah s1 ie q1=>?_;rcases w with⟨_ | b | _|_|_|_⟩|_<;>first | exact q1.elim | skip
 exact⟨b,iM ie,bL.plain q1 s1.mem (iN _)⟩
theorem IF{cs:List C}{e:Expr}(ih:∀es,bt cc cs es=true->PA X es (Bo X.K (a_ G cs)))(h:bE cc (.tup cs) e=true):PE X e (tE X.K (ev G (.tup cs))):=by
 refine eR (P:=λe=>PE X e _) h λes k pos h=>?_;refine eF (B0 (ih es h)) λσ H Q q=>?_;obtain⟨ads,M,ρ,s,q⟩:=q;refine⟨ads,M,ρ,s,?_⟩;simp only[CV]at q
 cases hq:a_ G cs ρ M with
 | ok ds M1 =>
  rw[hq]at q;have q:bL X.K ads H Q (if ds.length<=sizeLine then .ok (.d (.tup ds)) M1 else .ae):=q;intro vs H1 ah g1 m1 r1;split at q
  ·rename_i hz
   exact⟨by rw[<- r1.len];exact hz,λp hp=>(q.shift g1 s.mem m1).tuple m1 r1 hp⟩
  ·exact q.elim
 | err _ _=>rw[hq]at q;exact q
 | ae=>rw[hq]at q;exact q
theorem IG{cs:List C}{e:Expr}(ih:∀es,bt cc cs es=true->PA X es (Bo X.K (a_ G cs)))(h:bE cc (.lst cs) e=true):PE X e (tE X.K (ev G (.lst cs))):=by
 refine AM (P:=λe=>PE X e _) h λes pos h=>?_;refine eF (Kh (ih es h)) λσ H Q q=>?_;obtain⟨ads,M,ρ,s,q⟩:=q;refine⟨ads,M,ρ,s,?_⟩;simp only[CW]at q
 cases hq:a_ G cs ρ M with
 | ok ds M1 =>
  rw[hq]at q;have q:bL X.K ads H Q (if ds.length<=sizeLine then .ok (.lv ds) M1 else .ae):=q;intro vs H1 ah g1 m1 r1;split at q
  ·rename_i hz
   exact⟨by rw[<- r1.len];exact hz,λp hp=>(q.shift g1 s.mem m1).list m1 r1 hp⟩
  ·exact q.elim
 | err _ _=>rw[hq]at q;exact q
 | ae=>rw[hq]at q;exact q
theorem kK{K:PySem.W.Frag}{ads aw:List Addr}{H H':Hp}{w:W}{v:V}{M1:ag}{d:D}{M2:ag}(m:aI K ads H M)(g:aB ads aw H H')(m1:aI K aw H' M1)(r:GD K aw H H' w v)(e:own w M1=.ok d M2):∃aK,aB ads aK H H'/\aI K aK H' M2/\RD K aK H' d v:=by
 cases w with
 | d x=>cases e;exact⟨aw,g,m1,r⟩
 | lv ds =>
  cases e;obtain⟨a,xs,rfl,h0,h1,n,r⟩:=r;refine⟨aw++[a],⟨?_,λb hb nb=>?_,g.kept,g.fH,g.gI⟩,m1.push n ⟨xs,h1,r⟩,?_⟩
  ·obtain⟨t,e⟩:=g.pre;exact⟨t++[a],by rw[e,By]⟩
  ·rcases iu.mp hb with z | z
   ·exact g.new b z nb
   ·have:b=a:=by simpa using z
    subst this;exact h0
  ·unfold RD;exact⟨a,rfl,by rw[oy (by rw[m1.len];exact aq _)];simp[m1.len]⟩
theorem IH:PA X [] (Bo X.K (a_ G [])):=Nh fZ λσ H Q q=>by
 obtain⟨ads,M,ρ,s,q⟩:=q;exact q [] H ads (aB.refl _ _) s.mem (by unfold aN;rfl)
theorem Dk{c:C}{cs:List C}{e:Expr}{es:List Expr}(hs:aF e=true)(ha:PE X e (tE X.K (ev G c)))(hr:PA X es (Bo X.K (a_ G cs))):PA X (e::es) (Bo X.K (a_ G (c::cs))):=by
 refine Nh (cV ha hr (a7 hs es X.env)) λσ H Q q=>?_;obtain⟨ads,M,ρ,s,q⟩:=q;refine⟨ads,M,ρ,s,?_⟩;simp only[fR,eJ]at q
 cases hq:ev G c ρ M with
 | ok w M1 =>
  rw[hq]at q;intro v H1 ah g1 m1 r1
  cases ho:own w M1 with
  | ok d M2 =>
   have q:uG X.K ads H Q ((own w M1).bind λd M=>(a_ G cs ρ M).bind λds M=>.ok (d::ds) M):=q;rw[ho]at q;obtain⟨aK,g2,m2,rd⟩:=kK s.mem g1 m1 r1 ho;refine⟨aK,M2,ρ,s.grow g2 m2,?_⟩;have q:uG X.K ads H Q ((a_ G cs ρ M2).bind λds M=>.ok (d::ds) M):=q
   cases Dl:a_ G cs ρ M2 with
   | ok ds M3 =>
    rw[Dl]at q;intro vs H3 cS g3 m3 r3;refine q (v::vs) H3 cS (g2.trans g3) m3 ?_;unfold aN;exact⟨v,vs,rfl,g3.rd _ _ rd,r3⟩
   | err _ _=>rw[Dl]at q;exact EX.shift (show EX.post X.K ads H _ _ from q) g2
   | ae=>rw[Dl]at q;exact q
  | err _ _=>cases w<;>cases ho
  | ae=>cases w<;>cases ho
 | err _ _=>rw[hq]at q;exact q
 | ae=>rw[hq]at q;exact q
end
end
section
variable [EX]
section
variable {kk:Nat} {X:Cx} {cc:CC} {G:a8}
theorem yD{o1 o2:AD}{a b c:C}{e:Expr}(g:bZ kk X cc G)(yB:∀e,bE cc a e=true->PE X e (tE X.K (ev G a)))(Lm:∀e,bE cc b e=true->PE X e (tE X.K (ev G b)))(Ra:∀e,bE cc c e=true->PE X e (tE X.K (ev G c)))(h:bE cc (.chain o1 o2 a b c) e=true):PE X e (tE X.K (ev G (.chain o1 o2 a b c)))/\PT X e (jw (tE X.K (ev G (.chain o1 o2 a b c)))):=by
 refine gp (P:=λe=>PE X e (tE X.K (ev G (.chain o1 o2 a b c)))/\PT X e (jw (tE X.K (ev G (.chain o1 o2 a b c))))) h λl ops rs pos h=>?_;rcases ops with _|⟨p,_|⟨q,_|⟨_,ops⟩⟩⟩<;>rcases rs with _|⟨m,_|⟨r,_|⟨_,rs⟩⟩⟩<;>first | exact absurd (show false=true from h) ao | skip
 have h:(p==K6 o1&&q==K6 o2 && !lastMarks [p,q] [m,r] && !(decide (o1=.vm)||decide (o1=.iF)||decide (o2=.vm)||decide (o2=.iF))&&bE cc a l&&bE cc b m&&bE cc c r)=true:=h;simp only[ay,e_,gQ,Bool.or_eq_false_iff,decide_eq_false_iff_not]at h;obtain⟨⟨⟨⟨⟨⟨rfl,rfl⟩,hm⟩,⟨⟨⟨n1,n2⟩,n3⟩,n4⟩⟩,h1⟩,h2⟩,h3⟩:=h;have Q8:=g.rh.un
 have lE:∀σ H Q,tE X.K (ev G (.chain o1 o2 a b c)) σ H Q->vQ (GI X.K o1) (GI X.K o2) (tE X.K (ev G a)) (tE X.K (ev G b)) (tE X.K (ev G c)) σ H Q:=by
  intro σ H Q q;obtain⟨ads,M,ρ,s,q⟩:=q;refine cq s q λx M1 v H1 ah s1 rx q1=>?_;refine⟨ah,M1,ρ,s1,?_⟩
  cases hq:ev G b ρ M1 with
  | ok y M2 =>
   rw[hq]at q1;intro vy H2 aK g2 m2 ry;have q2:bL X.K ah H1 Q ((bG o1 x y M2).bind λr M=>if r then (ev G c ρ M).bind λz M=>(bG o2 y z M).bind λr M=>.ok (.d (.bl r)) M else .ok (.d (.bl false)) M):=q1;have s2:=s1.grow g2 m2;refine⟨aK,M2,x,y,m2,g2.rw rx,ry.rw,λz=>absurd z (by simp[n1,n2]),?_⟩
   cases hc:bG o1 x y M2 with
   | ok k M3 =>
    rw[hc]at q2;intro H3 cS g3 m3;have s3:=s2.grow g3 m3;have Yj:=g3.rw ry.rw;refine⟨k,rfl,?_⟩;have q3:bL X.K cS H3 Q (if k then (ev G c ρ M3).bind λz M=>(bG o2 y z M).bind λr M=>.ok (.d (.bl r)) M else .ok (.d (.bl false)) M3):=bL.shift q2 (g2.trans g3) s1.mem m3
    cases k with
    | false=>rw[aU (by simp)]at q3⊢;exact bL.plain q3 m3 (iN _)
    | true =>
     rw[aT rfl]at q3⊢;refine⟨cS,M3,ρ,s3,?_⟩
     cases hz:ev G c ρ M3 with
     | ok z M4 =>
      rw[hz]at q3;intro vz H4 GV g4 m4 rz;exact⟨GV,M4,y,z,m4,g4.rw Yj,rz.rw,λw=>absurd w (by simp[n3,n4]),wK (bL.shift (o:=(bG o2 y z M4).bind λr M=>.ok (.d (.bl r)) M) q3 g4 m3 m4)⟩
     | err _ _=>rw[hz]at q3;exact q3
     | ae=>rw[hz]at q3;exact q3
   | err _ _=>rw[hc]at q2;exact EX.shift (show EX.post X.K ah H1 _ _ from q2) g2
   | ae=>rw[hc]at q2;exact q2
  | err _ _=>rw[hq]at q1;exact q1
  | ae=>rw[hq]at q1;exact q1
 exact⟨eF (BW (kI ∅ o1) (kI ∅ o2) (yB l h1) (Lm m h2) (Ra r h3) hm) lE,Di (BX (kI ∅ o1) (kI ∅ o2) (yB l h1) (Lm m h2) (Ra r h3) hm) λσ H Q q=>lE σ H _ q⟩
theorem AO{P:Expr->Prop}{e:Expr}(h:rD e=true)(k:∀j p,P (.Constant (.bool true) j p)):P e:=bT (P:=P) h λc j p h=>by
 rcases c with _ | b | _|_|_|_|_|_<;>first | exact absurd (show false=true from h) ao | skip
 cases b with
 | true=>exact k j p
 | false=>exact absurd (show false=true from h) ao
theorem uN{ng:Bool}{a:C}{σ:L2.St}{H:Hp}{Q:VK}(q:tE X.K (ev G (.eh ng a)) σ H Q):FF (λx y H Q=>∃b c,x=.bl b/\y=.bl c/\Q (.bl (ng != (b==c))) H) (tE X.K (ev G a)) (tC (.bl true)) σ H Q:=by
 obtain⟨ads,M,ρ,s,q⟩:=q;refine cq s q λw M1 v H1 ah s1 ie q1=>?_;rcases w with⟨_ | b | _|_|_|_|_⟩|_<;>first | exact q1.elim | skip
 refine⟨b,true,iM ie,rfl,?_⟩;rw[show(b==true)=b from by cases b<;>rfl];exact bL.plain q1 s1.mem (iN _)
theorem rF{ng:Bool}{a:C}{e:Expr}(yB:∀e,bE cc a e=true->PE X e (tE X.K (ev G a)))(h:bE cc (.eh ng a) e=true):PE X e (tE X.K (ev G (.eh ng a)))/\PT X e (jw (tE X.K (ev G (.eh ng a)))):=by
 refine gp (P:=λe=>PE X e (tE X.K (ev G (.eh ng a)))/\PT X e (jw (tE X.K (ev G (.eh ng a))))) h λl ops rs pos h=>?_;rcases ops with _|⟨o,_|⟨o2,ops⟩⟩<;>rcases rs with _|⟨r,_|⟨r2,rs⟩⟩<;>first | exact absurd (show false=true from h) ao | skip
 have h:(o==(if ng=true then CmpOp.IsNot else CmpOp.Is) && !behindInMarks o r&&rD r&&bE cc a l)=true:=h;simp only[ay,e_,gQ]at h;obtain⟨⟨⟨ho,hm⟩,hr⟩,h1⟩:=h;have pc:PE X r (tC (.bl true)):=AO (P:=λr=>PE X r (tC (.bl true))) hr λj p=>HZ
 cases ng with
 | true =>
  have ho:o=.IsNot:=ho;subst ho
  have lE:∀σ H Q,tE X.K (ev G (.eh true a)) σ H Q->FF (λx y H Q=>∃b c,x=.bl b/\y=.bl c/\Q (.bl (!(b==c))) H) (tE X.K (ev G a)) (tC (.bl true)) σ H Q:=λσ H Q q=>by
   have:=uN q;simp only[Bool.true_bne]at this;exact this
  exact⟨eF (qD xZ (yB l h1) pc hm) lE,Di (qE xZ (yB l h1) pc hm) λσ H Q q=>lE σ H _ q⟩
 | false =>
  have ho:o=.Is:=ho;subst ho
  have lE:∀σ H Q,tE X.K (ev G (.eh false a)) σ H Q->FF (λx y H Q=>∃b c,x=.bl b/\y=.bl c/\Q (.bl (b==c)) H) (tE X.K (ev G a)) (tC (.bl true)) σ H Q:=λσ H Q q=>by
   have:=uN q;simp only[Bool.false_bne]at this;exact this
  exact⟨eF (qD Cq (yB l h1) pc hm) lE,Di (qE Cq (yB l h1) pc hm) λσ H Q q=>lE σ H _ q⟩
theorem yE{ng:Bool}{a:C}(ρ:En)(M:ag)(w:W)(M':ag)(h:ev G (.eh ng a) ρ M=.ok w M'):∃k,w=.d (.bl k):=by
 simp only[yt]at h
 cases h1:ev G a ρ M with
 | ok x M1 =>
  rw[h1]at h;rcases x with⟨_ | b | _|_|_|_|_⟩|_<;>first | cases h | skip
  exact⟨_,rfl⟩
 | err _ _=>rw[h1]at h;cases h
 | ae=>rw[h1]at h;cases h
theorem II{op:BoolOp}:∀(cs:List C)(es:List Expr)(pos:Pos),(∀c∈cs,∀e,bE cc c e=true->PE X e (tE X.K (ev G c)))->bt cc cs es=true->es≠[]->PE X (.BoolOp .And es pos) (tE X.K (iL G cs))
 | [],[],_,_,_,h=>absurd rfl h
 | [],_::_,_,_,h,_=>by cases h
 | _::_,[],_,_,h,_=>by cases h
 | c::cs,e::es,pos,ih,h,_=>by
  have h':(aF e&&bE cc c e&&bt cc cs es)=true:=h;simp only[ay]at h';have he:=ih c du e h'.1.2
  cases es with
  | nil =>
   cases cs with
   | cons _ _=>cases h'.2
   | nil =>
    refine eF (BL he) λσ H Q q=>?_;obtain⟨ads,M,ρ,s,q⟩:=q;refine⟨ads,M,ρ,s,?_⟩;simp only[kC,i_]at q
    cases hq:ev G c ρ M with
    | ok w M1=>rw[hq]at q;exact q
    | err _ _=>rw[hq]at q;exact q
    | ae=>rw[hq]at q;exact q
  | cons e2 es =>
   cases cs with
   | nil=>cases h'.2
   | cons c2 cs =>
    have hr:=II (op:=op) (c2::cs) (e2::es) pos (λc hc=>ih c (cZ _ hc)) h'.2 (by simp);refine eF (JW he hr) λσ H Q q=>?_;obtain⟨ads,M,ρ,s,q⟩:=q
    have q:bL X.K ads H Q ((ev G c ρ M).bind λx M=>match c2::cs,x with
     | [],x=>.ok x M
     | _,.d (.bl true)=>iL G (c2::cs) ρ M
     | _,.d (.bl false)=>.ok (.d (.bl false)) M
     | _,_=>.ae):=by unfold iL at q;exact q
    refine cq s q λw M1 v H1 ah s1 ie q1=>?_;rcases w with⟨_ | b | _|_|_|_⟩|_<;>first | exact q1.elim | skip
    refine⟨b,iM ie,?_⟩
    cases b with
    | false=>rw[aU (by simp)];exact bL.plain q1 s1.mem (iN _)
    | true=>rw[aT rfl];exact⟨ah,M1,ρ,s1,q1⟩
theorem O5:∀(cs:List C)(es:List Expr)(pos:Pos),(∀c∈cs,∀e,bE cc c e=true->PE X e (tE X.K (ev G c)))->bt cc cs es=true->es≠[]->PE X (.BoolOp .Or es pos) (tE X.K (oW G cs))
 | [],[],_,_,_,h=>absurd rfl h
 | [],_::_,_,_,h,_=>by cases h
 | _::_,[],_,_,h,_=>by cases h
 | c::cs,e::es,pos,ih,h,_=>by
  have h':(aF e&&bE cc c e&&bt cc cs es)=true:=h;simp only[ay]at h';have he:=ih c du e h'.1.2
  cases es with
  | nil =>
   cases cs with
   | cons _ _=>cases h'.2
   | nil =>
    refine eF (BL he) λσ H Q q=>?_;obtain⟨ads,M,ρ,s,q⟩:=q;refine⟨ads,M,ρ,s,?_⟩;simp only[m_,kE]at q
    cases hq:ev G c ρ M with
    | ok w M1=>rw[hq]at q;exact q
    | err _ _=>rw[hq]at q;exact q
    | ae=>rw[hq]at q;exact q
  | cons e2 es =>
   cases cs with
   | nil=>cases h'.2
   | cons c2 cs =>
    have hr:=O5 (c2::cs) (e2::es) pos (λc hc=>ih c (cZ _ hc)) h'.2 (by simp);refine eF (NH he hr) λσ H Q q=>?_;obtain⟨ads,M,ρ,s,q⟩:=q
    have q:bL X.K ads H Q ((ev G c ρ M).bind λx M=>match c2::cs,x with
     | [],x=>.ok x M
     | _,.d (.bl false)=>oW G (c2::cs) ρ M
     | _,.d (.bl true)=>.ok (.d (.bl true)) M
     | _,_=>.ae):=by unfold oW at q;exact q
    refine cq s q λw M1 v H1 ah s1 ie q1=>?_;rcases w with⟨_ | b | _|_|_|_⟩|_<;>first | exact q1.elim | skip
    refine⟨b,iM ie,?_⟩
    cases b with
    | true=>rw[aT rfl];exact bL.plain q1 s1.mem (iN _)
    | false=>rw[aU (by simp)];exact⟨ah,M1,ρ,s1,q1⟩
theorem rG{K:PySem.W.Frag}{ads:List Addr}{H:Hp}{M:ag}{ρ:En}{σ:L2.St}{o:En->ag->bF Bool}{k:Bool->ag->bF Bool}{Q:Bool->Hp->Prop}{R:Bool->Hp->Prop}(s:SR K ads M ρ σ H)(h:ET K ads H Q ((o ρ M).bind k))(hk:∀w M1 H1 ah,SR K ah M1 ρ σ H1->ET K ah H1 Q (k w M1)->R w H1):ni K o σ H R:=by
 refine⟨ads,M,ρ,s,?_⟩
 cases q:o ρ M with
 | ok w M1 =>
  rw[q]at h;have h:ET K ads H Q (k w M1):=h;exact λH1 ah g1 m1=>hk w M1 H1 ah (s.grow g1 m1) (h.shift g1)
 | err _ _=>rw[q]at h;exact h
 | ae=>rw[q]at h;exact h
theorem O6{c:C}{σ:L2.St}{H:Hp}{Q:Bool->Hp->Prop}(h:ni X.K (dS G (.val c)) σ H Q):tE X.K (ev G c) σ H λx H'=>∃k,BY X.K x H' k/\Q k H':=by
 obtain⟨ads,M,ρ,s,q⟩:=h;refine⟨ads,M,ρ,s,?_⟩;simp only[rg]at q
 cases hq:ev G c ρ M with
 | ok w M1 =>
  rw[hq]at q;intro v H1 ah g1 m1 r1;have q:ET X.K ads H Q (match oS M1 w with | some r=>.ok r M1 | none=>.ae):=q
  cases ht:oS M1 w with
  | none=>rw[ht]at q;exact q.elim
  | some k=>rw[ht]at q;exact⟨k,O0 m1 r1.rw ht,q H1 ah g1 m1⟩
 | err _ _=>rw[hq]at q;exact q
 | ae=>rw[hq]at q;exact q
theorem GW{e:Expr}(h:ik e=true)(env:Env):∀mH,isTrue e env mH=(do let v <- mH;standAt e.pos;holding [v] (truthy v)):=by
 cases e<;>first | (intro _;rfl) | exact absurd (show false=true from h) ao
theorem GX{c:C}{e:Expr}(hp:ik e=true)(he:PE X e (tE X.K (ev G c))):PT X e (ni X.K (dS G (.val c))) :=
 Di (BZ he (GW hp X.env)) λσ H Q q=>O6 q
theorem nA{c:C}{e:Expr}(hb:∀ρ M w M',ev G c ρ M=.ok w M'->∃k,w=.d (.bl k))(he:PT X e (jw (tE X.K (ev G c)))):PT X e (ni X.K (dS G (.val c))):=by
 refine Di he λσ H Q q=>?_;obtain⟨ads,M,ρ,s,q⟩:=q;refine⟨ads,M,ρ,s,?_⟩;simp only[rg]at q
 cases hq:ev G c ρ M with
 | ok w M1 =>
  rw[hq]at q;obtain⟨k,rfl⟩:=hb _ _ _ _ hq;intro v H1 ah g1 m1 r1;exact⟨k,iM r1,q H1 ah g1 m1⟩
 | err _ _=>rw[hq]at q;exact q
 | ae=>rw[hq]at q;exact q
theorem Dm{op:AD}{a b:C}(ρ:En)(M:ag)(w:W)(M':ag)(h:ev G (.cmp op a b) ρ M=.ok w M'):∃k,w=.d (.bl k):=by
 simp only[CU]at h
 cases h1:ev G a ρ M with
 | ok x M1 =>
  rw[h1]at h;simp only[bF.bind]at h
  cases h2:ev G b ρ M1 with
  | ok y M2 =>
   rw[h2]at h;simp only at h
   cases h3:bG op x y M2 with
   | ok k M3=>rw[h3]at h;cases h;exact⟨k,rfl⟩
   | err _ _=>rw[h3]at h;cases h
   | ae=>rw[h3]at h;cases h
  | err _ _=>rw[h2]at h;cases h
  | ae=>rw[h2]at h;cases h
 | err _ _=>rw[h1]at h;cases h
 | ae=>rw[h1]at h;cases h
theorem Dn{o1 o2:AD}{a b c:C}(ρ:En)(M:ag)(w:W)(M':ag)(h:ev G (.chain o1 o2 a b c) ρ M=.ok w M'):∃k,w=.d (.bl k):=by
 simp only[uD]at h
 cases h1:ev G a ρ M with
 | ok x M1 =>
  rw[h1]at h;simp only[bF.bind]at h
  cases h2:ev G b ρ M1 with
  | ok y M2 =>
   rw[h2]at h;simp only at h
   cases h3:bG o1 x y M2 with
   | ok k M3 =>
    rw[h3]at h;simp only at h
    cases k with
    | false=>cases h;exact⟨_,rfl⟩
    | true =>
     simp only[fm]at h
     cases h4:ev G c ρ M3 with
     | ok z M4 =>
      rw[h4]at h;simp only at h
      cases h5:bG o2 y z M4 with
      | ok k M5=>rw[h5]at h;cases h;exact⟨k,rfl⟩
      | err _ _=>rw[h5]at h;cases h
      | ae=>rw[h5]at h;cases h
     | err _ _=>rw[h4]at h;cases h
     | ae=>rw[h4]at h;cases h
   | err _ _=>rw[h3]at h;cases h
   | ae=>rw[h3]at h;cases h
  | err _ _=>rw[h2]at h;cases h
  | ae=>rw[h2]at h;cases h
 | err _ _=>rw[h1]at h;cases h
 | ae=>rw[h1]at h;cases h
theorem IJ{t:ef}{e:Expr}{pos:Pos}(ih:PT X e (ni X.K (dS G t))):PT X (.UnaryOp .Not e pos) (ni X.K (dS G (.neg t))):=by
 refine Di (JV ih) λσ H Q q=>?_;obtain⟨ads,M,ρ,s,q⟩:=q;exact rG s q λw M1 H1 ah s1 q1=>q1 H1 ah (aB.refl _ _) s1.mem
theorem Dp:∀(ts:List ef)(es:List Expr)(pos:Pos),(∀t∈ts,∀e,jO cc t e=true->PT X e (ni X.K (dS G t)))->nz cc ts es=true->es≠[]->PW X (.BoolOp .And es pos) (ni X.K (fb G ts))
 | [],[],_,_,_,h=>absurd rfl h
 | [],_::_,_,_,h,_=>by cases h
 | _::_,[],_,_,h,_=>by cases h
 | c::cs,e::es,pos,ih,h,_=>by
  have h':(jO cc c e&&nz cc cs es)=true:=h;simp only[ay]at h';have he:=ih c du e h'.1
  cases es with
  | nil =>
   cases cs with
   | cons _ _=>cases h'.2
   | nil =>
    refine Q_ (Ft he) λσ H Q q=>?_;obtain⟨ads,M,ρ,s,q⟩:=q;refine⟨ads,M,ρ,s,?_⟩;simp only[kF,ja]at q
    cases hq:dS G c ρ M with
    | ok w M1=>rw[hq]at q;exact q
    | err _ _=>rw[hq]at q;exact q
    | ae=>rw[hq]at q;exact q
  | cons e2 es =>
   cases cs with
   | nil=>cases h'.2
   | cons c2 cs =>
    have hr:=Dp (c2::cs) (e2::es) pos (λc hc=>ih c (cZ _ hc)) h'.2 (by simp);refine Q_ (JU he hr) λσ H Q q=>?_;obtain⟨ads,M,ρ,s,q⟩:=q
    have q:ET X.K ads H Q ((dS G c ρ M).bind λx M=>match c2::cs,x with
     | [],x=>.ok x M
     | _,true=>fb G (c2::cs) ρ M
     | _,false=>.ok false M):=by unfold fb at q;exact q
    refine rG s q λw M1 H1 ah s1 q1=>?_
    cases w with
    | false=>rw[aU (by simp)];exact q1 H1 ah (aB.refl _ _) s1.mem
    | true=>rw[aT rfl];exact⟨ah,M1,ρ,s1,q1⟩
theorem Dq:∀(ts:List ef)(es:List Expr)(pos:Pos),(∀t∈ts,∀e,jO cc t e=true->PT X e (ni X.K (dS G t)))->nz cc ts es=true->es≠[]->PW X (.BoolOp .Or es pos) (ni X.K (fc G ts))
 | [],[],_,_,_,h=>absurd rfl h
 | [],_::_,_,_,h,_=>by cases h
 | _::_,[],_,_,h,_=>by cases h
 | c::cs,e::es,pos,ih,h,_=>by
  have h':(jO cc c e&&nz cc cs es)=true:=h;simp only[ay]at h';have he:=ih c du e h'.1
  cases es with
  | nil =>
   cases cs with
   | cons _ _=>cases h'.2
   | nil =>
    refine Q_ (JT he) λσ H Q q=>?_;obtain⟨ads,M,ρ,s,q⟩:=q;refine⟨ads,M,ρ,s,?_⟩;simp only[kG,jb]at q
    cases hq:dS G c ρ M with
    | ok w M1=>rw[hq]at q;exact q
    | err _ _=>rw[hq]at q;exact q
    | ae=>rw[hq]at q;exact q
  | cons e2 es =>
   cases cs with
   | nil=>cases h'.2
   | cons c2 cs =>
    have hr:=Dq (c2::cs) (e2::es) pos (λc hc=>ih c (cZ _ hc)) h'.2 (by simp);refine Q_ (ND he hr) λσ H Q q=>?_;obtain⟨ads,M,ρ,s,q⟩:=q
    have q:ET X.K ads H Q ((dS G c ρ M).bind λx M=>match c2::cs,x with
     | [],x=>.ok x M
     | _,false=>fc G (c2::cs) ρ M
     | _,true=>.ok true M):=by unfold fc at q;exact q
    refine rG s q λw M1 H1 ah s1 q1=>?_
    cases w with
    | true=>rw[aT rfl];exact q1 H1 ah (aB.refl _ _) s1.mem
    | false=>rw[aU (by simp)];exact⟨ah,M1,ρ,s1,q1⟩
end
end
section
variable [EX]
section
variable {kk:Nat} {X:Cx} {cc:CC} {G:a8}
theorem wL{b:Expr}(h:jL b=true):xT b:=by
 intro o i;cases b<;>first | rfl | exact absurd (show false=true from h) ao
theorem IK{a b:C}{e i:Expr}{pos:Pos}(g:bZ kk X cc G)(hs:jL i=true)(ha:PE X e (tE X.K (ev G a)))(hb:PE X i (tE X.K (ev G b))):PE X (.Subscript e i pos) (tE X.K (ev G (.sub a b))):=by
 have Q8:=g.rh.un;refine eF (Oe (K7 ∅) ha hb (wL hs)) λσ H Q q=>?_;exact two (λm r1 r2 h=>⟨_,_,_,_,m,r1,r2,h⟩) q
noncomputable def Yk(K:PySem.W.Frag)(ads:List Addr)(H:Hp)(Q:Option Int->Hp->Prop):bF (Option Int)->Prop
 | .ok o M=>∀H' aw,aB ads aw H H'->aI K aw H' M->Q o H'
 | .err x M=>EX.post K ads H x M
 | .ae=>False
def tO(K:PySem.W.Frag)(o:En->ag->bF (Option Int)):TO:=λσ H Q=>∃ads M ρ,SR K ads M ρ σ H/\Yk K ads H Q (o ρ M)
theorem Ln:PO X none (tO X.K (sM G none)):=λaa s σ H Q I q=>FW aa s σ H Q I (by
 obtain⟨ads,M,ρ,s,q⟩:=q;exact q H ads (aB.refl _ _) s.mem)
theorem Lo{c:C}{e:Expr}(h:PE X e (tE X.K (ev G c))):PO X (some e) (tO X.K (sM G (some c))):=λaa s σ H Q I q=>FX h aa s σ H Q I (by
 obtain⟨ads,M,ρ,s,q⟩:=q;refine⟨ads,M,ρ,s,?_⟩;simp only[na,nh]at q
 cases hq:ev G c ρ M with
 | ok w M1 =>
  rw[hq]at q;intro v H1 ah g1 m1 r1;rcases w with⟨_|_ | i | _|_|_⟩|_<;>first | exact q.elim | skip
  exact⟨i,aP r1,q H1 ah g1 m1⟩
 | err _ _=>rw[hq]at q;exact q
 | ae=>rw[hq]at q;exact q)
theorem O7{a:C}{lo hi:Option C}{e:Expr}{l h:Option Expr}{pos p2:Pos}(ha:PE X e (tE X.K (ev G a)))(hl:PO X l (tO X.K (sM G lo)))(hh:PO X h (tO X.K (sM G hi))):PE X (.Subscript e (.Slice l h none p2) pos) (tE X.K (ev G (.oQ a lo hi))):=by
 refine eF (B7 K8 ha hl hh) λσ H Q q=>?_;obtain⟨ads,M,ρ,s,q⟩:=q;refine cq s q λw M1 v H1 ah s1 ie q1=>⟨ah,M1,ρ,s1,?_⟩
 cases hq:sM G lo ρ M1 with
 | ok o1 M2 =>
  rw[hq]at q1;have q1:bL X.K ah H1 Q ((sM G hi ρ M2).bind λh M=>kB w o1 h M):=q1;intro H2 aK g2 m2;have s2:=s1.grow g2 m2;refine⟨aK,M2,ρ,s2,?_⟩
  cases EV:sM G hi ρ M2 with
  | ok o2 M3 =>
   rw[EV]at q1;intro H3 cS g3 m3;exact⟨cS,M3,w,m3,g3.rw (g2.rw ie),bL.shift (o:=kB w o1 o2 M3) q1 (g2.trans g3) s1.mem m3⟩
  | err _ _=>rw[EV]at q1;exact EX.shift (show EX.post X.K ah H1 _ _ from q1) g2
  | ae=>rw[EV]at q1;exact q1
 | err _ _=>rw[hq]at q1;exact q1
 | ae=>rw[hq]at q1;exact q1
theorem g_:∀(cs:List C)(ρ:En)(M:ag)(ds:List D)(M':ag),a_ G cs ρ M=.ok ds M'->ds.length=cs.length
 | [],ρ,M,ds,M',h=>by cases h;rfl
 | c::cs,ρ,M,ds,M',h=>by
  simp only[fR,eJ]at h
  cases h1:(ev G c ρ M).bind own with
  | ok d M1 =>
   rw[h1]at h;simp only[bF.bind]at h
   cases h2:a_ G cs ρ M1 with
   | ok es M2=>rw[h2]at h;cases h;simp[g_ cs ρ M1 es _ h2]
   | err _ _=>rw[h2]at h;cases h
   | ae=>rw[h2]at h;cases h
  | err _ _=>rw[h1]at h;cases h
  | ae=>rw[h1]at h;cases h
theorem bU{cs:List C}{es:List Expr}(h:bt cc cs es=true)(env:Env)(pos:Pos):(backTo pos (starEach es env)).any (·.1)=false:=by
 have:∀(cs:List C)(es:List Expr),bt cc cs es=true->(starEach es env).any (·.1)=false:=by
  intro cs
  induction cs with
  | nil=>intro es h;cases es with
   | nil=>rfl
   | cons _ _=>cases h
  | cons c cs ih =>
   intro es h
   cases es with
   | nil=>cases h
   | cons e es =>
    have h':(aF e&&bE cc c e&&bt cc cs es)=true:=h;simp only[ay]at h';rw[a7 h'.1.1,BG,ih es h'.2];rfl
 have e:=this cs es h;unfold backTo;simp only[List.any_map];exact e
theorem Lp{f:Nat}{cs:List C}{x:Str}{e:Expr}{es:List Expr}{p pos:Pos}(g:Good kk X cc G)(hf:cc.fs[f]?=some (x,cs.length))(hg:glob cc x=true)(hp:aS x=true)(hc:bt cc cs (e::es)=true)(ha:PA X (e::es) (Bo X.K (a_ G cs))):PE X (.Call (.Name x p) (e::es) [] pos) (tE X.K (ev G (.call f cs))):=by
 obtain⟨fa,fd,ps,F,hm,hk,hb⟩:=g.fns f x _ hf;obtain⟨E,hE,im⟩:=g.ex
 have d0:aF e=true/\bt cc cs.tail es=true:=by
  cases cs with
  | nil=>cases hc
  | cons c cs =>
   have h':(aF e&&bE cc c e&&bt cc cs es)=true:=hc;simp only[ay]at h';exact⟨h'.1.1,h'.2⟩
 refine eF (FO (pos:=pos) (p:=p) (E:=E) F g.room (g.gl hg) hm hk hb .nil hE ha (cK hp).1 (a7 d0.1 es X.env) (bU d0.2 X.env pos)) λσ H Q q=>?_;obtain⟨ads,M,ρ,s,q⟩:=q;refine⟨ads,M,ρ,s,?_⟩;simp only[yr]at q
 cases hq:a_ G cs ρ M with
 | ok ds M1 =>
  rw[hq]at q;intro vs H1 ah g1 m1 r1;refine⟨ah,M1,ds,m1,?_,g_ cs ρ M ds M1 hq,bL.imp im (bL.shift (o:=G f ds M1) q g1 s.mem m1)⟩;rw[sX];exact r1
 | err _ _=>rw[hq]at q;exact q
 | ae=>rw[hq]at q;exact q
def O8(K:PySem.W.Frag)(ads:List Addr)(H:Hp)(Q:List V->Hp->Prop):bF (List W)->Prop
 | .ok ws M=>∀vs H' aw,aB ads aw H H'->aI K aw H' M->GJ K aw H' ws vs->Q vs H'
 | .err x M=>EX.post K ads H x M
 | .ae=>False
def Lq(K:PySem.W.Frag)(o:En->ag->bF (List W)):TA:=λσ H Q=>∃ads M ρ,SR K ads M ρ σ H/\O8 K ads H Q (o ρ M)
theorem IL:PA X [] (Lq X.K (cI G [])):=Nh fZ λσ H Q q=>by
 obtain⟨ads,M,ρ,s,q⟩:=q;exact q [] H ads (aB.refl _ _) s.mem rfl
theorem Dr{c:C}{cs:List C}{e:Expr}{es:List Expr}(hs:aF e=true)(ha:PE X e (tE X.K (ev G c)))(hr:PA X es (Lq X.K (cI G cs))):PA X (e::es) (Lq X.K (cI G (c::cs))):=by
 refine Nh (cV ha hr (a7 hs es X.env)) λσ H Q q=>?_;obtain⟨ads,M,ρ,s,q⟩:=q;refine⟨ads,M,ρ,s,?_⟩;simp only[g6,fS]at q
 cases hq:ev G c ρ M with
 | ok w M1 =>
  rw[hq]at q;intro v H1 ah g1 m1 r1;refine⟨ah,M1,ρ,s.grow g1 m1,?_⟩;have q:O8 X.K ads H Q ((cI G cs ρ M1).bind λds M=>.ok (w::ds) M):=q
  cases Dl:cI G cs ρ M1 with
  | ok ds M3 =>
   rw[Dl]at q;intro vs H3 cS g3 m3 r3;exact q (v::vs) H3 cS (g1.trans g3) m3 ⟨v,vs,rfl,g3.rw r1.rw,r3⟩
  | err _ _=>rw[Dl]at q;exact EX.shift (show EX.post X.K ads H _ _ from q) g1
  | ae=>rw[Dl]at q;exact q
 | err _ _=>rw[hq]at q;exact q
 | ae=>rw[hq]at q;exact q
theorem gq{b:Bi}{cs:List C}{σ:L2.St}{H:Hp}{Q:VK}(q:tE X.K (ev G (.bi b cs)) σ H Q):Sy (C6 X.K b) (Lq X.K (cI G cs)) σ H Q:=by
 obtain⟨ads,M,ρ,s,q⟩:=q;refine⟨ads,M,ρ,s,?_⟩;simp only[CY]at q
 cases hq:cI G cs ρ M with
 | ok ws M1 =>
  rw[hq]at q;intro vs H1 ah g1 m1 r1;exact⟨ah,M1,ws,m1,r1,bL.shift (o:=fG b ws M1) q g1 s.mem m1⟩
 | err _ _=>rw[hq]at q;exact q
 | ae=>rw[hq]at q;exact q
theorem T7{b:Bi}{cs:List C}{x:Str}{e:Expr}{es:List Expr}{p pos:Pos}(g:Good kk X cc G)(hb:O4 b=true)(hx:x=Dd b)(hg:glob cc x=true)(hs:aF e=true)(hc:bt cc cs.tail es=true)(ha:PA X (e::es) (Lq X.K (cI G cs))):PE X (.Call (.Name x p) (e::es) [] pos) (tE X.K (ev G (.bi b cs))):=by
 have uO:=g.gl hg;have d0:=a7 hs es X.env;have jx:=bU hc X.env pos;have hm:X.mg x=none:=g.blt x (by subst hx;cases b<;>first | (show _∈bI;decide +kernel) | (cases hb));subst hx
 cases b with
 | len=>exact eF (d4 K9 uO hm boot_len ha ⋯ ⋯ d0 jx) λσ H Q q=>gq q
 | max2=>exact eF (d4 (La g.calm) uO hm boot_max ha ⋯ ⋯ d0 jx) λσ H Q q=>gq q
 | min2=>exact eF (d4 (Lb g.calm) uO hm boot_min ha ⋯ ⋯ d0 jx) λσ H Q q=>gq q
 | d5=>exact eF (d4 (GL g.room) uO hm boot_repr ha ⋯ ⋯ d0 jx) λσ H Q q=>gq q
 | uB=>exact eF (fL Lc uO hm ⋯ ha ⋯ ⋯ d0 jx) λσ H Q q=>gq q
 | list1=>exact eF (fL GK uO hm ⋯ ha ⋯ ⋯ d0 jx) λσ H Q q=>gq q
 | tuple1=>exact eF (fL C8 uO hm ⋯ ha ⋯ ⋯ d0 jx) λσ H Q q=>gq q
 | yj=>cases hb
 | all1=>exact eF (d4 (K_ g.calm) uO hm boot_all ha ⋯ ⋯ d0 jx) λσ H Q q=>gq q
 | Gv=>cases hb
 | j5 t=>cases hb
 | str1=>exact eF (fL Ld uO hm ⋯ ha ⋯ ⋯ d0 jx) λσ H Q q=>gq q
 | yk=>cases hb
 | min1=>cases hb
 | Gw=>cases hb
theorem yF{K:PySem.W.Frag}{ads:List Addr}{H:Hp}(i:Int)(n:Nat):aN K ads H (oV i n) (ku i n):=by
 have:∀l:List Nat,aN K ads H (l.map λk=>D.int (i+((k:Nat):Int))) (l.map λk=>V.int (i+((k:Nat):Int))):=by
  intro l
  induction l with
  | nil=>unfold aN;rfl
  | cons a l ih =>
   rw[eM,eM];unfold aN;exact⟨_,_,rfl,cu _,ih⟩
 exact this _
theorem O9{tp:Bool}{cs:List C}{x y:Str}{e:Expr}{es:List Expr}{p pos p2 kx:Pos}(g:Good kk X cc G) (hx:x=if tp=true then ("tuple" : Str) else ("list" : Str)) (hy:y = "range") (O_:glob cc x=true) (Pa:glob cc y=true) (hs:aF e=true) (hc:bt cc cs.tail es=true) (ha:PA X (e::es) (Lq X.K (cI G cs))):PE X (.Call (.Name x p2) [.Call (.Name y p) (e::es) [] pos] [] kx) (tE X.K (ev G (.jl tp cs))):=by
 have T8:=g.gl O_;have T9:=g.gl Pa;have T_:X.mg x=none:=g.blt x (by subst hx;cases tp<;>(show _∈bI;decide +kernel));have Ua:X.mg y=none:=g.blt y (by subst hy;show _∈bI;decide +kernel);subst hx hy;refine eF (Gf tp g.calm T9 Ua T8 T_ rfl ha (a7 hs es X.env) (bU hc X.env pos)) λσ H Q q=>?_;obtain⟨ads,M,ρ,s,q⟩:=q;refine⟨ads,M,ρ,s,?_⟩;simp only[C0]at q
 cases hq:cI G cs ρ M with
 | ok ws M1 =>
  rw[hq]at q;intro vs H1 ah g1 m1 r1;have q:bL X.K ah H1 Q (wt tp ws M1):=bL.shift (o:=wt tp ws M1) q g1 s.mem m1;unfold wt at q
  cases hr:m7 ws with
  | none=>rw[hr]at q;exact q.elim
  | some ij =>
   obtain⟨i,j⟩:=ij;rw[hr]at q;dsimp only at q;split at q
   ·rename_i hb
    have hv:KH vs i j:=by
     unfold m7 at hr;split at hr
     ·cases hr;obtain⟨v1,v2,rfl,a1,a2⟩:=r1.two;exact .inl (by rw[aP a1,aP a2])
     ·cases hr;obtain⟨v1,rfl,a1⟩:=r1.one;exact .inr ⟨rfl,by rw[aP a1]⟩
     ·cases hr
    refine⟨i,j,hv,hb.1,hb.2,λp hp=>?_⟩
    cases tp with
    | true=>exact bL.tuple (ds:=oV i (j-i).toNat) q m1 (yF _ _) hp
    | false=>exact bL.list (ds:=oV i (j-i).toNat) q m1 (yF _ _) hp
   ·exact q.elim
 | err _ _=>rw[hq]at q;exact q
 | ae=>rw[hq]at q;exact q
theorem Ub{y:Str}{T:String}{pos:Pos}(hg:Gl X y)(hm:X.mg y=none)(hv:bootBuiltins y=some (.type T)) (hn:y≠ "__name__") (hd:(y==("__debug__" : Str))=false):PE X (.Name y pos) (tC (.ty T)) :=
 xJ hg hm hv rfl hn hd
theorem Pb{t:Ty}{c:C}{x y:Str}{e:Expr}{p py pos:Pos}(g:bZ kk X cc G) (hx:x = "isinstance") (O_:glob cc x=true) (hy:y=Str.ofString (uK t)) (Pa:glob cc y=true) (ht:t≠.none) (hs:aF e=true) (ha:PE X e (tE X.K (ev G c))):PE X (.Call (.Name x p) [e,.Name y py] [] pos) (tE X.K (ev G (.bi (.j5 t) [c]))):=by
 have T_:X.mg x=none:=g.blt x (by subst hx;show _∈bI;decide +kernel);have Ua:X.mg y=none:=g.blt y (by subst hy;cases t<;>first | exact absurd rfl ht | (show _∈bI;decide +kernel))
 have Yl:PE X (.Name y py) (tC (.ty (uK t))):=by
  subst hy;cases t<;>first | exact absurd rfl ht | exact Ub (g.gl Pa) Ua ⋯ ⋯ ⋯
 have uO:=g.gl O_;subst hx;refine eF (d4 (Lf t) uO T_ boot_isinstance (cV ha (cV Yl fZ) (a7 hs _ X.env)) ⋯ ⋯ (a7 hs _ X.env) rfl) λσ H Q q=>?_;obtain⟨ads,M,ρ,s,q⟩:=q;refine⟨ads,M,ρ,s,?_⟩;simp only[CY,g6,fS]at q
 cases hq:ev G c ρ M with
 | ok w M1 =>
  rw[hq]at q;intro v H1 ah g1 m1 r1;exact⟨v,rfl,ah,M1,[w],m1,⟨v,[],rfl,r1.rw,rfl⟩,bL.shift (o:=fG (.j5 t) [w] M1) q g1 s.mem m1⟩
 | err _ _=>rw[hq]at q;exact q
 | ae=>rw[hq]at q;exact q
section
variable {prog:Program} {w:World} {A:Around} {E:Value->Shared->Prop} {s:Shared}
theorem rH{sl:Addr}{k:Int}{u:Tok}{n:Nat}{Q:Int×Int×Nat->Shared->Prop}(hs:s.heap.IsSliceOf sl .none .none (.int k u))(hk:k≠0)(h:Q ((Builtin.Slice.sliceAdjust none none k (n:Int)).1,k,Builtin.Slice.slicePlaces (Builtin.Slice.sliceAdjust none none k (n:Int)).1 (Builtin.Slice.sliceAdjust none none k (n:Int)).2 k) s):wpAny (model prog w) A (Builtin.Slice.sliceApplied (.ref sl) (pure (n:Int))) Q E s:=by
 obtain⟨os,Ac,Kn,EO⟩:=id hs;unfold Builtin.Slice.sliceApplied Builtin.Slice.sliceFields;refine af (af (eD Ac EO (x:=.none) rfl (af (eD Ac EO (x:=.none) rfl (af (eD Ac EO (x:=.int k u) rfl (aj ?_)))))));refine af (slicePart_int ?_);show wpAny _ _ (if (k==0)=true then _ else _) _ _ s;rw[aU (by simpa using hk)];refine af (slicePart_none (af (slicePart_none (af (aj ?_)))));exact aj h
theorem rJ{t sl:Addr}{aC:List Value}{k:Int}{u:Tok}{Q:Value->Shared->Prop}(ht:IsTup s.heap t aC.toArray)(hs:s.heap.IsSliceOf sl .none .none (.int k u))(hk:k≠0)(Ym:k≠1)(hsz:(dh aC k).length<=sizeLine) (h:Q (.ref s.heap.objs.size) {s with heap:=s.heap.push {cls:=.type "tuple",data:=.seq (dh aC k).toArray}}):wpAny (model prog w) A (getItem (.ref t) (.ref sl)) Q E s:=by
 have Rb:sizeOk (.seq (dh aC k).toArray):=by
  show(dh aC k).toArray.size<=sizeLine;rw[cg];exact hsz
 obtain⟨os,Ac,Kn,EO⟩:=id hs;have N_:s.TypeIs (.ref sl) "slice" := ⟨os,Ac,Kn⟩;unfold getItem
 try with_reducible refine fX ?_
 first | refine af (aj ?_) | skip
 refine af (wpAny_sequenceKey ht.typeIs (by decide) ?_)
 refine af (mi (name:=Str.ofString "__getitem__") ht.typeIs p9
  (iP p9 ht.typeIs entry_tuple_getitem ?_ (args_tuple_getitem _ _)))
 show wpAny _ _ (Builtin.Tuple.tupleItemsOf (.ref t) >>= _) _ _ s;refine af (tupleItemsOf_ ht ?_);refine af (tf N_ ?_);rw[aT (by decide)];refine af (rH hs hk ?_)
 have SD:∀(a b:Bool),¬((a&&(k==(1:Int))&&b)=true):=by
  intro a b z;have:(k==(1:Int))=false:=qe.mpr Ym;rw[this]at z;simp at z
 dsimp only;rw[aU (SD _ _)];have e:∀(f:Nat->Nat)(l:List Nat),(l.filterMap λj=>aC.toArray[f j]?)=l.filterMap λj=>aC[f j]?:=λf l=>by simp
 rw[e];have hl:(aC.toArray.size:Int)=(aC.length:Int):=by simp
 rw[hl]
 first
  | exact af (m:=Builtin.Tuple.tupleExact _) (e9 (aj ⟨_,rfl,aj h⟩) Rb)
  | exact af (m:=Builtin.Tuple.tupleExact _) (e9 (af (aj (aj ⟨_,rfl,aj h⟩))) Rb)
  | exact af (af (m:=Builtin.Tuple.tupleExact _) (e9 (aj (aj ⟨_,rfl,aj h⟩)) Rb))
  | exact af (af (m:=Builtin.Tuple.tupleExact _) (e9 (aj ⟨_,rfl,aj h⟩) Rb))
end
theorem lW{K:PySem.W.Frag}{ads:List Addr}{H:Hp}{ds:List D}{xs:List V}(r:aN K ads H ds xs)(f:Nat->Nat):∀js:List Nat,aN K ads H (js.filterMap λj=>ds[f j]?) (js.filterMap λj=>xs[f j]?)
 | []=>by simp;unfold aN;rfl
 | j::js=>by
  cases q:ds[f j]? with
  | none =>
   have:xs[f j]?=none:=by rw[zm]at q⊢;rw[<- r.len];exact q
   simp only[lg,q,this];exact lW r f js
  | some d =>
   obtain⟨v,e,rv⟩:=r.get q;simp only[lg,q,e];unfold aN;exact⟨_,_,rfl,rv,lW r f js⟩
theorem il{xs:List V}{us:List Value}(r:aL xs us)(f:Nat->Nat):∀js:List Nat,aL (js.filterMap λj=>xs[f j]?) (js.filterMap λj=>us[f j]?)
 | []=>.nil
 | j::js=>by
  cases q:xs[f j]? with
  | none =>
   have:us[f j]?=none:=by rw[zm]at q⊢;rw[<- r.length];exact q
   simp only[lg,q,this];exact il r f js
  | some d =>
   obtain⟨v,e,rv⟩:=r.get q;simp only[lg,q,e];exact .cons rv (il r f js)
theorem Pc{a:C}{k:Int}{e ke:Expr}{pos p2:Pos}(Yn:PE X ke (tC (.int k)))(ha:PE X e (tE X.K (ev G a))):PE X (.Subscript e (.Slice none none (some ke) p2) pos) (tE X.K (ev G (.ym a k))):=by
 intro aa s σ H Q I h;obtain⟨ads,M,ρ,sr,q⟩:=h
 have h1:tE X.K (ev G a) σ H (λx H1=>∃ah M1 w,aI X.K ah H1 M1/\RW X.K ah H1 w x/\bL X.K ah H1 Q (qZ w k M1)):=by
  refine cq sr q λw M1 v H1 ah s1 ie q1=>⟨ah,M1,w,s1.mem,ie,q1⟩
 refine Subscript_ (bX (ha aa s σ H _ I h1) ?_);rintro v s1 ⟨x,H1,I1,r1,ah,M1,w,m1,ie,q1⟩;rcases w with⟨_|_|_|_ | ds | _|_⟩|_<;>first | exact q1.elim | skip
 have ie:RD X.K ah H1 (.tup ds) x:=ie;unfold RD at ie;obtain⟨p,xs,rfl,hp,rd⟩:=ie;cases r1;simp only[qZ]at q1;split at q1
 ·rename_i hk
  refine wpAny_Slice ?_;rw[evalPart_none];refine aj ?_;refine aj ?_;rw[evalPart_some];refine bX (Yn aa s1 σ H1 (λz H'=>z=.int k/\H1=H') I1 ⟨rfl,rfl⟩) ?_;rintro u s2 ⟨z,H2,I2,rz,rfl,rfl⟩;obtain⟨t,rfl⟩:=rz;have I3:Inv X aa σ H1 {s2 with heap:=s2.heap.push {cls:=.type "slice",data:=.fields #[.none,.none,.int k t]}}:=I2.kept (t':=s2.toks) λb ob q=>aR _ q;obtain⟨aC,rv,ht,hz⟩:=I3.tuple (fF.of (K:=X.K) hp)
  have aY:(dh aC k).length=(dh ds k).length:=by
   have e1:aC.length=xs.length:=rv.length.symm;have e2:xs.length=ds.length:=rd.len.symm;have r1:=(lW rd (λ(j:Nat)=>((Builtin.Slice.sliceAdjust none none k (ds.length:Int)).1+(j:Int)*k).toNat) (List.range (Builtin.Slice.slicePlaces (Builtin.Slice.sliceAdjust none none k (ds.length:Int)).1 (Builtin.Slice.sliceAdjust none none k (ds.length:Int)).2 k))).len;have r2:=(il rv (λ(j:Nat)=>((Builtin.Slice.sliceAdjust none none k (ds.length:Int)).1+(j:Int)*k).toNat) (List.range (Builtin.Slice.slicePlaces (Builtin.Slice.sliceAdjust none none k (ds.length:Int)).1 (Builtin.Slice.sliceAdjust none none k (ds.length:Int)).2 k))).length;unfold dh;rw[e1,e2,<- r2,<- r1]
  have Yo:aN X.K ah H1 (dh ds k) (dh xs k):=by
   unfold dh;rw[<- rd.len];exact lW rd _ _
  have Q6:aL (dh xs k) (dh aC k):=by
   unfold dh;rw[<- rv.length];exact il rv _ _
  have AQ:({s2 with heap:=s2.heap.push {cls:=.type "slice",data:=.fields #[.none,.none,.int k t]}}:Shared).heap.IsSliceOf s2.heap.objs.size .none .none (.int k t):=Heap.IsSliceOf.new ..;show wpAny (model X.prog X.w) X.A (subscriptTail e (.Slice none none (some ke) p2) (.ref p) (.ref s2.heap.objs.size)) (EP X aa σ Q) X.xe {s2 with heap:=s2.heap.push {cls:=.type "slice",data:=.fields #[.none,.none,.int k t]}};refine tail_any (ops:=[.ref p,.ref s2.heap.objs.size]) ht.typeIs p9.lookup (rJ ht AQ (by rcases hk.1 with z | z<;>rw[z]<;>decide) (by rcases hk.1 with z | z<;>rw[z]<;>decide) (by rw[aY];exact hk.2) ?_) (by with_unfolding_all rfl);refine⟨.ref _,_,I3.laid (t':=s2.toks) (o:=.tup (dh xs k)) (λb ob q=>aR _ q) (aq _) ?_,rfl,q1.tuple m1 Yo (I3.bo.fresh (aq _))⟩;exact⟨by rw[Q6.length,aY];exact hk.2,_,Q6,IsTup.new _ _⟩
 ·exact q1.elim
theorem GY:Kp X "str.find" (λx xs H Q=>∃s t,x=.str s/\xs=[.str t]/\Q (.int (Txt.find s t)) H):=by
 intro aa s σ H x xs v us Q I rx rv h;obtain⟨a,b,rfl,rfl,q⟩:=h;obtain⟨t,rfl⟩:=rx;obtain⟨u,rfl,t',rfl⟩:=vals1 rv;exact PySem.W.KXw.find rfl λt' k=>⟨.int _,H,I.tok k,⟨_,rfl⟩,q⟩
theorem jC{e:Expr}(h:g8 e=true)(n:Str)(env:Env)(wh:Sem Value):attributeBase e n env wh=wh:=by
 cases e<;>first | rfl | skip
 rename_i f args cO pos
 cases f<;>first | rfl | skip
 cases args<;>first | rfl | skip
 cases cO<;>first | rfl | exact absurd (show false=true from h) ao
theorem wM{m:Me}{o:C}{cs:List C}{σ:L2.St}{H:Hp}{Q:VK}(q:tE X.K (ev G (.me m o cs)) σ H Q):Vz X.K "list" (O1 X.K m) (tE X.K (ev G o)) (Bo X.K (a_ G cs)) σ H Q:=by
 obtain⟨ads,M,ρ,s,q⟩:=q;have q:bL X.K ads H Q ((ev G o ρ M).bind λx M=>if (df M x).isSome then (a_ G cs ρ M).bind λds M=>sL m x ds M else .ae):=by simp only[CZ]at q;exact q
 refine cq s q λw M1 v H1 ah s1 ie q1=>?_;split at q1
 ·rename_i hs
  obtain⟨es,he⟩:=zo.mp hs;obtain⟨a,xs,rfl,rd,ha⟩:=kH s1.mem ie he;refine⟨.inl ⟨rfl,xs,eO.of ha⟩,ah,M1,ρ,s1,?_⟩
  cases hq:a_ G cs ρ M1 with
  | ok ds M2 =>
   rw[hq]at q1;intro vs H2 aK g2 m2 r2;exact⟨aK,M2,w,ds,m2,g2.rw ie,r2,bL.shift (o:=sL m w ds M2) q1 g2 s1.mem m2⟩
  | err _ _=>rw[hq]at q1;exact q1
  | ae=>rw[hq]at q1;exact q1
 ·exact q1.elim
theorem rK{m:Me}{o:C}{σ:L2.St}{H:Hp}{Q:VK}(q:tE X.K (ev G (.me m o [])) σ H Q):Og X.K "list" (O1 X.K m) (tE X.K (ev G o)) σ H Q:=by
 obtain⟨ads,M,ρ,s,q⟩:=q;have q:bL X.K ads H Q ((ev G o ρ M).bind λx M=>if (df M x).isSome then (a_ G [] ρ M).bind λds M=>sL m x ds M else .ae):=by simp only[CZ]at q;exact q
 refine cq s q λw M1 v H1 ah s1 ie q1=>?_;split at q1
 ·rename_i hs
  obtain⟨es,he⟩:=zo.mp hs;obtain⟨a,xs,rfl,rd,ha⟩:=kH s1.mem ie he;exact⟨.inl ⟨rfl,xs,eO.of ha⟩,ah,M1,w,[],s1.mem,ie,(by unfold aN;rfl),q1⟩
 ·exact q1.elim
theorem Ds{cs:List C}{es:List Expr}(h:bt cc cs es=true)(hl:es.length<20)(env:Env)(dM:Pos):((backTo dM (starEach es env)).all (λx=>!x.1)&&(backToKw dM (keywordEach [] env)).all (λx=>x.1.isSome)&&decide (es.length+([]:List Keyword).length+(if ([]:List Keyword).isEmpty then 0 else 1)<30))=true:=by
 have h1:=bU h env dM
 have h2:(backTo dM (starEach es env)).all (λx=>!x.1)=true:=by
  rw[ir];intro x hx;rw[JE]at h1;have:=h1 x hx;simpa using this
 rw[h2];simp[keywordEach,backToKw];omega
theorem GZ{a b:C}{e x:Expr}{n:Str}{ap cp:Pos} (hn:n = "find") (hl:(ap.endLine==cp.line)=true) (h0:g8 e=true) (hx:aF x=true) (Pd:bE cc b x=true) (ho:PE X e (tE X.K (ev G a))) (hb:PE X x (tE X.K (ev G b))):PE X (.Call (.Attribute e n ap) [x] [] cp) (tE X.K (ev G (.fP a b))):=by
 have Yp:=jC h0 n X.env (eval e X.env)
 have hc:bt cc [b] [x]=true:=by
  show(aF x&&bE cc b x&&true)=true;rw[hx,Pd];rfl
 have v3:=Ds hc (show 1<20 by decide) X.env cp;subst hn;refine eF (xU F.plainAttrs_str F.slot_str_find F.type_str_find GY ho (Dr hx hb IL) Yp v3 hl (a7 hx [] X.env) rfl) λσ H Q q=>?_;obtain⟨ads,M,ρ,s,q⟩:=q
 have q:bL X.K ads H Q ((ev G a ρ M).bind λx M=>match x with
  | .d (.str z)=>(ev G b ρ M).bind λy M=>kU (.d (.str z)) y M
  | _=>.ae):=by simp only[uE]at q;exact q
 refine cq s q λw M1 v H1 ah s1 ie q1=>?_;rcases w with⟨_|_|_ | z | _|_|_⟩|_<;>first | exact q1.elim | skip
 have e1:=dD ie;subst e1;refine⟨rfl,ah,M1,ρ,s1,?_⟩;simp only[g6,fS];have q1:bL X.K ah H1 Q ((ev G b ρ M1).bind λy M=>kU (.d (.str z)) y M):=q1
 cases hq:ev G b ρ M1 with
 | ok y M2 =>
  rw[hq]at q1;intro vs H2 aK g2 m2 r2;obtain⟨v2,rfl,Uc⟩:=GJ.one r2;have q1:bL X.K ah H1 Q (kU (.d (.str z)) y M2):=q1;rcases y with⟨_|_|_ | y | _|_|_⟩|_<;>first | exact q1.elim | skip
  have e2:=dD Uc;subst e2;exact⟨z,y,rfl,rfl,bL.plain (bL.shift (o:=kU (.d (.str z)) (.d (.str y)) M2) q1 g2 s1.mem m2) m2 (cu _)⟩
 | err _ _=>rw[hq]at q1;exact q1
 | ae=>rw[hq]at q1;exact q1
theorem Ud{m:Me}{o:C}{cs:List C}{e:Expr}{es:List Expr}{n:Str}{ap cp:Pos}(hn:n=De m)(hm:O3 m=true)(hl:(ap.endLine==cp.line)=true)(h0:g8 e=true)(hc:bt cc cs es=true)(aY:es.length<20)(ho:PE X e (tE X.K (ev G o)))(ha:PA X es (Bo X.K (a_ G cs))):PE X (.Call (.Attribute e n ap) es [] cp) (tE X.K (ev G (.me m o cs))):=by
 have hb:=jC h0 n X.env (eval e X.env);subst hn
 cases es with
 | nil =>
  cases cs with
  | cons _ _=>cases hc
  | nil =>
   cases m with
   | append=>exact eF (vZ zu F.slot_list_append F.type_list_append pO ho hb hl) λσ H Q q=>rK q
   | insert=>exact eF (vZ zu F.slot_list_insert F.type_list_insert pP ho hb hl) λσ H Q q=>rK q
   | reverse=>exact eF (vZ zu F.slot_list_reverse F.type_list_reverse nk ho hb hl) λσ H Q q=>rK q
   | extend=>cases hm
   | remove=>cases hm
   | pop=>cases hm
   | clear=>cases hm
 | cons e1 es =>
  have d0:aF e1=true/\bt cc cs.tail es=true:=by
   cases cs with
   | nil=>cases hc
   | cons c cs =>
    have h':(aF e1&&bE cc c e1&&bt cc cs es)=true:=hc;simp only[ay]at h';exact⟨h'.1.1,h'.2⟩
  have v3:=Ds hc aY X.env cp
  cases m with
  | append=>exact eF (xU zu F.slot_list_append F.type_list_append pO ho ha hb v3 hl (a7 d0.1 es X.env) (bU d0.2 X.env cp)) λσ H Q q=>wM q
  | insert=>exact eF (xU zu F.slot_list_insert F.type_list_insert pP ho ha hb v3 hl (a7 d0.1 es X.env) (bU d0.2 X.env cp)) λσ H Q q=>wM q
  | reverse=>exact eF (xU zu F.slot_list_reverse F.type_list_reverse nk ho ha hb v3 hl (a7 d0.1 es X.env) (bU d0.2 X.env cp)) λσ H Q q=>wM q
  | extend=>cases hm
  | remove=>cases hm
  | pop=>cases hm
  | clear=>cases hm
theorem Pe{x:Str}{v:Int}{pos:Pos}(g:bZ kk X cc G)(hg:glob cc x=true)(hp:aS x=true)(hl:cc.gs.lookup x=some v):PE X (.Name x pos) (tE X.K (ev G (.Bn x v))):=by
 obtain⟨t,ht⟩:=g.Q9 x v hl;refine eF (qA (v:=.int v) (g.gl hg) ht ⟨t,rfl⟩ (cK hp).1) λσ H Q q=>?_;obtain⟨ads,M,ρ,s,q⟩:=q;exact bL.plain q s.mem (cu _)
theorem Lr{a:C}{x y:Str}{e:Expr}{p p2 pos kx:Pos}(g:Good kk X cc G) (hx:x = "sorted") (O_:glob cc x=true) (hy:y = "set") (Pa:glob cc y=true) (hs:aF e=true) (ha:PE X e (tE X.K (ev G a))):PE X (.Call (.Name x p) [.Call (.Name y p2) [e] [] kx] [] pos) (tE X.K (ev G (.sset a))):=by
 have gx:=g.gl O_;have gy:=g.gl Pa;have mx:X.mg x=none:=g.blt x (by subst hx;show _∈bI;decide +kernel);have my:X.mg y=none:=g.blt y (by subst hy;show _∈bI;decide +kernel);subst hx hy;have d0:=a7 hs [] X.env;refine eF (d4 (we g.calm) gx mx boot_sorted (cV (fL (Ax g.calm) gy my ⋯ (cV ha fZ d0) ⋯ ⋯ d0 rfl) fZ rfl) ⋯ ⋯ rfl rfl) λσ H Q q=>?_;obtain⟨ads,M,ρ,s,q⟩:=q;refine cq s q λw M1 v H1 ah s1 r1 h1=>?_;unfold m9 at h1;split at h1
 ·rename_i ds q1
  split at h1
  ·rename_i is q2
   split at h1
   ·rename_i hb
    obtain⟨a,xs,rfl,rd,sq⟩:=kH s1.mem r1 q1;have ex:=ints_of q2 rd;subst ex;exact⟨a,is,rfl,eO.of sq,hb.1,λl hl=>⟨l,vk is,rfl,aV,yd is,hb.2,λr hr=>(h1.shift (aB.dN s1.mem hl) s1.mem (s1.mem.dN hl)).list (s1.mem.dN hl) (yw _) hr⟩⟩
   ·exact h1.elim
  ·exact h1.elim
 ·exact h1.elim
theorem bN.lookup{K:PySem.W.Frag}{ads:List Addr}{H:Hp}{f:Str}{d:D}:∀{xs:List (Str×D)}{ys:List (Str×V)},bN K ads H xs ys->xs.lookup f=some d->∃v,ys.lookup f=some v/\RD K ads H d v
 | [],_,_,e=>nomatch e
 | p::xs,ys,h,e=>by
  unfold bN at h;obtain⟨x,r,rfl,h0,h1,h2⟩:=h;obtain⟨a,b⟩:=p;obtain⟨a',v⟩:=x;obtain rfl:a=a':=h0;by_cases q:f=a
  ·subst q;simp only[fi,qf]at e⊢;cases e;exact⟨v,rfl,h1⟩
  ·have q:(f==a)=false:=by simpa using q
   simp only[fi,q]at e⊢;exact bN.lookup h2 e
theorem kL{α:Type}{c:Addr}{r:α}:∀{l:List (Addr×α)},l.lookup c=some r->(c,r)∈l
 | [],h=>nomatch h
 | (d,b)::l,h=>by
  rw[fi]at h;split at h
  ·rename_i e;cases h;rw[eq_of_beq e];exact du
  ·exact cZ _ (kL h)
theorem Pf{a:C}{f:Str}{x:Str}{p pos:Pos}(ha:PE X (.Name x p) (tE X.K (ev G a))):PE X (.Attribute (.Name x p) f pos) (tE X.K (ev G (.xf a f))):=by
 refine eF (OO ha rfl) λσ H Q q=>?_;obtain⟨ads,M,ρ,s,q⟩:=q;refine cq s q λw M1 v H1 ah s1 ie q1=>?_;rcases w with⟨_|_|_|_|_ | n | _⟩|_<;>first | exact q1.elim | skip
 have r1:RD X.K ah H1 (.aJ n) v:=ie;unfold RD at r1;obtain⟨ad,rfl,ea⟩:=r1
 have q1:bL X.K ah H1 Q (match M1[n]? with
  | some (.xc _ fs)=>(match fs.lookup f with
   | some d=>.ok (.d d) M1
   | none=>.ae)
  | _=>.ae):=q1
 cases qm:M1[n]? with
 | none=>rw[qm]at q1;exact q1.elim
 | some ob =>
  rw[qm]at q1
  cases ob with
  | xc C fs =>
   have q1:bL X.K ah H1 Q (match fs.lookup f with
    | some d=>.ok (.d d) M1
    | none=>.ae):=q1
   cases ql:fs.lookup f with
   | none=>rw[ql]at q1;exact q1.elim
   | some d =>
    rw[ql]at q1;obtain⟨dx,gs,hx,hd,rk,Da,fI,xi⟩:=s1.mem.obj n _ ad qm ea;obtain⟨u,lu,ru⟩:=rk.lookup ql;exact⟨ad,C,Da,fI,dx,_,gs,u,rfl,hx,xi,iR.mpr ⟨(f,d),lh ql,rfl⟩,hd,lu,q1 u H1 ah (aB.refl _ _) s1.mem ru⟩
  | lst _=>exact q1.elim
  | iJ _=>exact q1.elim
  | dK _=>exact q1.elim
  | dT _=>exact q1.elim
  | dF _=>exact q1.elim
theorem Dt(g:bZ kk X cc G):∀(xs:List Str)(es:List Expr)(cs:List Addr),yA cc xs es=true->xs.map X.mg=cs.map (λc=>some (.ref c))->PA X es (λ_ H Q=>Q (cs.map V.ref) H)
 | [],[],[],_,_=>Nh fZ λ_ _ _ q=>q
 | [],[],_::_,_,h=>by cases h
 | [],_::_,_,h,_=>by cases h
 | _::_,[],_,h,_=>by cases h
 | _::_,_::_,[],_,h=>by cases h
 | x::xs,e::es,c::cs,h,hm=>by
  have h:((br e λy _=>y==x&&glob cc y&&aS y)&&yA cc xs es)=true:=h;simp only[ay]at h;obtain⟨h1,h2⟩:=h;have m1:X.mg x=some (.ref c):=(List.cons.inj hm).1;have m2:=(List.cons.inj hm).2;refine aG (P:=λe=>PA X (e::es) _) h1 λy p h1=>?_;simp only[ay]at h1;obtain⟨⟨k1,k2⟩,k3⟩:=h1;obtain rfl:=eq_of_beq k1;exact Nh (cV (qA (v:=.ref c) (g.gl k2) m1 rfl (cK k3).1) (Dt g xs es cs h2 m2) rfl) λ_ _ _ q=>q
theorem IM{a:C}{k:IX}{tb:List (Addr×Bool)}{x:Str}{u v:Expr}{p pos:Pos}(g:bZ kk X cc G) (hx:x = "isinstance") (hg:glob cc x=true) (hs:aF u=true) (ha:PE X u (tE X.K (ev G a))) (hk:Iz cc k v=true) (ht:(tb.all λp=>cc.xs.kt.contains (k,p.1,p.2))=true):PE X (.Call (.Name x p) [u,v] [] pos) (tE X.K (ev G (.uA a k tb))):=by
  have uO:=g.gl hg;have hm:X.mg x=none:=g.blt x (by subst hx;show _∈bI;decide +kernel);subst hx
  have core : ∀ {v : Expr} {tv : TE}, aF v = true -> PE X v tv -> (∀ (n : Nat) (M1 : ag) (C : Addr) (fs : List (Str × Ev.D)) (r : Bool) (σ : L2.St) (H1 : Hp) (ah : List Addr) (Q : VK), aI X.K ah H1 M1 -> Dh X.K X.mg k C r ->
      (∀y H2 aK,aB ah aK H1 H2->aI X.K aK H2 M1->((∃c,RelV y c/\PySem.W.kitOne X.K (.ref C) c=some r)\/∃(tp:Addr) (cs:List Addr),y=.ref tp/\H2 tp=some (.tup (cs.map V.ref))/\PySem.W.kitAny X.K (.ref C) (cs.map Value.ref)=some r)->Q y H2)->tv σ H1 Q) ->
      PE X (.Call (.Name "isinstance" p) [u,v] [] pos) (tE X.K (ev G (.uA a k tb))):=by
    intro v tv V3 pv hv;refine eF (d4 CL uO hm boot_isinstance (cV ha (cV pv fZ (a7 V3 [] X.env)) (a7 hs _ X.env)) ⋯ ⋯ (a7 hs _ X.env) (by rw[a7 V3 [] X.env];rfl)) λσ H Q q=>?_;obtain⟨ads,M,ρ,s,q⟩:=q;refine cq s q λw M1 vv H1 ah s1 ie q1=>?_;rcases w with⟨_|_|_|_|_ | n | _⟩|_<;>first | exact q1.elim | skip
    have r1:RD X.K ah H1 (.aJ n) vv:=ie;unfold RD at r1;obtain⟨ad,rfl,ea⟩:=r1
    have q1:bL X.K ah H1 Q (match M1[n]? with
      | some (.xc C _)=>(match tb.lookup C with
        | some b=>.ok (.d (.bl b)) M1
        | none=>.ae)
      | _=>.ae):=q1
    cases qm:M1[n]? with
    | none=>rw[qm]at q1;exact q1.elim
    | some ob =>
      rw[qm]at q1
      cases ob with
      | xc C fs =>
        have q1:bL X.K ah H1 Q (match tb.lookup C with
          | some b=>.ok (.d (.bl b)) M1
          | none=>.ae):=q1
        cases ql:tb.lookup C with
        | none=>rw[ql]at q1;exact q1.elim
        | some r =>
          rw[ql]at q1;have ki:=g.T6 k C r (by have:=ir.mp ht (C,r) (kL ql);simpa using this);obtain⟨dx,gs,hx,hd,rk,Da,fI,xi⟩:=s1.mem.obj n _ ad qm ea;refine hv n M1 C fs r σ H1 ah _ s1.mem ki λy H2 aK g2 m2 hy=>?_;obtain⟨Yq,gs2,Yr,_⟩:=m2.obj n _ ad qm (g2.get ea);exact⟨ad,C,Yq,Da,fI,_,y,r,rfl,Yr,xi,hy,q1 (.bl r) H2 aK g2 m2 (show RD X.K aK H2 (.bl r) (.bl r) from iN _)⟩
      | lst _=>exact q1.elim
      | iJ _=>exact q1.elim
      | dK _=>exact q1.elim
      | dT _=>exact q1.elim
      | dF _=>exact q1.elim
  cases k with
  | one c =>
    refine aG (P:=λv=>PE X (.Call (.Name "isinstance" p) [u,v] [] pos) _) hk λy py h1=>?_;simp only[ay]at h1;obtain⟨⟨k1,k2⟩,k3⟩:=h1;obtain rfl:=eq_of_beq k1
    cases IP:X.mg y with
    | none =>
      intro aa s σ H Q I q;obtain⟨ads,M,ρ,sr,q⟩:=q;exact(core (v:=.Name y py) (tv:=λ_ _ _=>False) rfl (λ_ _ _ _ _ _ z=>z.elim) (λn M1 C fs r σ H1 ah Q m ⟨c,hc,_⟩ hq=>by rw[IP]at hc;cases hc)) aa s σ H Q I ⟨ads,M,ρ,sr,q⟩
    | some val =>
      cases hv:val with
      | ref c =>
        rw[hv]at IP;refine core rfl (qA (v:=.ref c) (g.gl k2) IP rfl (cK k3).1) λn M1 C fs r σ H1 ah Q m ⟨c',hc,e⟩ hq=>?_;rw[IP]at hc;cases hc;exact hq _ H1 ah (aB.refl _ _) m (.inl ⟨.ref c,rfl,e⟩)
      | _=>exact core (v:=.Name y py) (tv:=λ_ _ _=>False) rfl (λ_ _ _ _ _ _ z=>z.elim) (λn M1 C fs r σ H1 ah Q m ⟨c,hc,_⟩ hq=>by rw[IP,hv]at hc;cases hc)
  | ve =>
    refine aG (P:=λv=>PE X (.Call (.Name "isinstance" p) [u,v] [] pos) _) hk λy py h1=>?_;simp only[ay]at h1;obtain⟨k1,k2⟩:=h1;obtain rfl:=eq_of_beq k1
    cases IP:X.mg "ValueError" with
    | some _=>exact core (v:=.Name "ValueError" py) (tv:=λ_ _ _=>False) rfl (λ_ _ _ _ _ _ z=>z.elim) (λn M1 C fs r σ H1 ah Q m ⟨hc,_⟩ hq=>by rw[IP]at hc;cases hc)
    | none =>
      refine core rfl (xJ (v:=.ty "ValueError") (u:=.type "ValueError") (g.gl k2) IP (nofun) rfl) λn M1 C fs r σ H1 ah Q m ⟨_,e⟩ hq=>?_;exact hq _ H1 ah (aB.refl _ _) m (.inl ⟨.type "ValueError",rfl,e⟩)
  | many xs =>
    refine eR (P:=λv=>PE X (.Call (.Name "isinstance" p) [u,v] [] pos) _) hk λes kt py h1=>?_;simp only[ay,oC]at h1;by_cases hc:∃cs:List Addr,xs.map X.mg=cs.map (λc=>some (.ref c))
    · obtain⟨cs,hc⟩:=hc;have hl:cs.length=xs.length:=by have:=oG List.length hc;simpa using this.symm
      refine core rfl (B0 (Dt g xs es cs h1.1 hc)) λn M1 C fs r σ H1 ah Q m ⟨OY,oJ,e⟩ hq=>?_
      have:OY=cs:=by
        have:=hc.symm.trans oJ;exact(List.map_inj_right (f:=λc=>some (Value.ref c)) (λa b z=>by cases z;rfl)).mp this.symm
      subst this;refine⟨by rw[aZ,hl];exact bH (j_ h1.2) (by decide),λtp V4=>?_⟩;exact hq _ _ ah (aB.dN m V4) (m.dN V4) (.inr ⟨tp,OY,rfl,aV,e⟩)
    · exact core (v:=.Tuple es kt py) (tv:=λ_ _ _=>False) rfl (λ_ _ _ _ _ _ z=>z.elim) (λn M1 C fs r σ H1 ah Q m ⟨cs,oJ,_⟩ hq=>absurd ⟨cs,oJ⟩ hc)
theorem yG{f:Nat}{cs:List C}{x:Str}{e:Expr}{es:List Expr}{p pos:Pos}(g:bZ kk X cc G)(hf:cc.fs[f]?=some (x,cs.length))(hh:f∈cc.xs.hs)(hg:glob cc x=true)(hp:aS x=true)(hc:bt cc cs (e::es)=true)(ha:PA X (e::es) (Bo X.K (a_ G cs))):PE X (.Call (.Name x p) (e::es) [] pos) (tE X.K (ev G (.fQ f cs))):=by
 obtain⟨fa,fd,ps,F,hm,hk,hb⟩:=g.Ll f x _ hf hh
 have d0:aF e=true/\bt cc cs.tail es=true:=by
  cases cs with
  | nil=>cases hc
  | cons c cs =>
   have h':(aF e&&bE cc c e&&bt cc cs es)=true:=hc;simp only[ay]at h';exact⟨h'.1.1,h'.2⟩
 refine eF (CM (pos:=pos) (p:=p) (E:=E0) F g.rh (g.gl hg) hm hk hb .nil Oo ha (cK hp).1 (a7 d0.1 es X.env) (bU d0.2 X.env pos)) λσ H Q q=>?_;obtain⟨ads,M,ρ,s,q⟩:=q;refine⟨ads,M,ρ,s,?_⟩;simp only[uF]at q
 cases hq:a_ G cs ρ M with
 | ok ds M1 =>
  rw[hq]at q;intro vs H1 ah g1 m1 r1;have q:bL X.K ads H Q ((G f ds M1).b0 .ok):=q;refine⟨ah,M1,ds,m1,?_,g_ cs ρ M ds M1 hq,?_⟩
  ·rw[sX];exact r1
  ·cases hG:G f ds M1 with
   | ok w M2=>rw[hG]at q;exact bL.shift (o:=.ok w M2) q g1 s.mem m1
   | err _ _=>rw[hG]at q;exact q.elim
   | ae=>rw[hG]at q;exact q.elim
 | err _ _=>rw[hq]at q;exact q
 | ae=>rw[hq]at q;exact q
end
end
section
variable [EX]
section
variable {kk:Nat} {X:Cx} {cc:CC} {G:a8}
structure TF (H H':Hp):Prop where
 tup:OR H H'
 gI:∀b o u,H b=some (.gI o u)->H' b=some (.gI o u)
 xd:∀b gs,H b=some (.xd gs)->H' b=some (.xd gs)
theorem TF.iJ{K:PySem.W.Frag}{H H':Hp}(t:TF H H'){a:Addr}{xs:List V}(h:uz K H a xs):uz K H' a xs:=by
 rcases h with⟨o,h⟩ | h
 ·exact .inl ⟨o,t.gI _ _ _ h⟩
 ·exact .inr h
mutual
theorem RD.keep{K:PySem.W.Frag}{ads:List Addr}{H H':Hp}(t:TF H H'):∀(d:D)(v:V),RD K ads H d v->RD K ads H' d v
 | .a6,_,h=>by unfold RD at *;exact h
 | .bl _,_,h=>by unfold RD at *;exact h
 | .int _,_,h=>by unfold RD at *;exact h
 | .str _,_,h=>by unfold RD at *;exact h
 | .aJ n,v,h=>by unfold RD at *;exact h
 | .tup ds,v,h=>by unfold RD at *;obtain⟨a,xs,e,h,r⟩:=h;exact⟨a,xs,e,t.tup _ _ h,aN.keep t ds xs r⟩
 | .ls ds,v,h=>by unfold RD at *;obtain⟨a,xs,e,h,r⟩:=h;exact⟨a,xs,e,t.iJ h,aN.keep t ds xs r⟩
theorem aN.keep{K:PySem.W.Frag}{ads:List Addr}{H H':Hp}(t:TF H H'):∀(ds:List D)(vs:List V),aN K ads H ds vs->aN K ads H' ds vs
 | [],_,h=>by unfold aN at *;exact h
 | d::ds,vs,h=>by unfold aN at *;obtain⟨x,r,e,h1,h2⟩:=h;exact⟨x,r,e,RD.keep t d x h1,aN.keep t ds r h2⟩
end
theorem bN.keep{κ:Type}{K:PySem.W.Frag}{ads:List Addr}{H H':Hp}(t:TF H H'):∀(ds:List (κ×D))(vs:List (κ×V)),bN K ads H ds vs->bN K ads H' ds vs
 | [],_,h=>by unfold bN at *;exact h
 | d::ds,vs,h=>by unfold bN at *;obtain⟨x,r,e,h0,h1,h2⟩:=h;exact⟨x,r,e,h0,RD.keep t d.2 x.2 h1,bN.keep t ds r h2⟩
theorem aI.keep{K:PySem.W.Frag}{ads:List Addr}{H H':Hp}{M:ag}(m:aI K ads H M)(t:TF H H')(k:∀a∈ads,H' a=H a):aI K ads H' M:=⟨m.nd,m.len,λn o a e1 e2=>by
 have h:=m.obj n o a e1 e2;have ha:=k a (c_ e2)
 cases o with
 | lst ds=>obtain⟨xs,h,r⟩:=h;exact⟨xs,ha.trans h,aN.keep t _ _ r⟩
 | iJ ds=>obtain⟨o,xs,h,r⟩:=h;exact⟨o,xs,ha.trans h,aN.keep t _ _ r⟩
 | dK ds=>obtain⟨xs,h,r⟩:=h;exact⟨xs,ha.trans h,bN.keep t _ _ r⟩
 | dT ds=>obtain⟨xs,h,r⟩:=h;exact⟨xs,ha.trans h,bN.keep t _ _ r⟩
 | dF ds=>obtain⟨o,xs,h,r⟩:=h;exact⟨o,xs,ha.trans h,bN.keep t _ _ r⟩
 | xc C ds=>obtain⟨dx,gs,h,hd,r,x⟩:=h;exact⟨dx,gs,ha.trans h,t.xd _ _ hd,bN.keep t _ _ r,x⟩⟩
theorem jP:∀(az aE:List (bS×V)),(aE.map (·.1)++az.map (·.1)).Nodup->fv aE az=aE++az
 | [],aE,_=>by simp[fv]
 | p::ps,aE,h=>by
  have hn:¬p.1∈aE.map (·.1):=by
   intro hm;rw[List.nodup_append]at h;exact h.2.2 _ hm _ (by simp) rfl
  have ha:(aE.any λkv=>decide (kv.1=p.1))=false:=by
   rw[JE];intro x hx;simp only[oC];exact λe=>hn (e▸List.mem_map_of_mem hx)
  have e:fv aE (p::ps)=fv (aE++[p]) ps:=by
   show fv (fu aE p.1 p.2) ps=_;unfold fu;rw[ha];simp
  rw[e,jP ps (aE++[p]) (by simpa using h)];simp
def kM(K:PySem.W.Frag)(G:a8):List Str->List C->List (TE×TE)
 | k::ks,c::cs=>(tC (.str k),tE K (ev G c))::kM K G ks cs
 | _,_=>[]
theorem nB{K:PySem.W.Frag}(ks:List Str)(cs:List C):∀t∈kM K G ks cs,(∀σ H A B,(∀v H,A v H->B v H)->t.1 σ H A->t.1 σ H B)/\(∀σ H A B,(∀v H,A v H->B v H)->t.2 σ H A->t.2 σ H B):=by
 intro t ht
 have:∀(ks:List Str)(cs:List C),t∈kM K G ks cs->∃k c,t=(tC (.str k),tE K (ev G c)):=by
  intro ks
  induction ks with
  | nil=>intro cs h;cases cs<;>cases h
  | cons k ks ih =>
   intro cs h
   cases cs with
   | nil=>cases h
   | cons c cs =>
    rcases bz.mp h with z | z
    ·exact⟨k,c,z⟩
    ·exact ih cs z
 obtain⟨k,c,rfl⟩:=this ks cs ht;refine⟨λσ H A B f h=>f _ _ h,λσ H A B f h=>?_⟩;obtain⟨ads,M,ρ,s,q⟩:=h;refine⟨ads,M,ρ,s,?_⟩
 cases hq:ev G c ρ M with
 | ok w M1=>rw[hq]at q;exact λv H' aw g m r=>f _ _ (q v H' aw g m r)
 | err _ _=>rw[hq]at q;exact q
 | ae=>rw[hq]at q;exact q
theorem uP{K:PySem.W.Frag}{ρ:En}{σ:L2.St}:∀(ks:List Str)(cs:List C){ads:List Addr}{H:Hp}{M:ag}{R:List V->Hp->Prop},ks.length=cs.length->SR K ads M ρ σ H->uG K ads H R (a_ G cs ρ M)->gf (kM K G ks cs) σ H λps H2=>∃vs,ps=(ks.map V.str).zip vs/\vs.length=ks.length/\R vs H2
 | [],[],ads,H,M,R,_,s,h=>⟨[],rfl,rfl,h [] H ads (aB.refl _ _) s.mem (by unfold aN;rfl)⟩
 | [],_::_,_,_,_,_,e,_,_=>by cases e
 | _::_,[],_,_,_,_,e,_,_=>by cases e
 | k::ks,c::cs,ads,H,M,R,e,s,h=>by
  show tE K (ev G c) σ H λy H2=>gf (kM K G ks cs) σ H2 λps H3=>_;refine⟨ads,M,ρ,s,?_⟩;simp only[fR,eJ]at h
  cases hq:ev G c ρ M with
  | ok w M1 =>
   rw[hq]at h;intro v H1 ah g1 m1 r1
   cases ho:own w M1 with
   | ok d M2 =>
    have h:uG K ads H R ((own w M1).bind λd M=>(a_ G cs ρ M).bind λds M=>.ok (d::ds) M):=h;rw[ho]at h;obtain⟨aK,g2,m2,rd⟩:=kK s.mem g1 m1 r1 ho;have h:uG K ads H R ((a_ G cs ρ M2).bind λds M=>.ok (d::ds) M):=h
    have h2:uG K aK H1 (λvs H'=>R (v::vs) H') (a_ G cs ρ M2):=by
     cases Dl:a_ G cs ρ M2 with
     | ok ds M3 =>
      rw[Dl]at h;intro vs H3 cS g3 m3 r3;refine h (v::vs) H3 cS (g2.trans g3) m3 ?_;unfold aN;exact⟨v,vs,rfl,g3.rd _ _ rd,r3⟩
     | err _ _=>rw[Dl]at h;exact EX.shift (show EX.post K ads H _ _ from h) g2
     | ae=>rw[Dl]at h;exact h
    have ih:=uP ks cs (by simpa using e) (s.grow g2 m2) h2
    have mono:∀(mO:List (TE×TE))(H:Hp)(P Q:List (V×V)->Hp->Prop),(∀ps H,P ps H->Q ps H)->(∀t∈mO,(∀σ H A B,(∀v H,A v H->B v H)->t.1 σ H A->t.1 σ H B)/\(∀σ H A B,(∀v H,A v H->B v H)->t.2 σ H A->t.2 σ H B))->gf mO σ H P->gf mO σ H Q:=by
     intro mO
     induction mO with
     | nil=>intro H P Q f _ h;exact f _ _ h
     | cons t mO ih =>
      intro H P Q f hm h;obtain⟨m1,m2⟩:=hm t du;refine m1 σ H _ _ (λx H1 h1=>m2 σ H1 _ _ (λy H2 h2=>ih H2 _ _ (λps H3 h3=>f _ _ h3) (λt ht=>hm t (cZ _ ht)) h2) h1) h
    refine mono _ _ _ _ ?_ ?_ ih
    ·rintro ps H3 ⟨vs,rfl,hl,hR⟩;exact⟨v::vs,rfl,by simp[hl],hR⟩
    ·intro t ht;exact nB ks cs t ht
   | err _ _=>cases w<;>cases ho
   | ae=>cases w<;>cases ho
  | err _ _=>rw[hq]at h;exact h
  | ae=>rw[hq]at h;exact h
theorem Du{ks:List Str}{cs:List C}:∀{keys:List (Option Expr)}{vs:List Expr}{pos:Pos},jM ks keys=true->ks.length=cs.length->bt cc cs vs=true->(∀c∈cs,∀e,bE cc c e=true->PE X e (tE X.K (ev G c)))->Na X pos keys vs (kM X.K G ks cs):=by
 induction ks generalizing cs with
 | nil =>
  intro keys vs pos h1 h2 h3 ih
  cases keys with
  | cons _ _=>cases h1
  | nil =>
   cases cs with
   | cons _ _=>cases h2
   | nil =>
    cases vs with
    | cons _ _=>cases h3
    | nil=>exact FR
 | cons k ks Ys =>
  intro keys vs pos h1 h2 h3 ih
  cases cs with
  | nil=>cases h2
  | cons c cs =>
   cases vs with
   | nil=>cases h3
   | cons e es =>
    have h':(aF e&&bE cc c e&&bt cc cs es)=true:=h3;simp only[ay]at h'
    cases keys with
    | nil=>cases h1
    | cons ky keys =>
     cases ky with
     | none=>cases h1
     | some ke =>
      obtain⟨h1,hk⟩:=(ay _ _).mp h1;refine bT (P:=λke=>Na X pos (some ke::keys) (e::es) _) h1 λcn j p h1=>?_;cases cn<;>first | exact absurd (show false=true from h1) ao | skip
      rename_i st
      obtain rfl:k=st:=eq_of_beq h1;exact B5 BK (ih c du e h'.1.2) (Ys hk (by simpa using h2) h'.2 λc hc=>ih c (cZ _ hc))
theorem jQ:∀{ks:List Str}{keys:List (Option Expr)},jM ks keys=true->keys.all (·.isSome)=true/\keys.length=ks.length
 | [],[],_=>⟨rfl,rfl⟩
 | [],_::_,h=>by cases h
 | _::_,[],h=>by cases h
 | k::ks,ky::keys,h=>by
  cases ky with
  | none=>cases h
  | some ke =>
   obtain⟨a,b⟩:=jQ ((ay _ _).mp h).2;exact⟨by simp[a],by simp[b]⟩
theorem uQ:∀{cs:List C}{es:List Expr},bt cc cs es=true->cs.length=es.length
 | [],[],_=>rfl
 | [],_::_,h=>by cases h
 | _::_,[],h=>by cases h
 | c::cs,e::es,h=>by
  have h':(aF e&&bE cc c e&&bt cc cs es)=true:=h;simp only[ay]at h';simp[uQ h'.2]
theorem yH{α β:Type}:∀(l:List α)(r:List β),l.length=r.length->(l.zip r).map (·.1)=l
 | [],_,_=>by simp
 | a::l,[],h=>by simp at h
 | a::l,b::r,h=>by simp[yH l r (by simpa using h)]
theorem yI{K:PySem.W.Frag}{ads:List Addr}{H:Hp}:∀(ks:List bS){ds:List D}{vs:List V},aN K ads H ds vs->ks.length=ds.length->bN K ads H (ks.zip ds) (ks.zip vs)
 | [],ds,vs,r,h=>by simp;unfold bN;rfl
 | k::ks,[],vs,r,h=>by simp at h
 | k::ks,d::ds,vs,r,h=>by
  unfold aN at r;obtain⟨x,r',rfl,h1,h2⟩:=r;show bN K ads H ((k,d)::ks.zip ds) ((k,x)::ks.zip r');unfold bN;exact⟨_,_,rfl,rfl,h1,yI ks h2 (by simpa using h)⟩
theorem Lu{pos:Pos}:PE X (.Dict [] [] pos) (tE X.K (ev G (.yn [] []))):=by
 refine eF B4 λσ H Q q=>?_;obtain⟨ads,M,ρ,s,q⟩:=q;intro p hp
 have q:bL X.K ads H Q (.ok (.d (.aJ M.length)) (M++[.dK []])):=by
  simp only[wA,fR,eJ]at q;exact q
 exact q.TY s.mem hp (show bN X.K ads H [] [] by unfold bN;rfl)
theorem Pg{ks:List Str}{cs:List C}{keys:List (Option Expr)}{vs:List Expr}{pos:Pos}(h1:jM ks keys=true)(hn:ks.Nodup)(h0:keys≠[])(N8:keys.length<=15)(hc:bt cc cs vs=true)(hl:ks.length=cs.length)(ih:∀c∈cs,∀e,bE cc c e=true->PE X e (tE X.K (ev G c))):PE X (.Dict keys vs pos) (tE X.K (ev G (.yn ks cs))):=by
 obtain⟨k1,k2⟩:=jQ h1;refine eF (FT (Du h1 hl hc ih) k1 (by rw[k2,hl,uQ hc]) h0 N8) λσ H Q q=>?_;obtain⟨ads,M,ρ,s,q⟩:=q;intro p hp;have V5:=s.mem.fresh hp;have g0:aB ads ads H (bu H p (.dK [])):=aB.dN s.mem hp;have s0:SR X.K ads M ρ σ (bu H p (.dK [])):=s.grow g0 (s.mem.dN hp);simp only[wA]at q
 have main:uG X.K ads (bu H p (.dK [])) (λvs H2=>H2 p=some (.dK [])/\(vs.length=ks.length->Q (.ref p) (bu H2 p (.dK ((ks.map Sum.inr).zip vs))))) (a_ G cs ρ M):=by
  cases hq:a_ G cs ρ M with
  | ok ds M1 =>
   rw[hq]at q;have q:bL X.K ads H Q (if ks.length=ds.length then .ok (.d (.aJ M1.length)) (M1++[.dK ((ks.map Sum.inr).zip ds)]) else .ae):=q;split at q
   ·rename_i Ph
    intro vs H2 aK g2 m2 r2;have e2:H2 p=some (.dK []):=g2.kept p _ V5 aV;refine⟨e2,λRc=>?_⟩;have V6:p∉aK:=g2.iK V5 aV;have tk:TF H2 (bu H2 p (.dK ((ks.map Sum.inr).zip vs))):=⟨λb xs h=>by rw[ax (λz=>by subst z;rw[e2]at h;cases h)];exact h,λb o u h=>by rw[ax (λz=>by subst z;rw[e2]at h;cases h)];exact h,λb gs h=>by rw[ax (λz=>by subst z;rw[e2]at h;cases h)];exact h⟩;have m3:aI X.K aK (bu H2 p (.dK ((ks.map Sum.inr).zip vs))) M1:=m2.keep tk λa ha=>ax (λz=>by subst z;exact V6 ha);have r3:=aN.keep (K:=X.K) (ads:=aK) tk _ _ r2;have m4:=m3.push (o:=.dK ((ks.map Sum.inr).zip ds)) V6 ⟨_,aV,yI (ks.map Sum.inr) r3 (by simpa using Ph)⟩;obtain⟨t,et⟩:=g2.pre;refine q (.ref p) _ (aK++[p]) ⟨⟨t++[p],by rw[et,By]⟩,λb hb nb=>?_,λb x nb h=>?_,λb xs h=>?_,λb o u h=>?_⟩ m4 ?_
    ·rcases iu.mp hb with z | z
     ·have:=g2.new b z nb;by_cases Dv:b=p
      ·subst Dv;exact hp
      ·rw[ax Dv]at this;exact this
     ·have:b=p:=by simpa using z
      subst this;exact hp
    ·have Dv:b≠p:=λz=>by subst z;rw[hp]at h;cases h
     rw[ax Dv];exact g2.kept b x nb (by rw[ax Dv];exact h)
    ·have Dv:b≠p:=λz=>by subst z;rw[hp]at h;cases h
     rw[ax Dv];exact g2.fH b xs (by rw[ax Dv];exact h)
    ·have Dv:b≠p:=λz=>by subst z;rw[hp]at h;cases h
     rw[ax Dv];exact g2.gI b o u (by rw[ax Dv];exact h)
    ·show RD X.K (aK++[p]) (bu H2 p (.dK ((ks.map Sum.inr).zip vs))) (.aJ M1.length) (.ref p);unfold RD;exact⟨p,rfl,by rw[oy (by rw[m2.len];exact aq _)];simp[m2.len]⟩
   ·exact q.elim
  | err _ _=>rw[hq]at q;exact EX.shift (show EX.post X.K ads H _ _ from q) (aB.dN s.mem hp)
  | ae=>rw[hq]at q;exact q
 have h:=uP ks cs hl s0 main
 have mono:∀(mO:List (TE×TE))(H:Hp)(P Q:List (V×V)->Hp->Prop),(∀ps H,P ps H->Q ps H)->(∀t∈mO,(∀σ H A B,(∀v H,A v H->B v H)->t.1 σ H A->t.1 σ H B)/\(∀σ H A B,(∀v H,A v H->B v H)->t.2 σ H A->t.2 σ H B))->gf mO σ H P->gf mO σ H Q:=by
  intro mO
  induction mO with
  | nil=>intro H P Q f _ h;exact f _ _ h
  | cons t mO ih =>
   intro H P Q f hm h;obtain⟨m1,m2⟩:=hm t du;refine m1 σ H _ _ (λx H1 h1=>m2 σ H1 _ _ (λy H2 h2=>ih H2 _ _ (λps H3 h3=>f _ _ h3) (λt ht=>hm t (cZ _ ht)) h2) h1) h
 refine mono _ _ _ _ ?_ (nB ks cs) h;rintro ps H2 ⟨vs,rfl,Rc,e2,hQ⟩;refine⟨e2,(ks.map Sum.inr).zip vs,?_,?_,?_⟩
 ·rw[List.zip_map_left,List.zip_map_left,vI];rfl
 ·rw[List.length_zip,aZ,Rc];omega
 ·have Yt:((([]:List (bS×V)).map (·.1))++((ks.map (Sum.inr (α:=Int))).zip vs).map (·.1)).Nodup:=by
   rw[yH _ _ (by rw[aZ];exact Rc.symm)];simp only[s_,Fh];exact List.Pairwise.map _ (λa b Rf z=>Rf (Sum.inr.inj z)) hn
  rw[jP _ _ Yt];exact hQ Rc
end
end
section
variable [EX]
def Lv(K:PySem.W.Frag)(ads:List Addr)(H:Hp)(it:Ev.It)(J:L2.It):Prop :=
 ∀(i:Nat)(ah:List Addr)(H1:Hp)(M1:ag),aB ads ah H H1->aI K ah H1 M1 ->
  (itemAt M1 i it=some none->J.stop i H1) /\
  (∀d,itemAt M1 i it=some (some d)->J.go i H1/\∀x H2,J.NQ i H1 x H2->aB ah ah H1 H2/\aI K ah H2 M1/\RD K ah H2 d x)
def oY(K:PySem.W.Frag)(ads:List Addr)(H:Hp)(R:L2.It->Hp->Prop):bF Ev.It->Prop
 | .ok it M=>∀J H' aw,aB ads aw H H'->aI K aw H' M->Lv K aw H' it J->R J H'
 | .err x M=>EX.post K ads H x M
 | .ae=>False
def tI(K:PySem.W.Frag)(o:En->ag->bF Ev.It):TI:=λσ H R=>∃ads M ρ,SR K ads M ρ σ H/\oY K ads H R (o ρ M)
def dr(G:a8)(k:SK)(cM:List C)(ρ:En)(M:ag):bF Ev.It:=(cI G cM ρ M).bind λws M=>jI k ws M
section
variable {K:PySem.W.Frag} {ads:List Addr} {H:Hp} {M:ag}
theorem G0(lo:Int)(n:Nat):Lv K ads H (.jl lo n) (QG lo n):=by
 intro i ah H1 M1 g1 m1;refine⟨λe=>?_,λd e=>?_⟩
 ·by_cases h:i<n
  ·simp[itemAt,h]at e
  ·exact zH.mp h
 ·by_cases h:i<n
  ·simp only[itemAt,aT h,vF]at e;subst e;refine⟨h,λx H2 y=>?_⟩;obtain⟨rfl,rfl⟩:=y;exact⟨aB.refl _ _,m1,cu _⟩
  ·simp[itemAt,h]at e
theorem nC{it:Ev.It}{a:Addr}(h:∀(i:Nat)(ah:List Addr)(H1:Hp)(M1:ag),aB ads ah H H1->aI K ah H1 M1->∀o,itemAt M1 i it=some o->∃ds xs,o=ds[i]?/\aN K ah H1 ds xs/\eO K H1 a xs):Lv K ads H it (Sj K a):=by
 intro i ah H1 M1 g1 m1;refine⟨λe=>?_,λd e=>?_⟩
 ·obtain⟨ds,xs,e2,rd,sq⟩:=h i ah H1 M1 g1 m1 _ e;refine⟨xs,sq,?_⟩;rw[<- rd.len];exact zm.mp e2.symm
 ·obtain⟨ds,xs,e2,rd,sq⟩:=h i ah H1 M1 g1 m1 _ e;obtain⟨v,ev,rv⟩:=rd.get e2.symm;refine⟨⟨xs,v,sq,ev⟩,λx H2 y=>?_⟩;obtain⟨rfl,y⟩:=y;have:=y xs sq;rw[ev]at this;cases this;exact⟨aB.refl _ _,m1,rv⟩
theorem G1{ds:List D}{xs:List V}{a:Addr}(ha:H a=some (.tup xs))(rd:aN K ads H ds xs):Lv K ads H (.items ds) (Sk K a):=by
 intro i ah H1 M1 g1 m1;have sq:fF K H1 a xs:=fF.of (g1.fH _ _ ha);have Yu:=g1.oP _ _ rd;refine⟨λe=>?_,λd e=>?_⟩
 ·refine⟨xs,sq,?_⟩;rw[<- rd.len];exact zm.mp (cH e)
 ·obtain⟨v,ev,rv⟩:=Yu.get (cH e);refine⟨⟨xs,v,sq,ev⟩,λx H2 y=>?_⟩;obtain⟨rfl,y⟩:=y;have:=y xs sq;rw[ev]at this;cases this;exact⟨aB.refl _ _,m1,rv⟩
end
theorem yJ{K:PySem.W.Frag}{ads:List Addr}{H:Hp}{M:ag}{n:Nat}{v:V}{p:Bool×List D}(m:aI K ads H M)(r:RD K ads H (.aJ n) v)(hp:bC M (.d (.aJ n))=some p):∃a,v=.ref a/\∃xs,eO K H a xs:=by
 obtain⟨l,ds⟩:=p;obtain⟨a,xs,e,rd,sq⟩:=eQ (w:=.d (.aJ n)) m r hp;rcases sq with⟨_,sq⟩|⟨hl,_⟩
 ·exact⟨a,e,xs,sq⟩
 ·simp only[bC]at hp;split at hp
  ·cases hp;cases hl
  ·cases hp;cases hl
  ·cases hp
theorem Dw{K:PySem.W.Frag}{ads aK:List Addr}{H H2:Hp}{M2:ag}{n i:Nat}{a:Addr}{o:Option D}(r:RD K ads H (.aJ n) (.ref a))(g2:aB ads aK H H2)(m2:aI K aK H2 M2)(e:itemAt M2 i (.at n)=some o):∃ds xs,o=ds[i]?/\aN K aK H2 ds xs/\eO K H2 a xs:=by
 unfold RD at r;obtain⟨b,eb,ea⟩:=r;cases eb;have Pj:=g2.get ea;simp only[itemAt]at e;split at e
 ·rename_i ds q
  obtain⟨xs,h,rd⟩:=m2.obj n _ a q Pj;exact⟨ds,xs,(cH e).symm,rd,eO.of h⟩
 ·rename_i ds q
  obtain⟨o,xs,h,rd⟩:=m2.obj n _ a q Pj;exact⟨ds,xs,(cH e).symm,rd,.inl (.inr ⟨o,h⟩)⟩
 ·cases e
section
variable {kk:Nat} {X:Cx} {cc:CC} {G:a8} {tg:Expr} {K:PySem.W.Frag} {ads:List Addr} {H:Hp}
theorem V7{aM:Expr}{t u:TI}(h:PI X tg aM t)(f:∀σ H R,u σ H R->t σ H R):PI X tg aM u:=λaa s σ H R I q=>h aa s σ H R I (f σ H R q)
theorem G2{c:C}{aM:Expr}(he:PE X aM (tE X.K (ev G c))):PI X tg aM (tI X.K (dr G .seq [c])):=by
 intro aa s σ H R I q;obtain⟨ads,M,ρ,sr,q⟩:=q;simp only[dr,cI]at q
 cases hq:ev G c ρ M with
 | ok w M1 =>
  rw[hq]at q;have q:oY X.K ads H R (jI .seq [w] M1):=q
  cases w with
  | lv ds =>
   have q:oY X.K ads H R (.ok (.items ds) M1):=q;refine qC he aa s σ H R I ⟨ads,M,ρ,sr,?_⟩;rw[hq];intro v H1 ah g1 m1 r1;obtain⟨a,xs,rfl,h0,h1,n,rd⟩:=r1;refine⟨a,rfl,⟨xs,eO.of h1⟩,q _ H1 ah g1 m1 (nC λi aK H2 M2 g2 m2 o e=>?_)⟩;exact⟨ds,xs,(cH e).symm,g2.oP _ _ rd,eO.of (g2.kept a _ n h1)⟩
  | d x =>
   cases x with
   | tup ds =>
    have q:oY X.K ads H R (.ok (.items ds) M1):=q;refine BQ he aa s σ H R I ⟨ads,M,ρ,sr,?_⟩;rw[hq];intro v H1 ah g1 m1 r1;have r1:RD X.K ah H1 (.tup ds) v:=r1;unfold RD at r1;obtain⟨a,xs,rfl,h1,rd⟩:=r1;exact⟨a,rfl,⟨xs,fF.of h1⟩,q _ H1 ah g1 m1 (G1 h1 rd)⟩
   | ls ds =>
    have q:oY X.K ads H R (.ok (.items ds) M1):=q;refine qC he aa s σ H R I ⟨ads,M,ρ,sr,?_⟩;rw[hq];intro v H1 ah g1 m1 r1;have r1:RD X.K ah H1 (.ls ds) v:=r1;unfold RD at r1;obtain⟨a,xs,rfl,h1,rd⟩:=r1;refine⟨a,rfl,⟨xs,h1.sq⟩,q _ H1 ah g1 m1 (nC λi aK H2 M2 g2 m2 o e=>?_)⟩;exact⟨ds,xs,(cH e).symm,g2.oP _ _ rd,(g2.iJ h1).sq⟩
   | aJ n =>
    have q:oY X.K ads H R (if (bC M1 (.d (.aJ n))).isSome then .ok (.at n) M1 else .ae):=q;split at q
    ·rename_i hs
     obtain⟨p,hp⟩:=zo.mp hs;refine qC he aa s σ H R I ⟨ads,M,ρ,sr,?_⟩;rw[hq];intro v H1 ah g1 m1 r1;obtain⟨a,ea,sq⟩:=yJ m1 r1 hp;subst ea;exact⟨a,rfl,sq,q _ H1 ah g1 m1 (nC λi aK H2 M2 g2 m2 o e=>Dw r1 g2 m2 e)⟩
    ·exact q.elim
   | a6=>exact q.elim
   | bl _=>exact q.elim
   | int _=>exact q.elim
   | str _=>exact q.elim
 | err _ _=>rw[hq]at q;exact BQ he aa s σ H R I ⟨ads,M,ρ,sr,by rw[hq];exact q⟩
 | ae=>rw[hq]at q;exact q.elim
theorem Dx{c:C}{a:Expr}{x:Str}{p pos:Pos}(g:Good kk X cc G) (hx:x = "range") (hg:glob cc x=true) (hs:aF a=true) (he:PE X a (tE X.K (ev G c))):PI X tg (.Call (.Name x p) [a] [] pos) (tI X.K (dr G .fB [c])):=by
 have uO:=g.gl hg;have hm:X.mg x=none:=g.blt x (by subst hx;show _∈bI;decide +kernel);subst hx;refine V7 (zR uO hm (cV he fZ (a7 hs [] X.env)) (a7 hs [] X.env)) λσ H R q=>?_;obtain⟨ads,M,ρ,s,q⟩:=q;simp only[dr,cI]at q;refine⟨ads,M,ρ,s,?_⟩
 cases hq:ev G c ρ M with
 | ok w M1 =>
  rw[hq]at q;have q:oY X.K ads H R (jI .fB [w] M1):=q;intro v H1 ah g1 m1 r1;rcases w with⟨_|_ | j | _|_|_⟩|_<;>first | exact q.elim | skip
  have q:oY X.K ads H R (if -(2 ^ 62)<=j/\j<2 ^ 62 then .ok (.jl 0 j.toNat) M1 else .ae):=q;split at q
  ·rename_i hj
   exact⟨j,by rw[aP r1],hj.1,hj.2,q _ H1 ah g1 m1 (G0 _ _)⟩
  ·exact q.elim
 | err _ _=>rw[hq]at q;exact q
 | ae=>rw[hq]at q;exact q.elim
theorem IQ{K:PySem.W.Frag}{ads:List Addr}{H:Hp}{M:ag}{w:W}{v:V}{z:Z1}(m:aI K ads H M)(r:RW K ads H w v)(hz:wu M w=some z):∃(l:Bool) (a:Addr),v=.ref a/\(∃xs,sJ K H l a xs)/\∀aK H2 M2,aB ads aK H H2->aI K aK H2 M2->∀ds,lK M2 z=some ds->∃xs,aN K aK H2 ds xs/\sJ K H2 l a xs:=by
 rcases w with⟨_|_|_|_ | ds | n | ds⟩ | ds<;>first | cases hz | skip
 ·have r:RD K ads H (.tup ds) v:=r;unfold RD at r;obtain⟨b,xs,rfl,h1,rd⟩:=r;exact⟨false,b,rfl,⟨xs,fF.of h1⟩,λaK H2 M2 g2 m2 es e=>by cases e;exact⟨xs,g2.oP _ _ rd,fF.of (g2.fH _ _ h1)⟩⟩
 ·have hz:(if (bC M (.d (.aJ n))).isSome then some (Z1.at n) else none)=some z:=hz;split at hz
  ·rename_i hs
   cases hz;obtain⟨p,hp⟩:=zo.mp hs;obtain⟨b,ea,sq⟩:=yJ m r hp;subst ea;refine⟨true,b,rfl,sq,λaK H2 M2 g2 m2 es e=>?_⟩;have r:RD K ads H (.aJ n) (.ref b):=r;unfold RD at r;obtain⟨b',eb,ea⟩:=r;cases eb;have Pj:=g2.get ea;simp only[lK]at e;split at e
   ·rename_i ds q
    cases e;obtain⟨xs,h,rd⟩:=m2.obj n _ b q Pj;exact⟨xs,rd,eO.of h⟩
   ·rename_i ds q
    cases e;obtain⟨o,xs,h,rd⟩:=m2.obj n _ b q Pj;exact⟨xs,rd,.inl (.inr ⟨o,h⟩)⟩
   ·cases e
  ·cases hz
 ·have r:RD K ads H (.ls ds) v:=r;unfold RD at r;obtain⟨b,xs,rfl,h1,rd⟩:=r;exact⟨true,b,rfl,⟨xs,h1.sq⟩,λaK H2 M2 g2 m2 es e=>by cases e;exact⟨xs,g2.oP _ _ rd,(g2.iJ h1).sq⟩⟩
 ·obtain⟨b,xs,rfl,h1,n,rd⟩:=r;exact⟨true,b,rfl,⟨xs,eO.of h1⟩,λaK H2 M2 g2 m2 es e=>by cases e;exact⟨xs,g2.oP _ _ rd,eO.of (g2.kept b _ n h1)⟩⟩
theorem G3{K:PySem.W.Frag}{ads:List Addr}{H:Hp}{z y:Z1}{l m:Bool}{a b:Addr}(h1:∀aK H2 M2,aB ads aK H H2->aI K aK H2 M2->∀ds,lK M2 z=some ds->∃xs,aN K aK H2 ds xs/\sJ K H2 l a xs)(h2:∀aK H2 M2,aB ads aK H H2->aI K aK H2 M2->∀ds,lK M2 y=some ds->∃xs,aN K aK H2 ds xs/\sJ K H2 m b xs):Lv K ads H (.zip z y) (Th K l m a b):=by
 intro i ah H1 M1 g1 m1
 have lE:∀o,itemAt M1 i (.zip z y)=some o->∃ds es xs ys,o=kW ds es i/\aN K ah H1 ds xs/\sJ K H1 l a xs/\aN K ah H1 es ys/\sJ K H1 m b ys:=λo e=>by
  simp only[itemAt]at e;split at e
  ·rename_i ds es q1 q2
   obtain⟨xs,r1,s1⟩:=h1 ah H1 M1 g1 m1 ds q1;obtain⟨ys,r2,s2⟩:=h2 ah H1 M1 g1 m1 es q2;exact⟨ds,es,xs,ys,(cH e).symm,r1,s1,r2,s2⟩
  ·cases e
 refine⟨λe=>?_,λd e=>?_⟩
 ·obtain⟨ds,es,xs,ys,e2,r1,s1,r2,s2⟩:=lE _ e;refine⟨xs,ys,s1,s2,?_⟩;rw[<- r1.len,<- r2.len];unfold kW at e2
  cases q1:ds[i]? with
  | none=>exact .inl (zm.mp q1)
  | some d1 =>
   cases q2:es[i]? with
   | none=>exact .inr (zm.mp q2)
   | some d2=>rw[q1,q2]at e2;cases e2
 ·obtain⟨ds,es,xs,ys,e2,r1,s1,r2,s2⟩:=lE _ e;unfold kW at e2
  cases q1:ds[i]? with
  | none=>rw[q1]at e2;cases e2
  | some d1 =>
   cases q2:es[i]? with
   | none=>rw[q1,q2]at e2;cases e2
   | some d2 =>
    rw[q1,q2]at e2;cases e2;obtain⟨v1,V8,Yv⟩:=r1.get q1;obtain⟨v2,V9,Uc⟩:=r2.get q2;refine⟨⟨xs,ys,v1,v2,s1,s2,V8,V9⟩,λx H2 yy=>?_⟩;obtain⟨p,x1,x2,rfl,hp,rfl,a1,a2⟩:=yy;have t1:=a1 xs s1;have t2:=a2 ys s2;rw[V8]at t1;rw[V9]at t2;cases t1;cases t2;have g2:=aB.dN (o:=.tup [v1,v2]) m1 hp;refine⟨g2,m1.dN hp,?_⟩;unfold RD;refine⟨p,_,rfl,aV,?_⟩;unfold aN;exact⟨v1,[v2],rfl,g2.rd _ _ Yv,.one (g2.rd _ _ Uc)⟩
theorem G4{c d:C}{a b t:Expr}{x:Str}{p pos:Pos}(g:Good kk X cc G) (hx:x = "zip") (hg:glob cc x=true) (hs:aF a=true) (Ir:aF b=true) (he:PE X a (tE X.K (ev G c))) (hd:PE X b (tE X.K (ev G d))):PI X t (.Call (.Name x p) [a,b] [] pos) (tI X.K (dr G .zip [c,d])):=by
 have uO:=g.gl hg;have hm:X.mg x=none:=g.blt x (by subst hx;show _∈bI;decide +kernel);subst hx;refine V7 (KG uO hm (cV he (cV hd fZ (a7 Ir [] X.env)) (a7 hs [b] X.env)) (a7 hs [b] X.env) (a7 Ir [] X.env)) λσ H R q=>?_;obtain⟨ads,M,ρ,s,q⟩:=q;simp only[dr,cI]at q;refine⟨ads,M,ρ,s,?_⟩
 cases hq:ev G c ρ M with
 | ok w M1 =>
  rw[hq]at q;intro v H1 ah g1 m1 r1;have s1:=s.grow g1 m1;refine⟨ah,M1,ρ,s1,?_⟩;simp only[bF.bind]at q
  cases EV:ev G d ρ M1 with
  | ok w2 M2 =>
   rw[EV]at q;have q:oY X.K ads H R (jI .zip [w,w2] M2):=q;intro v2 H2 aK g2 m2 r2
   have q:oY X.K ads H R (match wu M2 w,wu M2 w2 with
    | some a,some b=>.ok (.zip a b) M2
    | _,_=>.ae):=q
   cases q1:wu M2 w with
   | none=>rw[q1]at q;exact q.elim
   | some z1 =>
    cases q2:wu M2 w2 with
    | none=>rw[q1,q2]at q;exact q.elim
    | some z2 =>
     rw[q1,q2]at q;obtain⟨l,a1,rfl,Yw,k1⟩:=IQ m2 (g2.rw r1.rw) q1;obtain⟨m,b1,rfl,Yx,k2⟩:=IQ m2 r2.rw q2;exact⟨l,m,a1,b1,rfl,Yw,Yx,q _ H2 aK (g1.trans g2) m2 (G3 k1 k2)⟩
  | err _ _=>rw[EV]at q;exact EX.shift (show EX.post X.K ads H _ _ from q) g1
  | ae=>rw[EV]at q;exact q.elim
 | err _ _=>rw[hq]at q;exact q
 | ae=>rw[hq]at q;exact q.elim
end
end
section
variable [EX]
def tG(K:PySem.W.Frag)(tg:List Nat):TG:=λv σ H Q=>∃ads M ρ d,SR K ads M ρ σ H/\RD K ads H d v/\∃dY,bM tg d ρ=some dY/\∀cU,SR K ads M dY cU H->Q cU H
theorem SR.set{K:PySem.W.Frag}{ads:List Addr}{M:ag}{ρ:En}{σ:L2.St}{H:Hp}(s:SR K ads M ρ σ H)(i:Nat){d:D}{v:V}(r:RD K ads H d v):SR K ads M (ρ.set i (some d)) (σ.set i (some v)) H :=
 ⟨s.mem,λj d' e=>by
  by_cases h:i=j
  ·subst h
   have hl:i<ρ.length:=by
    have:=(cP.mp e).1;simpa using this
   rw[vt hl]at e;cases e;exact⟨v,by rw[vt (by rw[<- s.ln];exact hl)],r⟩
  ·rw[mq h]at e⊢;exact s.en j d' e,by simp[s.ln]⟩
def gN:List Nat->Ia
 | []=>NO
 | i::r=>Ic (Ib i) (gN r)
section
variable {kk:Nat} {X:Cx} {cc:CC} {G:a8}
theorem bZ.nm(g:bZ kk X cc G){x:Str}(h:(cc.names.lookup x==some .local||cc.names.lookup x==some .cell)=true):Loc X.env.scope x/\(X.fn x=true\/X.env.scope.names.lookup x=some .local):=by
 rw[BF]at h;rcases h with h | h
 ·have h:=eq_of_beq h;exact⟨.inl (g.kinds x _ h),.inr (g.kinds x _ h)⟩
 ·have h:=eq_of_beq h;exact⟨.inr (g.kinds x _ h),.inl (g.T5 x h)⟩
theorem yK(g:Good kk X cc G):∀(tg:List Nat)(es:List Expr),jN cc tg es=true->MY X es (gN tg)/\es.length=tg.length/\(assignEach es X.env).length=tg.length/\(assignEach es X.env).findIdx? (·.1)=none
 | [],[],_=>⟨Fy,rfl,rfl,rfl⟩
 | [],_::_,h=>by cases h
 | _::_,[],h=>by cases h
 | i::tg,e::es,h=>by
  obtain⟨h,h3⟩:=(ay _ _).mp h;obtain⟨ih,l1,l2,l3⟩:=yK g tg es h3;refine aG (P:=λe=>MY X (e::es) (gN (i::tg))/\(e::es).length=(i::tg).length/\(assignEach (e::es) X.env).length=(i::tg).length/\(assignEach (e::es) X.env).findIdx? (·.1)=none) h λx p h=>?_;obtain⟨h1,h2⟩:=(ay _ _).mp h;obtain⟨n1,n2⟩:=g.nm h2;refine⟨BO (lN (by rw[g.N];exact g.nd) (by rw[g.N];exact eq_of_beq h1) n1 n2) ih,by simp[l1],?_,?_⟩
  ·show(assignEach es X.env).length+1=_;rw[l2];rfl
  ·show List.findIdx? _ ((false,_)::assignEach es X.env)=none;rw[List.findIdx?_cons];simp only[E_,vK];rw[l3];rfl
theorem IS{K:PySem.W.Frag}{ads:List Addr}{M:ag}{H:Hp}{Q:L2.St->Hp->Prop}{dY:En}(hQ:∀cU,SR K ads M dY cU H->Q cU H):∀(tg:List Nat)(ds:List D)(xs:List V)(ρ:En)(σ:L2.St),SR K ads M ρ σ H->aN K ads H ds xs->dC tg ds ρ=some dY->gN tg xs σ H Q
 | [],[],xs,ρ,σ,s,r,e=>by
  unfold aN at r;subst r;cases e;exact⟨rfl,hQ σ s⟩
 | [],_::_,_,_,_,_,_,e=>by cases e
 | _::_,[],_,_,_,_,_,e=>by cases e
 | i::tg,d::ds,xs,ρ,σ,s,r,e=>by
  unfold aN at r;obtain⟨x,r',rfl,h1,h2⟩:=r;exact⟨x,r',rfl,IS hQ tg ds r' _ _ (s.set i h1) h2 e⟩
theorem nD:∀(tg:List Nat)(ds:List D)(ρ dY:En),dC tg ds ρ=some dY->ds.length=tg.length
 | [],[],_,_,_=>rfl
 | [],_::_,_,_,e=>by cases e
 | _::_,[],_,_,e=>by cases e
 | i::tg,d::ds,ρ,dY,e=>by simp[nD tg ds _ dY e]
theorem AR(g:bZ kk X cc G){i:Nat}{t:Expr}(h:g9 cc [i] t=true):PG X t (tG X.K [i]):=by
 refine aG (P:=λt=>PG X t _) ((ay _ _).mp h).1 λx p h=>?_;obtain⟨h1,h2⟩:=(ay _ _).mp h;obtain⟨n1,n2⟩:=g.nm h2;intro aa s σ H v u Q I r q;refine lN (by rw[g.N];exact g.nd) (by rw[g.N];exact eq_of_beq h1) n1 n2 aa s σ H v u Q I r ?_;obtain⟨ads,M,ρ,d,sr,rd,dY,e,hQ⟩:=q;cases e;exact hQ _ (sr.set i rd)
theorem jR(g:Good kk X cc G){tg:List Nat}{t:Expr}(h:g9 cc tg t=true):PG X t (tG X.K tg):=by
 rcases tg with _|⟨i,_|⟨j,tl⟩⟩
 ·exact absurd h ao
 ·refine aG (P:=λt=>PG X t _) ((ay _ _).mp h).1 λx p h=>?_;obtain⟨h1,h2⟩:=(ay _ _).mp h;obtain⟨n1,n2⟩:=g.nm h2;intro aa s σ H v u Q I r q;refine lN (by rw[g.N];exact g.nd) (by rw[g.N];exact eq_of_beq h1) n1 n2 aa s σ H v u Q I r ?_;obtain⟨ads,M,ρ,d,sr,rd,dY,e,hQ⟩:=q;cases e;exact hQ _ (sr.set i rd)
 ·refine eR (P:=λt=>PG X t _) h λes kq p h=>?_;obtain⟨a,l1,l2,l3⟩:=yK g (i::j::tl) es ((ay _ _).mp h).1;intro aa s σ H v u Q I r q;refine J2 (pos:=p) (k:=kq) g.calm a l2 l3 aa s σ H v u Q I r ?_;obtain⟨ads,M,ρ,d,sr,rd,dY,e,hQ⟩:=q
  have e':∃ds,d=.tup ds/\dC (i::j::tl) ds ρ=some dY:=by
   cases d<;>first | cases e | exact⟨_,rfl,e⟩
  obtain⟨ds,rfl,e2⟩:=e';unfold RD at rd;obtain⟨b,xs,rfl,hb,rd⟩:=rd;exact⟨b,xs,rfl,fF.of hb,by rw[<- rd.len,nD _ ds ρ dY e2],IS hQ _ ds xs ρ σ sr rd e2⟩
end
theorem je {env : Env} : ∀ (names : List (Str × NameKind)) (aE : List (Str × Addr)), (∀ y ∈ names, y.2 = .free -> ∃ c, env.cells.lookup y.1 = some c) -> (∀ x c, aE.lookup x = some c -> env.cells.lookup x = some c) ->
    ∃cl,(forIn names aE λ(x:Str×NameKind) (r:List (Str×Addr))=>(match x with | (name,kind)=>if (kind==NameKind.free)=true then do let a <- cellOf env name;pure (ForInStep.yield ((name,a)::r)) else pure (ForInStep.yield r):Sem (ForInStep (List (Str×Addr)))))=pure cl /\
      (∀x c,cl.lookup x=some c->env.cells.lookup x=some c)/\(∀x,(aE.lookup x).isSome=true->(cl.lookup x).isSome=true)/\∀y∈names,y.2=.free->(cl.lookup y.1).isSome=true
  | [],aE,_,h=>⟨aE,rfl,h,λ_ q=>q,λy hy=>by cases hy⟩
  | (n,k)::r,aE,hn,h=>by
    by_cases hk:k=.free
    · subst hk;obtain⟨c,hc⟩:=hn (n,.free) du rfl
      have h2:∀x c',((n,c)::aE).lookup x=some c'->env.cells.lookup x=some c':=λx c' e=>by
        rw[fi]at e;by_cases hx:x=n
        · subst hx;simp at e;rw[<- e];exact hc
        · have:(x==n)=false:=qe.mpr hx;rw[this]at e;exact h x c' e
      obtain⟨cl,e1,e2,e3,e4⟩:=je r ((n,c)::aE) (λy hy=>hn y (cZ _ hy)) h2;refine⟨cl,?_,e2,λx q=>e3 x ?_,λy hy hf=>?_⟩
      · rw[vH];have:cellOf env n=pure c:=by unfold cellOf;rw[hc]
        simp only[qf,fm,this];exact e1
      · rw[fi];by_cases hx:(x==n)=true
        · simp[hx]
        · simp only[hx];exact q
      · rcases bz.mp hy with z | z
        · subst z;exact e3 _ (by simp[fi])
        · exact e4 y z hf
    · obtain⟨cl,e1,e2,e3,e4⟩:=je r aE (λy hy=>hn y (cZ _ hy)) h;refine⟨cl,?_,e2,e3,λy hy hf=>?_⟩
      · rw[vH];have:(k==NameKind.free)=false:=by simpa using hk
        simp only[this,E_,vK];exact e1
      · rcases bz.mp hy with z | z
        · subst z;exact absurd hf hk
        · exact e4 y z hf
theorem yL{X:Cx}{sc:Scope}(h:∀y∈sc.names,y.2=.free->∃c,X.env.cells.lookup y.1=some c):∃cl,Kz X sc cl:=by
 obtain⟨cl,e1,e2,e3,e4⟩:=je sc.names [] h (λx c e=>by cases e);refine⟨cl,?_,e2,λx hx=>zo.mp (e4 (x,.free) (lh hx) rfl)⟩;unfold closureFor;exact oG (λm=>m >>= λcs=>pure cs) e1
section
variable {kk:Nat} {X:Cx} {cc:CC} {G:a8}
theorem lX{sc:Scope}(h:uL cc sc=true):sc.kind=.function/\(∀y∈sc.names,y.2=.cell->sc.names.lookup y.1=some .cell)/\(∀y∈sc.names,y.2=.local->sc.names.lookup y.1=some .local)/\(ej sc).Nodup/\∀y∈sc.names,y.2=.free->sc.names.lookup y.1=some .free/\(cc.names.lookup y.1=some .cell\/cc.names.lookup y.1=some .free):=by
 unfold uL at h;simp only[ay,e_,ir,bne_iff_ne,ne_eq,oC,BF]at h;obtain⟨⟨⟨⟨h1,h2⟩,h3⟩,h4⟩,h5⟩:=h;refine⟨h1,λy hy hk=>?_,λy hy hk=>?_,h4,λy hy hk=>?_⟩
 ·rcases h2 y hy with z | z
  ·exact absurd hk z
  ·exact z
 ·rcases h3 y hy with z | z
  ·exact absurd hk z
  ·exact z
 ·rcases h5 y hy with z | z
  ·exact absurd hk z
  ·exact z
theorem Good.block(g:Good kk X cc G){sc:Scope}(h:uL cc sc=true){cl:List (Str×Addr)}(C:Addr)(s:Shared)(H:Hp)(fp:List Addr):@Good never kk (X.block sc cl C (ej sc) s H fp []) (pR cc sc) G:=by
 obtain⟨h1,h2,h3,h4,h5⟩:=lX h;refine @Good.mk never kk (X.block sc cl C (ej sc) s H fp []) (pR cc sc) G ⟨g.rh,rfl,h4,(λx k e=>?_),(λx e=>?_),g.blt,g.Q9,(λ_ _ _ z=>nomatch z),(λ_ _ _ z=>nomatch z),(λ_ _ _ _ z=>nomatch z)⟩ g.calm g.room g.fns ⟨E0,(by rintro _ _ _ _ _ _ _ ⟨_,_,_,_,_,_,_,_,_,_,_,_,_,h⟩;exact h.elim),λh=>h.elim⟩
 ·have e:sc.names.lookup x=some k:=e;have r:=dA (env:=X.env) e;have kd:(X.block sc cl C (ej sc) s H fp []).env.kindOf x=some (if (k==NameKind.free&&X.env.scope.kind == .function&&X.env.kindOf x==some .cell) then .cell else k):=r
  cases k with
  | «local»=>exact kd
  | cell=>exact kd
  | free =>
   show _\/_;rw[kd];split
   ·exact .inl rfl
   ·exact .inr rfl
  | globalExplicit=>exact True.intro
  | globalImplicit=>exact kd
 ·have e:sc.names.lookup x=some .cell:=e;show(sc.names.lookup x==some .cell)=true;rw[e];rfl
theorem Dy(g:Good kk X cc G){sc:Scope}(h:uL cc sc=true):Ci X sc (ej sc) (nr cc sc):=by
 obtain⟨h1,h2,h3,h4,h5⟩:=lX h;refine⟨by simp[nr],λi j x e1 e2=>?_⟩;unfold nr at e1;rw[dy,e2]at e1;simp only[Option.map_some,vF]at e1;split at e1
 ·rename_i hf
  have hf:sc.names.lookup x=some .free:=by simpa using hf
  obtain⟨_,ho⟩:=h5 (x,.free) (lh hf) rfl;refine⟨?_,hf,?_⟩
  ·rw[g.N];obtain⟨hj,hx,_⟩:=Nt.mp e1;rw[cf hj];have:cc.N[j]=x:=by simpa using hx
   rw[this]
  ·rcases ho with ho | ho
   ·exact .inl (g.kinds x _ ho)
   ·exact g.kinds x _ ho
 ·cases e1
theorem Dz{K:PySem.W.Frag}{ads:List Addr}{M:ag}{ρ:En}{σ:L2.St}{H:Hp}(s:SR K ads M ρ σ H)(cA:List (Option Nat)):SR K ads M (eB cA ρ) (jD cA σ) H:=by
 refine⟨s.mem,λi d e=>?_,by simp[eB,jD]⟩;unfold eB at e;unfold jD;rw[dy]at e⊢
 cases q:cA[i]? with
 | none=>rw[q]at e;cases e
 | some o =>
  rw[q]at e
  cases o with
  | none=>cases e
  | some j =>
   have e:(ρ[j]?).join=some d:=cH e
   have e2:ρ[j]?=some (some d):=by
    cases r:ρ[j]? with
    | none=>rw[r]at e;cases e
    | some z=>rw[r]at e;cases z with
     | none=>cases e
     | some y=>cases e;rfl
   obtain⟨v,ev,rv⟩:=s.en j d e2;exact⟨v,by simp[ev],rv⟩
theorem aB.yM{ads aw:List Addr}{H H':Hp}{D:Addr}{o:HO}(g:aB ads aw H H')(h:H D=none):aB ads aw H (bu H' D o) :=
 ⟨g.pre,g.new,λb x n e=>by rw[ax (λz=>by subst z;rw[h]at e;cases e)];exact g.kept b x n e,λb x e=>by rw[ax (λz=>by subst z;rw[h]at e;cases e)];exact g.fH b x e,
  λb x u e=>by rw[ax (λz=>by subst z;rw[h]at e;cases e)];exact g.gI b x u e⟩
theorem uR{K:PySem.W.Frag}{G:a8}{it:Ev.It}{J:L2.It}{tg:List Nat}{cond:Option ef}{elt:C}{cA:List (Option Nat)}{ads:List Addr}{M:ag}{ρ:En}{σ:L2.St}{H:Hp}{Q:VK}{f:Nat}(s:SR K ads M ρ σ H)(hJ:Lv K ads H it J)(q:bL K ads H Q (bq (λτ M=>bP G cond τ M) (λτ M=>(ev G elt τ M).bind own) it tg f 0 (eB cA ρ) M [])):v7 cA (tG K tg) (cond.map λt=>@ni never K (dS G t)) (@tE never K (ev G elt)) σ J H Q:=by
  intro D hD;have Yy:=s.mem.fresh hD
  refine⟨λi m τ H' ys=>∃aw M' nE aE,SR K aw M' nE τ H'/\aB ads aw H H'/\D∉aw/\H' D=some (.lst ys)/\aN K aw H' aE ys/\bL K ads H Q (bq (λτ M=>bP G cond τ M) (λτ M=>(ev G elt τ M).bind own) it tg m i nE M' aE),
    ⟨f,ads,M,eB cA ρ,[],?_,(aB.refl _ _).yM hD,Yy,aV,(by unfold aN;rfl),q⟩,?_⟩
  · have g0:aB ads ads H (bu H D (.lst [])):=aB.dN s.mem hD;exact(Dz s cA).grow g0 (s.mem.dN hD)
  rintro i m τ H' ys ⟨aw,M',nE,aE,s',g',dn,hl,ra,q'⟩;refine⟨hl,?_⟩;obtain⟨r1,r2⟩:=hJ i aw H' M' g' s'.mem
  have stop:itemAt M' i it=some none->bL K ads H Q (.ok (.lv aE) M')->(J.stop i H'/\Q (.ref D) H'):=λhi q' =>
    ⟨r1 hi,q' (.ref D) H' aw g' s'.mem ⟨D,ys,rfl,hD,hl,dn,ra⟩⟩
  cases m with
  | zero =>
    unfold bq at q';split at q'
    · rename_i hi
      exact .inl (stop hi q')
    · exact q'.elim
  | succ m =>
    unfold bq at q';split at q'
    · rename_i hi
      exact .inl (stop hi q')
    · rename_i d hi
      obtain⟨go,yl⟩:=r2 d hi
      cases hb:bM tg d nE with
      | none=>rw[hb]at q';exact q'.elim
      | some vp =>
        rw[hb]at q';dsimp only at q';split at q'
        · rename_i hz
          refine .inr ⟨go,by rw[<- ra.len];exact hz,λx H2 y=>?_⟩;obtain⟨g2,m2,rd⟩:=yl x H2 y;have SO:H2 D=some (.lst ys):=g2.kept D _ dn hl;refine⟨aw,M',nE,d,s'.grow g2 m2,rd,vp,hb,λER s2=>?_⟩
          have dR : ∀ b M3 H3 cS, aB aw cS H2 H3 -> aI K cS H3 M3 -> bL K ads H Q (if b = true then ((ev G elt vp M3).bind own).b0 fun x M => bq (fun τ M => bP G cond τ M) (fun τ M => (ev G elt τ M).bind own) it tg m (i + 1) vp M (aE ++ [x]) else bq (fun τ M => bP G cond τ M) (fun τ M => (ev G elt τ M).bind own) it tg m (i + 1) vp M3 aE) ->
              (if b=true then @tE never K (ev G elt) ER H3 λv H4=>H4 D=some (.lst ys)/\∃m',m'<m+1/\∃aw M' nE aE,SR K aw M' nE ER (bu H4 D (.lst (ys++[v])))/\aB ads aw H (bu H4 D (.lst (ys++[v])))/\D∉aw/\(bu H4 D (.lst (ys++[v]))) D=some (.lst (ys++[v]))/\aN K aw (bu H4 D (.lst (ys++[v]))) aE (ys++[v])/\bL K ads H Q (bq (λτ M=>bP G cond τ M) (λτ M=>(ev G elt τ M).bind own) it tg m' (i+1) nE M' aE)
               else ∃m',m'<m+1/\∃aw M' nE aE,SR K aw M' nE ER H3/\aB ads aw H H3/\D∉aw/\H3 D=some (.lst ys)/\aN K aw H3 aE ys/\bL K ads H Q (bq (λτ M=>bP G cond τ M) (λτ M=>(ev G elt τ M).bind own) it tg m' (i+1) nE M' aE)):=by
            intro b M3 H3 cS g3 m3 q3;have Ue:D∉cS:=g3.iK dn SO;have Ug:H3 D=some (.lst ys):=g3.kept D _ dn SO;have s3:=s2.grow g3 m3;have gg:=(g'.trans g2).trans g3;have V_:=(g2.trans g3).oP _ _ ra
            cases b with
            | false =>
              rw[aU (by simp)]at q3⊢;exact⟨m,jq _,cS,M3,vp,aE,s3,gg,Ue,Ug,V_,q3⟩
            | true =>
              rw[aT rfl]at q3⊢;refine⟨cS,M3,vp,s3,?_⟩
              cases he:ev G elt vp M3 with
              | ok w M4 =>
                rw[he]at q3;intro v H4 GV g4 m4 r4;have q3:bL K ads H Q ((own w M4).b0 λx M=>bq (λτ M=>bP G cond τ M) (λτ M=>(ev G elt τ M).bind own) it tg m (i+1) vp M (aE++[x])):=q3;have pT:H4 D=some (.lst ys):=g4.kept D _ Ue Ug;refine⟨pT,m,jq _,?_⟩
                cases ho:own w M4 with
                | ok dd M5 =>
                  rw[ho]at q3;obtain⟨G5,g5,m5,Yz⟩:=kK s3.mem g4 m4 r4 ho;have Wa:D∉G5:=g5.iK Ue Ug;have tk:TF H4 (bu H4 D (.lst (ys++[v]))):=⟨λb xs e=>by rw[ax (λz=>by subst z;rw[pT]at e;cases e)];exact e,λb o u e=>by rw[ax (λz=>by subst z;rw[pT]at e;cases e)];exact e,λb gs e=>by rw[ax (λz=>by subst z;rw[pT]at e;cases e)];exact e⟩;have m6:aI K G5 (bu H4 D (.lst (ys++[v]))) M5:=m5.keep tk λa ha=>ax (λz=>by subst z;exact Wa ha)
                  have YA:OQ K G5 (bu H4 D (.lst (ys++[v]))) vp ER:=λj d e=>by
                    obtain⟨u,e1,r⟩:=g5.V0 s3.en j d e;exact⟨u,e1,RD.keep tk _ _ r⟩
                  exact⟨G5,M5,vp,aE++[dd],⟨m6,YA,s3.ln⟩,(gg.trans g5).yM hD,Wa,aV,aN.keep tk _ _ ((g5.oP _ _ V_).app (.one Yz)),q3⟩
                | err _ _=>cases w<;>cases ho
                | ae=>cases w<;>cases ho
              | err _ _=>rw[he]at q3;exact q3
              | ae=>rw[he]at q3;exact q3
          cases cond with
          | none =>
            exact dR true M' H2 aw (aB.refl _ _) m2 q'
          | some t =>
            show @ni never K (dS G t) ER H2 _;refine⟨aw,M',vp,s2,?_⟩;have q':bL K ads H Q ((dS G t vp M').b0 λb M=>if b=true then ((ev G elt vp M).bind own).b0 λx M=>bq (λτ M=>bP G (some t) τ M) (λτ M=>(ev G elt τ M).bind own) it tg m (i+1) vp M (aE++[x]) else bq (λτ M=>bP G (some t) τ M) (λτ M=>(ev G elt τ M).bind own) it tg m (i+1) vp M aE):=q'
            cases ht:dS G t vp M' with
            | ok b M3 =>
              rw[ht]at q';intro H3 cS g3 m3;exact dR b M3 H3 cS g3 m3 q'
            | err _ _=>rw[ht]at q';exact q'
            | ae=>rw[ht]at q';exact q'
        · exact q'.elim
    · exact q'.elim
end
end
section
variable [EX]
variable {kk:Nat} {G:a8}
theorem rL{e:Expr}(h:fC e=true)(env:Env):∀x,foldedSetIterable e env x=pure x:=by
 intro x;cases e<;>first | rfl | exact absurd (show false=true from h) ao
theorem Lw{X:Cx}{cc:CC}{k:SK}{cM:List C}{tg:List Nat}{cond:Option ef}{elt:C}{cA:List (Option Nat)}{el t aM:Expr}{ifs:List Expr}{sc:Scope}{pos:Pos}(g:Good kk X cc G)(DA:uL cc sc=true)(Ce:cA=nr cc sc)(lP:fC aM=true)(DB:PI X t aM (tI X.K (dr G k cM)))(Uh:g9 (pR cc sc) tg t=true)(jS:GU (pR cc sc) cond ifs=true)(Ra:∀t,cond=some t->∀X':Cx,X'.K=X.K->@Good never kk X' (pR cc sc) G->∀e,jO (pR cc sc) t e=true->PT X' e (@ni never X'.K (dS G t)))(YB:∀X':Cx,X'.K=X.K->@Good never kk X' (pR cc sc) G->PE X' el (@tE never X'.K (ev G elt))):∃(wi:TI) (cl:(X:Cx)->Prop),True/\PE X (.ListComp el [⟨t,aM,ifs,0⟩] sc pos) (tE X.K (ev G (.comp k cM tg cond elt cA))):=by
 refine⟨λ_ _ _=>True,λ_=>True,True.intro,?_⟩;intro aa s σ H Q I q;obtain⟨h1,h2,h3,h4,h5⟩:=lX DA
 obtain⟨cl,G6⟩:=yL (X:=X) (sc:=sc) λy hy hf=>by
  obtain⟨_,ho⟩:=h5 y hy hf;refine I.ok.has y.1 ?_;rcases ho with ho | ho
  ·exact .inl (g.kinds _ _ ho)
  ·exact g.kinds _ _ ho
 have ck:kr X sc (ej sc) cA cl t el ifs (tG X.K tg) (cond.map λt=>@ni never X.K (dS G t)) (@tE never X.K (ev G elt)):=by
  refine⟨h1,h2,h3,G6,Ce▸Dy g DA,λC s H fp=>(by have gb:=g.block (cl:=cl) DA C s H fp;letI:=never;exact jR gb Uh),?_,λC s H fp=>YB _ rfl (g.block DA C s H fp)⟩
  cases cond with
  | none =>
   cases ifs with
   | nil=>rfl
   | cons _ _=>cases jS
  | some tt =>
   cases ifs with
   | nil=>cases jS
   | cons e es =>
    cases es with
    | cons _ _=>cases jS
    | nil=>exact⟨e,rfl,λC s H fp=>Ra tt rfl (X.block sc cl C (ej sc) s H fp []) rfl (g.block DA C s H fp) e jS⟩
 refine Ga g.calm DB ck (rL lP X.env) aa s σ H Q I ?_;obtain⟨ads,M,ρ,sr,q⟩:=q;refine⟨ads,M,ρ,sr,?_⟩
 have q:bL X.K ads H Q ((dr G k cM ρ M).bind λit M=>bq (λτ M=>bP G cond τ M) (λτ M=>(ev G elt τ M).bind own) it tg (cR M it) 0 (eB cA ρ) M []):=by
  simp only[rf]at q;unfold dr
  cases hw:cI G cM ρ M with
  | ok ws M1=>rw[hw]at q;exact q
  | err _ _=>rw[hw]at q;exact q
  | ae=>rw[hw]at q;exact q
 cases hs:dr G k cM ρ M with
 | ok it M1 =>
  rw[hs]at q;intro J H1 ah g1 m1 rj;exact uR (sr.grow g1 m1) rj (bL.shift (o:=bq (λτ M=>bP G cond τ M) (λτ M=>(ev G elt τ M).bind own) it tg (cR M1 it) 0 (eB cA ρ) M1 []) q g1 sr.mem m1)
 | err _ _=>rw[hs]at q;exact q
 | ae=>rw[hs]at q;exact q
end
theorem cN[EX]{X:Cx}{cc:CC}{G:a8}{c:C}{e:Expr}(h:(ik e&&bE cc c e)=true)(k:bE cc c e=true->PE X e (tE X.K (ev G c))):PT X e (ni X.K (dS G (.val c))):=GX ((ay _ _).mp h).1 (k ((ay _ _).mp h).2)
mutual
theorem a9{kk:Nat}{G:a8}:∀(c:C)(ex:EX)(cc:CC)(X:Cx)(e:Expr),@Good ex kk X cc G->bE cc c e=true->PE X e (@tE ex X.K (ev G c))
 | .lI i,ex,cc,X,e,g,h=>IB g.cW h
 | .bx d,ex,cc,X,e,g,h=>IC h
 | .bin op a b,ex,cc,X,e,g,h=>ID (λe h=>a9 a ex cc X e g h) (λe h=>a9 b ex cc X e g h) h
 | .cmp op a b,ex,cc,X,e,g,h=>(yC g.cW (λe h=>a9 a ex cc X e g h) (λe h=>a9 b ex cc X e g h) h).1
 | .chain o1 o2 a b c,ex,cc,X,e,g,h=>(yD g.cW (λe h=>a9 a ex cc X e g h) (λe h=>a9 b ex cc X e g h) (λe h=>a9 c ex cc X e g h) h).1
 | .dc cs,ex,cc,X,e,g,h=>by
  refine dk (P:=λe=>PE X e _) h λop es pos h=>?_;simp only[ay,gQ,vq]at h
  cases op with
  | Or=>exact absurd h.1.1 ao
  | And=>exact eF (II (op:=.And) cs es pos (rM cs ex cc X g) h.1.2 h.2) λσ H Q q=>q
 | .dw cs,ex,cc,X,e,g,h=>by
  refine dk (P:=λe=>PE X e _) h λop es pos h=>?_;simp only[ay,gQ,vq]at h
  cases op with
  | And=>exact absurd h.1.1.symm ao
  | Or=>exact eF (O5 cs es pos (rM cs ex cc X g) h.1.2 h.2) λσ H Q q=>q
 | .neg a,ex,cc,X,e,g,h=>IE (λe h=>a9 a ex cc X e g h) h
 | .tup cs,ex,cc,X,e,g,h=>IF (λes h=>kY cs ex cc X es g h) h
 | .lst cs,ex,cc,X,e,g,h=>IG (λes h=>kY cs ex cc X es g h) h
 | .sub a b,ex,cc,X,e,g,h=>cF (P:=λe=>PE X e _) h λe i pos h=>by
  simp only[ay]at h;exact IK g.cW h.1.1 (a9 a ex cc X e g h.1.2) (a9 b ex cc X i g h.2)
 | .oQ a lo hi,ex,cc,X,e,g,h=>cF (P:=λe=>PE X e _) h λe i pos h=>nq (P:=λi=>PE X (.Subscript e i pos) _) h λl u st p h=>by
  simp only[ay]at h
  cases st with
  | some _=>exact absurd h.1.1.1 ao
  | none=>exact O7 (a9 a ex cc X e g h.1.1.2) (Pk lo ex cc X l g h.1.2) (Pk hi ex cc X u g h.2)
 | .ym a k,ex,cc,X,e,g,h=>cF (P:=λe=>PE X e _) h λe i pos h=>nq (P:=λi=>PE X (.Subscript e i pos) _) h λl u st p h=>by
  rcases l with _|_<;>first | exact absurd h ao | skip
  rcases u with _|_<;>first | exact absurd h ao | skip
  rcases st with _ | ke<;>first | exact absurd h ao | skip
  replace h:=(ay _ _).mp h
  refine Pc ?_ (a9 a ex cc X e g h.2);rcases(BF _ _).mp h.1 with h | h
  ·refine bT (P:=λke=>PE X ke _) h λc j p2 h=>?_;cases c<;>first | exact absurd h ao | skip
   obtain rfl:=eq_of_beq h;exact qz
  ·refine dE (P:=λke=>PE X ke _) h λop x p2 h=>?_
   replace h:=(ay _ _).mp h
   cases op<;>first | exact absurd h.1 ao | skip
   refine bT (P:=λx=>PE X (.UnaryOp .USub x p2) _) h.2 λc j p3 h=>?_;cases c<;>first | exact absurd h ao | skip
   rename_i jj
   obtain rfl:k=-jj:=by have:=eq_of_beq h;omega
   exact eF (Ig BV qz) λσ H Q q=>⟨jj,rfl,q⟩
 | .fP a b,ex,cc,X,e,g,h=>bj (P:=λe=>PE X e _) h λfe args cO pos h=>dG (P:=λfe=>PE X (.Call fe args cO pos) _) h λe n ap h=>by
  rcases args with _|⟨x,_|⟨x2,xs⟩⟩<;>first | exact absurd h ao | skip
  cases cO<;>first | exact absurd h ao | skip
  simp only[ay]at h;obtain⟨⟨⟨⟨⟨h1,h2⟩,h3⟩,h4⟩,h5⟩,h6⟩:=h;exact GZ (eq_of_beq h1) h2 h3 h4 h6 (a9 a ex cc X e g h5) (a9 b ex cc X x g h6)
 | .call f cs,ex,cc,X,e,g,h=>bj (P:=λe=>PE X e _) h λfe args cO pos h=>aG (P:=λfe=>PE X (.Call fe args cO pos) _) h λx p h=>by
  rcases args with _|⟨e,es⟩<;>first | exact absurd h ao | skip
  cases cO<;>first | exact absurd h ao | skip
  simp only[ay,e_]at h;exact Lp g h.1.1.1 h.1.1.2 h.1.2 h.2 (kY cs ex cc X (e::es) g h.2)
 | .xf a f,ex,cc,X,e,g,h=>dG (P:=λe=>PE X e _) h λe n pos h=>by
  simp only[ay,e_]at h;obtain⟨⟨rfl,h1⟩,h2⟩:=h;exact aG (P:=λe=>bE cc a e=true->PE X (.Attribute e n pos) _) h1 (λx p _ h2=>Pf (a9 a ex cc X _ g h2)) h2
 | .uA a k tb,ex,cc,X,e,g,h=>bj (P:=λe=>PE X e _) h λfe args cO pos h=>aG (P:=λfe=>PE X (.Call fe args cO pos) _) h λx p h=>by
  rcases args with _|⟨u,_|⟨v,_|⟨_,_⟩⟩⟩<;>first | exact absurd h ao | skip
  cases cO<;>first | exact absurd h ao | skip
  simp only[ay]at h;obtain⟨⟨⟨⟨⟨h1,h2⟩,h3⟩,h4⟩,h5⟩,h6⟩:=h;exact IM g.cW (eq_of_beq h1) h2 h3 (a9 a ex cc X u g h4) h5 h6
 | .fQ f cs,ex,cc,X,e,g,h=>bj (P:=λe=>PE X e _) h λfe args cO pos h=>aG (P:=λfe=>PE X (.Call fe args cO pos) _) h λx p h=>by
  rcases args with _|⟨e,es⟩<;>first | exact absurd h ao | skip
  cases cO<;>first | exact absurd h ao | skip
  simp only[ay,e_]at h;exact yG g.cW h.1.1.1.1 (List.contains_iff_mem.mp h.1.1.1.2) h.1.1.2 h.1.2 h.2 (kY cs ex cc X (e::es) g h.2)
 | .bi b cs,ex,cc,X,e,g,h=>bj (P:=λe=>PE X e _) h λfe args cO pos h0=>aG (P:=λfe=>PE X (.Call fe args cO pos) _) h0 λx p h=>by
  clear h0
  replace h:=(ay _ _).mp h
  have h1:=h.1
  replace h:=h.2
  simp only[ay,vG]at h1;obtain⟨⟨rfl,hx⟩,hg⟩:=h1
  cases hb:Dg b with
  | none =>
   rw[hb]at h;rcases args with _|⟨e,es⟩<;>first | exact absurd h ao | skip
   replace h:=(ay _ _).mp h
   have d0:aF e=true/\bt cc cs.tail es=true:=by
    cases cs with
    | nil=>exact absurd h.2 ao
    | cons c cs =>
     have h':(aF e&&bE cc c e&&bt cc cs es)=true:=h.2;simp only[ay]at h';exact⟨h'.1.1,h'.2⟩
   exact T7 g h.1 (eq_of_beq hx) hg d0.1 d0.2 (DC cs ex cc X (e::es) g h.2)
  | some t =>
   rw[hb]at h;obtain rfl:=wJ hb;rcases args with _|⟨e,_|⟨f,_|⟨f2,fs⟩⟩⟩<;>first | exact absurd h ao | skip
   replace h:=(ay _ _).mp h
   refine aG (P:=λf=>PE X (.Call (.Name x p) [e,f] [] pos) _) h.1 λy py hy=>?_;simp only[ay,oC]at hy;rcases cs with _|⟨c,_|⟨c2,cs⟩⟩
   ·exact absurd h.2 ao
   ·have h7:(aF e&&bE cc c e&&true)=true:=h.2;simp only[ay]at h7;exact Pb g.cW (eq_of_beq hx) hg (eq_of_beq hy.1.1) hy.1.2 hy.2 h7.1.1 (a9 c ex cc X e g h7.1.2)
   ·have h7:(aF e&&bE cc c e&&bt cc (c2::cs) [])=true:=h.2;simp only[ay]at h7;exact absurd h7.2 ao
 | .me m o cs,ex,cc,X,e,g,h=>bj (P:=λe=>PE X e _) h λfe args cO pos h=>dG (P:=λfe=>PE X (.Call fe args cO pos) _) h λe n ap h=>by
  simp only[ay,vG]at h;obtain⟨⟨⟨⟨⟨⟨⟨rfl,h1⟩,h2⟩,h3⟩,h4⟩,h5⟩,h6⟩,h7⟩:=h;exact Ud (eq_of_beq h1) h2 h3 h4 h6 (of_decide_eq_true h7) (a9 o ex cc X e g h5) (kY cs ex cc X args g h6)
 | .yn ks cs,ex,cc,X,e,g,h=>AK (P:=λe=>PE X e _) h λkeys vs pos h=>by
  simp only[BF,ay,gQ,vq,oC,vG]at h;rcases h with⟨⟨⟨⟨⟨h1,h2⟩,h3⟩,h4⟩,h5⟩,h6⟩|⟨⟨⟨rfl,rfl⟩,rfl⟩,rfl⟩
  ·exact Pg h1 h2 h3 h4 h5 h6 (rM cs ex cc X g)
  ·exact Lu
 | .jl tp cs,ex,cc,X,e,g,h=>bj (P:=λe=>PE X e _) h λfe args cO kx h=>aG (P:=λfe=>PE X (.Call fe args cO kx) _) h λx p2 h=>by
  rcases args with _|⟨a,_|⟨a2,as⟩⟩<;>first | exact absurd h ao | skip
  cases cO<;>first | exact absurd h ao | skip
  refine bj (P:=λa=>PE X (.Call (.Name x p2) [a] [] kx) _) h λf2 args cO pos h=>aG (P:=λf2=>PE X (.Call (.Name x p2) [.Call f2 args cO pos] [] kx) _) h λy p h=>?_;rcases args with _|⟨e,es⟩<;>first | exact absurd h ao | skip
  cases cO<;>first | exact absurd h ao | skip
  simp only[ay]at h;obtain⟨⟨⟨⟨h1,h2⟩,h3⟩,h4⟩,h5⟩:=h
  have d0:aF e=true/\bt cc cs.tail es=true:=by
   cases cs with
   | nil=>exact absurd h5 ao
   | cons c cs =>
    have h':(aF e&&bE cc c e&&bt cc cs es)=true:=h5;simp only[ay]at h';exact⟨h'.1.1,h'.2⟩
  exact O9 g (eq_of_beq h1) (eq_of_beq h2) h3 h4 d0.1 d0.2 (DC cs ex cc X (e::es) g h5)
 | .Bn x v,ex,cc,X,e,g,h=>aG (P:=λe=>PE X e _) h λy pos h=>by
  simp only[ay,e_]at h;obtain⟨⟨⟨rfl,h1⟩,h2⟩,h3⟩:=h;exact Pe g.cW h1 h2 h3
 | .eh ng a,ex,cc,X,e,g,h=>(rF (λe h=>a9 a ex cc X e g h) h).1
 | .sset a,ex,cc,X,e,g,h=>bj (P:=λe=>PE X e _) h λfe args cO pos h=>aG (P:=λfe=>PE X (.Call fe args cO pos) _) h λx p h=>by
  rcases args with _|⟨i,_|⟨a2,as⟩⟩<;>first | exact absurd h ao | skip
  cases cO<;>first | exact absurd h ao | skip
  refine bj (P:=λi=>PE X (.Call (.Name x p) [i] [] pos) _) h λf2 pS AN kx h=>aG (P:=λf2=>PE X (.Call (.Name x p) [.Call f2 pS AN kx] [] pos) _) h λy p2 h=>?_;rcases pS with _|⟨b,_|⟨a2,as⟩⟩<;>first | exact absurd h ao | skip
  cases AN<;>first | exact absurd h ao | skip
  simp only[ay]at h;obtain⟨⟨⟨⟨⟨h1,h2⟩,h3⟩,h4⟩,h5⟩,h6⟩:=h;exact Lr g (eq_of_beq h1) h3 (eq_of_beq h2) h4 h5 (a9 a ex cc X b g h6)
 | .comp k cM tg cond elt cA,ex,cc,X,e,g,h=>iO (P:=λe=>PE X e _) h λel gens sc pos h=>by
  rcases gens with _|⟨⟨t,aM,ifs,as⟩,_|⟨_,_⟩⟩<;>first | exact absurd h ao | skip
  simp only[ay,e_,oC]at h;obtain⟨⟨⟨⟨⟨⟨rfl,h1⟩,h2⟩,h3⟩,h4⟩,h5⟩,h6⟩:=h;obtain⟨DB,lP⟩:=wN cM k ex cc X t aM g h3;obtain⟨_,_,_,r⟩:=Lw (pos:=pos) g h1 h2 lP DB h4 h5 (λt ht X' _ g' e he=>G7 cond never (pR cc sc) X' g' t ht e he) (λX' _ g'=>a9 elt never (pR cc sc) X' el g' h6);exact r
theorem DD{kk:Nat}{G:a8}:∀(t:ef)(ex:EX)(cc:CC)(X:Cx)(e:Expr),@Good ex kk X cc G->jO cc t e=true->PT X e (@ni ex X.K (dS G t))
 | .val (.cmp op a b),ex,cc,X,e,g,h=>nA Dm (yC g.cW (λe h=>a9 a ex cc X e g h) (λe h=>a9 b ex cc X e g h) h).2
 | .val (.chain o1 o2 a b c),ex,cc,X,e,g,h=>nA Dn (yD g.cW (λe h=>a9 a ex cc X e g h) (λe h=>a9 b ex cc X e g h) (λe h=>a9 c ex cc X e g h) h).2
 | .val (.lI i),ex,cc,X,e,g,h=>cN h (a9 (.lI i) ex cc X e g)
 | .val (.bx d),ex,cc,X,e,g,h=>cN h (a9 (.bx d) ex cc X e g)
 | .val (.bin op a b),ex,cc,X,e,g,h=>cN h (a9 (.bin op a b) ex cc X e g)
 | .val (.dc cs),ex,cc,X,e,g,h=>cN h (a9 (.dc cs) ex cc X e g)
 | .val (.dw cs),ex,cc,X,e,g,h=>cN h (a9 (.dw cs) ex cc X e g)
 | .val (.neg a),ex,cc,X,e,g,h=>cN h (a9 (.neg a) ex cc X e g)
 | .val (.tup cs),ex,cc,X,e,g,h=>cN h (a9 (.tup cs) ex cc X e g)
 | .val (.lst cs),ex,cc,X,e,g,h=>cN h (a9 (.lst cs) ex cc X e g)
 | .val (.sub a b),ex,cc,X,e,g,h=>cN h (a9 (.sub a b) ex cc X e g)
 | .val (.oQ a lo hi),ex,cc,X,e,g,h=>cN h (a9 (.oQ a lo hi) ex cc X e g)
 | .val (.ym a k),ex,cc,X,e,g,h=>cN h (a9 (.ym a k) ex cc X e g)
 | .val (.fP a b),ex,cc,X,e,g,h=>cN h (a9 (.fP a b) ex cc X e g)
 | .val (.call f cs),ex,cc,X,e,g,h=>cN h (a9 (.call f cs) ex cc X e g)
 | .val (.bi b cs),ex,cc,X,e,g,h=>cN h (a9 (.bi b cs) ex cc X e g)
 | .val (.me m o cs),ex,cc,X,e,g,h=>cN h (a9 (.me m o cs) ex cc X e g)
 | .val (.yn ks cs),ex,cc,X,e,g,h=>cN h (a9 (.yn ks cs) ex cc X e g)
 | .val (.jl tp cs),ex,cc,X,e,g,h=>cN h (a9 (.jl tp cs) ex cc X e g)
 | .val (.eh ng a),ex,cc,X,e,g,h=>nA yE (rF (λe h=>a9 a ex cc X e g h) h).2
 | .val (.Bn x v),ex,cc,X,e,g,h=>cN h (a9 (.Bn x v) ex cc X e g)
 | .val (.sset a),ex,cc,X,e,g,h=>cN h (a9 (.sset a) ex cc X e g)
 | .val (.xf a f),ex,cc,X,e,g,h=>cN h (a9 (.xf a f) ex cc X e g)
 | .val (.uA a k tb),ex,cc,X,e,g,h=>cN h (a9 (.uA a k tb) ex cc X e g)
 | .val (.fQ f cs),ex,cc,X,e,g,h=>cN h (a9 (.fQ f cs) ex cc X e g)
 | .val (.comp k cM tg cond elt cA),ex,cc,X,e,g,h=>cN h (a9 (.comp k cM tg cond elt cA) ex cc X e g)
 | .dc ts,ex,cc,X,e,g,h=>by
  refine dk (P:=λe=>PT X e _) h λop es pos h=>?_;simp only[ay,gQ,vq]at h
  cases op with
  | Or=>exact absurd h.1.1 ao
  | And=>exact Di (Dp ts es pos (DE ts ex cc X g) h.1.2 h.2).pt λσ H Q q=>q
 | .dw ts,ex,cc,X,e,g,h=>by
  refine dk (P:=λe=>PT X e _) h λop es pos h=>?_;simp only[ay,gQ,vq]at h
  cases op with
  | And=>exact absurd h.1.1.symm ao
  | Or=>exact Di (Dq ts es pos (DE ts ex cc X g) h.1.2 h.2).pt λσ H Q q=>q
 | .neg t,ex,cc,X,e,g,h=>by
  refine dE (P:=λe=>PT X e _) h λop x pos h=>?_
  replace h:=(ay _ _).mp h
  cases op<;>first | exact absurd h.1 ao | skip
  exact IJ (DD t ex cc X x g h.2)
theorem kY{kk:Nat}{G:a8}:∀(cs:List C)(ex:EX)(cc:CC)(X:Cx)(es:List Expr),@Good ex kk X cc G->bt cc cs es=true->PA X es (@Bo ex X.K (a_ G cs))
 | [],ex,cc,X,[],g,h=>IH
 | [],ex,cc,X,_::_,g,h=>by cases h
 | _::_,ex,cc,X,[],g,h=>by cases h
 | c::cs,ex,cc,X,e::es,g,h=>by
  have h':(aF e&&bE cc c e&&bt cc cs es)=true:=h;simp only[ay]at h';exact Dk h'.1.1 (a9 c ex cc X e g h'.1.2) (kY cs ex cc X es g h'.2)
theorem DC{kk:Nat}{G:a8}:∀(cs:List C)(ex:EX)(cc:CC)(X:Cx)(es:List Expr),@Good ex kk X cc G->bt cc cs es=true->PA X es (@Lq ex X.K (cI G cs))
 | [],ex,cc,X,[],g,h=>IL
 | [],ex,cc,X,_::_,g,h=>by cases h
 | _::_,ex,cc,X,[],g,h=>by cases h
 | c::cs,ex,cc,X,e::es,g,h=>by
  have h':(aF e&&bE cc c e&&bt cc cs es)=true:=h;simp only[ay]at h';exact Dr h'.1.1 (a9 c ex cc X e g h'.1.2) (DC cs ex cc X es g h'.2)
theorem rM{kk:Nat}{G:a8}:∀(cs:List C)(ex:EX)(cc:CC)(X:Cx),@Good ex kk X cc G->∀c∈cs,∀e,bE cc c e=true->PE X e (@tE ex X.K (ev G c))
 | [],ex,cc,X,g,c,hc,e,h=>by cases hc
 | c::cs,ex,cc,X,g,c',hc,e,h=>by
  rcases bz.mp hc with z | z
  ·rw[z]at h⊢;exact a9 c ex cc X e g h
  ·exact rM cs ex cc X g c' z e h
theorem DE{kk:Nat}{G:a8}:∀(ts:List ef)(ex:EX)(cc:CC)(X:Cx),@Good ex kk X cc G->∀t∈ts,∀e,jO cc t e=true->PT X e (@ni ex X.K (dS G t))
 | [],ex,cc,X,g,c,hc,e,h=>by cases hc
 | c::cs,ex,cc,X,g,c',hc,e,h=>by
  rcases bz.mp hc with z | z
  ·rw[z]at h⊢;exact DD c ex cc X e g h
  ·exact DE cs ex cc X g c' z e h
theorem Pk{kk:Nat}{G:a8}:∀(o:Option C)(ex:EX)(cc:CC)(X:Cx)(e:Option Expr),@Good ex kk X cc G->Lj cc o e=true->PO X e (@tO ex X.K (sM G o))
 | none,ex,cc,X,none,g,h=>Ln
 | none,ex,cc,X,some _,g,h=>by cases h
 | some _,ex,cc,X,none,g,h=>by cases h
 | some c,ex,cc,X,some e,g,h=>Lo (a9 c ex cc X e g h)
theorem G7{kk:Nat}{G:a8}:∀(o:Option ef)(ex:EX)(cc:CC)(X:Cx),@Good ex kk X cc G->∀t,o=some t->∀e,jO cc t e=true->PT X e (@ni ex X.K (dS G t))
 | none,ex,cc,X,g,t,ht,e,h=>by cases ht
 | some c,ex,cc,X,g,t,ht,e,h=>by cases ht;exact DD c ex cc X e g h
theorem wN{kk:Nat}{G:a8}:∀(cM:List C)(k:SK)(ex:EX)(cc:CC)(X:Cx)(t aM:Expr),@Good ex kk X cc G->rE cc k cM t aM=true->PI X t aM (@tI ex X.K (dr G k cM))/\fC aM=true
 | [],k,ex,cc,X,t,aM,g,h=>by cases k<;>cases h
 | [c],.seq,ex,cc,X,t,aM,g,h=>by
  have h':(fC aM&&bE cc c aM)=true:=h;simp only[ay]at h';exact⟨G2 (a9 c ex cc X aM g h'.2),h'.1⟩
 | [c],.vals,ex,cc,X,t,aM,g,h=>by cases h
 | [c],.keys,ex,cc,X,t,aM,g,h=>by cases h
 | [c],.fB,ex,cc,X,t,aM,g,h=>by
  refine bj (P:=λaM=>PI X t aM _/\fC aM=true) h λfe args cO pos h=>aG (P:=λfe=>PI X t (.Call fe args cO pos) _/\fC (.Call fe args cO pos)=true) h λx p h=>?_;rcases args with _|⟨a,_|⟨a2,as⟩⟩<;>first | exact absurd h ao | skip
  cases cO<;>first | exact absurd h ao | skip
  simp only[ay]at h;exact⟨Dx g (eq_of_beq h.1.1.1) h.1.1.2 h.1.2 (a9 c ex cc X a g h.2),rfl⟩
 | [c],.enum,ex,cc,X,t,aM,g,h=>by cases h
 | [c],.CQ,ex,cc,X,t,aM,g,h=>by cases h
 | [c],.zip,ex,cc,X,t,aM,g,h=>by cases h
 | [c],.Gx,ex,cc,X,t,aM,g,h=>by cases h
 | [c,d],.CQ,ex,cc,X,t,aM,g,h=>by cases h
 | [c,d],.seq,ex,cc,X,t,aM,g,h=>by cases h
 | [c,d],.Gx,ex,cc,X,t,aM,g,h=>by cases h
 | [c,d],.keys,ex,cc,X,t,aM,g,h=>by cases h
 | [c,d],.vals,ex,cc,X,t,aM,g,h=>by cases h
 | [c,d],.fB,ex,cc,X,t,aM,g,h=>by cases h
 | [c,d],.enum,ex,cc,X,t,aM,g,h=>by cases h
 | [c,d],.zip,ex,cc,X,t,aM,g,h=>by
  refine bj (P:=λaM=>PI X t aM _/\fC aM=true) h λfe args cO pos h=>aG (P:=λfe=>PI X t (.Call fe args cO pos) _/\fC (.Call fe args cO pos)=true) h λx p h=>?_;rcases args with _|⟨a,_|⟨b,_|⟨a2,as⟩⟩⟩<;>first | exact absurd h ao | skip
  cases cO<;>first | exact absurd h ao | skip
  simp only[ay]at h;exact⟨G4 g (eq_of_beq h.1.1.1.1.1) h.1.1.1.1.2 h.1.1.1.2 h.1.1.2 (a9 c ex cc X a g h.1.2) (a9 d ex cc X b g h.2),rfl⟩
 | [c,d,m],.Gx,ex,cc,X,t,aM,g,h=>by cases h
 | [c,d,m],.seq,ex,cc,X,t,aM,g,h=>by cases h
 | [c,d,m],.keys,ex,cc,X,t,aM,g,h=>by cases h
 | [c,d,m],.vals,ex,cc,X,t,aM,g,h=>by cases h
 | [c,d,m],.fB,ex,cc,X,t,aM,g,h=>by cases h
 | [c,d,m],.CQ,ex,cc,X,t,aM,g,h=>by cases h
 | [c,d,m],.enum,ex,cc,X,t,aM,g,h=>by cases h
 | [c,d,m],.zip,ex,cc,X,t,aM,g,h=>by cases h
 | _::_::_::_::_,k,ex,cc,X,t,aM,g,h=>by cases k<;>cases h
end
mutual
noncomputable def hU:C->Bool
 | .lI _=>true
 | .bx _=>true
 | .bin _ a b=>hU a&&hU b
 | .cmp _ a b=>hU a&&hU b
 | .sub a b=>hU a&&hU b
 | .neg a=>hU a
 | .eh _ a=>hU a
 | .xf a _=>hU a
 | .uA a _ _=>hU a
 | .tup cs=>uS cs
 | .lst cs=>uS cs
 | .fQ _ cs=>uS cs
 | _=>false
noncomputable def uS:List C->Bool
 | []=>true
 | c::cs=>hU c&&uS cs
noncomputable def DF:ef->Bool
 | .val c=>hU c
 | .neg t=>DF t
 | .dc ts=>yN ts
 | .dw ts=>yN ts
noncomputable def yN:List ef->Bool
 | []=>true
 | c::cs=>DF c&&yN cs
end
mutual
theorem kN{kk:Nat}{G:a8}:∀(c:C)(cc:CC)(X:Cx)(e:Expr),bZ kk X cc G->hU c=true->bE cc c e=true->PE X e (tE X.K (ev G c))
 | .lI i,cc,X,e,g,k,h=>IB g h
 | .bx d,cc,X,e,g,k,h=>IC h
 | .bin op a b,cc,X,e,g,k,h=>ID (λe h=>kN a cc X e g ((ay _ _).mp k).1 h) (λe h=>kN b cc X e g ((ay _ _).mp k).2 h) h
 | .cmp op a b,cc,X,e,g,k,h=>(yC g (λe h=>kN a cc X e g ((ay _ _).mp k).1 h) (λe h=>kN b cc X e g ((ay _ _).mp k).2 h) h).1
 | .sub a b,cc,X,e,g,k,h=>cF (P:=λe=>PE X e _) h λe i pos h=>by
  simp only[ay]at h;exact IK g h.1.1 (kN a cc X e g ((ay _ _).mp k).1 h.1.2) (kN b cc X i g ((ay _ _).mp k).2 h.2)
 | .neg a,cc,X,e,g,k,h=>IE (λe h=>kN a cc X e g k h) h
 | .eh ng a,cc,X,e,g,k,h=>(rF (λe h=>kN a cc X e g k h) h).1
 | .xf a f,cc,X,e,g,k,h=>dG (P:=λe=>PE X e _) h λe n pos h=>by
  simp only[ay,e_]at h;obtain⟨⟨rfl,h1⟩,h2⟩:=h;exact aG (P:=λe=>bE cc a e=true->PE X (.Attribute e n pos) _) h1 (λx p _ h2=>Pf (kN a cc X _ g k h2)) h2
 | .uA a ix tb,cc,X,e,g,k,h=>bj (P:=λe=>PE X e _) h λfe args cO pos h=>aG (P:=λfe=>PE X (.Call fe args cO pos) _) h λx p h=>by
  rcases args with _|⟨u,_|⟨v,_|⟨_,_⟩⟩⟩<;>first | exact absurd h ao | skip
  cases cO<;>first | exact absurd h ao | skip
  simp only[ay]at h;obtain⟨⟨⟨⟨⟨h1,h2⟩,h3⟩,h4⟩,h5⟩,h6⟩:=h;exact IM g (eq_of_beq h1) h2 h3 (kN a cc X u g k h4) h5 h6
 | .tup cs,cc,X,e,g,k,h=>IF (λes h=>G8 cs cc X es g k h) h
 | .lst cs,cc,X,e,g,k,h=>IG (λes h=>G8 cs cc X es g k h) h
 | .fQ f cs,cc,X,e,g,k,h=>bj (P:=λe=>PE X e _) h λfe args cO pos h=>aG (P:=λfe=>PE X (.Call fe args cO pos) _) h λx p h=>by
  rcases args with _|⟨e,es⟩<;>first | exact absurd h ao | skip
  cases cO<;>first | exact absurd h ao | skip
  simp only[ay,e_]at h;exact yG g h.1.1.1.1 (List.contains_iff_mem.mp h.1.1.1.2) h.1.1.2 h.1.2 h.2 (G8 cs cc X (e::es) g k h.2)
 | .chain o1 o2 a b c,cc,X,e,g,k,h=>absurd k ao
 | .dc cs,cc,X,e,g,k,h=>absurd k ao
 | .dw cs,cc,X,e,g,k,h=>absurd k ao
 | .oQ a lo hi,cc,X,e,g,k,h=>absurd k ao
 | .ym a j,cc,X,e,g,k,h=>absurd k ao
 | .fP a b,cc,X,e,g,k,h=>absurd k ao
 | .call f cs,cc,X,e,g,k,h=>absurd k ao
 | .bi b cs,cc,X,e,g,k,h=>absurd k ao
 | .me m o cs,cc,X,e,g,k,h=>absurd k ao
 | .yn ks cs,cc,X,e,g,k,h=>absurd k ao
 | .jl tp cs,cc,X,e,g,k,h=>absurd k ao
 | .Bn x v,cc,X,e,g,k,h=>absurd k ao
 | .sset a,cc,X,e,g,k,h=>absurd k ao
 | .comp sk cM tg cond elt cA,cc,X,e,g,k,h=>absurd k ao
theorem Ui{kk:Nat}{G:a8}:∀(t:ef)(cc:CC)(X:Cx)(e:Expr),bZ kk X cc G->DF t=true->jO cc t e=true->PT X e (ni X.K (dS G t))
 | .val (.cmp op a b),cc,X,e,g,k,h=>nA Dm (yC g (λe h=>kN a cc X e g ((ay _ _).mp k).1 h) (λe h=>kN b cc X e g ((ay _ _).mp k).2 h) h).2
 | .val (.eh ng a),cc,X,e,g,k,h=>nA yE (rF (λe h=>kN a cc X e g k h) h).2
 | .val (.lI i),cc,X,e,g,k,h=>cN h (kN (.lI i) cc X e g k)
 | .val (.bx d),cc,X,e,g,k,h=>cN h (kN (.bx d) cc X e g k)
 | .val (.bin op a b),cc,X,e,g,k,h=>cN h (kN (.bin op a b) cc X e g k)
 | .val (.sub a b),cc,X,e,g,k,h=>cN h (kN (.sub a b) cc X e g k)
 | .val (.xf a f),cc,X,e,g,k,h=>cN h (kN (.xf a f) cc X e g k)
 | .val (.uA a ix tb),cc,X,e,g,k,h=>cN h (kN (.uA a ix tb) cc X e g k)
 | .val (.tup cs),cc,X,e,g,k,h=>cN h (kN (.tup cs) cc X e g k)
 | .val (.lst cs),cc,X,e,g,k,h=>cN h (kN (.lst cs) cc X e g k)
 | .val (.fQ f cs),cc,X,e,g,k,h=>cN h (kN (.fQ f cs) cc X e g k)
 | .val (.neg a),cc,X,e,g,k,h=>cN h (kN (.neg a) cc X e g k)
 | .val (.chain o1 o2 a b c),cc,X,e,g,k,h=>absurd k ao
 | .val (.dc cs),cc,X,e,g,k,h=>absurd k ao
 | .val (.dw cs),cc,X,e,g,k,h=>absurd k ao
 | .val (.oQ a lo hi),cc,X,e,g,k,h=>absurd k ao
 | .val (.ym a j),cc,X,e,g,k,h=>absurd k ao
 | .val (.fP a b),cc,X,e,g,k,h=>absurd k ao
 | .val (.call f cs),cc,X,e,g,k,h=>absurd k ao
 | .val (.bi b cs),cc,X,e,g,k,h=>absurd k ao
 | .val (.me m o cs),cc,X,e,g,k,h=>absurd k ao
 | .val (.yn ks cs),cc,X,e,g,k,h=>absurd k ao
 | .val (.jl tp cs),cc,X,e,g,k,h=>absurd k ao
 | .val (.Bn x v),cc,X,e,g,k,h=>absurd k ao
 | .val (.sset a),cc,X,e,g,k,h=>absurd k ao
 | .val (.comp sk cM tg cond elt cA),cc,X,e,g,k,h=>absurd k ao
 | .dc ts,cc,X,e,g,k,h=>by
  refine dk (P:=λe=>PT X e _) h λop es pos h=>?_;simp only[ay,gQ,vq]at h
  cases op with
  | Or=>exact absurd h.1.1 ao
  | And=>exact Di (Dp ts es pos (Lx ts cc X g k) h.1.2 h.2).pt λσ H Q q=>q
 | .dw ts,cc,X,e,g,k,h=>by
  refine dk (P:=λe=>PT X e _) h λop es pos h=>?_;simp only[ay,gQ,vq]at h
  cases op with
  | And=>exact absurd h.1.1.symm ao
  | Or=>exact Di (Dq ts es pos (Lx ts cc X g k) h.1.2 h.2).pt λσ H Q q=>q
 | .neg t,cc,X,e,g,k,h=>by
  refine dE (P:=λe=>PT X e _) h λop x pos h=>?_
  replace h:=(ay _ _).mp h
  cases op<;>first | exact absurd h.1 ao | skip
  exact IJ (Ui t cc X x g k h.2)
theorem G8{kk:Nat}{G:a8}:∀(cs:List C)(cc:CC)(X:Cx)(es:List Expr),bZ kk X cc G->uS cs=true->bt cc cs es=true->PA X es (Bo X.K (a_ G cs))
 | [],cc,X,[],g,k,h=>IH
 | [],cc,X,_::_,g,k,h=>by cases h
 | _::_,cc,X,[],g,k,h=>by cases h
 | c::cs,cc,X,e::es,g,k,h=>by
  have h':(aF e&&bE cc c e&&bt cc cs es)=true:=h;simp only[ay]at h';exact Dk h'.1.1 (kN c cc X e g ((ay _ _).mp k).1 h'.1.2) (G8 cs cc X es g ((ay _ _).mp k).2 h'.2)
theorem Lx{kk:Nat}{G:a8}:∀(ts:List ef)(cc:CC)(X:Cx),bZ kk X cc G->yN ts=true->∀t∈ts,∀e,jO cc t e=true->PT X e (ni X.K (dS G t))
 | [],cc,X,g,k,t,hm,e,h=>by cases hm
 | t'::ts,cc,X,g,k,t,hm,e,h=>by
  rcases bz.mp hm with z | z
  ·rw[z]at h⊢;exact Ui t' cc X e g ((ay _ _).mp k).1 h
  ·exact Lx ts cc X g ((ay _ _).mp k).2 t z e h
end
section
variable [EX]
inductive TB where
 | asg (i f:Nat) (cs:List C) | AS (i f:Nat) (cs:List C) | exp (f:Nat) (cs:List C)
noncomputable def TB.fn:TB->Nat
 | .asg _ f _=>f
 | .AS _ f _=>f
 | .exp f _=>f
noncomputable def TB.args:TB->List C
 | .asg _ _ cs=>cs
 | .AS _ _ cs=>cs
 | .exp _ cs=>cs
inductive S where
 | asg (tg:List Nat) (c:C)
 | jT (i:Nat) (c:C)
 | put (o i v:C)
 | dput (o i v:C)
 | par (i j:Nat) (a b:C)
 | expr (c:C)
 | ret (c:C)
 | AU
 | iff (t:ef) (a b:List S)
 | eG (tg:List Nat) (k:SK) (cM:List C) (b:List S)
 | IT (n:Nat) (t:ef) (b:List S)
 | G9 (a:Addr) (fs:List Str) (cs:List C)
 | oZ (b:TB) (cb:Str) (mt:List (Addr×List Str)) (j:Nat) (h:List S)
 | never | pass | brk | cont
inductive aX where
 | nx (ρ:En) (M:ag) | rt (w:W) (M:ag) | bk (ρ:En) (M:ag) | ct (ρ:En) (M:ag) | er (x:AB) (M:ag) | ae
noncomputable def aX.fD{α:Type}(o:bF α)(f:α->ag->aX):aX:=match o with
 | .ok a M=>f a M
 | .err x M=>.er x M
 | .ae=>.ae
noncomputable def aX.Pl(j:Nat)(o:aX):aX:=match o with
 | .nx ρ M=>.nx (ρ.set j none) M
 | _=>.ae
def TB.got(b:TB)(w:W)(M:ag)(ρ:En):aX:=match b with
 | .asg i _ _=>aX.fD (own w M) λd M=>.nx (ρ.set i (some d)) M
 | .AS i _ _=>aX.fD (own w M) λd M=>.nx (ρ.set i (some (.tup [d]))) M
 | .exp _ _=>.nx ρ M
noncomputable def aX.seq(o:aX)(f:En->ag->aX):aX:=match o with
 | .nx ρ M=>f ρ M
 | o=>o
def dH(body:En->ag->aX)(it:Ev.It)(tg:List Nat):Nat->Nat->En->ag->aX
 | 0,i,ρ,M=>match itemAt M i it with
  | some none=>.nx ρ M
  | _=>.ae
 | f+1,i,ρ,M=>match itemAt M i it with
  | some none=>.nx ρ M
  | some (some d)=>match bM tg d ρ with
   | none=>.ae
   | some ρ=>match body ρ M with
    | .nx ρ M=>dH body it tg f (i+1) ρ M
    | .ct ρ M=>dH body it tg f (i+1) ρ M
    | .bk ρ M=>.nx ρ M
    | .rt w M=>.rt w M
    | .er x M=>.er x M
    | .ae=>.ae
  | none=>.ae
noncomputable def AV(Ly:En->ag->bF Bool)(body:En->ag->aX):Nat->En->ag->aX
  | 0,_,_=>.ae
  | f+1,ρ,M=>match Ly ρ M with
    | .ok r M => if r then (match body ρ M with
        | .nx ρ M=>AV Ly body f ρ M
        | .ct ρ M=>AV Ly body f ρ M
        | .bk ρ M=>.nx ρ M
        | .rt w M=>.rt w M
        | .er x M=>.er x M
        | .ae=>.ae) else .nx ρ M
    | .err x M=>.er x M
    | .ae=>.ae
mutual
noncomputable def gM(G:a8):S->En->ag->aX
 | .asg tg c,ρ,M=>aX.fD ((ev G c ρ M).bind own) λd M=>match bM tg d ρ with
  | some ρ=>.nx ρ M
  | none=>.ae
 | .jT i c,ρ,M=>aX.fD ((ev G c ρ M).bind own) λd M=>.nx (ρ.set i (some d)) M
 | .put o i v,ρ,M=>aX.fD ((ev G v ρ M).bind own) λd M=>aX.fD (ev G o ρ M) λx M=>aX.fD (ev G i ρ M) λy M=>aX.fD (jJ x y d M) λ_ M=>.nx ρ M
 | .dput o i v,ρ,M=>aX.fD ((ev G v ρ M).bind own) λd M=>aX.fD (ev G o ρ M) λx M=>aX.fD (ev G i ρ M) λy M=>aX.fD (yp x y d M) λ_ M=>.nx ρ M
 | .par i j a b,ρ,M=>aX.fD (a_ G [a,b] ρ M) λds M=>match ds with
  | [x,y]=>.nx ((ρ.set i (some x)).set j (some y)) M
  | _=>.ae
 | .expr c,ρ,M=>aX.fD (ev G c ρ M) λ_ M=>.nx ρ M
 | .ret c,ρ,M=>aX.fD (ev G c ρ M) λw M=>.rt w M
 | .AU,_,M=>.rt (.d .a6) M
 | .iff t a b,ρ,M=>aX.fD (dS G t ρ M) λr M=>if r then bR G a ρ M else bR G b ρ M
 | .eG tg k cM b,ρ,M=>aX.fD (dr G k cM ρ M) λit M=>dH (λρ M=>bR G b ρ M) it tg (cR M it) 0 ρ M
 | .IT n t b,ρ,M=>AV (λρ M=>dS G t ρ M) (λρ M=>bR G b ρ M) n ρ M
 | .G9 a f c,ρ,M=>aX.fD (a_ G c ρ M) λds M=>.er ⟨a,f.zip ds⟩ M
 | .oZ b _ mt j h,ρ,M=>match a_ G b.args ρ M with
  | .ok ds M1=>match G b.fn ds M1 with
   | .ok w M2=>b.got w M2 ρ
   | .err x M2=>if mt.lookup x.cls=some (x.fs.map (·.1)) then (bR G h (ρ.set j (some (.aJ M2.length))) (M2++[.xc x.cls x.fs])).Pl j else .ae
   | .ae=>.ae
  | _=>.ae
 | .never,_,_=>.ae
 | .pass,ρ,M=>.nx ρ M
 | .brk,ρ,M=>.bk ρ M
 | .cont,ρ,M=>.ct ρ M
noncomputable def bR(G:a8):List S->En->ag->aX
 | [],ρ,M=>.nx ρ M
 | s::ss,ρ,M=>(gM G s ρ M).seq λρ M=>bR G ss ρ M
end
section
variable {G:a8} {lo hi:Option C} {cond:Option ef}
theorem yO : gM G (.asg tg c) ρ M = (aX.fD ((ev G c ρ M).bind own) fun d M => match bM tg d ρ with
    | some ρ=>.nx ρ M
    | none=>.ae):=rfl
theorem uT:gM G (.jT i c) ρ M=aX.fD ((ev G c ρ M).bind own) λd M=>.nx (ρ.set i (some d)) M:=rfl
theorem yP:gM G (.put o i v) ρ M=aX.fD ((ev G v ρ M).bind own) λd M=>aX.fD (ev G o ρ M) λx M=>aX.fD (ev G i ρ M) λy M=>aX.fD (jJ x y d M) λ_ M=>.nx ρ M:=rfl
theorem DG:gM G (.dput o i v) ρ M=aX.fD ((ev G v ρ M).bind own) λd M=>aX.fD (ev G o ρ M) λx M=>aX.fD (ev G i ρ M) λy M=>aX.fD (yp x y d M) λ_ M=>.nx ρ M:=rfl
theorem G_ : gM G (.par i j a b) ρ M = (aX.fD (a_ G [a, b] ρ M) fun ds M => match ds with
    | [x,y]=>.nx ((ρ.set i (some x)).set j (some y)) M
    | _=>.ae):=rfl
theorem uU:gM G (.expr c) ρ M=aX.fD (ev G c ρ M) λ_ M=>.nx ρ M:=rfl
theorem yQ:gM G (.ret c) ρ M=aX.fD (ev G c ρ M) λw M=>.rt w M:=rfl
theorem yR:gM G (.iff t a b) ρ M=aX.fD (dS G t ρ M) λr M=>if r then bR G a ρ M else bR G b ρ M:=rfl
theorem uV:gM G (.eG tg k cM b) ρ M=aX.fD (dr G k cM ρ M) λit M=>dH (λρ M=>bR G b ρ M) it tg (cR M it) 0 ρ M:=rfl
theorem Ha:gM G (.IT n t b) ρ M=AV (λρ M=>dS G t ρ M) (λρ M=>bR G b ρ M) n ρ M:=rfl
theorem yS{f:List Str}{c:List C}:gM G (.G9 a f c) ρ M=aX.fD (a_ G c ρ M) λds M=>.er ⟨a,f.zip ds⟩ M:=rfl
theorem DH {b : TB} {cb : Str} {mt : List (Addr × List Str)} {h : List S} : gM G (.oZ b cb mt j h) ρ M = (match a_ G b.args ρ M with
    | .ok ds M1=>(match G b.fn ds M1 with
      | .ok w M2=>b.got w M2 ρ
      | .err x M2=>if mt.lookup x.cls=some (x.fs.map (·.1)) then (bR G h (ρ.set j (some (.aJ M2.length))) (M2++[.xc x.cls x.fs])).Pl j else .ae
      | .ae=>.ae)
    | _=>.ae):=rfl
theorem uW:bR G [] ρ M=.nx ρ M:=rfl
theorem pU:bR G (s::ss) ρ M=(gM G s ρ M).seq λρ M=>bR G ss ρ M:=rfl
end
noncomputable def eT(e:Expr):Bool:=Nat.beq e.ctorIdx 8||(Nat.beq e.ctorIdx 9||Nat.beq e.ctorIdx 10)
def IU(cc:CC)(t v:Expr):Bool:=(!eT v && !(lV t&&lV v))||br t λx _=>cc.names.lookup x==some .cell
mutual
noncomputable def Lz:S->Bool
 | .asg tg c=>Nat.beq tg.length 1&&hU c
 | .iff t a b=>DF t&&hZ a&&hZ b
 | .ret c=>hU c
 | .expr c=>hU c
 | .pass=>true
 | _=>false
noncomputable def hZ:List S->Bool
 | []=>true
 | s::ss=>Lz s&&hZ ss
end
noncomputable def DI(e:Stmt)(f:List Stmt->List ExceptHandler->List Stmt->List Stmt->Pos->Bool):Bool:=if h:e.ctorIdx=17 then Stmt.Try.elim (motive_2:=λ_=>Bool) e h f else false
theorem DJ{P:Stmt->Prop}{e:Stmt}{f:List Stmt->List ExceptHandler->List Stmt->List Stmt->Pos->Bool}(h:DI e f=true)(k:∀a b c d e,f a b c d e=true->P (.Try a b c d e)):P e :=
 Stmt.Try.elim (motive_2:=λe=>DI e f=true->P e) e (bD h) (λa b c d e h=>k a b c d e h) h
def yT(cc:CC)(f:Nat)(cs:List C)(e:Expr):Bool:=cE e λfe args cO _=>cO.isEmpty && !args.isEmpty&&(br fe λx _=>cc.fs[f]? == some (x,cs.length)&&glob cc x&&aS x)&&bt cc cs args
def DK(cc:CC)(i:Nat)(e:Expr):Bool:=br e λx _=>cc.N[i]? == some x&&cc.names.lookup x==some .local
def IV(cc:CC):TB->Stmt->Bool
 | .asg i f cs,s=>eS s λts v _=>match ts with
  | [t]=>DK cc i t&&yT cc f cs v
  | _=>false
 | .AS i f cs,s=>eS s λts v _=>match ts with
  | [t]=>DK cc i t&&(ig v λes _ _=>match es with
   | [e]=>yT cc f cs e
   | _=>false)
  | _=>false
 | .exp f cs,s=>rB s λe _=>yT cc f cs e
mutual
noncomputable def DL(cc:CC):S->Stmt->Bool
 | .asg tg c,s=>eS s λts v _=>match ts with
  | [t]=>g9 cc tg t&&IU cc t v&&(!eT v||Nat.beq v.ctorIdx 8)&&bE cc c v
  | _=>false
 | .jT i c,s=>eS s λts v _=>match ts with
  | [t]=>br t λx p=>gn v λel gens sc q=>cc.N[i]? == some x&&cc.names.lookup x==some .local&&p.line==q.line && !(sc.names.any λ(n,k)=>n==x&&(k == .local||k == .cell))&&bE cc c (.ListComp el gens sc q)
  | _=>false
 | .put o i v,s=>eS s λts w _=>match ts with
  | [t]=>dm t λe f _=>jL f&&bE cc o e&&bE cc i f&&bE cc v w
  | _=>false
 | .dput o i v,s=>false
 | .par i j a b,s=>false
 | .expr c,s=>rB s λe _=>!eT e&&bE cc c e
 | .ret c,s=>jK s λo _=>match o with
  | some e=>bE cc c e
  | none=>false
 | .AU,s=>jK s λo _=>o.isNone
 | .iff t a b,s=>Lh s λc x y _=>jO cc t c&&eC cc a x&&eC cc b y
 | .eG tg k cM b,s=>C9 s λt aM body Pm _=>Pm.isEmpty&&rE cc k cM t aM&&g9 cc tg t&&eC cc b body
 | .IT _ t b,s=>false
 | .G9 a f c,s=>rq s λe k _=>k.isNone&&(match e with
  | some e=>cE e λfe args cO _=>cO.isEmpty&&(br fe λx _=>glob cc x&&aS x&&cc.xs.cl.lookup x==some (a,f))&&Nat.beq c.length f.length&&Nat.ble f.length 100 && !args.isEmpty&&bt cc c args
  | none=>false)
 | .oZ b cb mt j h,s=>DI s λbody hs Pm d_ _=>Pm.isEmpty&&d_.isEmpty&&(match body,hs with
  | [st],[.ExceptHandler (some te) (some n) hb _]=>IV cc b st&&(br te λy _=>y==cb&&glob cc y&&aS y)&&cc.N[j]? == some n&&cc.names.lookup n==some .local&&mt.all (λp=>cc.xs.ct.contains (cb,p.1,p.2))&&hZ h && !hb.isEmpty&&eC cc h hb
  | _,_=>false)
 | .never,_=>true
 | .pass,s=>wH s λ_=>true
 | .brk,s=>rC s λ_=>true
 | .cont,s=>jd s λ_=>true
noncomputable def eC(cc:CC):List S->List Stmt->Bool
 | [],[]=>true
 | s::ss,t::ts=>DL cc s t&&eC cc ss ts
 | _,_=>false
end
def j6(K:PySem.W.Frag)(ads:List Addr)(H:Hp)(D:kh):aX->Prop
 | .nx ρ M=>∀cU H' aw,aB ads aw H H'->SR K aw M ρ cU H'->D.nx cU H'
 | .bk ρ M=>∀cU H' aw,aB ads aw H H'->SR K aw M ρ cU H'->D.bk cU H'
 | .ct ρ M=>∀cU H' aw,aB ads aw H H'->SR K aw M ρ cU H'->D.ct cU H'
 | .rt w M=>kX K ads H w M D.rt
 | .er x M=>EX.post K ads H x M
 | .ae=>False
def o_(K:PySem.W.Frag)(o:En->ag->aX):TS:=λD σ H=>∃ads M ρ,SR K ads M ρ σ H/\j6 K ads H D (o ρ M)
theorem j6.shift{K:PySem.W.Frag}{ads aw:List Addr}{H H':Hp}{M M2:ag}{D:kh}{o:aX}(p:j6 K ads H D o)(g:aB ads aw H H')(m:aI K ads H M)(m':aI K aw H' M2):j6 K aw H' D o:=by
 cases o with
 | nx ρ M=>exact λσ H1 ah g1 s1=>p σ H1 ah (g.trans g1) s1
 | bk ρ M=>exact λσ H1 ah g1 s1=>p σ H1 ah (g.trans g1) s1
 | ct ρ M=>exact λσ H1 ah g1 s1=>p σ H1 ah (g.trans g1) s1
 | rt w M=>exact kX.shift p g m m'
 | er x M=>exact EX.shift p g
 | ae=>exact p
theorem yU{X:Cx}{st:Stmt}{t u:TS}(h:PS X st t)(f:∀D σ H,u D σ H->t D σ H):PS X st u:=λaa s σ H D I q=>h aa s σ H D I (f D σ H q)
theorem Hb{X:Cx}{st:List Stmt}{t u:TS}(h:vL X st t)(f:∀D σ H,u D σ H->t D σ H):vL X st u:=λaa s σ H D I q=>h aa s σ H D I (f D σ H q)
section
variable {kk:Nat} {X:Cx} {cc:CC} {G:a8}
theorem rN{e:Expr}(h:eT e=false)(t:Option Expr)(l:Nat)(env:Env):swapsWith e t l env=pure false:=by
 cases e<;>first | rfl | exact absurd (show true=false from h).symm ao
theorem IW{K:PySem.W.Frag}{o:En->ag->aX}{k:En->ag->aX}{σ:L2.St}{H:Hp}{D:kh}(h:o_ K (λρ M=>(o ρ M).seq k) D σ H):NJ (o_ K o) (o_ K k) D σ H:=by
 obtain⟨ads,M,ρ,s,q⟩:=h;have q:j6 K ads H D ((o ρ M).seq k):=q;refine⟨ads,M,ρ,s,?_⟩
 cases hq:o ρ M with
 | nx Ni M1 =>
  rw[hq]at q;intro Vv H1 ah g1 s1;exact⟨ah,M1,Ni,s1,j6.shift (o:=k Ni M1) q g1 s.mem s1.mem⟩
 | bk ρ M=>rw[hq]at q;exact q
 | ct ρ M=>rw[hq]at q;exact q
 | rt w M=>rw[hq]at q;exact q
 | er x M=>rw[hq]at q;exact q
 | ae=>rw[hq]at q;exact q
theorem Hc {K : PySem.W.Frag} {body : En -> ag -> aX} {it : Ev.It} {J : L2.It} {tg : List Nat} {tb : TS} (hb : ∀ D σ H, o_ K body D σ H -> tb D σ H) {ads : List Addr} {M : ag} {ρ : En} {σ : L2.St} {H : Hp} {D : kh} {f : Nat}
    (s:SR K ads M ρ σ H) (hJ:Lv K ads H it J) (q:j6 K ads H D (dH body it tg f 0 ρ M)) :
    ∃W:Nat->Nat->L2.St->Hp->Prop,(∃m,W 0 m σ H)/\∀i m σ H,W i m σ H ->
      (J.stop i H/\D.nx σ H)\/(J.go i H/\∃N:L2.St->Hp->Prop,(∀cU H',N cU H'->∃m',m'<m/\W (i+1) m' cU H')/\∀x H',J.NQ i H x H'->tG K tg x σ H' λFA H2=>tb {D with nx:=N,ct:=N,bk:=D.nx} FA H2):=by
  refine⟨λi m cU H'=>∃aw M' dY,SR K aw M' dY cU H'/\aB ads aw H H'/\j6 K ads H D (dH body it tg m i dY M'),⟨f,ads,M,ρ,s,aB.refl _ _,q⟩,?_⟩;rintro i m cU H' ⟨aw,M',dY,s',g',q'⟩;obtain⟨r1,r2⟩:=hJ i aw H' M' g' s'.mem
  cases m with
  | zero =>
    unfold dH at q';split at q'
    · rename_i hi
      exact .inl ⟨r1 hi,q' cU H' aw g' s'⟩
    · exact q'.elim
  | succ m =>
    unfold dH at q';split at q'
    · rename_i hi
      exact .inl ⟨r1 hi,q' cU H' aw g' s'⟩
    · rename_i d hi
      obtain⟨go,yl⟩:=r2 d hi
      cases Pn:bM tg d dY with
      | none=>rw[Pn]at q';exact q'.elim
      | some Ni =>
        rw[Pn]at q';dsimp only at q';refine .inr ⟨go,λFA H2=>∃aK M2 LA,SR K aK M2 LA FA H2/\aB ads aK H H2/\j6 K ads H D (dH body it tg m (i+1) LA M2),λFA H2 h=>⟨m,jq _,h⟩,λx H2 y=>?_⟩;obtain⟨g2,m2,rd⟩:=yl x H2 y;refine⟨aw,M',dY,d,s'.grow g2 m2,rd,Ni,Pn,λFA s2=>hb _ _ _ ⟨aw,M',Ni,s2,?_⟩⟩;have gg:=g'.trans g2
        cases hq:body Ni M' with
        | nx Rg M3=>rw[hq]at q';exact λFC H3 cS g3 s3=>⟨cS,M3,Rg,s3,gg.trans g3,q'⟩
        | ct Rg M3=>rw[hq]at q';exact λFC H3 cS g3 s3=>⟨cS,M3,Rg,s3,gg.trans g3,q'⟩
        | bk Rg M3=>rw[hq]at q';exact λFC H3 cS g3 s3=>q' FC H3 cS (gg.trans g3) s3
        | rt w M3=>rw[hq]at q';exact kX.shift (M:=M) (M2:=M') q' gg s.mem s2.mem
        | er x M3=>rw[hq]at q';exact EX.shift (show EX.post K ads H _ _ from q') gg
        | ae=>rw[hq]at q';exact q'.elim
    · exact q'.elim
theorem Uj{K:PySem.W.Frag}{ads:List Addr}{M:ag}{ρ:En}{σ:L2.St}{H:Hp}{D:kh}{o:En->ag->bF W}{k:W->ag->aX}{R:V->Hp->Prop}(s:SR K ads M ρ σ H)(q:j6 K ads H D (aX.fD (o ρ M) k))(hk:∀w M1 v H1 ah,SR K ah M1 ρ σ H1->RW K ah H1 w v->j6 K ah H1 D (k w M1)->R v H1):tE K o σ H R:=by
 refine⟨ads,M,ρ,s,?_⟩
 cases hq:o ρ M with
 | ok w M1 =>
  rw[hq]at q;intro v H1 ah g1 m1 r1;exact hk w M1 v H1 ah (s.grow g1 m1) r1.rw (j6.shift (o:=k w M1) q g1 s.mem m1)
 | err _ _=>rw[hq]at q;exact q
 | ae=>rw[hq]at q;exact q
theorem LB{K:PySem.W.Frag}{ads:List Addr}{M:ag}{ρ:En}{σ:L2.St}{H:Hp}{D:kh}{c:C}{k:Ev.D->ag->aX}{R:V->Hp->Prop}(s:SR K ads M ρ σ H)(q:j6 K ads H D (aX.fD ((ev G c ρ M).bind own) k))(hk:∀(d:Ev.D) M1 v H1 ah,SR K ah M1 ρ σ H1->RD K ah H1 d v->j6 K ah H1 D (k d M1)->R v H1):tE K (ev G c) σ H R:=by
 refine⟨ads,M,ρ,s,?_⟩
 cases hq:ev G c ρ M with
 | ok w M1 =>
  rw[hq]at q;intro v H1 ah g1 m1 r1;have q:j6 K ads H D (aX.fD (own w M1) k):=q
  cases ho:own w M1 with
  | ok d M2 =>
   rw[ho]at q;obtain⟨aK,g2,m2,rd⟩:=kK s.mem g1 m1 r1 ho;exact hk d M2 v H1 aK (s.grow g2 m2) rd (j6.shift (o:=k d M2) q g2 s.mem m2)
  | err _ _=>cases w<;>cases ho
  | ae=>cases w<;>cases ho
 | err _ _=>rw[hq]at q;exact q
 | ae=>rw[hq]at q;exact q
theorem Hd{tg:List Nat}{t:Expr}(h:g9 cc tg t=true):(∃x p,t=.Name x p)\/∃es k p,t=.Tuple es k p:=by
 rcases tg with _|⟨i,_|⟨j,r⟩⟩
 ·exact absurd h ao
 ·exact .inl (aG (P:=λt=>∃x p,t=.Name x p) ((ay _ _).mp h).1 λx p _=>⟨x,p,rfl⟩)
 ·exact .inr (eR (P:=λt=>∃es k p,t=.Tuple es k p) h λes k p _=>⟨es,k,p,rfl⟩)
theorem pV{el:Expr}{gens:List Comprehension}{sc:Scope}{q p:Pos}{x:Str}{l:Nat}{env:Env}:swapsWith (.ListComp el gens sc q) (some (.Name x p)) l env=pure (env.blockKind == .function&&env.kindOf x==some .local&&p.line==q.line && !(sc.names.any λ(n,k)=>n==x&&(k == .local||k == .cell))):=rfl
theorem IY{tg:List Nat}{c:C}{t v:Expr}{pos:Pos}(g:bZ kk X cc G)(hg:PG X t (tG X.K tg))(ht:g9 cc tg t=true)(hv:IU cc t v=true)(YC:eT v=true->∃el gens sc q,v=.ListComp el gens sc q)(he:PE X v (tE X.K (ev G c))):PS X (.Assign [t] v pos) (o_ X.K (gM G (.asg tg c))):=by
 have lE:∀D σ H,o_ X.K (gM G (.asg tg c)) D σ H->NP (tE X.K (ev G c)) (tG X.K tg) D σ H:=by
  intro D σ H q;obtain⟨ads,M,ρ,s,q⟩:=q;refine LB s (by simp only[yO]at q;exact q) λd M1 v H1 ah s1 rd q1=>?_
  cases hb:bM tg d ρ with
  | none=>simp only[hb]at q1;exact q1.elim
  | some dY =>
   simp only[hb]at q1;exact⟨ah,M1,ρ,d,s1,rd,dY,hb,λcU s'=>q1 cU H1 ah (aB.refl _ _) s'⟩
 rcases Hd ht with⟨x,p,rfl⟩|⟨es,k,p,rfl⟩
 ·refine yU (vN he hg ?_ (by unfold swappedStores;cases v<;>rfl) rfl) lE;show swapsWith v (some (.Name x p)) pos.line X.env=pure false
  cases hc:eT v with
  | false=>exact rN hc _ _ _
  | true =>
   have hv:((!eT v && !(false&&lV v))||(cc.names.lookup x==some .cell))=true:=hv;rw[hc]at hv;have hk:X.env.kindOf x=some .cell:=g.kinds x .cell (by simpa using hv);obtain⟨el,gens,sc,q,rfl⟩:=YC hc;rw[pV,hk,show((some NameKind.cell:Option NameKind)==some NameKind.local)=false from rfl];simp
 ·have Uk:((!eT v && !(true&&lV v))||false)=true:=hv;simp only[Bool.or_false,gR,ay,gQ]at Uk;refine yU (vN he hg (show swapsWithSole [.Tuple es k p] v pos.line X.env=pure false from rN Uk.1 (some (.Tuple es k p)) pos.line X.env) ?_ rfl) lE;unfold swappedStores;cases v<;>first | rfl | exact absurd (show true=false from Uk.2).symm ao
theorem LC{i:Nat}{c:C}{x:Str}{p q pos:Pos}{el t aM:Expr}{ifs:List Expr}{sc:Scope}{N':List Str}{cA:List (Option Nat)}{wi:TI}{gt:TG}{tc:Option TT}{te:TE}(g:Good kk X cc G)(hk:X.env.blockKind=.function)(hx:cc.N[i]?=some x)(hl:cc.names.lookup x=some .local)(hp:p.line=q.line)(hn:(sc.names.any λ(n,k)=>n==x&&(k == .local||k == .cell))=false)(hw:∀(aa:List (Addr×Obj))(s:Shared)(σ:L2.St)(H:Hp),Inv X aa σ H s->∃cl,PI X t aM wi/\kr X sc N' cA cl t el ifs gt tc te)(Ll:∀x,foldedSetIterable aM X.env x=pure x)(lE:∀σ H Q,tE X.K (ev G c) σ H Q->xV cA wi gt tc te σ H Q):PS X (.Assign [.Name x p] (.ListComp el [⟨t,aM,ifs,0⟩] sc q) pos) (o_ X.K (gM G (.jT i c))):=by
 intro aa s σ H D I h;obtain⟨cl,hi,ck⟩:=hw aa s σ H I;refine Gb (i:=i) g.calm (by rw[g.N];exact g.nd) (by rw[g.N];exact hx) (g.kinds x _ hl) ?_ hi ck Ll aa s σ H D I ?_
 ·rw[pV,hk,show X.env.kindOf x=some .local from g.kinds x _ hl,hn,hp];simp
 ·obtain⟨ads,M,ρ,sr,h⟩:=h;refine lE σ H _ (LB sr (by simp only[uT]at h;exact h) λd M1 v H1 ah s1 rd q1=>?_);exact q1 _ H1 ah (aB.refl _ _) (s1.set i rd)
theorem Po{o i v:C}{e f w:Expr}{sp pos:Pos}(g:Good kk X cc G)(hf:jL f=true)(ho:PE X e (tE X.K (ev G o)))(hi:PE X f (tE X.K (ev G i)))(hv:PE X w (tE X.K (ev G v))):PS X (.Assign [.Subscript e f sp] w pos) (o_ X.K (gM G (.put o i v))):=by
 have Q8:=g.rh.un;refine yU (vN hv (J3 ho hi (Lg ∅) (by intro _;cases f<;>first | rfl | exact absurd (show false=true from hf) ao)) (show swapsWithSole [.Subscript e f sp] w pos.line X.env=pure false from (by cases w<;>rfl)) (by unfold swappedStores;cases w<;>rfl) rfl) λD σ H q=>?_;obtain⟨ads,M,ρ,s,q⟩:=q;refine LB s (by simp only[yP]at q;exact q) λd M1 v H1 ah s1 rd q1=>?_;refine⟨ah,M1,ρ,s1,?_⟩
 cases h2:ev G o ρ M1 with
 | ok wo M2 =>
  rw[h2]at q1;intro vo H2 aK g2 m2 ro;have s2:=s1.grow g2 m2;refine⟨aK,M2,ρ,s2,?_⟩;have q2:j6 X.K ah H1 D (aX.fD (ev G i ρ M2) λy M=>aX.fD (jJ wo y d M) λ_ M=>.nx ρ M):=q1
  cases h3:ev G i ρ M2 with
  | ok wi M3 =>
   rw[h3]at q2;intro vi H3 cS g3 m3 ri;have s3:=s2.grow g3 m3;have q3:j6 X.K ah H1 D (aX.fD (jJ wo wi d M3) λ_ M=>.nx ρ M):=q2;refine⟨cS,M3,wo,wi,d,m3,g3.rw ro.rw,ri.rw,(g2.trans g3).rd _ _ rd,?_⟩
   cases h4:jJ wo wi d M3 with
   | ok u M4 =>
    rw[h4]at q3;intro H4 GV g4 m4;exact q3 σ H4 GV ((g2.trans g3).trans g4) (s3.grow g4 m4)
   | err _ _=>rw[h4]at q3;exact EX.shift (show EX.post X.K ah H1 _ _ from q3) (g2.trans g3)
   | ae=>rw[h4]at q3;exact q3
  | err _ _=>rw[h3]at q2;exact EX.shift (show EX.post X.K ah H1 _ _ from q2) g2
  | ae=>rw[h3]at q2;exact q2
 | err _ _=>rw[h2]at q1;exact q1
 | ae=>rw[h2]at q1;exact q1
theorem DM{c:C}{e:Expr}{pos:Pos}(hc:eT e=false)(he:PE X e (tE X.K (ev G c))):PS X (.Expr e pos) (o_ X.K (gM G (.expr c))):=by
 refine yU (Fv he (rN hc _ _ _)) λD σ H q=>?_;obtain⟨ads,M,ρ,s,q⟩:=q;exact Uj (k:=λ_ M=>.nx ρ M) s (by simp only[uU]at q;exact q) λw M1 v H1 ah s1 r1 q1=>q1 σ H1 ah (aB.refl _ _) s1
theorem IZ{c:C}{e:Expr}{pos:Pos}(he:PE X e (tE X.K (ev G c))):PS X (.Return (some e) pos) (o_ X.K (gM G (.ret c))):=by
 refine yU (JZ he) λD σ H q=>?_;obtain⟨ads,M,ρ,s,q⟩:=q;refine⟨ads,M,ρ,s,?_⟩;simp only[yQ]at q
 cases hq:ev G c ρ M with
 | ok w M1=>rw[hq]at q;exact q
 | err _ _=>rw[hq]at q;exact q
 | ae=>rw[hq]at q;exact q
theorem Pp{t:ef}{a b:List S}{c:Expr}{x y:List Stmt}{pos:Pos}(ht:PT X c (ni X.K (dS G t)))(ha:vL X x (o_ X.K (bR G a)))(hb:vL X y (o_ X.K (bR G b))):PS X (.If c x y pos) (o_ X.K (gM G (.iff t a b))):=by
 refine yU (NN ht ha hb) λD σ H q=>?_;obtain⟨ads,M,ρ,s,q⟩:=q;refine⟨ads,M,ρ,s,?_⟩;simp only[yR]at q
 cases hq:dS G t ρ M with
 | ok r M1 =>
  rw[hq]at q;intro H1 ah g1 m1;have q:j6 X.K ads H D (if r then bR G a ρ M1 else bR G b ρ M1):=q;have q:=q.shift g1 s.mem m1
  cases r with
  | true=>rw[aT rfl]at q⊢;exact⟨ah,M1,ρ,s.grow g1 m1,q⟩
  | false=>rw[aU (by simp)]at q⊢;exact⟨ah,M1,ρ,s.grow g1 m1,q⟩
 | err _ _=>rw[hq]at q;exact q
 | ae=>rw[hq]at q;exact q
theorem Pq{tg:List Nat}{k:SK}{cM:List C}{b:List S}{t aM:Expr}{body:List Stmt}{pos:Pos}(g:Good kk X cc G)(hx:PassesOwn (model X.prog X.w) X.A X.env X.xe)(hs:PI X t aM (tI X.K (dr G k cM)))(hn:fC aM=true)(ht:g9 cc tg t=true)(hb:vL X body (o_ X.K (bR G b))):PS X (.For t aM body [] pos) (o_ X.K (gM G (.eG tg k cM b))):=by
 refine yU (J4 hx g.calm hs (jR g ht) hb (rL hn X.env)) λD σ H q=>?_;obtain⟨ads,M,ρ,s,q⟩:=q;refine⟨ads,M,ρ,s,?_⟩;simp only[uV]at q
 cases hq:dr G k cM ρ M with
 | ok it M1 =>
  rw[hq]at q;intro J H1 ah g1 m1 rj;exact Hc (λD σ H h=>h) (s.grow g1 m1) rj (j6.shift (o:=dH (λρ M=>bR G b ρ M) it tg (cR M1 it) 0 ρ M1) q g1 s.mem m1)
 | err _ _=>rw[hq]at q;exact q
 | ae=>rw[hq]at q;exact q
end
section
variable {kk:Nat} {X:Cx} {cc:CC} {G:a8}
def Pr(kk:Nat)(X:Cx)(xs:List (Str×Addr×List Str)):Prop:=∀(x:Str)(a:Addr)(f:List Str),xs.lookup x=some (a,f)->∃D fI fd sf oI j,j+1<=kk/\CI X.K a D fI f/\X.K.lookup fI=some oI/\oI.cls=.type "function" /\ f_ X.prog X.w X.K X.mg X.base Nc j fI fd (sf::f) (QZ X.K a D fI f)/\Binds X.K fd (sf::f) []/\X.mg x=some (.ref a)
theorem aN.zip{K:PySem.W.Frag}{ads:List Addr}{H:Hp}:∀{f:List Str}{ds:List D}{vs:List V},aN K ads H ds vs->bN K ads H (f.zip ds) (f.zip vs)
 | [],_,_,_=>by simp only[List.zip_nil_left];unfold bN;rfl
 | _::_,[],vs,h=>by unfold aN at h;subst h;simp only[List.zip_nil_right];unfold bN;rfl
 | f::fs,d::ds,vs,h=>by
  unfold aN at h;obtain⟨x,r,rfl,h1,h2⟩:=h;simp only[List.zip_cons_cons];unfold bN;exact⟨_,_,rfl,rfl,h1,aN.zip h2⟩
theorem Ps{a:Addr}{f:List Str}{x:Str}{c:List C}{e:Expr}{es:List Expr}{np dM pos:Pos}{E:XK}(g:Good kk X cc G)(p:pM X E)(im:∀{K:PySem.W.Frag}{ads:List Addr}{H:Hp}{x:AB}{M:ag},EX.post K ads H x M->(CN E).post K ads H x M)(hd:X.A.handled=none)(Ul:Pr kk X cc.xs.cl)(hg:glob cc x=true)(hp:aS x=true)(hl:cc.xs.cl.lookup x=some (a,f))(G6:c.length=f.length)(Um:f.length<=100)(d0:aF e=true)(jx:(backTo dM (starEach (e::es) X.env)).any (·.1)=false)(ha:PA X (e::es) (Bo X.K (a_ G c))):PS X (.Raise (some (.Call (.Name x np) (e::es) [] dM)) none pos) (o_ X.K (gM G (.G9 a f c))):=by
 obtain⟨D,fI,fd,sf,oI,j,hj,xi,lo,co,F,hb,hm⟩:=Ul x a f hl;refine yU (CJ p hd xi lo co F (g.room.mono hj) hb (bH Um (by decide)) (g.gl hg) hm ha (a7 d0 es X.env) jx (cK hp).1) λZ σ H q=>?_;obtain⟨ads,M,ρ,s,q⟩:=q;refine⟨ads,M,ρ,s,?_⟩;simp only[yS]at q
 cases hd:a_ G c ρ M with
 | ok ds M1 =>
  rw[hd]at q;intro vs H1 ah g1 m1 rd;refine⟨by rw[<- rd.len,g_ _ _ _ _ _ hd,G6],λe dx n1 n2 ne=>?_⟩;have q:EX.post X.K ads H ⟨a,f.zip ds⟩ M1:=q;have g2:=aB.dN (o:=.xd (f.zip vs)) m1 n2;have m2:=m1.dN (o:=.xd (f.zip vs)) n2;have n3:bu H1 dx (.xd (f.zip vs)) e=none:=by rw[ax (fk ne)];exact n1
  have g3:=aB.dN (o:=XO e a dx) m2 n3;have m3:=m2.dN (o:=XO e a dx) n3;exact im q _ ah dx (f.zip vs) ((g1.trans g2).trans g3) m3 (by rw[ax ne];exact aV) (aN.zip ((g2.trans g3).oP _ _ rd))
 | err x M1=>rw[hd]at q;exact q
 | ae=>rw[hd]at q;exact q.elim
end
end
section
variable [EX]
section
variable {kk:Nat} {G:a8} {X:Cx} {cc:CC}
theorem He{tg:List Nat}{cond:Option ef}{elt:C}{cA:List (Option Nat)}{el t:Expr}{ifs:List Expr}{sc:Scope}(g:Good kk X cc G)(DA:uL cc sc=true)(Ce:cA=nr cc sc)(Uh:g9 (pR cc sc) tg t=true)(jS:GU (pR cc sc) cond ifs=true)(Uo:bE (pR cc sc) elt el=true)(aa:List (Addr×Obj))(s:Shared)(σ:L2.St)(H:Hp)(I:Inv X aa σ H s):∃cl,kr X sc (ej sc) cA cl t el ifs (tG X.K tg) (cond.map λt=>@ni never X.K (dS G t)) (@tE never X.K (ev G elt)):=by
 obtain⟨h1,h2,h3,h4,h5⟩:=lX DA
 obtain⟨cl,G6⟩:=yL (X:=X) (sc:=sc) λy hy hf=>by
  obtain⟨_,ho⟩:=h5 y hy hf;refine I.ok.has y.1 ?_;rcases ho with ho | ho
  ·exact .inl (g.kinds _ _ ho)
  ·exact g.kinds _ _ ho
 refine⟨cl,h1,h2,h3,G6,Ce▸Dy g DA,λC s H fp=>(by have gb:=g.block (cl:=cl) DA C s H fp;letI:=never;exact jR gb Uh),?_,λC s H fp=>a9 elt never (pR cc sc) _ el (g.block DA C s H fp) Uo⟩
 cases cond with
 | none =>
  cases ifs with
  | nil=>rfl
  | cons _ _=>cases jS
 | some tt =>
  cases ifs with
  | nil=>cases jS
  | cons e es =>
   cases es with
   | cons _ _=>cases jS
   | nil=>exact⟨e,rfl,λC s H fp=>DD tt never (pR cc sc) (X.block sc cl C (ej sc) s H fp []) e (g.block DA C s H fp) jS⟩
theorem Hf{k:SK}{cM:List C}{tg:List Nat}{cond:Option ef}{elt:C}{cA:List (Option Nat)}(σ:L2.St)(H:Hp)(Q:VK)(q:tE X.K (ev G (.comp k cM tg cond elt cA)) σ H Q):xV cA (tI X.K (dr G k cM)) (tG X.K tg) (cond.map λt=>@ni never X.K (dS G t)) (@tE never X.K (ev G elt)) σ H Q:=by
 obtain⟨ads,M,ρ,sr,q⟩:=q;refine⟨ads,M,ρ,sr,?_⟩
 have q:bL X.K ads H Q ((dr G k cM ρ M).bind λit M=>bq (λτ M=>bP G cond τ M) (λτ M=>(ev G elt τ M).bind own) it tg (cR M it) 0 (eB cA ρ) M []):=by
  simp only[rf]at q;unfold dr
  cases hw:cI G cM ρ M with
  | ok ws M1=>rw[hw]at q;exact q
  | err _ _=>rw[hw]at q;exact q
  | ae=>rw[hw]at q;exact q
 cases hs:dr G k cM ρ M with
 | ok it M1 =>
  rw[hs]at q;intro J H1 ah g1 m1 rj;exact uR (sr.grow g1 m1) rj (bL.shift (o:=bq (λτ M=>bP G cond τ M) (λτ M=>(ev G elt τ M).bind own) it tg (cR M1 it) 0 (eB cA ρ) M1 []) q g1 sr.mem m1)
 | err _ _=>rw[hs]at q;exact q
 | ae=>rw[hs]at q;exact q
structure pW (kk:Nat) (X:Cx) (cc:CC) (G:a8):Prop where
 g:Good kk X cc G
 bk:X.env.blockKind=.function
 nx:PassesOwn (model X.prog X.w) X.A X.env X.xe
 xp:∃E:XK,pM X E/\∀{K:PySem.W.Frag}{ads:List Addr}{H:Hp}{x:AB}{M:ag},EX.post K ads H x M->(CN E).post K ads H x M
 xs:Pr kk X cc.xs.cl
 xG:X.stack=X.env::X.outer/\X.env.frame=some X.env.locals
theorem pX{v:Expr}(h:(!eT v||Nat.beq v.ctorIdx 8)=true)(hc:eT v=true):∃el gens sc q,v=.ListComp el gens sc q:=by
 rw[hc]at h;exact Expr.ListComp.elim (motive_1:=λv=>∃el gens sc q,v=.ListComp el gens sc q) v (Nat.eq_of_beq_eq_true h) λel gens sc q=>⟨el,gens,sc,q,rfl⟩
theorem LD{c:C}{el:Expr}{gens:List Comprehension}{sc:Scope}{q:Pos}(h:bE cc c (.ListComp el gens sc q)=true):∃k cM tg cond elt cA,c=.comp k cM tg cond elt cA:=by
 cases c<;>first | exact absurd (show false=true from h) ao | exact⟨_,_,_,_,_,_,rfl⟩
end
mutual
theorem YD{kk:Nat}{G:a8}:∀(s:S)(cc:CC)(X:Cx)(st:Stmt),bZ kk X cc G->Lz s=true->DL cc s st=true->PS X st (@o_ never X.K (gM G s))
 | .asg tg c,cc,X,st,g,k,h=>dq (P:=λst=>PS X st _) h λts v pos h=>by
  letI:=never
  rcases ts with _|⟨t,_|⟨_,_⟩⟩<;>first | exact absurd h ao | skip
  simp only[ay]at h;have k:(Nat.beq tg.length 1&&hU c)=true:=k
  replace k:=(ay _ _).mp k
  rcases tg with _|⟨i,_|⟨_,_⟩⟩<;>first | exact absurd k.1 ao | skip
  exact IY g (AR g h.1.1.1) h.1.1.1 h.1.1.2 (pX h.1.2) (kN c cc X v g k.2 h.2)
 | .iff t a b,cc,X,st,g,k,h=>yx (P:=λst=>PS X st _) h λc x y pos h=>by
  letI:=never
  simp only[ay]at h;have k:(DF t&&hZ a&&hZ b)=true:=k;simp only[ay]at k;exact Pp (Ui t cc X c g k.1.1 h.1.1) (Hg a cc X x g k.1.2 h.1.2) (Hg b cc X y g k.2 h.2)
 | .ret c,cc,X,st,g,k,h=>g7 (P:=λst=>PS X st _) h λv pos h=>by
  letI:=never
  cases v with
  | none=>exact absurd h ao
  | some e=>exact IZ (kN c cc X e g k h)
 | .expr c,cc,X,st,g,k,h=>kJ (P:=λst=>PS X st _) h λe pos h=>by
  letI:=never
  simp only[ay,gQ]at h;exact DM h.1 (kN c cc X e g k h.2)
 | .pass,cc,X,st,g,k,h=>pQ (P:=λst=>PS X st _) h λpos h=>yU xN λD σ H q=>by
  obtain⟨ads,M,ρ,s,q⟩:=q;exact q σ H ads (aB.refl _ _) s
 | .jT i c,cc,X,st,g,k,h=>absurd k ao
 | .par i j a b,cc,X,st,g,k,h=>absurd k ao
 | .put o i v,cc,X,st,g,k,h=>absurd k ao
 | .dput o i v,cc,X,st,g,k,h=>absurd k ao
 | .AU,cc,X,st,g,k,h=>absurd k ao
 | .eG tg sk cM b,cc,X,st,g,k,h=>absurd k ao
 | .IT n t b,cc,X,st,g,k,h=>absurd k ao
 | .G9 a f c,cc,X,st,g,k,h=>absurd k ao
 | .oZ b cb mt j hh,cc,X,st,g,k,h=>absurd k ao
 | .never,cc,X,st,g,k,h=>absurd k ao
 | .brk,cc,X,st,g,k,h=>absurd k ao
 | .cont,cc,X,st,g,k,h=>absurd k ao
theorem Hg{kk:Nat}{G:a8}:∀(ss:List S)(cc:CC)(X:Cx)(st:List Stmt),bZ kk X cc G->hZ ss=true->eC cc ss st=true->vL X st (@o_ never X.K (bR G ss))
 | [],cc,X,[],g,k,h=>Hb xM λD σ H q=>by
  obtain⟨ads,M,ρ,s,q⟩:=q;exact q σ H ads (aB.refl _ _) s
 | [],cc,X,_::_,g,k,h=>by cases h
 | _::_,cc,X,[],g,k,h=>by cases h
 | s::ss,cc,X,t::ts,g,k,h=>by
  letI:=never
  have h':(DL cc s t&&eC cc ss ts)=true:=h;simp only[ay]at h';have k:(Lz s&&hZ ss)=true:=k;simp only[ay]at k;exact Hb (tH (YD s cc X t g k.1 h'.1) (Hg ss cc X ts g k.2 h'.2)) λD σ H q=>IW q
end
section
variable {kk:Nat} {X:Cx} {cc:CC} {G:a8}
theorem SR.unset{K:PySem.W.Frag}{ads:List Addr}{M:ag}{ρ:En}{σ:L2.St}{H:Hp}(s:SR K ads M ρ σ H)(i:Nat):SR K ads M (ρ.set i none) (σ.set i none) H :=
 ⟨s.mem,λj d' e=>by
  by_cases h:i=j
  ·subst h;rw[List.getElem?_set]at e;split at e
   ·split at e<;>cases e
   ·exact absurd rfl ‹_›
  ·rw[mq h]at e⊢;exact s.en j d' e,by rw[sY,sY];exact s.ln⟩
theorem Good.NI(g:Good kk X cc G):@Good never kk X.NI cc G :=
 @Good.mk never kk X.NI cc G ⟨g.rh,g.N,g.nd,g.kinds,g.T5,g.blt,g.Q9,g.T6,g.cat,g.Ll⟩ g.calm g.room g.fns ⟨E0,(by rintro _ _ _ _ _ _ _ ⟨_,_,_,_,_,_,_,_,_,_,_,_,_,h⟩;exact h.elim),λh=>h.elim⟩
theorem bZ.hx(g:bZ kk X cc G)(e:Addr):bZ kk (X.hx e) cc G:=⟨⟨g.rh.dp,g.rh.un⟩,g.N,g.nd,g.kinds,g.T5,g.blt,g.Q9,g.T6,g.cat,g.Ll⟩
theorem Hh{b:TB}{cb n:Str}{mt:List (Addr×List Str)}{j:Nat}{h:List S}{tp hp:Pos}{b0:Stmt}{hb:List Stmt}{aa:List (Addr×Obj)}{s2:Shared}{σ:L2.St}{H0 H2:Hp}{Z:kh}{DN aK:List Addr}{ρ:En}{M0 M2:ag}{x:AB}{ea dx T:Addr}{gs:List (Str×V)}{lo:Nat}(g:pW kk X cc G)(Pd:glob cc cb=true)(jx:aS cb=true)(hj:cc.N[j]?=some n)(hl:cc.names.lookup n=some .local)(Up:(mt.all λp=>cc.xs.ct.contains (cb,p.1,p.2))=true)(KL:hZ h=true)(Uq:eC cc h (b0::hb)=true)(sr:SR X.K DN M0 ρ σ H0)(I2:Inv X aa σ H2 s2)(xa:ye s2.heap lo ea x.cls dx (some T))(Pt:H2 ea=some (XO ea x.cls dx))(hT:lG X aa H2 (some T))(l2:lo<=s2.heap.objs.size)(gr:aB DN aK H0 H2)(Ur:ea∉DN->H0 ea=none)(m2:aI X.K aK H2 M2)(hd:H2 dx=some (.xd gs))(rk:bN X.K aK H2 x.fs gs)(hm:mt.lookup x.cls=some (x.fs.map (·.1)))(q:j6 X.K DN H0 Z ((bR G h (ρ.set j (some (.aJ M2.length))) (M2++[.xc x.cls x.fs])).Pl j)):wpAny (model X.prog X.w) X.A (noteFrame (.ref ea) X.env) (λ_ s2=>wpAny (model X.prog X.w) X.A (setFlight (.ref ea) none) (λ_ s3=>wpAny (model X.prog X.w) X.A (handleBy (.ref ea) X.env [.ExceptHandler (some (.Name cb tp)) (some n) (b0::hb) hp]) (SP X aa Z) X.xe s3) X.xe s2) X.xe s2:=by
 obtain⟨B,D,fI,mB,k1,k2,xi⟩:=g.g.cat cb x.cls (x.fs.map (·.1)) (by have:=ir.mp Up (x.cls,x.fs.map (·.1)) (kL hm);simpa using this);refine wj I2 g.xG xa Pt hT l2 (g.g.gl Pd) mB (cK jx).1 k1 k2 (by rw[g.g.N];exact g.g.nd) (by rw[g.g.N];exact hj) (g.g.kinds n _ hl) (Hg h cc (X.hx ea) (b0::hb) (g.g.cW.hx ea) KL Uq) ?_;have mp:aI X.K (aK++[ea]) H2 (M2++[.xc x.cls x.fs]):=m2.pushX (.inr ⟨x.cls,dx,x.fs,rfl,Pt⟩) ⟨dx,gs,Pt,hd,rk,D,fI,xi⟩
 have Wb:aB DN (aK++[ea]) H0 H2:=by
  obtain⟨r,e⟩:=gr.pre;refine⟨⟨r++[ea],by rw[e,By]⟩,λb hb nb=>?_,gr.kept,gr.fH,gr.gI⟩;rcases iu.mp hb with z | z
  ·exact gr.new b z nb
  ·obtain rfl:b=ea:=by simpa using z
   exact Ur nb
 have YE:SR X.K (aK++[ea]) (M2++[.xc x.cls x.fs]) (ρ.set j (some (.aJ M2.length))) (σ.set j (some (.ref ea))) H2:=(sr.grow Wb mp).set j (by unfold RD;exact⟨ea,rfl,by rw[<- m2.len];simp⟩);refine⟨aK++[ea],_,_,YE,?_⟩
 cases ho:bR G h (ρ.set j (some (.aJ M2.length))) (M2++[.xc x.cls x.fs])with
 | nx dY M' =>
  rw[ho]at q;exact λcU H' aw g' s'=>q (cU.set j none) H' aw (Wb.trans g') (s'.unset j)
 | rt w M'=>rw[ho]at q;exact q.elim
 | bk _ _=>rw[ho]at q;exact q.elim
 | ct _ _=>rw[ho]at q;exact q.elim
 | er _ _=>rw[ho]at q;exact q.elim
 | ae=>rw[ho]at q;exact q.elim
theorem nF{b:TB}{cb n:Str}{mt:List (Addr×List Str)}{j:Nat}{h:List S}{tp hp p cp:Pos}{b0:Stmt}{hb:List Stmt}{aa:List (Addr×Obj)}{s:Shared}{σ:L2.St}{H:Hp}{Z:kh}{ads:List Addr}{ρ:En}{M:ag}{e:Expr}{es:List Expr}{x:Str}{R:Value->Shared->Prop}(g:pW kk X cc G)(Pd:glob cc cb=true)(jx:aS cb=true)(hj:cc.N[j]?=some n)(hl:cc.names.lookup n=some .local)(Up:(mt.all λp=>cc.xs.ct.contains (cb,p.1,p.2))=true)(KL:hZ h=true)(Uq:eC cc h (b0::hb)=true)(hf:cc.fs[b.fn]?=some (x,b.args.length))(hg:glob cc x=true)(KN:aS x=true)(hc:bt cc b.args (e::es)=true)(sr:SR X.K ads M ρ σ H)(I:Inv X aa σ H s)(q:j6 X.K ads H Z (gM G (.oZ b cb mt j h) ρ M))(hr:∀w M2 v u s2 H2 ah H1 aK,aB ads ah H H1->aB ah aK H1 H2->aI X.K aK H2 M2->aI X.K ah H1 M2\/True->GD X.K aK H1 H2 w v->RelV v u->Inv X aa σ H2 s2->(∃M1,aI X.K ah H1 M1)->j6 X.K ads H Z (b.got w M2 ρ)->R u s2):wpAny (model X.prog X.w) X.A (eval (.Call (.Name x p) (e::es) [] cp) X.env) R (λev s1=>wpAny (model X.prog X.w) X.A (noteFrame ev X.env) (λ_ s2=>wpAny (model X.prog X.w) X.A (setFlight ev none) (λ_ s3=>wpAny (model X.prog X.w) X.A (handleBy ev X.env [.ExceptHandler (some (.Name cb tp)) (some n) (b0::hb) hp]) (SP X aa Z) X.xe s3) X.xe s2) X.xe s1) s:=by
 obtain⟨fa,fd,ps,F,hm,hk,Pn⟩:=g.g.fns b.fn x _ hf
 have d0:aF e=true/\bt cc b.args.tail es=true:=by
  cases ha:b.args with
  | nil=>rw[ha]at hc;cases hc
  | cons c cs =>
   rw[ha]at hc;have h':(aF e&&bE cc c e&&bt cc cs es)=true:=hc;simp only[ay]at h';exact⟨h'.1.1,h'.2⟩
 rw[DH]at q
 cases hd:a_ G b.args ρ M with
 | err _ _=>rw[hd]at q;exact q.elim
 | ae=>rw[hd]at q;exact q.elim
 | ok ds M1 =>
  rw[hd]at q
  have q:j6 X.K ads H Z (match G b.fn ds M1 with
   | .ok w M2=>b.got w M2 ρ
   | .err x M2=>if mt.lookup x.cls=some (x.fs.map (·.1)) then (bR G h (ρ.set j (some (.aJ M2.length))) (M2++[.xc x.cls x.fs])).Pl j else .ae
   | .ae=>.ae):=q
  have ha:=kY b.args never cc X.NI (e::es) g.g.NI hc;refine Bx (ic I (g.g.gl hg) hm ?_ (cK KN).1);refine JB (h₀:=X.base) I.ok.mod.JP hk (kf (ha cp aa s σ H (λvs H1=>∃ah,aB ads ah H H1/\aI X.K ah H1 M1/\aN X.K ah H1 ds vs) (I.qB _) ⟨ads,M,ρ,sr,by rw[hd];exact λvs H1 ah g1 m1 r1=>⟨ah,g1,m1,r1⟩⟩) (λus s1 ⟨vs,H1,I1,r,ah,g1,m1,r1⟩=>⟨I1.ju,?_⟩) λ_ _ z=>z.elim) (a7 d0.1 es X.env) (bU d0.2 X.env cp);have I1:=I1.vM
  let Q1:VK:=λv H2=>∃w M2 aK,G b.fn ds M1=.ok w M2/\aB ah aK H1 H2/\aI X.K aK H2 M2/\GD X.K aK H1 H2 w v
  let E1:XK:=λcls YF H2=>∃x M2 aK dx gs,cls=.ref x.cls/\YF=some dx/\G b.fn ds M1=.err x M2/\aB ah aK H1 H2/\aI X.K aK H2 M2/\H2 dx=some (.xd gs)/\bN X.K aK H2 x.fs gs
  have z_:Bp X.K b.args.length (G b.fn) vs H1 Q1 E1:=by
   refine⟨ah,M1,ds,m1,r1,g_ _ _ _ _ _ hd,?_⟩
   cases hG:G b.fn ds M1 with
   | ok w M2=>exact λv H2 aK g2 m2 r2=>⟨w,M2,aK,hG,g2,m2,r2⟩
   | err x M2=>exact λH2 aK dx gs g2 m2 hx rk=>⟨x,M2,aK,dx,gs,rfl,rfl,hG,g2,m2,hx,rk⟩
   | ae=>rw[hG]at q;exact q.elim
  have aY:us.length=ps.length:=by rw[<- r.length];exact F.len _ _ _ _ z_
  refine zG (qh (F.run X.A X.stack s1 H1 ⟨us,[]⟩ us vs Q1 E1 g.g.room I1.FN (by have:=Pn s1 us I1.ju (by rw[sX];exact aY);rw[sX]at this;exact this) r z_) λr s2 hq=>?_)
  cases r with
  | error ev =>
   obtain⟨ea,C',dx,T,H2,rfl,os,bare,un,bo,xa,Pt,hT,x,M2,aK,dx',gs,ec,ed,hG,g2,m2,hx,rk⟩:=hq;cases ec;cases ed;rw[hG]at q;have q:j6 X.K ads H Z (if mt.lookup x.cls=some (x.fs.map (·.1)) then (bR G h (ρ.set j (some (.aJ M2.length))) (M2++[.xc x.cls x.fs])).Pl j else .ae):=q;split at q
   ·rename_i YG
    have I2:Inv X aa σ H2 s2:=I1.xH os un bo bare (λb z=>absurd z (by simp));have xb:=xa;obtain⟨le,oe,vs',k1,_⟩:=xb;have l2:s1.heap.objs.size<=s2.heap.objs.size:=bH le (j_ (bp k1));have lT:s1.heap.objs.size<=T:=by obtain⟨_,_,_,_,_,_,_,_,_,z,_⟩:=xa;exact z
    have Ur:ea∉ads->H ea=none:=λnb=>by
     have z:H1 ea=none:=I1.bo.fresh le
     cases w:H ea with
     | none=>rfl
     | some o=>rw[g1.kept ea o nb w]at z;cases z
    exact Hh (b:=b) g Pd jx hj hl Up KL Uq sr I2 xa Pt (lG.new I1 lT hT) l2 (g1.trans g2) Ur m2 hx rk YG q
   ·exact q.elim
  | ok fl =>
   cases fl with
   | next=>exact hq.elim
   | brk=>exact hq.elim
   | cont=>exact hq.elim
   | ret u =>
    obtain⟨v,H2,I2,rv,w,M2,aK,hG,g2,m2,Iu⟩:=I1.after hq;rw[hG]at q;exact hr w M2 v u s2 H2 ah H1 aK g1 g2 m2 (.inr True.intro) Iu rv I2 ⟨M1,m1⟩ q
theorem nG{f:Nat}{cs:List C}{P:Expr->Prop}{e:Expr}(h:yT cc f cs e=true)(k:∀x p a as cp,cc.fs[f]?=some (x,cs.length)->glob cc x=true->aS x=true->bt cc cs (a::as)=true->P (.Call (.Name x p) (a::as) [] cp)):P e:=by
 refine bj (P:=P) h λfe args cO cp h=>?_;simp only[ay]at h;obtain⟨⟨⟨h1,h2⟩,h3⟩,h4⟩:=h;obtain rfl:=vG.mp h1;rcases args with _|⟨a,as⟩
 ·exact absurd (show false=true from h2) ao
 ·refine aG (P:=λfe=>P (.Call fe (a::as) [] cp)) h3 λx p h3=>?_;simp only[ay,e_]at h3;exact k x p a as cp h3.1.1 h3.1.2 h3.2 h4
theorem Pu{b:TB}{cb:Str}{mt:List (Addr×List Str)}{j:Nat}{h:List S}{st:Stmt}{te:Expr}{n:Str}{hb:List Stmt}{hp pos:Pos}(g:pW kk X cc G)(hk:(IV cc b st&&(br te λy _=>y==cb&&glob cc y&&aS y)&&cc.N[j]? == some n&&cc.names.lookup n==some .local&&mt.all (λp=>cc.xs.ct.contains (cb,p.1,p.2))&&hZ h && !hb.isEmpty&&eC cc h hb)=true):PS X (.Try [st] [.ExceptHandler (some te) (some n) hb hp] [] [] pos) (o_ X.K (gM G (.oZ b cb mt j h))):=by
 simp only[ay,e_]at hk;obtain⟨⟨⟨⟨⟨⟨⟨k1,k2⟩,k3⟩,k4⟩,k5⟩,k6⟩,k7⟩,k8⟩:=hk;rcases hb with _|⟨b0,hb⟩
 ·exact absurd (show false=true from k7) ao
 refine aG (P:=λte=>PS X (.Try [st] [.ExceptHandler (some te) (some n) (b0::hb) hp] [] [] pos) _) k2 λy tp k2=>?_;simp only[ay]at k2;obtain⟨⟨z1,z2⟩,z3⟩:=k2;obtain rfl:=eq_of_beq z1;intro aa s σ H Z I q;obtain⟨ads,M,ρ,sr,q⟩:=q;have hN:X.N.Nodup:=by rw[g.g.N];exact g.g.nd
 cases b with
 | asg i f cs =>
  refine dq (P:=λst=>wpAny _ _ (exec (.Try [st] _ [] [] pos) _) _ _ _) k1 λts v ap k1=>?_;rcases ts with _|⟨t,_|⟨_,_⟩⟩<;>first | exact absurd k1 ao | skip
  replace k1:=(ay _ _).mp k1
  refine aG (P:=λt=>wpAny _ _ (exec (.Try [.Assign [t] v ap] _ [] [] pos) _) _ _ _) k1.1 λx px h1=>?_;simp only[ay,e_]at h1;refine nG (P:=λv=>wpAny _ _ (exec (.Try [.Assign [.Name x px] v ap] _ [] [] pos) _) _ _ _) k1.2 λfx fp a as cp f1 f2 f3 f4=>?_;refine wpAny_Try_except (Ff (wpAny_Assign_Name (nF (b:=.asg i f cs) g z2 z3 k3 k4 k5 k6 k8 f1 f2 f3 f4 sr I q λw M2 v u s2 H2 ah H1 aK g1 g2 m2 _ Iu rv I2 ⟨M1,m1⟩ q2=>?_) rfl));have q2:j6 X.K ads H Z (aX.fD (own w M2) λd M=>.nx (ρ.set i (some d)) M):=q2
  cases ho:own w M2 with
  | err _ _=>cases w<;>cases ho
  | ae=>cases w<;>cases ho
  | ok d M3 =>
   rw[ho]at q2;obtain⟨cS,g3,m3,rd⟩:=kK m1 g2 m2 Iu ho;exact jv I2 hN (by rw[g.g.N];exact h1.1) (.inl (g.g.kinds x _ h1.2)) rv (λs3 I3=>sW (sW ⟨_,H2,I3,q2 _ H2 cS (g1.trans g3) ((sr.grow (g1.trans g3) m3).set i rd)⟩)) (.inr (g.g.kinds x _ h1.2))
 | AS i f cs =>
  refine dq (P:=λst=>wpAny _ _ (exec (.Try [st] _ [] [] pos) _) _ _ _) k1 λts v ap k1=>?_;rcases ts with _|⟨t,_|⟨_,_⟩⟩<;>first | exact absurd k1 ao | skip
  replace k1:=(ay _ _).mp k1
  refine aG (P:=λt=>wpAny _ _ (exec (.Try [.Assign [t] v ap] _ [] [] pos) _) _ _ _) k1.1 λx px h1=>?_;simp only[ay,e_]at h1;refine eR (P:=λv=>wpAny _ _ (exec (.Try [.Assign [.Name x px] v ap] _ [] [] pos) _) _ _ _) k1.2 λes kt NZ k9=>?_;rcases es with _|⟨e1,_|⟨_,_⟩⟩<;>first | exact absurd k9 ao | skip
  refine nG (P:=λv=>wpAny _ _ (exec (.Try [.Assign [.Name x px] (.Tuple [v] kt NZ) ap] _ [] [] pos) _) _ _ _) k9 λfx fp a as cp f1 f2 f3 f4=>?_;refine wpAny_Try_except (Ff (wpAny_Assign_Name (wpAny_Tuple_spliced (Calls.spliced_cons (nF (b:=.AS i f cs) g z2 z3 k3 k4 k5 k6 k8 f1 f2 f3 f4 sr I q λw M2 v u s2 H2 ah H1 aK g1 g2 m2 _ Iu rv I2 ⟨M1,m1⟩ q2=>?_))) rfl));refine Calls.spliced_nil ⟨by show 1<=sizeLine;decide,?_⟩;have hf:H2 s2.heap.objs.size=none:=I2.bo.fresh (aq _);have q2:j6 X.K ads H Z (aX.fD (own w M2) λd M=>.nx (ρ.set i (some (.tup [d]))) M):=q2
  cases ho:own w M2 with
  | err _ _=>cases w<;>cases ho
  | ae=>cases w<;>cases ho
  | ok d M3 =>
   rw[ho]at q2;obtain⟨cS,g3,m3,rd⟩:=kK m1 g2 m2 Iu ho;have g4:=aB.dN (o:=.tup [v]) m3 hf;have m4:=m3.dN (o:=.tup [v]) hf;have gg:=(g1.trans g3).trans g4
   have rt:RD X.K cS (bu H2 s2.heap.objs.size (.tup [v])) (.tup [d]) (.ref s2.heap.objs.size):=by
    unfold RD;exact⟨_,_,rfl,aV,.one (g4.rd _ _ rd)⟩
   refine jv (H:=bu H2 s2.heap.objs.size (.tup [v])) (v:=.ref s2.heap.objs.size) (I2.laid (t':=s2.toks) (λb u e=>aR _ e) (aq _) ?_) hN (by rw[g.g.N];exact h1.1) (.inl (g.g.kinds x _ h1.2)) rfl (λs3 I4=>sW (sW ⟨_,_,I4,q2 _ _ cS gg ((sr.grow gg m4).set i rt)⟩)) (.inr (g.g.kinds x _ h1.2));exact⟨by show 1<=sizeLine;decide,[u],.cons rv .nil,⟨_,cw _ rfl,rfl,_,rfl⟩⟩
 | exp f cs =>
  refine kJ (P:=λst=>wpAny _ _ (exec (.Try [st] _ [] [] pos) _) _ _ _) k1 λv ap k1=>?_;refine nG (P:=λv=>wpAny _ _ (exec (.Try [.Expr v ap] _ [] [] pos) _) _ _ _) k1 λfx fp a as cp f1 f2 f3 f4=>?_;refine wpAny_Try_except (Ff (wpAny_Expr_any (nF (b:=.exp f cs) g z2 z3 k3 k4 k5 k6 k8 f1 f2 f3 f4 sr I q λw M2 v u s2 H2 ah H1 aK g1 g2 m2 _ Iu rv I2 ⟨M1,m1⟩ q2=>?_) I.quiet rfl));have q2:j6 X.K ads H Z (.nx ρ M2):=q2;exact sW (sW ⟨_,H2,I2,q2 _ H2 aK (g1.trans g2) (sr.grow (g1.trans g2) m2)⟩)
end
mutual
theorem Us{kk:Nat}{G:a8}:∀(s:S)(cc:CC)(X:Cx)(st:Stmt),pW kk X cc G->DL cc s st=true->PS X st (o_ X.K (gM G s))
 | .asg tg c,cc,X,st,g,h=>dq (P:=λst=>PS X st _) h λts v pos h=>by
  rcases ts with _|⟨t,_|⟨_,_⟩⟩<;>first | exact absurd h ao | skip
  simp only[ay]at h;exact IY g.g.cW (jR g.g h.1.1.1) h.1.1.1 h.1.1.2 (pX h.1.2) (a9 c _ cc X v g.g h.2)
 | .jT i c,cc,X,st,g,h=>dq (P:=λst=>PS X st _) h λts v pos h=>by
  rcases ts with _|⟨t,_|⟨_,_⟩⟩<;>first | exact absurd h ao | skip
  refine aG (P:=λt=>PS X (.Assign [t] v pos) _) h λx p h=>iO (P:=λv=>PS X (.Assign [.Name x p] v pos) _) h λel gens sc q h=>?_;simp only[ay,gQ]at h;obtain⟨⟨⟨⟨h1,h2⟩,h3⟩,h4⟩,h5⟩:=h;obtain⟨k,cM,tg,cond,elt,cA,rfl⟩:=LD h5;rcases gens with _|⟨⟨t,aM,ifs,as⟩,_|⟨_,_⟩⟩<;>first | exact absurd (show false=true from h5) ao | skip
  have h6:(as==0&&uL cc sc&&decide (cA=nr cc sc)&&rE cc k cM t aM&&g9 (pR cc sc) tg t&&GU (pR cc sc) cond ifs&&bE (pR cc sc) elt el)=true:=h5;simp only[ay,e_,oC]at h6;obtain⟨⟨⟨⟨⟨⟨rfl,k1⟩,k2⟩,k3⟩,k4⟩,k5⟩,k6⟩:=h6;obtain⟨DB,lP⟩:=wN cM k _ cc X t aM g.g k3
  exact LC g.g g.bk (eq_of_beq h1) (eq_of_beq h2) (eq_of_beq h3) h4 (λaa s σ H I=>by
   obtain⟨cl,ck⟩:=He g.g k1 k2 k4 k5 k6 aa s σ H I;exact⟨cl,DB,ck⟩) (rL lP X.env) Hf
 | .par i j a b,_,_,_,_,h=>absurd (show false=true from h) ao
 | .put o i v,cc,X,st,g,h=>dq (P:=λst=>PS X st _) h λts w pos h=>by
  rcases ts with _|⟨t,_|⟨_,_⟩⟩<;>first | exact absurd h ao | skip
  refine cF (P:=λt=>PS X (.Assign [t] w pos) _) h λe f sp h=>?_;simp only[ay]at h;obtain⟨⟨⟨h1,h3⟩,h4⟩,h5⟩:=h;exact Po g.g h1 (a9 o _ cc X e g.g h3) (a9 i _ cc X f g.g h4) (a9 v _ cc X w g.g h5)
 | .dput o i v,_,_,_,_,h=>absurd (show false=true from h) ao
 | .expr c,cc,X,st,g,h=>kJ (P:=λst=>PS X st _) h λe pos h=>by
  simp only[ay,gQ]at h;exact DM h.1 (a9 c _ cc X e g.g h.2)
 | .ret c,cc,X,st,g,h=>g7 (P:=λst=>PS X st _) h λv pos h=>by
  cases v with
  | none=>exact absurd h ao
  | some e=>exact IZ (a9 c _ cc X e g.g h)
 | .AU,cc,X,st,g,h=>g7 (P:=λst=>PS X st _) h λv pos h=>by
  cases v with
  | some e=>exact absurd h ao
  | none =>
   refine yU Fw λD σ H q=>?_;obtain⟨ads,M,ρ,s,q⟩:=q;exact q .a6 H ads (aB.refl _ _) s.mem (show RD X.K ads H .a6 .a6 from jc)
 | .iff t a b,cc,X,st,g,h=>yx (P:=λst=>PS X st _) h λc x y pos h=>by
  simp only[ay]at h;exact Pp (DD t _ cc X c g.g h.1.1) (uX a cc X x g h.1.2) (uX b cc X y g h.2)
 | .eG tg k cM b,cc,X,st,g,h=>C_ (P:=λst=>PS X st _) h λt aM body Pm pos h=>by
  simp only[ay,vG]at h;obtain⟨⟨⟨rfl,h1⟩,h2⟩,h3⟩:=h;obtain⟨hs,hn⟩:=wN cM k _ cc X t aM g.g h1;exact Pq g.g g.nx hs hn h2 (uX b cc X body g h3)
 | .IT n t b,_,_,_,_,h=>absurd (show false=true from h) ao
 | .G9 a f c,cc,X,st,g,h=>wG (P:=λst=>PS X st _) h λe k pos h=>by
  replace h:=(ay _ _).mp h
  cases k with
  | some _=>exact absurd h.1 ao
  | none =>
   cases e with
   | none=>exact absurd h.2 ao
   | some e =>
    refine bj (P:=λe=>PS X (.Raise (some e) none pos) _) h.2 λfe args cO dM h=>?_;simp only[ay]at h;obtain⟨⟨⟨⟨⟨h1,h2⟩,G6⟩,Um⟩,vn⟩,h3⟩:=h;obtain rfl:=vG.mp h1;refine aG (P:=λfe=>PS X (.Raise (some (.Call fe args [] dM)) none pos) _) h2 λx np h2=>?_;simp only[ay,e_]at h2;obtain⟨⟨k1,k2⟩,k3⟩:=h2;have G6:=Nat.eq_of_beq_eq_true G6;rcases args with _|⟨a1,as⟩
    ·exact absurd (show false=true from vn) ao
    ·rcases c with _|⟨c1,cs⟩
     ·cases h3
     ·have h4:(aF a1&&bE cc c1 a1&&bt cc cs as)=true:=h3;simp only[ay]at h4;obtain⟨E,xp,im⟩:=g.xp;exact Ps g.g xp im g.g.room.hd g.xs k1 k2 k3 G6 (j8 Um) h4.1.1 (bU h3 X.env dM) (kY (c1::cs) _ cc X (a1::as) g.g h3)
 | .oZ b cb mt j hh,cc,X,st,g,h=>DJ (P:=λst=>PS X st _) h λbody hs Pm d_ pos h=>by
  simp only[ay,vG]at h;obtain⟨⟨rfl,rfl⟩,h⟩:=h;rcases body with _|⟨st,_|⟨_,_⟩⟩<;>first | exact absurd h ao | skip
  rcases hs with _|⟨⟨te,n,hb,hp⟩,_|⟨_,_⟩⟩<;>first | exact absurd h ao | skip
  ·cases te with
   | none=>exact absurd h ao
   | some te =>
    cases n with
    | none=>exact absurd h ao
    | some n=>exact Pu g h
  ·cases te with
   | none=>exact absurd h ao
   | some te =>
    cases n with
    | none=>exact absurd h ao
    | some n=>exact absurd h ao
 | .never,cc,X,st,g,h=>yU BN λD σ H q=>by
  obtain⟨ads,M,ρ,s,q⟩:=q;exact q
 | .pass,cc,X,st,g,h=>pQ (P:=λst=>PS X st _) h λpos h=>yU xN λD σ H q=>by
  obtain⟨ads,M,ρ,s,q⟩:=q;exact q σ H ads (aB.refl _ _) s
 | .brk,cc,X,st,g,h=>wI (P:=λst=>PS X st _) h λpos h=>yU BM λD σ H q=>by
  obtain⟨ads,M,ρ,s,q⟩:=q;exact q σ H ads (aB.refl _ _) s
 | .cont,cc,X,st,g,h=>oX (P:=λst=>PS X st _) h λpos h=>yU tJ λD σ H q=>by
  obtain⟨ads,M,ρ,s,q⟩:=q;exact q σ H ads (aB.refl _ _) s
theorem uX{kk:Nat}{G:a8}:∀(ss:List S)(cc:CC)(X:Cx)(st:List Stmt),pW kk X cc G->eC cc ss st=true->vL X st (o_ X.K (bR G ss))
 | [],cc,X,[],g,h=>Hb xM λD σ H q=>by
  obtain⟨ads,M,ρ,s,q⟩:=q;exact q σ H ads (aB.refl _ _) s
 | [],cc,X,_::_,g,h=>by cases h
 | _::_,cc,X,[],g,h=>by cases h
 | s::ss,cc,X,t::ts,g,h=>by
  have h':(DL cc s t&&eC cc ss ts)=true:=h;simp only[ay]at h';exact Hb (tH (Us s cc X t g h'.1) (uX ss cc X ts g h'.2)) λD σ H q=>IW q
end
end
noncomputable def gu(n:Nat)(ds:List D):En:=ds.map some++List.replicate (n-ds.length) none
def ai(G:a8)(n:Nat)(body:List S)(ds:List D)(M:ag):bF W:=match bR G body (gu n ds) M with
 | .rt w M=>.ok w M
 | .nx _ M=>.ok (.d .a6) M
 | .er x M=>.err x M
 | _=>.ae
theorem DO{K:PySem.W.Frag}{ads:List Addr}{H:Hp}:∀{ds:List D}{vs:List V}(r:aN K ads H ds vs)(k:Nat),OQ K ads H (ds.map some++List.replicate k none) (vs.map some++List.replicate k none)
 | ds,vs,r,k=>by
  intro i d e;by_cases hi:i<ds.length
  ·rw[gH (by simpa using hi),dy]at e
   cases q:ds[i]? with
   | none=>rw[q]at e;cases e
   | some d' =>
    rw[q]at e;cases e;obtain⟨v,ev,rv⟩:=r.get q;exact⟨v,by rw[gH (by rw[aZ,<- r.len];exact hi),dy,ev];rfl,rv⟩
  ·rw[oy (by simpa using hi),List.getElem?_replicate]at e;split at e<;>cases e
theorem LF{P:Program}{w:World}{K:PySem.W.Frag}{mg:Str->Option Value}{base:Heap}{x qual:Str}{st:Stmt}{f:Addr}{fd:FuncData}{N ps:List Str}{k:Nat}{G:a8}{fs:List (Str×Nat)}{gs:List (Str×Int)}{xs:XI}{body:List S}{n:Nat}(F:VD K x qual st f fd)(Sc:lO N ps (bA st))(hn:ps.length=n)(hb:eC ⟨N,(bA st).names,fs,gs,xs⟩ body (eE st)=true)(Ut:∀b∈bI,mg b=none)(YH:∀(x:Str)(v:Int),gs.lookup x=some v->∃t,mg x=some (.int v t))(Ll:∀(i:Nat)(x:Str)(n:Nat),fs[i]?=some (x,n)->∃f fd ps,f_ P w K mg base (Ay P w) k f fd ps (Bp K n (G i))/\mg x=some (.ref f)/\PySem.W.keepIn K (.ref f)=true/\Binds K fd ps []) (Ul:∀(x:Str)(a:Addr)(f:List Str),xs.cl.lookup x=some (a,f)->∃D fI fd sf oI j,j+1<=k/\CI K a D fI f/\K.lookup fI=some oI/\oI.cls=.type "function" /\ f_ P w K mg base Nc j fI fd (sf::f) (QZ K a D fI f)/\Binds K fd (sf::f) []/\mg x=some (.ref a)) (YI:∀k C r,(k,C,r)∈xs.kt->Dh K mg k C r) (YJ:∀cb C fs,(cb,C,fs)∈xs.ct->IA K mg cb C fs) (YK:∀(i:Nat)(x:Str)(n:Nat),fs[i]?=some (x,n)->i∈xs.hs->∃f fd ps,yh P w K mg base Nc k f fd ps (Bp K n (G i))/\mg x=some (.ref f)/\PySem.W.keepIn K (.ref f)=true/\Binds K fd ps []):f_ P w K mg base (Ay P w) (k+1) f fd ps (Bp K n (ai G N.length body)):=by
 have jx:ps.length<=N.length:=by have:=oG List.length Sc.pre;rw[j9]at this;omega
 obtain⟨oc,od,kV,doc,pm,an,tP,ct,qG,rfl,lk,HY⟩:=F.ex;refine N4 lk HY Sc (λvs H Q E h=>?_) λA outer s H vs Q E hr z_=>?_
 ·obtain⟨ads,M,ds,m,r,hl,_⟩:=h;rw[<- r.len,hl,hn]
 ·letI:EX:=CN E
  have gs:pW k (vV (Ay P w) P w K mg base N qual (bA st) f tP A outer s H E) ⟨N,(bA st).names,fs,gs,xs⟩ G:=by
   refine⟨⟨⟨⟨hr.dp,hr.un⟩,rfl,Sc.nd,λx k e=>?_,λ_ _=>rfl,Ut,YH,YI,YJ,YK⟩,rfl,hr,Ll,⟨E,qW.pass,λh=>h⟩⟩,?_,qW.own,⟨E,qW,λh=>h⟩,Ul,⟨rfl,rfl⟩⟩
   ·have e:(bA st).names.lookup x=some k:=e
    cases k with
    | «local»=>exact e
    | cell=>exact e
    | free=>exact absurd rfl (Sc.B1 _ (lh e))
    | globalExplicit=>exact True.intro
    | globalImplicit=>exact e
   ·show(if (bA st).kind.isAnnotationScope then ScopeKind.function else (bA st).kind)=_;rw[Sc.kind];rfl
  refine⟨_,uX body _ _ (eE st) gs hb,?_⟩;obtain⟨ads,M,ds,m,r,hl,q⟩:=z_
  have aY:(gu N.length ds).length=N.length:=by
   unfold gu;rw[dv,aZ,Jw];omega
  refine⟨ads,M,gu N.length ds,⟨m,?_,?_⟩,?_⟩
  ·unfold gu L2.start;rw[<- r.len];exact DO r _
  ·rw[aY];unfold L2.start;rw[dv,aZ,Jw,<- r.len];omega
  ·unfold ai at q
   cases hq:bR G body (gu N.length ds) M with
   | nx ρ M1=>rw[hq]at q;exact λcU H' aw g s'=>q .a6 H' aw g s'.mem (show RD K aw H' .a6 .a6 from jc)
   | rt w M1=>rw[hq]at q;exact q
   | bk _ _=>rw[hq]at q;exact q.elim
   | ct _ _=>rw[hq]at q;exact q.elim
   | er x M1=>rw[hq]at q;exact q
   | ae=>rw[hq]at q;exact q.elim
noncomputable def cm(l:List (List D->ag->bF W)):a8:=λi ds M=>match l[i]? with
 | some f=>f ds M
 | none=>.ae
abbrev fq(x:Str)(s:Stmt)(m c:Value):FuncData:=PySem.W.fnOf x x (lQ s) (eE s) (bA s) .none .none .none m none c .none
noncomputable def fo(f:FuncData):Obj:=⟨.type "function",none,.func f,#[]⟩
theorem LG{K:PySem.W.Frag}{h:Heap}{mg:Str->Option Value}{gs:List (Str×Int)}(X:K.In h)(G:h.Ns mainGlobals mg)(z:gs.all (λp=>match PySem.W.nsIn K mainGlobals p.1 with | some (some (.int v _))=>v==p.2 | _=>false)=true):∀(x:Str)(v:Int),gs.lookup x=some v->∃t,mg x=some (.int v t):=by
 intro x v e;have q:=ir.mp z (x,v) (lh e);dsimp only at q;split at q
 ·rename_i w t e2
  obtain rfl:=eq_of_beq q;exact⟨t,BH X G e2⟩
 ·exact absurd q ao
section
variable {P:Program} {w:World} {K:PySem.W.Frag} {mg:Str->Option Value} {base h:Heap} {k k2:Nat} {x:Str} {n:Nat} {fs:List (Str×Nat)} {Fs:List (List D->ag->bF W)} {F:List D->ag->bF W} {gs:List (Str×Int)}
structure Is (P:Program) (w:World) (K:PySem.W.Frag) (mg:Str->Option Value) (base:Heap) (k:Nat) (x:Str) (n:Nat) (F:List D->ag->bF W):Prop where
 is:∃f fd ps,f_ P w K mg base (Ay P w) k f fd ps (Bp K n F)/\mg x=some (.ref f)/\PySem.W.keepIn K (.ref f)=true/\Binds K fd ps []
theorem Is.mono(h:Is P w K mg base k x n F)(hk:k<=k2):Is P w K mg base k2 x n F:=by
 obtain⟨f,fd,ps,a,b⟩:=h.is;exact⟨f,fd,ps,a.mono hk,b⟩
noncomputable def All(P:Program)(w:World)(K:PySem.W.Frag)(mg:Str->Option Value)(base:Heap)(k:Nat)(fs:List (Str×Nat))(Fs:List (List D->ag->bF W)):Prop:=fs.length=Fs.length/\∀(i:Nat)(x:Str)(n:Nat),fs[i]?=some (x,n)->∃F,Fs[i]?=some F/\Is P w K mg base k x n F
theorem All.nil:All P w K mg base k [] []:=⟨rfl,λi x n e=>by simp at e⟩
theorem All.snoc(h:All P w K mg base k fs Fs)(g:Is P w K mg base (k+1) x n F):All P w K mg base (k+1) (fs++[(x,n)]) (Fs++[F]):=by
 obtain⟨hl,h⟩:=h;refine⟨by rw[dv,dv,hl];rfl,λi y m e=>?_⟩;by_cases hi:i<fs.length
 ·rw[gH hi]at e;obtain⟨F,a,b⟩:=h i y m e;exact⟨F,by rw[gH ∅];exact a,b.mono (vJ _)⟩
 ·have:i=fs.length:=by
   have:=(cP.mp e).1;simp at this;omega
  subst this;simp at e;obtain⟨rfl,rfl⟩:=e;exact⟨F,by rw[hl];simp,g⟩
theorem All.fns(h:All P w K mg base k fs Fs):∀(i:Nat)(x:Str)(n:Nat),fs[i]?=some (x,n)->∃f fd ps,f_ P w K mg base (Ay P w) k f fd ps (Bp K n (cm Fs i))/\mg x=some (.ref f)/\PySem.W.keepIn K (.ref f)=true/\Binds K fd ps []:=λi y m e=>by
 obtain⟨F,a,b⟩:=h.2 i y m e;have:cm Fs i=F:=by funext ds M;unfold cm;rw[a]
 rw[this];exact b.is
noncomputable def Pw(N ps:List Str)(sc:Scope):Bool:=(match sc.kind with | .function=>true | _=>false) && !sc.isCoroutine && !sc.isGenerator&&decide N.Nodup&&decide (N.take ps.length=ps)&&ps.all (λx=>match sc.names.lookup x with | some .local=>true | some .cell=>true | _=>false)&&sc.names.all λy=>match y.2 with | .free=>false | _=>true
theorem LH{N ps:List Str}{sc:Scope}(h:Pw N ps sc=true):lO N ps sc:=by
 unfold Pw at h;simp only[ay,ir,oC,gQ]at h;obtain⟨⟨⟨⟨⟨⟨h1,h2⟩,h3⟩,h4⟩,h5⟩,h6⟩,h7⟩:=h;refine⟨?_,h2,h3,h4,h5,λx hx=>?_,λy hy e=>?_⟩
 ·split at h1
  ·assumption
  ·cases h1
 ·have:=h6 x hx;split at this
  ·exact .inl (by assumption)
  ·exact .inr (by assumption)
  ·cases this
 ·have:=h7 y hy;rw[e]at this;cases this
noncomputable def Rh:Nat->(List Value->Prop)->Prop
 | 0,P=>P []
 | k+1,P=>∀a,Rh k λus=>P (a::us)
theorem DP:∀{k:Nat}{P:List Value->Prop},Rh k P->∀us,us.length=k->P us:=by
 intro k
 induction k with
 | zero=>intro P h us e;rw[EZ.mp e];exact h
 | succ k ih =>
  intro P h us e
  cases us with
  | nil=>cases e
  | cons a us=>exact ih (P:=λus=>P (a::us)) (h a) us (Nat.succ.inj e)
structure Cw (K:PySem.W.Frag) (h:Heap) (mg:Str->Option Value) (gs:List (Str×Int)):Prop where
 X:K.In h
 G:h.Ns mainGlobals mg
 b:∀b∈bI,mg b=none
 g:∀(x:Str)(v:Int),gs.lookup x=some v->∃t,mg x=some (.int v t)
theorem wQ(x:Str)(a:Addr)(st:Stmt)(N ps:List Str)(b:List S)(m c:Value)(W:Cw K h mg gs)(A:All P w K mg base k fs Fs)(lk:K.lookup a=some (fo (fq x st m c)))(hc:PySem.W.codeIn K c x=true)(hk:PySem.W.keepIn K (.ref a)=true)(hb:(Pw N ps (bA st)&&eC ⟨N,(bA st).names,fs,gs,GQ⟩ b (eE st))=true):f_ P w K mg base (Ay P w) (k+1) a (fq x st m c) ps (Bp K ps.length (ai (cm Fs) N.length b)) :=
 LF (Ky lk hc hk) (LH ((ay _ _).mp hb).1) rfl ((ay _ _).mp hb).2 W.b W.g A.fns (λ_ _ _ e=>nomatch e) (λ_ _ _ e=>nomatch e) (λ_ _ _ e=>nomatch e) (λ_ _ _ _ e=>nomatch e)
theorem nx(x:Str)(a:Addr)(st:Stmt)(N ps:List Str)(b:List S)(m c:Value)(W:Cw K h mg gs)(A:All P w K mg base k fs Fs)(ha:PySem.W.nsIn K mainGlobals x=some (some (.ref a)):=by (kernel_rfl))(lk:K.lookup a=some (fo (fq x st m c)):=by (kernel_rfl))(hc:PySem.W.codeIn K c x=true:=by (kernel_rfl))(hk:PySem.W.keepIn K (.ref a)=true:=by (kernel_rfl))(hb:(Pw N ps (bA st)&&eC ⟨N,(bA st).names,fs,gs,GQ⟩ b (eE st))=true:=by (decide +kernel))(bd:Rh ps.length λus=>bindArgs (fq x st m c) ⟨us,[]⟩=pure (ps.zip us):=by (repeat intro _);rfl):All P w K mg base (k+1) (fs++[(x,ps.length)]) (Fs++[ai (cm Fs) N.length b]) :=
 A.snoc ⟨a,_,ps,wQ x a st N ps b m c W A lk hc hk hb,BH W.X W.G ha,hk,.all (DP bd)⟩
def DQ(Fs:List (List D->ag->bF W))(N:Nat)(b:List S):Nat->List D->ag->bF W
 | 0=>λ_ _=>.ae
 | n+1=>ai (cm (Fs++[DQ Fs N b n])) N b
theorem All.I0(h:All P w K mg base k fs Fs)(g:Is P w K mg base k2 x n F)(hk:k<=k2):All P w K mg base k2 (fs++[(x,n)]) (Fs++[F]):=by
 obtain⟨hl,h⟩:=h;refine⟨by rw[dv,dv,hl];rfl,λi y m e=>?_⟩;by_cases hi:i<fs.length
 ·rw[gH hi]at e;obtain⟨F,a,b⟩:=h i y m e;exact⟨F,by rw[gH ∅];exact a,b.mono hk⟩
 ·have:i=fs.length:=by
   have:=(cP.mp e).1;simp at this;omega
  subst this;simp at e;obtain⟨rfl,rfl⟩:=e;exact⟨F,by rw[hl];simp,g⟩
theorem Wc(x:Str)(a:Addr)(st:Stmt)(N ps:List Str)(b:List S)(m c:Value)(W:Cw K h mg gs)(A:All P w K mg base k fs Fs)(ha:PySem.W.nsIn K mainGlobals x=some (some (.ref a)):=by (kernel_rfl))(lk:K.lookup a=some (fo (fq x st m c)):=by (kernel_rfl))(hc:PySem.W.codeIn K c x=true:=by (kernel_rfl))(hk:PySem.W.keepIn K (.ref a)=true:=by (kernel_rfl))(hb:(Pw N ps (bA st)&&eC ⟨N,(bA st).names,fs++[(x,ps.length)],gs,GQ⟩ b (eE st))=true:=by (decide +kernel))(bd:Rh ps.length λus=>bindArgs (fq x st m c) ⟨us,[]⟩=pure (ps.zip us):=by (repeat intro _);rfl):∀n,All P w K mg base (k+n) (fs++[(x,ps.length)]) (Fs++[DQ Fs N.length b n])
 | 0=>A.I0 ⟨a,fq x st m c,ps,⟨λvs H Q E z=>by obtain⟨_,_,_,_,_,_,q⟩:=z;exact q.elim,λA outer s H args us vs Q E _ _ _ _ z=>by obtain⟨_,_,_,_,_,_,q⟩:=z;exact q.elim⟩,BH W.X W.G ha,hk,.all (DP bd)⟩ (aq _)
 | n+1=>by
  have A1:=Wc x a st N ps b m c W A ha lk hc hk hb bd n;have F:=wQ x a st N ps b m c W A1 lk hc hk hb;exact A.I0 ⟨a,fq x st m c,ps,F,BH W.X W.G ha,hk,.all (DP bd)⟩ ∅
end
class Er where
 er:AB->ag->Prop
@[reducible] def gK:Er:=⟨λ_ _=>False⟩
instance (priority:=low) YL:Er:=gK
section
variable [er:Er]
@[irreducible] noncomputable def aO{α:Type}(o:bF α)(P:α->ag->Prop):Prop:=match o with
 | .ok a M=>P a M
 | .err x M=>Er.er x M
 | .ae=>False
theorem aW{α:Type}{a:α}{M:ag}{P:α->ag->Prop}:aO (.ok a M) P=P a M:=by unfold aO;exact propext qp
theorem aA{α:Type}{P:α->ag->Prop}:aO .ae P=False:=by unfold aO;exact propext qp
theorem eI{α:Type}{P:α->ag->Prop}{x:AB}{M:ag}:aO (.err x M) P=Er.er x M:=by unfold aO;exact propext qp
theorem aD{α β:Type}{o:bF α}{f:α->ag->bF β}{P:β->ag->Prop}:aO (o.bind f) P=aO o λa M=>aO (f a M) P:=by
 cases o with
 | ok a M=>rw[aW];rfl
 | err _ _=>rw[eI];exact eI
 | ae=>rw[aA];exact aA
theorem aO.imp{α:Type}{o:bF α}{P Q:α->ag->Prop}(h:aO o P)(k:∀a M,P a M->Q a M):aO o Q:=by
 cases o with
 | ok a M=>rw[aW]at h⊢;exact k a M h
 | err _ _=>rw[eI]at h⊢;exact h
 | ae=>rw[aA]at h;exact h.elim
theorem ip{α:Type}{c:Prop}[Decidable c]{o:bF α}{P:α->ag->Prop}:aO (if c then o else .ae) P=(c/\aO o P):=by
 by_cases h:c
 ·rw[aT h];exact propext ⟨λq=>⟨h,q⟩,λq=>q.2⟩
 ·rw[aU h,aA];exact propext ⟨λq=>q.elim,λq=>absurd q.1 h⟩
omit er in
theorem LI{α:Type}{o:bF α}{P:α->ag->Prop}(h:@aO gK α o P):∃a M,o=.ok a M/\P a M:=by
 cases o with
 | ok a M=>rw[@aW gK]at h;exact⟨a,M,rfl,h⟩
 | err _ _=>rw[@eI gK]at h;exact h.elim
 | ae=>rw[@aA gK]at h;exact h.elim
theorem DR{α β:Type}{o:bF α}{f:α->ag->bF β}{P:β->ag->Prop}:aO (o.b0 f) P=@aO gK α o λa M=>aO (f a M) P:=by
 cases o with
 | ok a M=>rw[@aW gK];rfl
 | err _ _=>rw[@eI gK];exact aA
 | ae=>rw[@aA gK];exact aA
@[irreducible] noncomputable def fg(o:aX)(nx:En->ag->Prop)(rt:W->ag->Prop)(bk ct:En->ag->Prop):Prop:=match o with
 | .nx ρ M=>nx ρ M
 | .rt w M=>rt w M
 | .bk ρ M=>bk ρ M
 | .ct ρ M=>ct ρ M
 | .er x M=>Er.er x M
 | .ae=>False
section
variable {nx:En->ag->Prop} {rt:W->ag->Prop} {bk ct:En->ag->Prop}
theorem dW{ρ:En}{M:ag}:fg (.nx ρ M) nx rt bk ct=nx ρ M:=by unfold fg;exact propext qp
theorem jf{w:W}{M:ag}:fg (.rt w M) nx rt bk ct=rt w M:=by unfold fg;exact propext qp
theorem nH{ρ:En}{M:ag}:fg (.bk ρ M) nx rt bk ct=bk ρ M:=by unfold fg;exact propext qp
theorem nI{ρ:En}{M:ag}:fg (.ct ρ M) nx rt bk ct=ct ρ M:=by unfold fg;exact propext qp
theorem jg{x:AB}{M:ag}:fg (.er x M) nx rt bk ct=Er.er x M:=by unfold fg;exact propext qp
theorem dX:fg .ae nx rt bk ct=False:=by unfold fg;exact propext qp
theorem dZ{α:Type}{o:bF α}{f:α->ag->aX}:fg (aX.fD o f) nx rt bk ct=aO o λa M=>fg (f a M) nx rt bk ct:=by
 cases o with
 | ok a M=>rw[aW];rfl
 | err _ _=>rw[eI];exact jg
 | ae=>rw[aA];exact dX
theorem Hi{o:aX}{f:En->ag->aX}:fg (o.seq f) nx rt bk ct=fg o (λρ M=>fg (f ρ M) nx rt bk ct) rt bk ct:=by
 cases o with
 | nx ρ M=>rw[dW];rfl
 | rt ρ M=>rw[jf];exact jf
 | bk ρ M=>rw[nH];exact nH
 | ct ρ M=>rw[nI];exact nI
 | er ρ M=>rw[jg];exact jg
 | ae=>rw[dX];exact dX
end
theorem Hj{G:a8}{n:Nat}{b:List S}{ds:List D}{M:ag}{P:W->ag->Prop}:aO (ai G n b ds M) P=fg (bR G b (gu n ds) M) (λ_ M=>P (.d .a6) M) P (λ_ _=>False) (λ_ _=>False):=by
 unfold ai
 cases bR G b (gu n ds) M with
 | nx ρ M=>rw[dW];exact aW
 | rt ρ M=>rw[jf];exact aW
 | bk ρ M=>rw[nH];exact aA
 | ct ρ M=>rw[nI];exact aA
 | er ρ M=>rw[jg];exact eI
 | ae=>rw[dX];exact aA
section
variable {G:a8} {ρ:En} {M:ag} {P:W->ag->Prop}
theorem Px{d:D}:aO (ev G (.bx d) ρ M) P=P (.d d) M:=by simp only[KU,aW]
theorem Py{op:ES}{a b:C}:aO (ev G (.bin op a b) ρ M) P=aO (ev G a ρ M) λx M=>aO (ev G b ρ M) λy M=>aO (qY op x y M) P:=by simp only[KW,aD]
theorem Pz{op:AD}{a b:C}:aO (ev G (.cmp op a b) ρ M) P=aO (ev G a ρ M) λx M=>aO (ev G b ρ M) λy M=>aO (bG op x y M) λr M=>P (.d (.bl r)) M:=by simp only[CU,aD,aW]
theorem PB{cs:List C}:aO (ev G (.tup cs) ρ M) P=aO (a_ G cs ρ M) λds M=>ds.length<=sizeLine/\P (.d (.tup ds)) M:=by
 simp only[CV,aD,ip,aW]
theorem PC{cs:List C}:aO (ev G (.lst cs) ρ M) P=aO (a_ G cs ρ M) λds M=>ds.length<=sizeLine/\P (.lv ds) M:=by
 simp only[CW,aD,ip,aW]
theorem k_sub{a b:C}:aO (ev G (.sub a b) ρ M) P=aO (ev G a ρ M) λx M=>aO (ev G b ρ M) λy M=>aO (d6 x y M) P:=by simp only[KZ,aD]
theorem PD{a:C}{lo hi:Option C}:aO (ev G (.oQ a lo hi) ρ M) P=aO (ev G a ρ M) λx M=>aO (sM G lo ρ M) λl M=>aO (sM G hi ρ M) λh M=>aO (kB x l h M) P:=by simp only[K0,aD]
theorem PF{a:C}{k:Int}:aO (ev G (.ym a k) ρ M) P=aO (ev G a ρ M) λx M=>aO (qZ x k M) P:=by simp only[K1,aD]
theorem Uu{P:Option Int->ag->Prop}:aO (sM G none ρ M) P=P none M:=by simp only[na,nh,aW]
theorem LJ{f:Nat}{cs:List C}:aO (ev G (.call f cs) ρ M) P=aO (a_ G cs ρ M) λds M=>aO (G f ds M) P:=by simp only[yr,aD]
theorem Uv{b:Bi}{cs:List C}:aO (ev G (.bi b cs) ρ M) P=aO (cI G cs ρ M) λws M=>aO (fG b ws M) P:=by simp only[CY,aD]
theorem Uw{m:Me}{o:C}{cs:List C}:aO (ev G (.me m o cs) ρ M) P=aO (ev G o ρ M) λx M=>(df M x).isSome=true/\aO (a_ G cs ρ M) λds M=>aO (sL m x ds M) P:=by
 simp only[CZ,aD,ip]
theorem PH{ks:List Str}{cs:List C}:aO (ev G (.yn ks cs) ρ M) P=aO (a_ G cs ρ M) λds M=>ks.length=ds.length/\P (.d (.aJ M.length)) (M++[.dK ((ks.map Sum.inr).zip ds)]):=by
 simp only[wA,aD,ip,aW]
theorem LK{k:SK}{cM:List C}{tg:List Nat}{cond:Option ef}{elt:C}{cA:List (Option Nat)}:aO (ev G (.comp k cM tg cond elt cA) ρ M) P=aO (cI G cM ρ M) λws M=>aO (jI k ws M) λit M=>aO (bq (λτ M=>bP G cond τ M) (λτ M=>(ev G elt τ M).bind own) it tg (cR M it) 0 (eB cA ρ) M []) P:=by simp only[rf,aD]
theorem Ux{P:List D->ag->Prop}:aO (a_ G [] ρ M) P=P [] M:=by simp only[fR,eJ,aW]
theorem Uy{c:C}{cs:List C}{P:List D->ag->Prop}:aO (a_ G (c::cs) ρ M) P=aO (ev G c ρ M) λw M=>aO (own w M) λd M=>aO (a_ G cs ρ M) λds M=>P (d::ds) M:=by simp only[fR,eJ,aD,aW]
theorem Uz{P:List W->ag->Prop}:aO (cI G [] ρ M) P=P [] M:=by simp only[g6,fS,aW]
theorem UA{c:C}{cs:List C}{P:List W->ag->Prop}:aO (cI G (c::cs) ρ M) P=aO (ev G c ρ M) λw M=>aO (cI G cs ρ M) λds M=>P (w::ds) M:=by simp only[g6,fS,aD,aW]
theorem PJ{c:C}{P:Bool->ag->Prop}:aO (dS G (.val c) ρ M) P=aO (ev G c ρ M) λw M=>∃r,oS M w=some r/\P r M:=by
 simp only[rg,aD]
 congr 1;funext w M
 cases h:oS M w with
 | none=>simp only[reduceCtorEq,false_and,exists_false,aA]
 | some r=>simp only[vF,exists_eq_left',aW]
theorem PK{a:ef}{P:Bool->ag->Prop}:aO (dS G (.neg a) ρ M) P=aO (dS G a ρ M) λr M=>P (!r) M:=by simp only[GC,aD,aW]
theorem LL{a:ef}{P:Bool->ag->Prop}:aO (fb G [a] ρ M) P=aO (dS G a ρ M) P:=by simp only[kF,ja,aD,aW]
theorem LM{a:ef}{P:Bool->ag->Prop}:aO (fc G [a] ρ M) P=aO (dS G a ρ M) P:=by simp only[kG,jb,aD,aW]
theorem LN{a b:ef}{cs:List ef}{P:Bool->ag->Prop}:aO (fb G (a::b::cs) ρ M) P=aO (dS G a ρ M) λr M=>if r then aO (fb G (b::cs) ρ M) P else P false M:=by
 rw[ja];simp only[aD]
 congr 1;funext r M
 cases r with
 | true=>rfl
 | false=>exact aW
theorem LO{a b:ef}{cs:List ef}{P:Bool->ag->Prop}:aO (fc G (a::b::cs) ρ M) P=aO (dS G a ρ M) λr M=>if r then P true M else aO (fc G (b::cs) ρ M) P:=by
 rw[jb];simp only[aD]
 congr 1;funext r M
 cases r with
 | true=>exact aW
 | false=>rfl
theorem LP{ts:List ef}{P:Bool->ag->Prop}:aO (dS G (.dc ts) ρ M) P=aO (fb G ts ρ M) P:=by simp only[C1]
theorem LQ{ts:List ef}{P:Bool->ag->Prop}:aO (dS G (.dw ts) ρ M) P=aO (fc G ts ρ M) P:=by simp only[C2]
end
section
variable {G:a8} {ρ:En} {M:ag} {nx:En->ag->Prop} {rt:W->ag->Prop} {bk ct:En->ag->Prop}
theorem LR{i:Nat}{c:C}:fg (gM G (.jT i c) ρ M) nx rt bk ct=aO (ev G c ρ M) λw M=>aO (own w M) λd M=>nx (ρ.set i (some d)) M:=by simp only[uT,dZ,aD,dW]
theorem PL{o i v:C}:fg (gM G (.put o i v) ρ M) nx rt bk ct=aO (ev G v ρ M) λw M=>aO (own w M) λd M=>aO (ev G o ρ M) λx M=>aO (ev G i ρ M) λy M=>aO (jJ x y d M) λ_ M=>nx ρ M:=by simp only[yP,dZ,aD,dW]
theorem LS{c:C}:fg (gM G (.expr c) ρ M) nx rt bk ct=aO (ev G c ρ M) λ_ M=>nx ρ M:=by simp only[uU,dZ,dW]
theorem PM{c:C}:fg (gM G (.ret c) ρ M) nx rt bk ct=aO (ev G c ρ M) rt:=by simp only[yQ,dZ,jf]
theorem UB{t:ef}{a b:List S}:fg (gM G (.iff t a b) ρ M) nx rt bk ct=aO (dS G t ρ M) λr M=>if r then fg (bR G a ρ M) nx rt bk ct else fg (bR G b ρ M) nx rt bk ct:=by
 simp only[yR,dZ]
 congr 1;funext r M
 cases r<;>rfl
theorem PN{tg:List Nat}{k:SK}{cM:List C}{b:List S}:fg (gM G (.eG tg k cM b) ρ M) nx rt bk ct=aO (cI G cM ρ M) λws M=>aO (jI k ws M) λit M=>fg (dH (λρ M=>bR G b ρ M) it tg (cR M it) 0 ρ M) nx rt bk ct:=by
 simp only[uV,dZ,dr,aD]
theorem PQ:fg (bR G [] ρ M) nx rt bk ct=nx ρ M:=by simp only[uW,pU,dW]
theorem LU{s:S}{ss:List S}:fg (bR G (s::ss) ρ M) nx rt bk ct=fg (gM G s ρ M) (λρ M=>fg (bR G ss ρ M) nx rt bk ct) rt bk ct:=by simp only[uW,pU,Hi]
end
theorem nJ{body:En->ag->aX}{it:It}{tg:List Nat}{ds:List D}{nx:En->ag->Prop}{rt:W->ag->Prop}{bk ct:En->ag->Prop}(I:Nat->En->ag->Prop)(hd:∀i ρ M,I i ρ M->i<=ds.length->itemAt M i it=some ds[i]?)(hs:∀i ρ M d,I i ρ M->ds[i]?=some d->∃dY,bM tg d ρ=some dY/\fg (body dY M) (I (i+1)) rt nx (I (i+1)))(he:∀ρ M,I ds.length ρ M->nx ρ M):∀(f i:Nat)(ρ:En)(M:ag),I i ρ M->i+f=ds.length->fg (dH body it tg f i ρ M) nx rt bk ct
 | 0,i,ρ,M,h,e=>by
  unfold dH;have:i=ds.length:=∅;subst this;rw[hd _ _ _ h (aq _),ml (aq _)];dsimp only;rw[dW];exact he _ _ h
 | f+1,i,ρ,M,h,e=>by
  unfold dH;have hi:i<ds.length:=∅;rw[hd _ _ _ h (j_ hi),cf hi];obtain⟨dY,e1,e2⟩:=hs i ρ M ds[i] h (cf hi);dsimp only;rw[e1];dsimp only
  cases q:body dY M with
  | nx LA M2=>rw[q,dW]at e2;exact nJ I hd hs he f (i+1) LA M2 e2 ∅
  | ct LA M2=>rw[q,nI]at e2;exact nJ I hd hs he f (i+1) LA M2 e2 ∅
  | bk LA M2=>rw[q,nH]at e2;dsimp only;rw[dW];exact e2
  | rt w M2=>rw[q,jf]at e2;dsimp only;rw[jf];exact e2
  | er x M2=>rw[q,jg]at e2;dsimp only;rw[jg];exact e2
  | ae=>rw[q,dX]at e2;exact e2.elim
theorem rO{cond:En->ag->bF Bool}{elt:En->ag->bF D}{it:It}{tg:List Nat}{ds:List D}{P:W->ag->Prop}(I:Nat->En->ag->List D->Prop)(hd:∀i ρ M aE,I i ρ M aE->i<=ds.length->itemAt M i it=some ds[i]?)(hs:∀i ρ M aE d,I i ρ M aE->ds[i]?=some d->aE.length<sizeLine/\∃dY,bM tg d ρ=some dY/\@aO gK _ (cond dY M) λb M=>if b then @aO gK _ (elt dY M) λx M=>I (i+1) dY M (aE++[x]) else I (i+1) dY M aE)(he:∀ρ M aE,I ds.length ρ M aE->P (.lv aE) M):∀(f i:Nat)(ρ:En)(M:ag)(aE:List D),I i ρ M aE->i+f=ds.length->aO (bq cond elt it tg f i ρ M aE) P
 | 0,i,ρ,M,aE,h,e=>by
  unfold bq;have:i=ds.length:=∅;subst this;rw[hd _ _ _ _ h (aq _),ml (aq _)];dsimp only;rw[aW];exact he _ _ _ h
 | f+1,i,ρ,M,aE,h,e=>by
  unfold bq;have hi:i<ds.length:=∅;rw[hd _ _ _ _ h (j_ hi),cf hi];obtain⟨hl,dY,e1,e2⟩:=hs i ρ M aE ds[i] h (cf hi);dsimp only;rw[e1];dsimp only;rw[aT hl,DR];refine @aO.imp gK _ _ _ _ e2 λb M2 q=>?_
  cases b with
  | true =>
   rw[aT rfl]at q⊢;rw[DR];exact @aO.imp gK _ _ _ _ q λx M3 q=>rO I hd hs he f (i+1) dY M3 _ q ∅
  | false =>
   rw[aU (by simp)]at q⊢;exact rO I hd hs he f (i+1) dY M2 _ q ∅
end
section
variable [er:Er]
noncomputable def dO{α:Type}(o:bF α)(P:α->ag->Prop):Prop:=match o with
 | .ok a M=>P a M
 | .err x M=>Er.er x M
 | .ae=>False
theorem LV{o:bF W}{P:W->ag->Prop}:aO (o.b0 .ok) P=@aO gK _ o P:=by
 cases o with
 | ok a M=>rw[aW (er:=gK)];exact aW
 | err _ _=>rw[eI (er:=gK)];exact aA
 | ae=>rw[aA (er:=gK)];exact aA
theorem bg{α:Type}{o:bF α}{P:α->ag->Prop}:aO o P=dO o P:=by
 cases o with
 | ok a M=>rw[aW];rfl
 | err _ _=>rw[eI];rfl
 | ae=>rw[aA];rfl
noncomputable def AW(x:W)(A B:Prop):Prop:=match x with
 | .d (.bl true)=>A
 | .d (.bl false)=>B
 | _=>False
noncomputable def bK(b:Bool)(A B:Prop):Prop:=match b with
 | true=>A
 | false=>B
theorem DS{b:Bool}{A B:Prop}:bK b A B=if b=true then A else B:=by cases b<;>simp[bK]
noncomputable def Hk(o:Option Bool)(P:Bool->Prop):Prop:=match o with
 | some r=>P r
 | none=>False
noncomputable def PR(o:Option (Option D))(P:D->Prop):Prop:=match o with
 | some (some d)=>P d
 | _=>False
noncomputable def I_(o:Option En)(P:En->Prop):Prop:=match o with
 | some ρ=>P ρ
 | none=>False
noncomputable def PU(w:W)(P:Int->Prop):Prop:=match w with
 | .d (.int i)=>P i
 | _=>False
noncomputable def PV(w:W)(P:Str->Prop):Prop:=match w with
 | .d (.str i)=>P i
 | _=>False
def Ja:D->Bool
 | .a6=>true
 | _=>false
theorem rP{i:Int}:SeqAt.shaped (.int i)=true:=by unfold SeqAt.shaped;rw[PyData.canLay0.eq_3,PyData.depth.eq_6];rfl
theorem PX{M:ag}{i j:Int}:bG .eq (.d (.int i)) (.d (.int j)) M=.ok (i==j) M:=by
 unfold bG;have h1:∀i,lH M (.d (.int i))=some (.int i):=λi=>by show dB M 30 (.int i)=_;unfold dB;rfl
 simp only[h1,rP,qk,fm,PyData.eqv.eq_5]
theorem PY{M:ag}{i j:Int}:bG .ne (.d (.int i)) (.d (.int j)) M=.ok (!(i==j)) M:=by
 unfold bG;have h1:∀i,lH M (.d (.int i))=some (.int i):=λi=>by show dB M 30 (.int i)=_;unfold dB;rfl
 simp only[h1,rP,qk,fm,PyData.eqv.eq_5]
def LW(op:ES)(x y:W)(M:ag)(P:W->ag->Prop):Prop:=match op,x,y with
 | .add,.d (.int i),.d (.int j)=>P (.d (.int (i+j))) M
 | .sub,.d (.int i),.d (.int j)=>P (.d (.int (i-j))) M
 | .mul,.d (.int i),.d (.int j)=>((-(2 ^ 64)<i/\i<2 ^ 64)\/(-(2 ^ 64)<j/\j<2 ^ 64))/\P (.d (.int (i*j))) M
 | .fdiv,.d (.int i),.d (.int j)=>(0<j/\j<1073741824)/\P (.d (.int (i / j))) M
 | .mod,.d (.int i),.d (.int j)=>0<j/\P (.d (.int (i % j))) M
 | .add,.d (.tup xs),.d (.tup ys)=>xs.length+ys.length<=sizeLine/\P (.d (.tup (xs++ys))) M
 | .add,.lv xs,.lv ys=>xs.length+ys.length<=sizeLine/\P (.lv (xs++ys)) M
 | .mul,.d (.tup xs),.d (.int k)=>(-(2 ^ 63)<=k/\k<2 ^ 63/\xs.length*k.toNat<=sizeLine)/\P (.d (.tup (List.replicate k.toNat xs).flatten)) M
 | op,x,y=>dO (qY op x y M) P
theorem nK{α:Type}{c:Prop}[Decidable c]{a:α}{M:ag}{P:α->ag->Prop}:dO (if c then .ok a M else .ae) P=(c/\P a M):=by
 by_cases h:c
 ·rw[aT h];exact propext ⟨λq=>⟨h,q⟩,λq=>q.2⟩
 ·rw[aU h];exact propext ⟨λq=>q.elim,λq=>absurd q.1 h⟩
theorem Hl{op:ES}{x y:W}{M:ag}{P:W->ag->Prop}:dO (qY op x y M) P=LW op x y M P:=by
 rcases x with⟨_|_ | i | _ | xs | _|_⟩ | xs
 all_goals (first | (cases op<;>rfl) | skip)
 ·rcases y with⟨_|_ | j | _|_|_|_⟩|_<;>cases op<;>first | rfl | exact nK
 ·rcases y with⟨_|_|_|_ | ys | _|_⟩|_<;>cases op<;>first | rfl | exact nK
 ·rcases y with⟨_|_|_|_|_|_|_⟩ | ys<;>cases op<;>first | rfl | exact nK
def wR(op:AD)(x y:W)(M:ag)(P:Bool->ag->Prop):Prop:=match op,x,y with
 | .eq,.d (.int i),.d (.int j)=>P (i==j) M
 | .ne,.d (.int i),.d (.int j)=>P (!(i==j)) M
 | .vm,.d d,_=>P (Ja d) M
 | .iF,.d d,_=>P (!Ja d) M
 | op,x,y=>dO (bG op x y M) P
theorem rQ{op:AD}{x y:W}{M:ag}{P:Bool->ag->Prop}:dO (bG op x y M) P=wR op x y M P:=by
 cases op
 case eq=>rcases x with⟨_|_ | i | _|_|_|_⟩|_<;>first | rfl | (rcases y with⟨_|_ | j | _|_|_|_⟩|_<;>first | (rw[PX];rfl) | rfl)
 case ne=>rcases x with⟨_|_ | i | _|_|_|_⟩|_<;>first | rfl | (rcases y with⟨_|_ | j | _|_|_|_⟩|_<;>first | (rw[PY];rfl) | rfl)
 case vm=>rcases x with⟨_|_|_|_|_|_|_⟩|_<;>rfl
 case iF=>rcases x with⟨_|_|_|_|_|_|_⟩|_<;>rfl
 all_goals (first | rfl | (rcases x with⟨_|_|_|_|_|_|_⟩|_<;>rfl))
def AX(k:SK)(ws:List W)(M:ag)(P:It->ag->Prop):Prop:=match k,ws with
 | .fB,[.d (.int j)]=>(-(2 ^ 62)<=j/\j<2 ^ 62)/\P (.jl 0 j.toNat) M
 | .CQ,[.d (.int i),.d (.int j)]=>(-(2 ^ 62)<=i/\i<2 ^ 62/\-(2 ^ 62)<=j/\j<2 ^ 62)/\P (.jl i (j-i).toNat) M
 | k,ws=>dO (jI k ws M) P
theorem yV{k:SK}{ws:List W}{M:ag}{P:It->ag->Prop}:dO (jI k ws M) P=AX k ws M P:=by
 unfold AX;split<;>first | rfl | exact nK
def Hm(tp:Bool)(ws:List W)(M:ag)(P:W->ag->Prop):Prop:=match m7 ws with
 | some (i,j)=>((-(2 ^ 62)<=i/\i<2 ^ 62/\-(2 ^ 62)<=j/\j<2 ^ 62)/\(j-i).toNat<=2 ^ 24)/\P (q_ tp (oV i (j-i).toNat)) M
 | none=>False
theorem Hn{tp:Bool}{ws:List W}{M:ag}{P:W->ag->Prop}:dO (wt tp ws M) P=Hm tp ws M P:=by
 unfold wt Hm
 cases m7 ws with
 | none=>rfl
 | some ij=>exact nK
mutual
noncomputable def wE(G:a8):C->En->ag->(W->ag->Prop)->Prop
  | .lI i,ρ,M,P=>PR ρ[i]? λd=>P (.d d) M
  | .bx d,_,M,P=>P (.d d) M
  | .bin op a b,ρ,M,P=>wE G a ρ M λx M=>wE G b ρ M λy M=>LW op x y M P
  | .cmp op a b,ρ,M,P=>wE G a ρ M λx M=>wE G b ρ M λy M=>wR op x y M λr M=>P (.d (.bl r)) M
  | .chain o1 o2 a b c, ρ, M, P => wE G a ρ M fun x M => wE G b ρ M fun y M => wR o1 x y M fun r M =>
      bK r (wE G c ρ M λz M=>wR o2 y z M λr M=>P (.d (.bl r)) M) (P (.d (.bl false)) M)
  | .dc cs,ρ,M,P=>AY G cs ρ M P
  | .dw cs,ρ,M,P=>Nj G cs ρ M P
  | .neg a,ρ,M,P=>wE G a ρ M λx M=>AW x (P (.d (.bl false)) M) (P (.d (.bl true)) M)
  | .tup cs,ρ,M,P=>uY G cs ρ M λds M=>ds.length<=sizeLine/\P (.d (.tup ds)) M
  | .lst cs,ρ,M,P=>uY G cs ρ M λds M=>ds.length<=sizeLine/\P (.lv ds) M
  | .sub a b,ρ,M,P=>wE G a ρ M λx M=>wE G b ρ M λy M=>dO (d6 x y M) P
  | .oQ a lo hi,ρ,M,P=>wE G a ρ M λx M=>wO G lo ρ M λl M=>wO G hi ρ M λh M=>dO (kB x l h M) P
  | .ym a k,ρ,M,P=>wE G a ρ M λx M=>dO (qZ x k M) P
  | .fP a b,ρ,M,P=>wE G a ρ M λx M=>PV x λz=>wE G b ρ M λy M=>dO (kU (.d (.str z)) y M) P
  | .call f cs,ρ,M,P=>uY G cs ρ M λds M=>aO (G f ds M) P
  | .bi b cs,ρ,M,P=>AZ G cs ρ M λws M=>dO (fG b ws M) P
  | .me m o cs,ρ,M,P=>wE G o ρ M λx M=>(df M x).isSome=true/\uY G cs ρ M λds M=>dO (sL m x ds M) P
  | .yn ks cs,ρ,M,P=>uY G cs ρ M λds M=>ks.length=ds.length/\P (.d (.aJ M.length)) (M++[.dK ((ks.map Sum.inr).zip ds)])
  | .jl tp cs,ρ,M,P=>AZ G cs ρ M λws M=>Hm tp ws M P
  | .Bn _ v,_,M,P=>P (.d (.int v)) M
  | .eh ng a,ρ,M,P=>wE G a ρ M λx M=>dO (yq ng x M) P
  | .sset a,ρ,M,P=>wE G a ρ M λx M=>dO (m9 x M) P
  | .xf a f,ρ,M,P=>wE G a ρ M λx M=>dO (Q4 f x M) P
  | .uA a _ tb,ρ,M,P=>wE G a ρ M λx M=>dO (Gy tb x M) P
  | .fQ f cs,ρ,M,P=>uY G cs ρ M λds M=>@aO gK _ (G f ds M) P
  | .comp k cM tg cond elt cA,ρ,M,P=>AZ G cM ρ M λws M=>AX k ws M λit M=>aO (bq (λτ M=>bP G cond τ M) (λτ M=>(ev G elt τ M).bind own) it tg (cR M it) 0 (eB cA ρ) M []) P
noncomputable def wT(G:a8):ef->En->ag->(Bool->ag->Prop)->Prop
 | .dc ts,ρ,M,P=>LX G ts ρ M P
 | .dw ts,ρ,M,P=>LY G ts ρ M P
 | .neg a,ρ,M,P=>wT G a ρ M λr M=>P (!r) M
 | .val c,ρ,M,P=>wE G c ρ M λw M=>Hk (oS M w) λr=>P r M
noncomputable def AY(G:a8):List C->En->ag->(W->ag->Prop)->Prop
 | [],_,_,_=>False
 | c::cs,ρ,M,P=>match cs with
  | []=>wE G c ρ M P
  | _::_=>wE G c ρ M λx M=>AW x (AY G cs ρ M P) (P (.d (.bl false)) M)
noncomputable def Nj(G:a8):List C->En->ag->(W->ag->Prop)->Prop
 | [],_,_,_=>False
 | c::cs,ρ,M,P=>match cs with
  | []=>wE G c ρ M P
  | _::_=>wE G c ρ M λx M=>AW x (P (.d (.bl true)) M) (Nj G cs ρ M P)
noncomputable def LX(G:a8):List ef->En->ag->(Bool->ag->Prop)->Prop
 | [],_,_,_=>False
 | c::cs,ρ,M,P=>match cs with
  | []=>wT G c ρ M P
  | _::_=>wT G c ρ M λr M=>bK r (LX G cs ρ M P) (P false M)
noncomputable def LY(G:a8):List ef->En->ag->(Bool->ag->Prop)->Prop
 | [],_,_,_=>False
 | c::cs,ρ,M,P=>match cs with
  | []=>wT G c ρ M P
  | _::_=>wT G c ρ M λr M=>bK r (P true M) (LY G cs ρ M P)
noncomputable def uY(G:a8):List C->En->ag->(List D->ag->Prop)->Prop
 | [],_,M,P=>P [] M
 | c::cs,ρ,M,P=>wE G c ρ M λw M=>dO (own w M) λd M=>uY G cs ρ M λds M=>P (d::ds) M
noncomputable def AZ(G:a8):List C->En->ag->(List W->ag->Prop)->Prop
 | [],_,M,P=>P [] M
 | c::cs,ρ,M,P=>wE G c ρ M λw M=>AZ G cs ρ M λws M=>P (w::ws) M
noncomputable def wO(G:a8):Option C->En->ag->(Option Int->ag->Prop)->Prop
 | none,_,M,P=>P none M
 | some c,ρ,M,P=>wE G c ρ M λw M=>PU w λi=>P (some i) M
end
section
variable {G:a8} {lo hi:Option C} {cond:Option ef}
theorem LZ:wE G (.lI i) ρ M P=PR ρ[i]? λd=>P (.d d) M:=rfl
theorem L0:wE G (.bin op a b) ρ M P=wE G a ρ M λx M=>wE G b ρ M λy M=>LW op x y M P:=rfl
theorem L1:wE G (.cmp op a b) ρ M P=wE G a ρ M λx M=>wE G b ρ M λy M=>wR op x y M λr M=>P (.d (.bl r)) M:=rfl
theorem DT : wE G (.chain o1 o2 a b c) ρ M P = (wE G a ρ M fun x M => wE G b ρ M fun y M => wR o1 x y M fun r M =>
      bK r (wE G c ρ M λz M=>wR o2 y z M λr M=>P (.d (.bl r)) M) (P (.d (.bl false)) M)):=rfl
theorem L3:wE G (.neg a) ρ M P=wE G a ρ M λx M=>AW x (P (.d (.bl false)) M) (P (.d (.bl true)) M):=rfl
theorem L4:wE G (.sub a b) ρ M P=wE G a ρ M λx M=>wE G b ρ M λy M=>dO (d6 x y M) P:=rfl
theorem L5:wE G (.oQ a lo hi) ρ M P=wE G a ρ M λx M=>wO G lo ρ M λl M=>wO G hi ρ M λh M=>dO (kB x l h M) P:=rfl
theorem L6:wE G (.ym a k) ρ M P=wE G a ρ M λx M=>dO (qZ x k M) P:=rfl
theorem DU:wE G (.fP a b) ρ M P=wE G a ρ M λx M=>PV x λz=>wE G b ρ M λy M=>dO (kU (.d (.str z)) y M) P:=rfl
theorem PZ:wE G (.bi b cs) ρ M P=AZ G cs ρ M λws M=>dO (fG b ws M) P:=rfl
theorem P0:wE G (.me m o cs) ρ M P=wE G o ρ M λx M=>(df M x).isSome=true/\uY G cs ρ M λds M=>dO (sL m x ds M) P:=rfl
theorem L7:wE G (.jl tp cs) ρ M P=AZ G cs ρ M λws M=>Hm tp ws M P:=rfl
theorem Ho:wE G (.eh ng a) ρ M P=wE G a ρ M λx M=>dO (yq ng x M) P:=rfl
theorem P1{f:Str}:wE G (.xf a f) ρ M P=wE G a ρ M λx M=>dO (Q4 f x M) P:=rfl
theorem L8{k:IX}{tb:List (Addr×Bool)}:wE G (.uA a k tb) ρ M P=wE G a ρ M λx M=>dO (Gy tb x M) P:=rfl
theorem Hq:wE G (.sset a) ρ M P=wE G a ρ M λx M=>dO (m9 x M) P:=rfl
theorem Hr:wE G (.comp k cM tg cond elt cA) ρ M P=AZ G cM ρ M λws M=>AX k ws M λit M=>aO (bq (λτ M=>bP G cond τ M) (λτ M=>(ev G elt τ M).bind own) it tg (cR M it) 0 (eB cA ρ) M []) P:=rfl
theorem L9:wT G (.val c) ρ M P=wE G c ρ M λw M=>Hk (oS M w) λr=>P r M:=rfl
theorem DV:AY G [] u0 u1 u2=False:=rfl
theorem pY : AY G (c :: cs) ρ M P = (match cs with
    | []=>wE G c ρ M P
    | _::_=>wE G c ρ M λx M=>AW x (AY G cs ρ M P) (P (.d (.bl false)) M)):=rfl
theorem Hs:Nj G [] u0 u1 u2=False:=rfl
theorem uZ : Nj G (c :: cs) ρ M P = (match cs with
    | []=>wE G c ρ M P
    | _::_=>wE G c ρ M λx M=>AW x (P (.d (.bl true)) M) (Nj G cs ρ M P)):=rfl
theorem Ht:uY G [] u0 M P=P [] M:=rfl
theorem DW:uY G (c::cs) ρ M P=wE G c ρ M λw M=>dO (own w M) λd M=>uY G cs ρ M λds M=>P (d::ds) M:=rfl
theorem Hu:AZ G [] u0 M P=P [] M:=rfl
theorem DX:AZ G (c::cs) ρ M P=wE G c ρ M λw M=>AZ G cs ρ M λws M=>P (w::ws) M:=rfl
theorem Hv:wO G none u0 M P=P none M:=rfl
theorem Hw:wO G (some c) ρ M P=wE G c ρ M λw M=>PU w λi=>P (some i) M:=rfl
end
def nL(G:a8)(o:Option ef)(ρ:En)(M:ag)(P:Bool->ag->Prop):Prop:=match o with
 | none=>P true M
 | some t=>wT G t ρ M P
mutual
theorem gO{G:a8}:∀(c:C)(ρ:En)(M:ag)(P:W->ag->Prop),aO (ev G c ρ M) P=wE G c ρ M P
 | .lI i,ρ,M,P=>by
  simp only[CT,LZ];rcases ρ[i]? with _|_ | d
  ·exact aA
  ·exact aA
  ·exact aW
 | .bx d,ρ,M,P=>by rw[Px];rfl
 | .bin op a b,ρ,M,P=>by rw[Py,gO a];simp only[gO b,bg,L0,Hl]
 | .cmp op a b,ρ,M,P=>by rw[Pz,gO a];simp only[gO b,bg,L1,rQ]
 | .chain o1 o2 a b c,ρ,M,P=>by
  simp only[uD,aD,DT];rw[gO a]
  congr 1;funext x M
  rw[gO b]
  congr 1;funext y M
  rw[bg,rQ]
  congr 1;funext r M
  cases r with
  | true=>simp only[aD,aW,fm,gO c];simp only[bg,rQ];rfl
  | false=>simp[aW,bK]
 | .dc cs,ρ,M,P=>by rw[Gz,w_and cs];rfl
 | .dw cs,ρ,M,P=>by rw[GA,w_or cs];rfl
 | .neg a,ρ,M,P=>by
  simp only[KY,aD,L3];rw[gO a]
  congr 1;funext x M
  rcases x with⟨_ | b | _|_|_|_|_⟩|_
  ·exact aA
  ·cases b<;>exact aW
  all_goals exact aA
 | .tup cs,ρ,M,P=>by rw[PB,rR cs];rfl
 | .lst cs,ρ,M,P=>by rw[PC,rR cs];rfl
 | .sub a b,ρ,M,P=>by rw[k_sub,gO a];simp only[gO b,bg,L4]
 | .oQ a lo hi,ρ,M,P=>by rw[PD,gO a];simp only[Wd lo,Wd hi,bg,L5]
 | .ym a k,ρ,M,P=>by rw[PF,gO a];simp only[bg,L6]
 | .fP a b,ρ,M,P=>by
  simp only[uE,aD,DU];rw[gO a]
  congr 1;funext x M
  rcases x with⟨_|_|_ | z | _|_|_⟩|_
  ·exact aA
  ·exact aA
  ·exact aA
  ·simp only[aD,gO b];simp only[bg];rfl
  all_goals exact aA
 | .call f cs,ρ,M,P=>by rw[LJ,rR cs];rfl
 | .bi b cs,ρ,M,P=>by rw[Uv,DY cs];simp only[bg,PZ]
 | .me m o cs,ρ,M,P=>by rw[Uw,gO o];simp only[rR cs,bg,P0]
 | .yn ks cs,ρ,M,P=>by rw[PH,rR cs];rfl
 | .jl tp cs,ρ,M,P=>by simp only[C0,aD,L7];rw[DY cs];simp only[bg,Hn]
 | .Bn x v,ρ,M,P=>by rw[K2];exact aW
 | .eh ng a,ρ,M,P=>by simp only[yt,aD,Ho];rw[gO a];simp only[bg]
 | .xf a f,ρ,M,P=>by simp only[OU,aD,P1];rw[gO a];simp only[bg]
 | .uA a k tb,ρ,M,P=>by simp only[K3,aD,L8];rw[gO a];simp only[bg]
 | .fQ f cs,ρ,M,P=>by
  rw[uF,aD,rR cs];show uY G cs ρ M _=uY G cs ρ M _
  congr 1;funext ds M
  exact LV
 | .sset a,ρ,M,P=>by simp only[GB,aD,Hq];rw[gO a];simp only[bg]
 | .comp k cM tg cond elt cA,ρ,M,P=>by rw[LK,DY cM];simp only[bg,Hr,yV]
theorem L_{G:a8}:∀(c:ef)(ρ:En)(M:ag)(P:Bool->ag->Prop),aO (dS G c ρ M) P=wT G c ρ M P
 | .dc cs,ρ,M,P=>by rw[LP,w_all cs];rfl
 | .dw cs,ρ,M,P=>by rw[LQ,w_any cs];rfl
 | .neg a,ρ,M,P=>by rw[PK,L_ a];rfl
 | .val c,ρ,M,P=>by
  rw[PJ,gO c];simp only[L9]
  congr 1;funext w M
  cases oS M w with
  | none=>simp[Hk]
  | some r=>simp[Hk]
theorem w_and{G:a8}:∀(cs:List C)(ρ:En)(M:ag)(P:W->ag->Prop),aO (iL G cs ρ M) P=AY G cs ρ M P
 | [],ρ,M,P=>by rw[kC];exact aA
 | [c],ρ,M,P=>by simp only[kC,i_,DV,pY,aD,aW,gO c]
 | c::b::cs,ρ,M,P=>by
  rw[i_,pY,aD,gO c]
  congr 1;funext x M
  rw[<- w_and (b::cs)];rcases x with⟨_ | b | _|_|_|_|_⟩|_
  ·exact aA
  ·cases b with
   | true=>rfl
   | false=>exact aW
  all_goals exact aA
theorem w_or{G:a8}:∀(cs:List C)(ρ:En)(M:ag)(P:W->ag->Prop),aO (oW G cs ρ M) P=Nj G cs ρ M P
 | [],ρ,M,P=>by rw[m_];exact aA
 | [c],ρ,M,P=>by simp only[m_,kE,Hs,uZ,aD,aW,gO c]
 | c::b::cs,ρ,M,P=>by
  rw[kE,uZ,aD,gO c]
  congr 1;funext x M
  rw[<- w_or (b::cs)];rcases x with⟨_ | b | _|_|_|_|_⟩|_
  ·exact aA
  ·cases b with
   | true=>exact aW
   | false=>rfl
  all_goals exact aA
theorem w_all{G:a8}:∀(cs:List ef)(ρ:En)(M:ag)(P:Bool->ag->Prop),aO (fb G cs ρ M) P=LX G cs ρ M P
 | [],ρ,M,P=>by rw[kF];exact aA
 | [c],ρ,M,P=>by rw[LL,L_ c];rfl
 | c::b::cs,ρ,M,P=>by rw[LN,L_ c];simp only[w_all (b::cs),<- DS];rfl
theorem w_any{G:a8}:∀(cs:List ef)(ρ:En)(M:ag)(P:Bool->ag->Prop),aO (fc G cs ρ M) P=LY G cs ρ M P
 | [],ρ,M,P=>by rw[kG];exact aA
 | [c],ρ,M,P=>by rw[LM,L_ c];rfl
 | c::b::cs,ρ,M,P=>by rw[LO,L_ c];simp only[w_any (b::cs),<- DS];rfl
theorem rR{G:a8}:∀(cs:List C)(ρ:En)(M:ag)(P:List D->ag->Prop),aO (a_ G cs ρ M) P=uY G cs ρ M P
 | [],ρ,M,P=>by rw[Ux];rfl
 | c::cs,ρ,M,P=>by rw[Uy,gO c];simp only[rR cs,bg,Ht,DW]
theorem DY{G:a8}:∀(cs:List C)(ρ:En)(M:ag)(P:List W->ag->Prop),aO (cI G cs ρ M) P=AZ G cs ρ M P
 | [],ρ,M,P=>by rw[Uz];rfl
 | c::cs,ρ,M,P=>by rw[UA,gO c];simp only[DY cs,bg,Hu,DX]
theorem Wd{G:a8}:∀(o:Option C)(ρ:En)(M:ag)(P:Option Int->ag->Prop),aO (sM G o ρ M) P=wO G o ρ M P
 | none,ρ,M,P=>by rw[Uu];rfl
 | some c,ρ,M,P=>by
  simp only[na,nh,aD,Hv,Hw];rw[gO c]
  congr 1;funext x M
  rcases x with⟨_|_ | z | _|_|_|_⟩|_
  ·exact aA
  ·exact aA
  ·exact aW
  all_goals exact aA
end
theorem w_cond{G:a8}{o:Option ef}{ρ:En}{M:ag}{P:Bool->ag->Prop}:aO (bP G o ρ M) P=nL G o ρ M P:=by
 cases o with
 | none=>exact aW
 | some t=>exact L_ t ρ M P
theorem u4{G:a8}{c:C}{ρ:En}{M:ag}{P:D->ag->Prop}:aO ((ev G c ρ M).bind own) P=wE G c ρ M λw M=>dO (own w M) P:=by
 rw[aD,gO];simp only[bg]
mutual
noncomputable def wS(G:a8):S->En->ag->(En->ag->Prop)->(W->ag->Prop)->(En->ag->Prop)->(En->ag->Prop)->Prop
 | .asg tg c,ρ,M,nx,_,_,_=>wE G c ρ M λw M=>dO (own w M) λd M=>I_ (bM tg d ρ) λρ=>nx ρ M
 | .jT i c,ρ,M,nx,_,_,_=>wE G c ρ M λw M=>dO (own w M) λd M=>nx (ρ.set i (some d)) M
 | .put o i v,ρ,M,nx,_,_,_=>wE G v ρ M λw M=>dO (own w M) λd M=>wE G o ρ M λx M=>wE G i ρ M λy M=>dO (jJ x y d M) λ_ M=>nx ρ M
 | .dput o i v,ρ,M,nx,_,_,_=>wE G v ρ M λw M=>dO (own w M) λd M=>wE G o ρ M λx M=>wE G i ρ M λy M=>dO (yp x y d M) λ_ M=>nx ρ M
 | .par i j a b,ρ,M,nx,_,_,_=>wE G a ρ M λw M=>dO (own w M) λx M=>wE G b ρ M λw M=>dO (own w M) λy M=>nx ((ρ.set i (some x)).set j (some y)) M
 | .expr c,ρ,M,nx,_,_,_=>wE G c ρ M λ_ M=>nx ρ M
 | .ret c,ρ,M,_,rt,_,_=>wE G c ρ M rt
 | .AU,_,M,_,rt,_,_=>rt (.d .a6) M
 | .iff t a b,ρ,M,nx,rt,bk,ct=>wT G t ρ M λr M=>bK r (d8 G a ρ M nx rt bk ct) (d8 G b ρ M nx rt bk ct)
 | .eG tg k cM b,ρ,M,nx,rt,bk,ct=>AZ G cM ρ M λws M=>AX k ws M λit M=>fg (dH (λρ M=>bR G b ρ M) it tg (cR M it) 0 ρ M) nx rt bk ct
 | .IT n t b,ρ,M,nx,rt,bk,ct=>fg (AV (λρ M=>dS G t ρ M) (λρ M=>bR G b ρ M) n ρ M) nx rt bk ct
 | .G9 a f c,ρ,M,_,_,_,_=>uY G c ρ M λds M=>Er.er ⟨a,f.zip ds⟩ M
 | .oZ b cb mt j h,ρ,M,nx,rt,bk,ct=>fg (gM G (.oZ b cb mt j h) ρ M) nx rt bk ct
 | .never,_,_,_,_,_,_=>False
 | .pass,ρ,M,nx,_,_,_=>nx ρ M
 | .brk,ρ,M,_,_,bk,_=>bk ρ M
 | .cont,ρ,M,_,_,_,ct=>ct ρ M
noncomputable def d8(G:a8):List S->En->ag->(En->ag->Prop)->(W->ag->Prop)->(En->ag->Prop)->(En->ag->Prop)->Prop
 | [],ρ,M,nx,_,_,_=>nx ρ M
 | s::ss,ρ,M,nx,rt,bk,ct=>wS G s ρ M (λρ M=>d8 G ss ρ M nx rt bk ct) rt bk ct
end
section
variable {G:a8} {lo hi:Option C} {cond:Option ef} {nx bk ct:En->ag->Prop} {rt:W->ag->Prop}
theorem Ma:wS G (.asg tg c) ρ M nx u0 u1 u2=wE G c ρ M λw M=>dO (own w M) λd M=>I_ (bM tg d ρ) λρ=>nx ρ M:=rfl
theorem Hx:wS G (.jT i c) ρ M nx u0 u1 u2=wE G c ρ M λw M=>dO (own w M) λd M=>nx (ρ.set i (some d)) M:=rfl
theorem Mb:wS G (.put o i v) ρ M nx u0 u1 u2=wE G v ρ M λw M=>dO (own w M) λd M=>wE G o ρ M λx M=>wE G i ρ M λy M=>dO (jJ x y d M) λ_ M=>nx ρ M:=rfl
theorem Hy:wS G (.dput o i v) ρ M nx u0 u1 u2=wE G v ρ M λw M=>dO (own w M) λd M=>wE G o ρ M λx M=>wE G i ρ M λy M=>dO (yp x y d M) λ_ M=>nx ρ M:=rfl
theorem Mc:wS G (.par i j a b) ρ M nx u0 u1 u2=wE G a ρ M λw M=>dO (own w M) λx M=>wE G b ρ M λw M=>dO (own w M) λy M=>nx ((ρ.set i (some x)).set j (some y)) M:=rfl
theorem Md:wS G (.iff t a b) ρ M nx rt bk ct=wT G t ρ M λr M=>bK r (d8 G a ρ M nx rt bk ct) (d8 G b ρ M nx rt bk ct):=rfl
theorem Hz:wS G (.eG tg k cM b) ρ M nx rt bk ct=AZ G cM ρ M λws M=>AX k ws M λit M=>fg (dH (λρ M=>bR G b ρ M) it tg (cR M it) 0 ρ M) nx rt bk ct:=rfl
theorem Mf:wS G (.IT n t b) ρ M nx rt bk ct=fg (AV (λρ M=>dS G t ρ M) (λρ M=>bR G b ρ M) n ρ M) nx rt bk ct:=rfl
theorem Mg{f:List Str}{c:List C}:wS G (.G9 a f c) ρ M u0 u1 u2 u3=uY G c ρ M λds M=>Er.er ⟨a,f.zip ds⟩ M:=rfl
end
mutual
theorem YM{G:a8}:∀(s:S)(ρ:En)(M:ag)(nx:En->ag->Prop)(rt:W->ag->Prop)(bk ct:En->ag->Prop),fg (gM G s ρ M) nx rt bk ct=wS G s ρ M nx rt bk ct
 | .asg tg c,ρ,M,nx,rt,bk,ct=>by
  simp only[yO,dZ,Ma];rw[u4]
  congr 1;funext w M
  congr 1;funext d M
  cases bM tg d ρ with
  | none=>exact dX
  | some ρ=>exact dW
 | .jT i c,ρ,M,nx,rt,bk,ct=>by rw[LR,gO c];simp only[bg,Hx]
 | .put o i v,ρ,M,nx,rt,bk,ct=>by rw[PL,gO v];simp only[gO o,gO i,bg,Mb]
 | .dput o i v,ρ,M,nx,rt,bk,ct=>by
  simp only[DG,dZ,Hy];rw[u4];simp only[gO o,gO i,bg,dW]
 | .par i j a b,ρ,M,nx,rt,bk,ct=>by
  simp only[G_,dZ];rw[rR];show wE G a ρ M (λw M=>dO (own w M) λx M=>wE G b ρ M λw M=>dO (own w M) λy M=>fg (.nx ((ρ.set i (some x)).set j (some y)) M) nx rt bk ct)=_;simp only[dW,Mc]
 | .expr c,ρ,M,nx,rt,bk,ct=>by rw[LS,gO c];rfl
 | .ret c,ρ,M,nx,rt,bk,ct=>by rw[PM,gO c];rfl
 | .AU,ρ,M,nx,rt,bk,ct=>jf
 | .iff t a b,ρ,M,nx,rt,bk,ct=>by rw[UB,L_ t];simp only[wU a,wU b,Md,DS]
 | .eG tg k cM b,ρ,M,nx,rt,bk,ct=>by rw[PN,DY cM];simp only[bg,Hz,yV]
 | .IT n t b,ρ,M,nx,rt,bk,ct=>by simp only[Ha,Mf]
 | .G9 a f c,ρ,M,nx,rt,bk,ct=>by
  simp only[yS,dZ];rw[rR];simp only[jg,Mg]
 | .oZ b cb mt j h,ρ,M,nx,rt,bk,ct=>rfl
 | .never,ρ,M,nx,rt,bk,ct=>dX
 | .pass,ρ,M,nx,rt,bk,ct=>dW
 | .brk,ρ,M,nx,rt,bk,ct=>nH
 | .cont,ρ,M,nx,rt,bk,ct=>nI
theorem wU{G:a8}:∀(ss:List S)(ρ:En)(M:ag)(nx:En->ag->Prop)(rt:W->ag->Prop)(bk ct:En->ag->Prop),fg (bR G ss ρ M) nx rt bk ct=d8 G ss ρ M nx rt bk ct
 | [],ρ,M,nx,rt,bk,ct=>PQ
 | s::ss,ρ,M,nx,rt,bk,ct=>by rw[LU,YM s];simp only[wU ss];rfl
end
theorem ba{G:a8}{n:Nat}{b:List S}{ds:List D}{M:ag}{P:W->ag->Prop}:aO (ai G n b ds M) P=d8 G b (gu n ds) M (λ_ M=>P (.d .a6) M) P (λ_ _=>False) (λ_ _=>False):=by
 rw[Hj,wU]
end
section
variable [er:Er]
abbrev Fn:=List D->ag->bF W
noncomputable def Fr(w:Nat)(M M':ag):Prop:=M.length<=M'.length/\∀n,n<M.length->n≠w->M'[n]?=M[n]?
abbrev Ex(M M':ag):Prop:=Fr M.length M M'
theorem bB{M:ag}{n:Nat}{o:MO}(h:M[n]?=some o):n<M.length:=(cP.mp h).1
theorem cX{M X:ag}{n:Nat}{o:MO}(h:M[n]?=some o):(M++X)[n]?=some o:=by rw[gH (bB h)];exact h
theorem aQ{M:ag}{o:MO}:(M++[o])[M.length]?=some o:=by simp
theorem jU{M:ag}{n m:Nat}{o u:MO}(h:M[n]?=some o)(hn:n≠m):(M.set m u)[n]?=some o:=by rw[mq (fk hn)];exact h
theorem dI{M:ag}{n:Nat}{o u:MO}(h:M[n]?=some o):(M.set n u)[n]?=some u:=vt (bB h)
theorem Fr.refl(w:Nat)(M:ag):Fr w M M:=⟨aq _,λ_ _ _=>rfl⟩
theorem Fr.trans{w:Nat}{M M1 M2:ag}(a:Fr w M M1)(b:Fr w M1 M2):Fr w M M2:=⟨bH a.1 b.1,λn h k=>(b.2 n (eZ h a.1) k).trans (a.2 n h k)⟩
theorem Fr.app{w:Nat}{M M1 X:ag}(a:Fr w M M1):Fr w M (M1++X):=⟨by have:=a.1;simp only[dv];omega,λn h k=>by rw[gH (eZ h a.1)];exact a.2 n h k⟩
theorem Fr.set{w n:Nat}{M M1:ag}{o:MO}(a:Fr w M M1)(h:M.length<=n):Fr w M (M1.set n o):=⟨by rw[sY];exact a.1,λm hm k=>by rw[mq ∅];exact a.2 m hm k⟩
theorem Fr.UC{w:Nat}{M M1:ag}{o:MO}(a:Fr w M M1):Fr w M (M1.set w o):=⟨by rw[sY];exact a.1,λm hm k=>by rw[mq (fk k)];exact a.2 m hm k⟩
theorem Fr.get{w n:Nat}{M M1:ag}{o:MO}(a:Fr w M M1)(h:M[n]?=some o)(k:n≠w):M1[n]?=some o:=(a.2 n (bB h) k).trans h
theorem Fr.back{w v:Nat}{M M1 M2:ag}(a:Fr w M M1)(b:Fr v M1 M2)(h:M.length<=v\/v=w):Fr w M M2:=⟨bH a.1 b.1,λn hn k=>(b.2 n (eZ hn a.1) ∅).trans (a.2 n hn k)⟩
theorem Ex.refl(M:ag):Ex M M:=Fr.refl _ M
theorem Ex.get{n:Nat}{M M1:ag}{o:MO}(a:Ex M M1)(h:M[n]?=some o):M1[n]?=some o:=Fr.get a h (bW (bB h))
theorem Ex.trans{M M1 M2:ag}(a:Ex M M1)(b:Ex M1 M2):Ex M M2:=Fr.back a b (.inl a.1)
theorem Fr.ex{w:Nat}{M M1 M2:ag}(a:Fr w M M1)(b:Ex M1 M2)(h:w<M.length\/M.length<=w):Fr w M M2:=Fr.back a b (.inl a.1)
section
variable {M:ag} {n:Nat} {ds:List D} {i:Int} {x:D}
theorem yW(hi:0<=i)(h:ds[i.toNat]?=some x):Q3 ds i=some x:=by
 have hl:=(cP.mp h).1;unfold Q3 tW FZ;rw[aT hi,aT ∅];exact h
theorem cC(hM:M[n]?=some (.lst ds))(hi:0<=i)(h:ds[i.toNat]?=some x):d6 (.d (.aJ n)) (.d (.int i)) M=.ok (.d x) M:=by
 unfold d6 bC;simp only[hM,yW hi h]
theorem nM(hi:0<=i)(h:ds[i.toNat]?=some x):d6 (.lv ds) (.d (.int i)) M=.ok (.d x) M:=by
 unfold d6 bC;simp only[yW hi h]
theorem yX(hi:0<=i)(h:ds[i.toNat]?=some x):d6 (.d (.tup ds)) (.d (.int i)) M=.ok (.d x) M:=by
 unfold d6 bC;simp only[yW hi h]
theorem DZ{m:Nat}(h:ds[m]?=some x):d6 (.d (.tup ds)) (.d (.int m)) M=.ok (.d x) M:=yX (Int.natCast_nonneg m) (by rw[mw];exact h)
theorem Mh(hi:0<=i)(h:ds[i.toNat]?=some x):d6 (.d (.ls ds)) (.d (.int i)) M=.ok (.d x) M:=by
 unfold d6 bC;simp only[yW hi h]
theorem fV(hM:M[n]?=some (.lst ds))(hl:ds.length<sizeLine):sL .append (.d (.aJ n)) [x] M=.ok (.d .a6) (M.set n (.lst (ds++[x]))):=by
 unfold sL;simp only[hM,aT hl]
theorem u5(hM:M[n]?=some (.lst ds))(hl:ds.length<sizeLine)(h0:0<=i)(h1:i<=ds.length):sL .insert (.d (.aJ n)) [.int i,x] M=.ok (.d .a6) (M.set n (.lst (ds.take i.toNat++x::ds.drop i.toNat))):=by
 unfold sL;simp only[hM];rw[aT ⟨hl,h0,h1⟩]
theorem d9(hM:M[n]?=some (.lst ds)):(df M (.d (.aJ n))).isSome=true:=by unfold df;simp only[hM];rfl
theorem cD(hM:M[n]?=some (.lst ds)):fG .len [.d (.aJ n)] M=.ok (.d (.int ds.length)) M:=by unfold fG bC;simp only[hM]
theorem eL(hM:M[n]?=some (.lst ds)):fG .tuple1 [.d (.aJ n)] M=.ok (.d (.tup ds)) M:=by unfold fG bC;simp only[hM]
theorem Mi(hM:M[n]?=some (.lst ds)):jI .seq [.d (.aJ n)] M=.ok (.at n) M:=by
 unfold jI bC;simp only[hM];rfl
theorem UD(hM:M[n]?=some (.lst ds)):cR M (.at n)=ds.length:=by unfold cR;simp only[hM]
end
theorem ar{n:Nat}(h:n<=1000):n<=sizeLine:=bH h (by decide)
theorem bJ{n:Nat}(h:n<=1000):n<sizeLine:=JC h (by decide)
theorem kO{α:Type}{l:List α}{k:Nat}{x:α}(h:l[k]?=some x):l.take (k+1)=l.take k++[x]:=by
 rw[List.take_add_one,h];rfl
theorem rS{x:Str}(h:PyData.strOk x=true):SeqAt.shaped (.str x)=true:=by
 unfold SeqAt.shaped;rw[PyData.canLay0.eq_4,h,PyData.depth.eq_7];rfl
theorem yY{x y:Str}:PyData.eqv (.str x) (.str y)=(x==y):=PyData.eqv.eq_6 x y
theorem D0{M:ag}{x:Str}:lH M (.d (.str x))=some (.str x):=by show dB M 30 (.str x)=_;unfold dB;rfl
theorem jV{M:ag}{x y:Str}(hx:PyData.strOk x=true)(hy:PyData.strOk y=true):bG .eq (.d (.str x)) (.d (.str y)) M=.ok (x==y) M:=by
 unfold bG;simp only[D0,rS hx,rS hy,qk,fm,yY]
theorem D1{M:ag}{x y:Str}(hx:PyData.strOk x=true)(hy:PyData.strOk y=true):bG .ne (.d (.str x)) (.d (.str y)) M=.ok (!(x==y)) M:=by
 unfold bG;simp only[D0,rS hx,rS hy,qk,fm,yY]
section
variable {G:a8} {b:List S} {tg:List Nat} {ρ:En} {M:ag} {nx:En->ag->Prop} {rt:W->ag->Prop} {bk ct:En->ag->Prop}
theorem kZ{lo:Int}{n:Nat}(I:Nat->En->ag->Prop)(h0:I 0 ρ M)(hs:∀i ρ M,i<n->I i ρ M->I_ (bM tg (.int (lo+i)) ρ) λρ=>d8 G b ρ M (I (i+1)) rt nx (I (i+1)))(he:∀ρ M,I n ρ M->nx ρ M):fg (dH (λρ M=>bR G b ρ M) (.jl lo n) tg n 0 ρ M) nx rt bk ct:=by
 have aY:((List.range n).map λi=>D.int (lo+(i:Nat))).length=n:=by simp
 refine nJ (ds:=(List.range n).map λi=>D.int (lo+(i:Nat))) I (λi ρ M _ hi=>?_) (λi ρ M d h e=>?_) (λρ M h=>he ρ M (by rw[aY]at h;exact h)) n 0 ρ M h0 (by rw[aY];omega)
 ·rw[aY]at hi;show some (if i<n then some (D.int (lo+i)) else none)=_;by_cases q:i<n
  ·rw[aT q];simp[q]
  ·rw[aU q,ml (by rw[aY];omega)]
 ·have hi:i<n:=by have:=(cP.mp e).1;rw[aY]at this;exact this
  have:d=.int (lo+i):=by rw[dy,E5 hi]at e;exact(cH e).symm
  subst this;have q:=hs i ρ M hi h
  cases e2:bM tg (.int (lo+i)) ρ with
  | none=>rw[e2]at q;exact q.elim
  | some dY=>rw[e2]at q;exact⟨dY,rfl,by rw[wU];exact q⟩
theorem lY{ds:List D}(I:Nat->En->ag->Prop)(h0:I 0 ρ M)(hs:∀i ρ M d,ds[i]?=some d->I i ρ M->I_ (bM tg d ρ) λρ=>d8 G b ρ M (I (i+1)) rt nx (I (i+1)))(he:∀ρ M,I ds.length ρ M->nx ρ M):fg (dH (λρ M=>bR G b ρ M) (.items ds) tg ds.length 0 ρ M) nx rt bk ct :=
 nJ (ds:=ds) I (λi ρ M _ _=>rfl) (λi ρ M d h e=>by
  have q:=hs i ρ M d e h
  cases e2:bM tg d ρ with
  | none=>rw[e2]at q;exact q.elim
  | some dY=>rw[e2]at q;exact⟨dY,rfl,by rw[wU];exact q⟩) he ds.length 0 ρ M h0 ∅
theorem UE{n:Nat}{ds:List D}(I:Nat->En->ag->Prop)(hM:∀i ρ M,I i ρ M->M[n]?=some (.lst ds))(h0:I 0 ρ M)(hs:∀i ρ M d,ds[i]?=some d->I i ρ M->I_ (bM tg d ρ) λρ=>d8 G b ρ M (I (i+1)) rt nx (I (i+1)))(he:∀ρ M,I ds.length ρ M->nx ρ M):fg (dH (λρ M=>bR G b ρ M) (.at n) tg (cR M (.at n)) 0 ρ M) nx rt bk ct:=by
 rw[UD (hM 0 ρ M h0)]
 exact nJ (ds:=ds) I (λi ρ M h _=>by unfold itemAt;simp only[hM i ρ M h]) (λi ρ M d h e=>by
  have q:=hs i ρ M d e h
  cases e2:bM tg d ρ with
  | none=>rw[e2]at q;exact q.elim
  | some dY=>rw[e2]at q;exact⟨dY,rfl,by rw[wU];exact q⟩) he ds.length 0 ρ M h0 ∅
end
theorem nN:∀(tg:List Nat)(ds:List D)(ρ:En)(i:Nat)(o:Option D),i∉tg->dC tg ds (ρ.set i o)=(dC tg ds ρ).map (·.set i o)
 | [],[],_,_,_,_=>rfl
 | [],_::_,_,_,_,_=>rfl
 | _::_,[],_,_,_,_=>rfl
 | j::tg,d::ds,ρ,i,o,h=>by
  have h1:i≠j:=λz=>h (by rw[z];exact du);show dC tg ds ((ρ.set i o).set j (some d))=_;rw[List.set_comm _ _ h1,nN tg ds _ i o λz=>h (cZ _ z)];rfl
theorem gz:∀(tg:List Nat)(ds es:List D)(ρ dY:En),tg.Nodup->dC tg ds ρ=some dY->dC tg es dY=dC tg es ρ
 | [],[],[],_,_,_,e=>by cases e;rfl
 | [],[],_::_,_,_,_,e=>by cases e;rfl
 | [],_::_,_,_,_,_,e=>by cases e
 | _::_,[],_,_,_,_,e=>by cases e
 | j::tg,d::ds,[],ρ,dY,n,e=>rfl
 | j::tg,d::ds,f::es,ρ,dY,n,e=>by
  have n1:=zx.mp n;have e:dC tg ds (ρ.set j (some d))=some dY:=e;show dC tg es (dY.set j (some f))=dC tg es (ρ.set j (some f));have e2:=nN tg ds (ρ.set j (some d)) j (some f) n1.1;rw[e,List.set_set]at e2;exact gz tg ds es _ _ n1.2 e2
theorem u6{tg:List Nat}{d e:D}{ρ dY:En}(n:tg.Nodup)(h:bM tg d ρ=some dY):bM tg e dY=bM tg e ρ:=by
 match tg,n,h with
 | [i],_,h =>
  have h:some (ρ.set i (some d))=some dY:=h;cases h;show some ((ρ.set i (some d)).set i (some e))=some (ρ.set i (some e));rw[List.set_set]
 | [],_,h =>
  cases d<;>first | cases h | skip
  cases e<;>first | rfl | skip
  exact gz [] _ _ _ _ List.nodup_nil h
 | i::j::tg,n,h =>
  cases d<;>first | cases h | skip
  cases e<;>first | rfl | skip
  exact gz (i::j::tg) _ _ _ _ n h
end
section
variable {ee:AB->ag->Prop} {G:a8} {cond:Option ef} {elt:C} {tg:List Nat} {ρ:En} {M:ag} {P:W->ag->Prop}
theorem pZ{it:It}{ds:List D}(I:Nat->ag->List D->Prop)(n:tg.Nodup)(hit:∀i M aE,I i M aE->i<=ds.length->itemAt M i it=some ds[i]?)(h0:I 0 M [])(hs:∀i M aE d,ds[i]?=some d->I i M aE->aE.length<sizeLine/\I_ (bM tg d ρ) λτ=>nL G cond τ M λr M=>if r=true then wE G elt τ M λw M=>dO (own w M) λx M=>I (i+1) M (aE++[x]) else I (i+1) M aE)(he:∀M aE,I ds.length M aE->P (.lv aE) M){k:Nat}(hk:k=ds.length):@aO ⟨ee⟩ _ (bq (λτ M=>bP G cond τ M) (λτ M=>(ev G elt τ M).bind own) it tg k 0 ρ M []) P:=by
 subst hk;refine rO (er:=⟨ee⟩) (ds:=ds) (λi τ M aE=>I i M aE/\(τ=ρ\/∃d,bM tg d ρ=some τ)) (λi τ M aE h hi=>hit i M aE h.1 hi) (λi τ M aE d h e=>?_) (λτ M aE h=>he M aE h.1) ds.length 0 ρ M [] ⟨h0,.inl rfl⟩ ∅;obtain⟨q1,q2⟩:=hs i M aE d e h.1
 have hb:bM tg d τ=bM tg d ρ:=by
  rcases h.2 with z | ⟨d',z⟩
  ·rw[z]
  ·exact u6 n z
 refine⟨q1,?_⟩
 cases e2:bM tg d ρ with
 | none=>rw[e2]at q2;exact q2.elim
 | some Jb =>
  rw[e2]at q2;refine⟨Jb,by rw[hb,e2],?_⟩;have q2:nL G cond Jb M (λr M=>if r=true then wE G elt Jb M λw M=>dO (own w M) λx M=>I (i+1) M (aE++[x]) else I (i+1) M aE):=q2;rw[<- w_cond]at q2;refine q2.imp λr M1 q3=>?_
  cases r with
  | true =>
   rw[aT rfl]at q3⊢;rw[u4];rw[<- u4]at q3⊢;exact q3.imp λx M2 q4=>⟨q4,.inr ⟨d,e2⟩⟩
  | false =>
   rw[aU (by simp)]at q3⊢;exact⟨q3,.inr ⟨d,e2⟩⟩
theorem fh{it:It}{ds:List D}(f:D->Option D)(n:tg.Nodup)(hit:∀M',Ex M M'->∀i,i<=ds.length->itemAt M' i it=some ds[i]?)(hl:ds.length<=sizeLine)(hs:∀(i:Nat) M' d,ds[i]?=some d->Ex M M'->I_ (bM tg d ρ) λτ=>nL G cond τ M' λr M1=>if r=true then wE G elt τ M1 λw M1=>dO (own w M1) λx M1=>f d=some x/\Ex M M1 else f d=none/\Ex M M1)(he:∀M',Ex M M'->P (.lv (ds.filterMap f)) M'){k:Nat}(hk:k=ds.length):@aO ⟨ee⟩ _ (bq (λτ M=>bP G cond τ M) (λτ M=>(ev G elt τ M).bind own) it tg k 0 ρ M []) P:=by
 refine pZ (ee:=ee) (ds:=ds) (λi M' aE=>Ex M M'/\aE=(ds.take i).filterMap f) n (λi M' aE h hi=>hit M' h.1 i hi) ⟨Ex.refl M,rfl⟩ ?_ (λM' aE h=>?_) hk
 ·rintro i M' aE d hd ⟨h1,rfl⟩;have hi:=(cP.mp hd).1;refine⟨?_,?_⟩
  ·have:=List.length_filterMap_le f (ds.take i);rw[j9]at this;omega
  ·have q:=hs i M' d hd h1
   have e:∀o,f d=o->(ds.take (i+1)).filterMap f=(ds.take i).filterMap f++o.toList:=λo ho=>by
    rw[kO hd,List.filterMap_append];cases o<;>simp[lg,ho]
   cases e2:bM tg d ρ with
   | none=>rw[e2]at q;exact q.elim
   | some Jb =>
    rw[e2]at q;have q:nL G cond Jb M' (λr M1=>if r=true then wE G elt Jb M1 λw M1=>dO (own w M1) λx M1=>f d=some x/\Ex M M1 else f d=none/\Ex M M1):=q;show nL G cond Jb M' (λr M1=>if r=true then wE G elt Jb M1 λw M1=>dO (own w M1) λx M1=>Ex M M1/\(ds.take i).filterMap f++[x]=(ds.take (i+1)).filterMap f else Ex M M1/\(ds.take i).filterMap f=(ds.take (i+1)).filterMap f);rw[<- w_cond]at q⊢;refine q.imp λr M1 q3=>?_
    cases r with
    | true =>
     rw[aT rfl]at q3⊢;rw[<- u4]at q3⊢;exact q3.imp λx M2 q4=>⟨q4.2,by rw[e _ q4.1];rfl⟩
    | false =>
     rw[aU (by simp)]at q3⊢;exact⟨q3.2,by rw[e _ q3.1];simp⟩
 ·obtain⟨h1,rfl⟩:=h;rw[List.take_length];exact he M' h1
theorem cT{M:ag}{ds:List D}:∀M',Ex M M'->∀i,i<=ds.length->itemAt M' i (.items ds)=some ds[i]?:=λ_ _ _ _=>rfl
theorem Mj{M:ag}{lo:Int}{n:Nat}:∀M',Ex M M'->∀i,i<=((List.range n).map λi=>D.int (lo+(i:Nat))).length->itemAt M' i (.jl lo n)=some ((List.range n).map λi=>D.int (lo+(i:Nat)))[i]?:=λM' e i hi=>by
 have aY:((List.range n).map λi=>D.int (lo+(i:Nat))).length=n:=by simp
 rw[aY]at hi;show some (if i<n then some (D.int (lo+i)) else none)=_;by_cases q:i<n
 ·rw[aT q];simp[q]
 ·rw[aU q,ml (by rw[aY];omega)]
theorem D2{lo:Int}{n:Nat}(I:Nat->ag->List D->Prop)(nd:tg.Nodup)(h0:I 0 M [])(hs:∀i M aE,i<n->I i M aE->aE.length<sizeLine/\I_ (bM tg (.int (lo+i)) ρ) λτ=>nL G cond τ M λr M=>if r=true then wE G elt τ M λw M=>dO (own w M) λx M=>I (i+1) M (aE++[x]) else I (i+1) M aE)(he:∀M aE,I n M aE->P (.lv aE) M):@aO ⟨ee⟩ _ (bq (λτ M=>bP G cond τ M) (λτ M=>(ev G elt τ M).bind own) (.jl lo n) tg (cR M (.jl lo n)) 0 ρ M []) P:=by
 have aY:((List.range n).map λi=>D.int (lo+(i:Nat))).length=n:=by simp
 refine pZ (ee:=ee) (ds:=(List.range n).map λi=>D.int (lo+(i:Nat))) I nd (λi M' aE _ hi=>Mj M' (Ex.refl M') i hi) h0 (λi M' aE d e h=>?_) (λM' aE h=>he M' aE (by rw[aY]at h;exact h)) (by rw[aY];rfl);have hi:i<n:=by have:=(cP.mp e).1;rw[aY]at this;exact this
 have:d=.int (lo+i):=by rw[dy,E5 hi]at e;exact(cH e).symm
 subst this;exact hs i M' aE hi h
theorem D3{M:ag}{xs ys:List D}:∀M',Ex M M'->∀i,i<=(List.zipWith (λa b=>D.tup [a,b]) xs ys).length->itemAt M' i (.zip (.items xs) (.items ys))=some (List.zipWith (λa b=>D.tup [a,b]) xs ys)[i]?:=λM' _ i _=>by
 show some (kW xs ys i)=_;unfold kW;rw[sS];cases xs[i]? <;> cases ys[i]? <;> rfl
end
section
variable [er:Er]
section
variable {G:a8} {ρ:En} {M:ag} {P:W->ag->Prop} {B:Bool->ag->Prop}
theorem uq{a b:C}:wE G (.sub a b) ρ M P=wE G a ρ M λx M=>wE G b ρ M λy M=>dO (d6 x y M) P:=rfl
theorem CH{f:Nat}{cs:List C}:wE G (.call f cs) ρ M P=uY G cs ρ M λds M=>aO (G f ds M) P:=rfl
end
end
end Ev
end
local macro_rules
  | `(tactic| nofun) => `(tactic| conv => whnf)
section
namespace Ev
open L2
open PySem PySem.Spec PyProof.Rows
noncomputable def D4:List S:=[.asg [2] (.bin .mul (.kn 31) 1),.iff (.val (.cmp .gt (.bi .len [0]) (.kn 0))) [.asg [2] (.bin .add (.sub 0 (.bin .mod 1 (.bi .len [0]))) (.bin .mul (.kn 7919) (.bin .fdiv 1 (.bi .len [0]))))] [],.ret (.yn ["cell","left","turn"] [2,(.bin .mul (.bi .max2 [(.kn 0),2]) (.bi .uB [(.cmp .ge 2 (.bin .pow (.kn 10) (.kn 18)))])),(.kn 0)])]
noncomputable def yZ:List S:=[.asg [2] (.sub 0 (.bx (.str "turn"))),.put 0 (.bx (.str "turn")) (.bin .add 2 (.kn 1)),.asg [3] (.sub 0 (.bx (.str "left"))),.iff (.val (.cmp .gt 3 (.kn 0))) [.put 0 (.bx (.str "left")) (.bin .fdiv 3 1),.ret (.bin .mod 3 1)] [],.asg [4] (.bin .add (.bin .add (.bin .mod (.sub 0 (.bx (.str "cell"))) (.kn 2147483647)) (.bin .mul (.bin .mul (.kn 31) 2) 2)) (.kn 1)),.asg [5] (.bin .mod (.bin .mul 4 (.bin .add (.kn 48271) (.bin .mul (.kn 40) 2))) (.kn 2147483629)),.ret (.bin .mod (.bin .fdiv (.bin .mod (.bin .add (.bin .mul (.bin .fdiv 5 (.kn 11)) (.kn 69621)) 2) (.kn 998244353)) (.kn 7)) 1)]
noncomputable def wV(aH:Nat):List S:=[.asg [2] (.lst []),.iff (.val (.cmp .gt 1 (.kn 1))) [.asg [3] (.lst [(.call aH [0,(.kn 4)]),(.bin .add (.kn 1) (.call aH [0,(.kn 5)])),(.kn 8)]),.eG [4] .fB [(.sub 3 (.bin .fdiv (.call aH [0,(.kn 9)]) (.kn 4)))] [.asg [5] (.call aH [0,1]),.asg [6] (.bin .mod (.bin .add (.bin .add 5 (.kn 1)) (.call aH [0,(.bin .sub 1 (.kn 1))])) 1),.expr (.me .append 2 [(.tup [5,6,(.sub (.lst [(.bx (.str "row")),(.bx (.str "heap"))]) (.call aH [0,(.kn 2)]))])])]] [],.ret (.bi .tuple1 [2])]
noncomputable def rT(aH:Nat):List S:=[.asg [1] (.lst [(.call aH [0,(.kn 100)])]),.asg [2] (.lst [(.call aH [0,(.kn 3)]),(.kn 6)]),.eG [3] .fB [(.sub 2 (.bin .fdiv (.call aH [0,(.kn 16)]) (.kn 15)))] [.asg [4] (.sub (.lst [(.call aH [0,(.kn 100)]),3]) (.call aH [0,(.kn 2)])),.iff (.val (.cmp .iK 4 1)) [.expr (.me .append 1 [4])] []],.ret 1]
noncomputable def wW(aH:Nat):List S:=[.asg [2] (.lst []),.eG [3] .fB [(.bin .mul (.sub (.lst [(.kn 0),(.kn 0),(.kn 1),(.kn 1),(.kn 1),(.kn 2),(.kn 3)]) (.call aH [0,(.kn 7)])) (.bi .uB [(.cmp .gt (.bi .len [1]) (.kn 0))]))] [.asg [4] (.sub 1 (.call aH [0,(.bi .len [1])])),.expr (.me .append 2 [(.tup [4,(.sub (.bx (.str "abcz")) (.call aH [0,(.kn 4)]))])])],.ret (.bi .tuple1 [2])]
def wX(aH:Nat)(nO:Nat):List S:=[.asg [3] (.lst [(.bx .a6),(.bx .a6),(.bx .a6),(.bx (.str "x")),(.bx (.str "yes")),(.bx (.str "abcdefgh")),(.bx (.str "own")),(.bx (.str "a"))]),.asg [4] (.lst []),.eG [5] .seq [1] [.eG [6] .seq [(.tup [(.bx (.str "own")),(.bx (.str "a")),(.bx (.str "b")),(.bx (.str "z"))])] [.iff (.val (.cmp .gt (.call aH [0,(.kn 4)]) (.kn 0))) [.asg [7] (.sub 1 (.call aH [0,(.bi .len [1])])),.asg [8] (.call nO [0,2]),.asg [9] (.sub 3 (.call aH [0,(.kn 8)])),.asg [10] (.call aH [0,(.bin .add (.bi .len [4]) (.kn 1))]),.expr (.me .insert 4 [10,(.tup [5,6,7,8,9])])] []]],.ret (.bi .tuple1 [4])]
noncomputable def y3(dt:Nat)(aH:Nat)(jh:Nat)(cY:Nat)(eA:Nat):List S:=[.asg [1] (.call dt [0,(.kn 0)]),.asg [2] (.sub (.lst [(.kn 2),(.kn 1),(.kn 3),(.kn 2),(.kn 4),(.kn 3)]) (.call aH [1,(.kn 6)])),.asg [3] (.call jh [1,2]),.asg [4] (.lst []),.eG [5] .fB [2] [.asg [1] (.call dt [0,(.bin .add (.kn 1) 5)]),.asg [6] (.call cY [1]),.jT 7 (.comp .fB [(.bi .len [3])] [1] (some (.val (.cmp .eq (.sub (.sub 3 1) (.kn 0)) 2))) 1 [none,none,some 5,some 3]),.asg [8] (.sub 6 (.call aH [1,(.bi .len [6])])),.expr (.me .append 4 [(.tup [8,(.call eA [1,6,7])])])],.ret (.tup [(.bi .tuple1 [4]),3])]
noncomputable def gG(c l t:Int):MO:=.dK [(Sum.inr ("cell" : Str),.int c),(Sum.inr ("left" : Str),.int l),(Sum.inr ("turn" : Str),.int t)]
section
variable {M:ag} {w:Nat} {c l t:Int}
theorem D5(h:M[w]?=some (gG c l t)):d6 (.d (.aJ w)) (.d (.str "cell")) M=.ok (.d (.int c)) M:=by
 unfold d6;simp only[h];rfl
theorem D6(h:M[w]?=some (gG c l t)):d6 (.d (.aJ w)) (.d (.str "left")) M=.ok (.d (.int l)) M:=by
 unfold d6;simp only[h];rfl
theorem D7(h:M[w]?=some (gG c l t)):d6 (.d (.aJ w)) (.d (.str "turn")) M=.ok (.d (.int t)) M:=by
 unfold d6;simp only[h];rfl
theorem D8(h:M[w]?=some (gG c l t))(i:Int):jJ (.d (.aJ w)) (.d (.str "left")) (.int i) M=.ok () (M.set w (gG c i t)):=by
 unfold jJ;simp only[h];rfl
theorem D9(h:M[w]?=some (gG c l t))(i:Int):jJ (.d (.aJ w)) (.d (.str "turn")) (.int i) M=.ok () (M.set w (gG c l i)):=by
 unfold jJ;simp only[h];rfl
end
theorem HA{G:a8}{M:ag}{w:Nat}{c l t many:Int}(h:M[w]?=some (gG c l t))(ht:0<=t/\t<2 ^ 40)(hl:0<=l)(hm:0<many/\many<1073741824):aO (ai G 6 yZ [.aJ w,.int many] M) λr M'=>∃i l',r=.d (.int i)/\0<=i/\i<many/\0<=l'/\M'=M.set w (gG c l' (t+1)):=by
 have hw:w<M.length:=(cP.mp h).1;rw[ba];show d8 G yZ [some (.aJ w),some (.int many),none,none,none,none] M _ _ _ _;have h1:(M.set w (gG c l (t+1)))[w]?=some (gG c l (t+1)):=vt hw;nofun;rw[D7 h];nofun;rw[D9 h];nofun;rw[D6 h1];nofun;by_cases hp:0<l
 ·rw[dQ hp];nofun;refine⟨hm,?_⟩;nofun;rw[D8 h1];nofun;refine⟨hm.1,_,l / many,rfl,Fj _ ∅,Fa _ hm.1,Int.ediv_nonneg hl ∅,?_⟩;rw[List.set_set]
 ·rw[cx hp];nofun;rw[D5 h1];nofun;refine⟨∅,?_⟩;nofun;refine⟨∅,?_⟩;nofun;refine⟨∅,?_⟩;nofun;refine⟨∅,?_⟩;nofun;refine⟨∅,?_⟩;nofun;refine⟨∅,?_⟩;nofun;refine⟨∅,?_⟩;nofun;refine⟨∅,?_⟩;nofun;refine⟨∅,?_⟩;nofun;refine⟨∅,?_⟩;nofun;exact⟨hm.1,_,l,rfl,Fj _ ∅,Fa _ hm.1,hl,rfl⟩
def WA(M:ag)(w:Nat)(T:Int):Prop:=∃c l t,M[w]?=some (gG c l t)/\0<=l/\0<=t/\t<=T
theorem WA.lt{M:ag}{w:Nat}{T:Int}(h:WA M w T):w<M.length:=by obtain⟨c,l,t,h,_⟩:=h;exact bB h
theorem WA.app{M X:ag}{w:Nat}{T:Int}(h:WA M w T):WA (M++X) w T:=by obtain⟨c,l,t,h,q⟩:=h;exact⟨c,l,t,cX h,q⟩
theorem WA.set{M:ag}{w n:Nat}{T:Int}{o:MO}(h:WA M w T)(k:w≠n):WA (M.set n o) w T:=by obtain⟨c,l,t,h,q⟩:=h;exact⟨c,l,t,jU h k,q⟩
theorem WA.mono{M:ag}{w:Nat}{T T2:Int}(h:WA M w T)(k:T<=T2):WA M w T2:=by obtain⟨c,l,t,h,a,b,q⟩:=h;exact⟨c,l,t,h,a,b,Int.le_trans q k⟩
theorem WA.fr{M M1:ag}{w v:Nat}{T:Int}(h:WA M w T)(f:Fr v M M1)(k:w≠v):WA M1 w T:=by obtain⟨c,l,t,h,q⟩:=h;exact⟨c,l,t,f.get h k,q⟩
section
variable {M:ag} {n:Nat} {ds:List D} {i:Int} {x:D}
theorem A_(hM:M[n]?=some (.lst ds)):sL .reverse (.d (.aJ n)) [] M=.ok (.d .a6) (M.set n (.lst ds.reverse)):=by
 unfold sL;simp only[hM]
theorem nP{P:D->Prop}{k:Nat}(h:∀d∈ds,P d)(h0:0<=i)(h1:i<k)(hk:k=ds.length):∃d,ds[i.toNat]?=some d/\P d:=by
 have hl:i.toNat<ds.length:=∅;exact⟨ds[i.toNat],cf hl,h _ (sV hl)⟩
end
def dJ(F:Fn):Prop:=∀(M:ag)(w:Nat)(T many:Int),WA M w T->T<2 ^ 40->0<many->many<1073741824->aO (F [.aJ w,.int many] M) λr M'=>∃i,r=.d (.int i)/\0<=i/\i<many/\WA M' w (T+1)/\Fr w M M'
theorem Mk{G:a8}:dJ (ai G 6 yZ):=by
 intro M w T many ⟨c,l,t,h,hl,h0,h1⟩ hT hm QW;refine(HA h ⟨h0,∅⟩ hl ⟨hm,QW⟩).imp ?_;rintro r M' ⟨i,l',e,a,b,OE,rfl⟩;exact⟨i,e,a,b,⟨c,l',t+1,dI h,OE,∅,∅⟩,(Fr.refl w M).UC⟩
def p0(F:Fn):Prop:=∀(M:ag)(ns:List Int)(k:Int),0<=k->k<2 ^ 40->ns.length<=63->aO (F [.ls (ns.map D.int),.int k] M) λr M'=>r=.d (.aJ M.length)/\M'.length=M.length+1/\WA M' M.length 0/\Fr M.length M M'
theorem P2{G:a8}:p0 (ai G 3 D4):=by
 intro M ns k hk X_ lP;rw[ba];show d8 G D4 [some (.ls (ns.map D.int)),some (.int k),none] M _ _ _ _
 have d_:∀(c:Int)(b:Bool),WA (M++[MO.dK ((List.map Sum.inr [(("cell" : Str)),"left","turn"]).zip [D.int c,D.int ((if c>0 then c else 0)*if b=true then 1 else 0),D.int 0])]) M.length 0:=by
  intro c b;refine⟨c,_,0,aQ,?_,tm _,tm _⟩;refine Int.mul_nonneg ?_ ?_<;>split<;>omega
 have hb:∀b:Bool,(-(2 ^ 64):Int)<(if b=true then 1 else 0)/\(if b=true then 1 else 0)<(2 ^ 64:Int):=λb=>by split<;>omega
 have aY:∀x:MO,(M++[x]).length=M.length+1:=λx=>by simp
 nofun;refine⟨∅,?_⟩;nofun;by_cases hp:(0:Int)<(ns.map D.int).length
 ·rw[dQ hp];have hl:(ns.map D.int).length=ns.length:=aZ _;have hr:0<=k % ((ns.map D.int).length:Int):=Fj _ ∅;have Q7:k % ((ns.map D.int).length:Int)<((ns.map D.int).length:Int):=Fa _ hp;have EU:(k % ((ns.map D.int).length:Int)).toNat<ns.length:=∅
  have hg:(ns.map D.int)[(k % ((ns.map D.int).length:Int)).toNat]?=some (.int ns[(k % ((ns.map D.int).length:Int)).toNat]):=by
   rw[dy,cf EU];rfl
  nofun;refine⟨∅,?_⟩;nofun;rw[Mh hr hg];nofun;refine⟨⟨∅,∅⟩,?_⟩;nofun;refine⟨.inl ∅,?_⟩;nofun;refine⟨.inr (hb _),?_⟩;nofun;exact⟨rfl,rfl,aY _,d_ _ _,(Fr.refl _ M).app⟩
 ·rw[cx hp];nofun;refine⟨.inr (hb _),?_⟩;nofun;exact⟨rfl,rfl,aY _,d_ _ _,(Fr.refl _ M).app⟩
noncomputable def p4(m:Int)(d:D):Prop:=∃a b k,d=.tup [.int a,.int b,.str k]/\0<=a/\a<m/\0<=b/\b<m/\a≠b/\(k = "row" \/ k = "heap")
def wY(F:Fn):Prop:=∀(M:ag)(w:Nat)(T m:Int),WA M w T->T<2 ^ 39->1<=m->m<=4->aO (F [.aJ w,.int m] M) λr M'=>∃ds,r=.d (.tup ds)/\ds.length<=8/\(∀d∈ds,p4 m d)/\WA M' w (T+100)/\Fr w M M'
theorem Ml{G:a8}{aH:Nat}(hD:dJ (G aH)):wY (ai G 7 (wV aH)):=by
 intro M w T m hw hT We UG;have Ik:=hw.lt;rw[ba];show d8 G (wV aH) [some (.aJ w),some (.int m),none,none,none,none,none] M _ _ _ _;nofun;refine⟨(show(0:Nat)<=sizeLine by decide),?_⟩;nofun;by_cases hm:1<m
 ·rw[dQ hm];have h0:(M++[MO.lst []])[M.length]?=some (.lst []):=aQ;nofun;refine(hD _ w T 4 hw.app ∅ ∅ ∅).imp ?_;rintro r M1 ⟨i1,rfl,P4,Ri,D_,f1⟩;nofun;refine(hD _ w _ 5 D_ ∅ ∅ ∅).imp ?_;rintro r M2 ⟨i2,rfl,Rj,UH,p5,f2⟩;nofun;refine⟨(show(3:Nat)<=sizeLine by decide),?_⟩;have h2:M2[M.length]?=some (.lst []):=f2.get (f1.get h0 ∅) ∅;have l2:=bB h2;nofun;refine(hD _ w _ 9 p5.app ∅ ∅ ∅).imp ?_;rintro r M3 ⟨i3,rfl,YN,YO,lZ,f3⟩;nofun;refine⟨⟨∅,∅⟩,?_⟩;have h3:M3[M.length]?=some (.lst []):=f3.get (cX h2) ∅;have UI:M3[M2.length]?=some (.lst [.int i1,.int (1+i2),.int 8]):=f3.get aQ ∅;have FD:Fr w M M3:=(((Fr.refl w M).app.trans f1).trans f2).app.trans f3
  obtain⟨d,hd,j,e,Rk,YQ⟩:=nP (P:=λd=>∃j:Int,d=.int j/\0<=j/\j<=8) (ds:=[.int i1,.int (1+i2),.int 8]) (i:=i3 / 4) (k:=3) (by
   intro d hd;simp only[bz,iQ,fj]at hd;rcases hd with rfl | rfl | rfl
   ·exact⟨_,rfl,∅,∅⟩
   ·exact⟨_,rfl,∅,∅⟩
   ·exact⟨_,rfl,∅,∅⟩) ∅ ∅ rfl
  subst e;nofun;rw[cC UI (show(0:Int)<=i3 / 4 by omega) hd];nofun;refine⟨⟨∅,∅⟩,?_⟩;refine kZ (n:=j.toNat) (λi ρ M'=>∃ds o4 o5 o6,ρ=[some (.aJ w),some (.int m),some (.aJ M.length),some (.aJ M2.length),o4,o5,o6]/\M'[M.length]?=some (.lst ds)/\ds.length=i/\(∀d∈ds,p4 m d)/\WA M' w (T+3+3*i)/\Fr w M M') ⟨[],none,none,none,rfl,h3,rfl,(by intro d h;cases h),lZ.mono ∅,FD⟩ ?_ ?_
  ·rintro i ρ M4 hi ⟨ds,o4,o5,o6,rfl,h4,pT,pb,j7,pd⟩;have YR:(i:Int)<8:=∅;have P5:=bB h4;nofun;refine(hD _ w _ m j7 ∅ ∅ ∅).imp ?_;rintro r M5 ⟨i5,rfl,P6,Rl,ji,f5⟩;nofun;refine(hD _ w _ (m-1) ji ∅ ∅ ∅).imp ?_;rintro r M6 ⟨i6,rfl,Nk,P7,u7,f6⟩;nofun;have h6:M6[M.length]?=some (.lst ds):=f6.get (f5.get h4 ∅) ∅;refine⟨∅,?_⟩;nofun;refine⟨d9 h6,?_⟩;nofun;refine⟨(show(2:Nat)<=sizeLine by decide),?_⟩;nofun;refine(hD _ w _ 2 u7 ∅ ∅ ∅).imp ?_;rintro r M7 ⟨i7,rfl,P8,UJ,Nm,f7⟩
   obtain⟨k,hk,k',e,F9⟩:=nP (P:=λd=>∃k:Str,d=.str k/\(k = "row" \/ k = "heap")) (ds:=[.str "row",.str "heap"]) (i:=i7) (k:=2) (by
    intro d hd;simp only[bz,iQ,fj]at hd;rcases hd with rfl | rfl
    ·exact⟨_,rfl,.inl rfl⟩
    ·exact⟨_,rfl,.inr rfl⟩) P8 UJ rfl
   subst e;nofun;rw[nM P8 hk];nofun;refine⟨(show(3:Nat)<=sizeLine by decide),?_⟩;have h7:M7[M.length]?=some (.lst ds):=f7.get h6 ∅;nofun;rw[fV h7 (bJ ∅)];refine⟨ds++[.tup [.int i5,.int ((i5+1+i6) % m),.str k']],_,_,_,rfl,dI h7,by simp[pT],?_,?_,?_⟩
   ·intro d hd;rcases iu.mp hd with q | q
    ·exact pb d q
    ·have:d=.tup [.int i5,.int ((i5+1+i6) % m),.str k']:=by simpa using q
     subst this;have YS:m=2\/m=3\/m=4:=∅;refine⟨_,_,_,rfl,P6,Rl,Fj _ ∅,Fa _ ∅,?_,F9⟩;rcases YS with rfl | rfl | rfl<;>omega
   ·exact(Nm.set ∅).mono ∅
   ·exact(((pd.trans f5).trans f6).trans f7).set (aq _)
  ·rintro ρ M4 ⟨ds,o4,o5,o6,rfl,h4,pT,pb,j7,pd⟩;nofun;rw[eL h4];exact⟨ds,rfl,∅,pb,j7.mono ∅,pd⟩
 ·rw[cx hm];nofun;rw[eL aQ];exact⟨[],rfl,by decide,(by intro d h;cases h),hw.app.mono ∅,(Fr.refl w M).app⟩
def sN(d:D):Prop:=∃i:Int,d=.int i/\0<=i/\i<100
theorem Jc{M:ag}:∀{ds:List D},(∀d∈ds,sN d)->∃qs,bO M 30 ds=some qs/\qs.all SeqAt.shaped=true
 | [],_=>⟨[],by unfold bO;rfl,rfl⟩
 | d::ds,h=>by
  obtain⟨i,rfl,_,_⟩:=h d (du ..);obtain⟨qs,e,k⟩:=Jc (M:=M) (ds:=ds) λd hd=>h d (cZ _ hd);refine⟨.int i::qs,by unfold bO;rw[e];unfold dB;rfl,?_⟩;rw[List.all_cons,rP,k];rfl
theorem Ea{M:ag}{n:Nat}{ds:List D}{d:D}(hM:M[n]?=some (.lst ds))(h:∀d∈ds,sN d)(hd:sN d):∃b,bG .iK (.d d) (.d (.aJ n)) M=.ok b M:=by
 obtain⟨i,rfl,_,_⟩:=hd;obtain⟨qs,e,k⟩:=Jc (M:=M) h;refine⟨!oR (.int i) qs,?_⟩;unfold bG;have h1:lH M (.d (.int i))=some (.int i):=by show dB M 30 (.int i)=_;unfold dB;rfl
 have h2:bC M (.d (.aJ n))=some (true,ds):=by unfold bC;simp only[hM]
 simp only[h1,h2,e,rP,k,qk,fm]
def l5(F:Fn):Prop:=∀(M:ag)(w:Nat)(T:Int),WA M w T->T<2 ^ 39->aO (F [.aJ w] M) λr M'=>∃n ds,r=.d (.aJ n)/\M.length<=n/\M'[n]?=some (.lst ds)/\1<=ds.length/\ds.length<=7/\(∀d∈ds,sN d)/\WA M' w (T+100)/\Fr w M M'
theorem HB{G:a8}{aH:Nat}(hD:dJ (G aH)):l5 (ai G 5 (rT aH)):=by
 intro M w T hw hT;have Ik:=hw.lt;rw[ba];show d8 G (rT aH) [some (.aJ w),none,none,none,none] M _ _ _ _;nofun;refine(hD _ w T 100 hw ∅ ∅ ∅).imp ?_;rintro r M1 ⟨i1,rfl,P4,Ri,D_,f1⟩;nofun;refine⟨(show(1:Nat)<=sizeLine by decide),?_⟩;have l1:=f1.1;nofun;refine(hD _ w _ 3 D_.app ∅ ∅ ∅).imp ?_;rintro r M2 ⟨i2,rfl,Rj,UH,p5,f2⟩;nofun;refine⟨(show(2:Nat)<=sizeLine by decide),?_⟩;have h2:M2[M1.length]?=some (.lst [.int i1]):=f2.get aQ ∅;have l2:=bB h2;nofun;refine(hD _ w _ 16 p5.app ∅ ∅ ∅).imp ?_;rintro r M3 ⟨i3,rfl,YN,YO,lZ,f3⟩;nofun;refine⟨⟨∅,∅⟩,?_⟩;have h3:M3[M1.length]?=some (.lst [.int i1]):=f3.get (cX h2) ∅;have UI:M3[M2.length]?=some (.lst [.int i2,.int 6]):=f3.get aQ ∅;have FD:Fr w M M3:=(f1.app.trans f2).app.trans f3
 obtain⟨d,hd,j,e,Rk,YQ⟩:=nP (P:=λd=>∃j:Int,d=.int j/\0<=j/\j<=6) (ds:=[.int i2,.int 6]) (i:=i3 / 15) (k:=2) (by
  intro d hd;simp only[bz,iQ,fj]at hd;rcases hd with rfl | rfl
  ·exact⟨_,rfl,∅,∅⟩
  ·exact⟨_,rfl,∅,∅⟩) ∅ ∅ rfl
 subst e;nofun;rw[cC UI (show(0:Int)<=i3 / 15 by omega) hd];nofun;refine⟨⟨∅,∅⟩,?_⟩
 have UK:∀d∈[D.int i1],sN d:=by
  intro d h;have:d=.int i1:=by simpa using h
  subst this;exact⟨_,rfl,P4,Ri⟩
 refine kZ (n:=j.toNat) (λi ρ M'=>∃ds o3 o4,ρ=[some (.aJ w),some (.aJ M1.length),some (.aJ M2.length),o3,o4]/\M'[M1.length]?=some (.lst ds)/\1<=ds.length/\ds.length<=i+1/\(∀d∈ds,sN d)/\WA M' w (T+3+2*i)/\Fr w M M') ⟨[.int i1],none,none,rfl,h3,aq _,aq _,UK,lZ.mono ∅,FD⟩ ?_ ?_
 ·rintro i ρ M4 hi ⟨ds,o3,o4,rfl,h4,Iv,pT,pb,j7,pd⟩;have YR:(i:Int)<6:=∅;have P5:=bB h4;nofun;refine(hD _ w _ 100 j7 ∅ ∅ ∅).imp ?_;rintro r M5 ⟨i5,rfl,P6,Rl,ji,f5⟩;nofun;refine⟨(show(2:Nat)<=sizeLine by decide),?_⟩;nofun;refine(hD _ w _ 2 ji ∅ ∅ ∅).imp ?_;rintro r M6 ⟨i6,rfl,Nk,P7,u7,f6⟩
  obtain⟨d,hd,d0⟩:=nP (P:=sN) (ds:=[.int i5,.int (0+i)]) (i:=i6) (k:=2) (by
   intro d hd;simp only[bz,iQ,fj]at hd;rcases hd with rfl | rfl
   ·exact⟨_,rfl,∅,∅⟩
   ·exact⟨_,rfl,∅,∅⟩) Nk P7 rfl
  nofun;rw[nM Nk hd];have h6:M6[M1.length]?=some (.lst ds):=f6.get (f5.get h4 ∅) ∅;nofun;obtain⟨b,hb⟩:=Ea h6 pb d0;rw[hb]
  cases b with
  | false=>exact⟨ds,_,_,rfl,h6,Iv,∅,pb,u7.mono ∅,(pd.trans f5).trans f6⟩
  | true =>
   nofun;refine⟨d9 h6,?_⟩;nofun;rw[fV h6 (bJ ∅)];refine⟨ds++[d],_,_,rfl,dI h6,by simp,by simp;omega,?_,(u7.set ∅).mono ∅,((pd.trans f5).trans f6).set ∅⟩;intro x hx;rcases iu.mp hx with q | q
   ·exact pb x q
   ·have:x=d:=by simpa using q
    subst this;exact d0
 ·rintro ρ M4 ⟨ds,o3,o4,rfl,h4,Iv,pT,pb,j7,pd⟩;exact⟨_,ds,rfl,l1,h4,Iv,∅,pb,j7.mono ∅,pd⟩
noncomputable def Eb(P:Int->Prop)(d:D):Prop:=∃r c,d=.tup [.int r,.str c]/\P r/\(c = "a" \/ c = "b" \/ c = "c" \/ c = "z")
theorem P9{M:ag}{i:Int}(h0:0<=i)(h1:i<4):∃c,d6 (.d (.str "abcz")) (.d (.int i)) M=.ok (.d (.str c)) M/\(c = "a" \/ c = "b" \/ c = "c" \/ c = "z"):=by
 have:i=0\/i=1\/i=2\/i=3:=∅;rcases this with rfl | rfl | rfl | rfl
 ·exact⟨"a",rfl,.inl rfl⟩
 ·exact⟨"b",rfl,.inr (.inl rfl)⟩
 ·exact⟨"c",rfl,.inr (.inr (.inl rfl))⟩
 ·exact⟨"z",rfl,.inr (.inr (.inr rfl))⟩
def wZ(F:Fn):Prop:=∀(P:Int->Prop)(M:ag)(w nw:Nat)(T:Int)(cG:List D),WA M w T->T<2 ^ 39+10000->M[nw]?=some (.lst cG)->nw≠w->(∀d∈cG,∃r,d=.int r/\P r)->cG.length<=100 ->
 aO (F [.aJ w,.aJ nw] M) λr M'=>∃ds,r=.d (.tup ds)/\ds.length<=3/\(∀d∈ds,Eb P d)/\WA M' w (T+20)/\Fr w M M'
theorem Mm{G:a8}{aH:Nat}(hD:dJ (G aH)):wZ (ai G 5 (wW aH)):=by
 intro P M w nw T cG hw hT hn vn hP P_;have Ik:=hw.lt;have QX:=bB hn;rw[ba];show d8 G (wW aH) [some (.aJ w),some (.aJ nw),none,none,none] M _ _ _ _;nofun;refine⟨(show(0:Nat)<=sizeLine by decide),?_⟩;nofun;refine⟨(show(7:Nat)<=sizeLine by decide),?_⟩;nofun;refine(hD _ w T 7 hw.app ∅ ∅ ∅).imp ?_;rintro r M1 ⟨i1,rfl,P4,Ri,D_,f1⟩
 obtain⟨d,hd,j,e,Rk,Wf⟩:=nP (P:=λd=>∃j:Int,d=.int j/\0<=j/\j<=3) (ds:=[.int 0,.int 0,.int 1,.int 1,.int 1,.int 2,.int 3]) (i:=i1) (k:=7) (by
  intro d hd;simp only[bz,iQ,fj]at hd;rcases hd with rfl | rfl | rfl | rfl | rfl | rfl | rfl<;>exact⟨_,rfl,∅,∅⟩) P4 Ri rfl
 subst e;nofun;rw[nM P4 hd];have h1:M1[nw]?=some (.lst cG):=f1.get (cX hn) vn;have ho:M1[M.length]?=some (.lst []):=f1.get aQ ∅;have YT:Fr w M M1:=(Fr.refl w M).app.trans f1;nofun;rw[cD h1];nofun;refine⟨.inl ∅,?_⟩
 have hj:0<=j*(if decide ((0:Int)<cG.length)=true then 1 else 0)/\j*(if decide ((0:Int)<cG.length)=true then 1 else 0)<=3/\(0<j*(if decide ((0:Int)<cG.length)=true then 1 else 0)->(0:Int)<cG.length):=by
  by_cases q:(0:Int)<cG.length
  ·simp only[dQ q,fm,Int.mul_one];exact⟨Rk,Wf,λ_=>q⟩
  ·simp only[cx q];simp
 generalize UL:j*(if decide ((0:Int)<cG.length)=true then 1 else 0)=jj at hj;obtain⟨Rk,Wf,YU⟩:=hj;have Qa:j*(if decide ((cG.length:Int)>0)=true then 1 else 0)=jj:=UL;nofun;refine⟨⟨by first | omega | (rw[Qa];omega) | (show _<=j*(if decide ((0:Int)<cG.length)=true then 1 else 0);rw[UL];omega),by first | omega | (rw[Qa];omega) | (show j*(if decide ((0:Int)<cG.length)=true then 1 else 0)<_;rw[UL];omega)⟩,?_⟩;refine kZ (n:=jj.toNat) (λi ρ M'=>∃ds o3 o4,ρ=[some (.aJ w),some (.aJ nw),some (.aJ M.length),o3,o4]/\M'[M.length]?=some (.lst ds)/\ds.length=i/\(∀d∈ds,Eb P d)/\WA M' w (T+1+2*i)/\Fr w M M') ⟨[],none,none,rfl,ho,rfl,(by intro d h;cases h),D_.mono ∅,YT⟩ ?_ ?_
 ·rintro i ρ M4 hi ⟨ds,o3,o4,rfl,h4,pT,pb,j7,pd⟩;have YV:(0:Int)<cG.length:=YU ∅;have Qb:M4[nw]?=some (.lst cG):=pd.get hn vn;nofun;rw[cD Qb];nofun;refine(hD _ w _ _ j7 ∅ YV ∅).imp ?_;rintro r M5 ⟨i5,rfl,P6,Rl,ji,f5⟩;have YW:M5[nw]?=some (.lst cG):=f5.get Qb vn;obtain⟨d,hd,r,e,YX⟩:=nP (ds:=cG) (i:=i5) (k:=cG.length) hP P6 Rl rfl;subst e;nofun;rw[cC YW P6 hd];have h5:M5[M.length]?=some (.lst ds):=f5.get h4 ∅;nofun;refine⟨d9 h5,?_⟩;nofun;refine(hD _ w _ 4 ji ∅ ∅ ∅).imp ?_;rintro r6 M6 ⟨i6,rfl,Nk,P7,u7,f6⟩;obtain⟨c,hc,oJ⟩:=P9 (M:=M6) Nk P7;nofun;rw[hc];nofun;refine⟨(show(2:Nat)<=sizeLine by decide),?_⟩;have h6:M6[M.length]?=some (.lst ds):=f6.get h5 ∅;nofun;rw[fV h6 (bJ ∅)];refine⟨ds++[.tup [.int r,.str c]],_,_,rfl,dI h6,by simp[pT],?_,(u7.set ∅).mono ∅,((pd.trans f5).trans f6).set (aq _)⟩;intro x hx;rcases iu.mp hx with q | q
  ·exact pb x q
  ·have:x=.tup [.int r,.str c]:=by simpa using q
   subst this;exact⟨_,_,rfl,YX,oJ⟩
 ·rintro ρ M4 ⟨ds,o3,o4,rfl,h4,pT,pb,j7,pd⟩;nofun;rw[eL h4];exact⟨ds,rfl,∅,pb,j7.mono ∅,pd⟩
def Ec(d:D):Prop:=d=.a6\/∃x:Str,d=.str x/\(x = "x" \/ x = "yes" \/ x = "abcdefgh" \/ x = "own" \/ x = "a")
def Ed(d:D):Prop:=∃x:Str,d=.str x/\(x = "own" \/ x = "a" \/ x = "b" \/ x = "z")
def y4(P:Int->Prop)(d:D):Prop:=∃s c a sends wd,d=.tup [s,c,a,.tup sends,wd]/\sN s/\Ed c/\sN a/\sends.length<=3/\(∀x∈sends,Eb P x)/\Ec wd
def rV(F:Fn):Prop:=∀(P:Int->Prop)(M:ag)(w ns nw:Nat)(T:Int)(y6 cG:List D),WA M w T->T<2 ^ 39->M[ns]?=some (.lst y6)->ns≠w->M[nw]?=some (.lst cG)->nw≠w->(∀d∈y6,sN d)->1<=y6.length->y6.length<=7->(∀d∈cG,∃r,d=.int r/\P r)->cG.length<=100 ->
 aO (F [.aJ w,.aJ ns,.aJ nw] M) λr M'=>∃ds,r=.d (.tup ds)/\ds.length<=28/\(∀d∈ds,y4 P d)/\WA M' w (T+1000)/\Fr w M M'
theorem Mn{G:a8}{aH nO:Nat}(hD:dJ (G aH))(hS:wZ (G nO)):rV (ai G 11 (wX aH nO)):=by
 intro P M w ns nw T sm cG hw hT hs OC hn vn d0 Wg Wh hP P_;have Ik:=hw.lt;have QX:=bB hn;have AQ:=bB hs;rw[ba];show d8 G (wX aH nO) [some (.aJ w),some (.aJ ns),some (.aJ nw),none,none,none,none,none,none,none,none] M _ _ _ _;nofun;refine⟨(show(8:Nat)<=sizeLine by decide),?_⟩;nofun;refine⟨(show(0:Nat)<=sizeLine by decide),?_⟩;have YY:((M++[MO.lst [.a6,.a6,.a6,.str "x",.str "yes",.str "abcdefgh",.str "own",.str "a"]])++[MO.lst []])[ns]?=some (.lst sm):=cX (cX hs)
 have YZ:∀d∈[D.a6,.a6,.a6,.str "x",.str "yes",.str "abcdefgh",.str "own",.str "a"],Ec d:=by
  intro d hd;simp only[bz,iQ,fj]at hd;rcases hd with rfl | rfl | rfl | rfl | rfl | rfl | rfl | rfl
  ·exact .inl rfl
  ·exact .inl rfl
  ·exact .inl rfl
  ·exact .inr ⟨_,rfl,.inl rfl⟩
  ·exact .inr ⟨_,rfl,.inr (.inl rfl)⟩
  ·exact .inr ⟨_,rfl,.inr (.inr (.inl rfl))⟩
  ·exact .inr ⟨_,rfl,.inr (.inr (.inr (.inl rfl)))⟩
  ·exact .inr ⟨_,rfl,.inr (.inr (.inr (.inr rfl)))⟩
 have Y0:((M++[MO.lst [.a6,.a6,.a6,.str "x",.str "yes",.str "abcdefgh",.str "own",.str "a"]])++[MO.lst []])[M.length]?=some (.lst [.a6,.a6,.a6,.str "x",.str "yes",.str "abcdefgh",.str "own",.str "a"]):=cX aQ
 have Y1:((M++[MO.lst [.a6,.a6,.a6,.str "x",.str "yes",.str "abcdefgh",.str "own",.str "a"]])++[MO.lst []])[M.length+1]?=some (.lst []):=by
  have:=aQ (M:=M++[MO.lst [.a6,.a6,.a6,.str "x",.str "yes",.str "abcdefgh",.str "own",.str "a"]]) (o:=MO.lst []);simpa using this
 have aY:(M++[MO.lst [.a6,.a6,.a6,.str "x",.str "yes",.str "abcdefgh",.str "own",.str "a"]]).length=M.length+1:=by simp
 nofun;rw[aY];generalize Y2:([.a6,.a6,.a6,.str "x",.str "yes",.str "abcdefgh",.str "own",.str "a"]:List D)=WW at *;have Y3:WW.length=8:=by rw[<- Y2];rfl
 rw[Mi YY]
 refine UE (n:=ns) (ds:=sm) (λi ρ M'=>∃ds o5 o6 o7 o8 o9 Jd,ρ=[some (.aJ w),some (.aJ ns),some (.aJ nw),some (.aJ M.length),some (.aJ (M.length+1)),o5,o6,o7,o8,o9,Jd]/\M'[M.length]?=some (.lst WW)/\M'[M.length+1]?=some (.lst ds)/\ds.length<=4*i/\(∀d∈ds,y4 P d)/\WA M' w (T+100*i)/\Fr w M M')
  (by rintro i ρ M' ⟨ds,_,_,_,_,_,_,_,_,_,_,_,_,f⟩;exact f.get hs OC) ⟨[],none,none,none,none,none,none,rfl,Y0,Y1,jt _,(by intro d h;cases h),(hw.app.app).mono ∅,((Fr.refl w M).app).app⟩ ?_ ?_
 ·rintro i ρ M4 d hd ⟨ds,o5,o6,o7,o8,o9,Jd,rfl,Wi,h4,pT,pb,j7,pd⟩;have hi:i<sm.length:=(cP.mp hd).1;have Y4:sN d:=d0 d (c_ hd);nofun;refine⟨(show(4:Nat)<=sizeLine by decide),?_⟩
  refine lY (ds:=[.str "own",.str "a",.str "b",.str "z"]) (λj ρ M'=>∃ds o6 o7 o8 o9 Jd,ρ=[some (.aJ w),some (.aJ ns),some (.aJ nw),some (.aJ M.length),some (.aJ (M.length+1)),some d,o6,o7,o8,o9,Jd]/\M'[M.length]?=some (.lst WW)/\M'[M.length+1]?=some (.lst ds)/\ds.length<=4*i+j/\(∀d∈ds,y4 P d)/\WA M' w (T+100*i+25*j)/\Fr w M M')
   ⟨ds,o6,o7,o8,o9,Jd,rfl,Wi,h4,∅,pb,j7.mono ∅,pd⟩ ?_ ?_
  ·rintro j ρ M5 c hc ⟨ds,o6,o7,o8,o9,Jd,rfl,Rm,h5,QO,Rn,ji,FE⟩;have hj:j<4:=(cP.mp hc).1
   have Y5:Ed c:=by
    have hm:=c_ hc;simp only[bz,iQ,fj]at hm;rcases hm with rfl | rfl | rfl | rfl
    ·exact⟨_,rfl,.inl rfl⟩
    ·exact⟨_,rfl,.inr (.inl rfl)⟩
    ·exact⟨_,rfl,.inr (.inr (.inl rfl))⟩
    ·exact⟨_,rfl,.inr (.inr (.inr rfl))⟩
   nofun;refine(hD _ w _ 4 ji ∅ ∅ ∅).imp ?_;rintro r6 M6 ⟨i6,rfl,Nk,P7,u7,f6⟩;nofun;by_cases hp:0<i6
   ·rw[dQ hp];have Wj:Fr w M M6:=FE.trans f6;have Qc:M6[ns]?=some (.lst sm):=Wj.get hs OC;nofun;rw[cD Qc];nofun;refine(hD _ w _ _ u7 ∅ ∅ ∅).imp ?_;rintro r7 M7 ⟨i7,rfl,P8,UJ,Nm,f7⟩;have OA:Fr w M M7:=Wj.trans f7;obtain⟨a,ha,Y6⟩:=nP (P:=sN) (ds:=sm) (i:=i7) (k:=sm.length) d0 P8 UJ rfl;nofun;rw[cC (OA.get hs OC) P8 ha];nofun;refine(hS P M7 w nw _ cG Nm ∅ (OA.get hn vn) vn hP P_).imp ?_;rintro r8 M8 ⟨sd,rfl,UM,UN,Mo,f8⟩;have Y7:Fr w M M8:=OA.trans f8;nofun;refine(hD _ w _ 8 Mo ∅ ∅ ∅).imp ?_;rintro r9 M9 ⟨i9,rfl,Wk,Y8,Ro,f9⟩;have Y9:Fr w M M9:=Y7.trans f9;have Wl:M9[M.length]?=some (.lst WW):=f9.get (f8.get (f7.get (f6.get Rm ∅) ∅) ∅) ∅;have h9:M9[M.length+1]?=some (.lst ds):=f9.get (f8.get (f7.get (f6.get h5 ∅) ∅) ∅) ∅;obtain⟨wd,UO,UP⟩:=nP (P:=Ec) (ds:=WW) (i:=i9) (k:=8) YZ Wk Y8 Y3.symm;nofun;rw[cC Wl Wk UO];nofun;rw[cD h9];nofun;refine(hD _ w _ _ Ro ∅ ∅ ∅).imp ?_;rintro rA MA ⟨iA,rfl,Y_,iA1,Za,fA⟩;have Zb:Fr w M MA:=Y9.trans fA;have hA:MA[M.length+1]?=some (.lst ds):=fA.get h9 ∅;nofun;refine⟨d9 hA,?_⟩;nofun;refine⟨(show(5:Nat)<=sizeLine by decide),?_⟩;nofun;rw[u5 hA (bJ ∅) Y_ ∅];refine⟨ds.take iA.toNat++.tup [d,c,a,.tup sd,wd]::ds.drop iA.toNat,_,_,_,_,_,rfl,jU (fA.get Wl ∅) ∅,dI hA,?_,?_,(Za.set ∅).mono ∅,Zb.set ∅⟩
    ·rw[dv,jo,j9,mz];omega
    ·intro x hx
     have hx:x=.tup [d,c,a,.tup sd,wd]\/x∈ds:=by
      rcases iu.mp hx with q | q
      ·exact .inr (List.mem_of_mem_take q)
      ·rcases bz.mp q with q | q
       ·exact .inl q
       ·exact .inr (List.mem_of_mem_drop q)
     rcases hx with rfl | hx
     ·exact⟨_,_,_,_,_,rfl,Y4,Y5,Y6,UM,UN,UP⟩
     ·exact Rn x hx
   ·rw[cx hp];exact⟨ds,_,_,_,_,_,rfl,f6.get Rm ∅,f6.get h5 ∅,∅,Rn,u7.mono ∅,FE.trans f6⟩
  ·rintro ρ M5 ⟨ds,o6,o7,o8,o9,Jd,rfl,Rm,h5,QO,Rn,ji,FE⟩;have e4:[D.str "own",D.str "a",D.str "b",D.str "z"].length=4:=rfl;rw[e4]at QO ji;exact⟨ds,_,_,_,_,_,_,rfl,Rm,h5,∅,Rn,ji.mono ∅,FE⟩
 ·rintro ρ M4 ⟨ds,o5,o6,o7,o8,o9,Jd,rfl,Wi,h4,pT,pb,j7,pd⟩;nofun;rw[eL h4];exact⟨ds,rfl,∅,pb,j7.mono ∅,pd⟩
noncomputable def rW(bw:List D)(m:Nat)(r:Int):Prop:=0<=r/\∃b k,bw[r.toNat]?=some (.tup [.int m,b,k])
def Ee(bw:List D)(m:Nat)(d:D):Prop:=∃st moves,d=.tup [st,.tup moves]/\sN st/\moves.length<=28/\∀y∈moves,y4 (rW bw m) y
def Je(d:D):Prop:=∃b_ bw,d=.tup [.tup b_,.tup bw]/\1<=b_.length/\b_.length<=4/\bw.length<=8/\(∀x∈bw,p4 b_.length x)/\∀m x,b_[m]?=some x->Ee bw m x
def Ef(F:Fn):Prop:=∀(M:ag)(ns:List Int),ns.length<=63->aO (F [.ls (ns.map D.int)] M) λr M'=>∃d,r=.d d/\Je d/\Fr M.length M M'
theorem Fr.none{w:Nat}{M M1 M2:ag}(a:Fr M.length M M1)(b:Fr w M1 M2)(h:M.length<=w):Fr M.length M M2:=⟨bH a.1 b.1,λn hn k=>(b.2 n (eZ hn a.1) ∅).trans (a.2 n hn k)⟩
theorem Eg{m:Int}{bw:List D}{i:Nat}(h:∀x∈bw,p4 m x)(hi:i<bw.length):∃a b k,bw[i]?=some (.tup [.int a,.int b,.str k]):=by
 obtain⟨a,b,k,e,_⟩:=h bw[i] (sV hi);exact⟨a,b,k,by rw[cf hi,e]⟩
noncomputable def y8:C:=.comp .fB [.bi .len [.lI 3]] [1] (some (.val (.cmp .eq (.sub (.sub 3 1) (.kn 0)) 2))) 1 [none,none,some 5,some 3]
theorem HC{G:a8}{ρ:En}{M:ag}{m:Int}{i:Nat}{bw:List D}{P:W->ag->Prop}(h5:ρ[5]?=some (some (.int i)))(h3:ρ[3]?=some (some (.tup bw)))(Qd:bw.length<=8)(F4:∀x∈bw,p4 m x)(q:∀cG,cG.length<=8->(∀d∈cG,∃r,d=.int r/\rW bw i r)->P (.lv cG) M):wE G y8 ρ M P:=by
 unfold y8;nofun;rw[h3];nofun;refine⟨⟨∅,∅⟩,?_⟩;rw[show eB [none,none,some 5,some 3] ρ=[none,none,some (.int i),some (.tup bw)] by unfold eB;simp only[eM,s_,Option.bind_none,Option.bind_some,h5,h3,Option.join_some]];refine D2 (n:=(bw.length:Int).toNat) (λk M' aE=>M=M'/\aE.length<=k/\∀d∈aE,∃r,d=.int r/\rW bw i r) (by decide) ⟨rfl,aq _,(by intro d h;cases h)⟩ ?_ ?_
 ·rintro k M7 aE hk ⟨rfl,w4,Nn⟩;have F9:k<bw.length:=∅;refine⟨bJ ∅,?_⟩;obtain⟨a,b,kk,Zc⟩:=Eg F4 F9;have Qe:bw[((0:Int)+(k:Nat)).toNat]?=some (.tup [.int a,.int b,.str kk]):=by rw[show((0:Int)+(k:Nat)).toNat=k by omega];exact Zc
  nofun;rw[yX (show(0:Int)<=0+(k:Nat) by omega) Qe];nofun
  cases q:(a==(i:Int))with
  | true =>
   have q:a=i:=by simpa using q
   subst q;refine⟨rfl,by simp;omega,?_⟩;intro d hd;rcases iu.mp hd with z | z
   ·exact Nn d z
   ·have:d=.int (0+k):=by simpa using z
    subst this;exact⟨_,rfl,∅,.int b,.str kk,Qe⟩
  | false=>exact⟨rfl,∅,Nn⟩
 ·rintro M7 cG ⟨rfl,w4,Nn⟩;exact q cG ∅ Nn
def Jf(dt aH cY eA:Nat):List S:=[.asg [1] (.call dt [0,(.bin .add (.kn 1) 5)]),.asg [6] (.call cY [1]),.jT 7 y8,.asg [8] (.sub 6 (.call aH [1,(.bi .len [6])])),.expr (.me .append 4 [(.tup [8,(.call eA [1,6,7])])])]
theorem Ba{G:a8}{dt aH cY eA:Nat}(hW:p0 (G dt))(hD:dJ (G aH))(Qf:l5 (G cY))(UQ:rV (G eA)){ns:List Int}(lP:ns.length<=63){m:Int}{i:Nat}{bw b_:List D}{M4:ag}{n3:Nat}{o1 d2 o6 o7 o8:Option D}{nx:En->ag->Prop}{rt:W->ag->Prop}{bk ct:En->ag->Prop}(hi:i<4)(Qd:bw.length<=8)(F4:∀x∈bw,p4 m x)(h4:M4[n3]?=some (.lst b_))(pT:b_.length=i)(q:∀o1 o6 o7 o8 M9 x,Ee bw i x->Fr n3 M4 M9->M9[n3]?=some (.lst (b_++[x]))->nx [some (.ls (ns.map D.int)),o1,d2,some (.tup bw),some (.aJ n3),some (.int i),o6,o7,o8] M9):d8 G (Jf dt aH cY eA) [some (.ls (ns.map D.int)),o1,d2,some (.tup bw),some (.aJ n3),some (.int i),o6,o7,o8] M4 nx rt bk ct:=by
 have l4:=bB h4;nofun;refine(hW M4 ns (1+i) ∅ ∅ lP).imp ?_;rintro r M5 ⟨rfl,QO,ji,f5⟩;nofun;refine(Qf M5 _ _ ji ∅).imp ?_;rintro r M6 ⟨n6,st,rfl,hn6,h6,Wg,Wh,d0,u7,f6⟩;have l6:=bB h6;show wE G y8 [some (.ls (ns.map D.int)),some (.aJ M4.length),d2,some (.tup bw),some (.aJ n3),some (.int i),some (.aJ n6),o7,o8] M6 _;refine HC (m:=m) (i:=i) (by rfl) (by rfl) Qd F4 λcG hl Nn=>?_;nofun;have h7:(M6++[MO.lst cG])[n6]?=some (.lst st):=cX h6;rw[cD h7];nofun;refine(hD _ _ _ _ u7.app ∅ ∅ ∅).imp ?_;rintro r8 M8 ⟨i8,rfl,Wm,Zd,Mo,f8⟩;have Qb:n6≠M4.length:=∅;have h8:M8[n6]?=some (.lst st):=f8.get h7 Qb;have Ze:M8[M6.length]?=some (.lst cG):=f8.get aQ ∅;obtain⟨s0,UR,US⟩:=nP (P:=sN) (ds:=st) (i:=i8) (k:=st.length) d0 Wm Zd rfl;nofun;rw[cC h8 Wm UR];nofun;have Zf:M5[n3]?=some (.lst b_):=f5.get h4 ∅;have Zg:M6[n3]?=some (.lst b_):=f6.get Zf ∅;have Wn:M8[n3]?=some (.lst b_):=f8.get (cX Zg) ∅;refine⟨d9 Wn,?_⟩;nofun;refine(UQ (rW bw i) M8 M4.length n6 M6.length _ st cG Mo ∅ h8 Qb Ze ∅ d0 Wg Wh Nn ∅).imp ?_;rintro r9 M9 ⟨mv,rfl,UT,UU,Ro,f9⟩;nofun;refine⟨(show(2:Nat)<=sizeLine by decide),?_⟩;have Wo:M9[n3]?=some (.lst b_):=f9.get Wn ∅;nofun;rw[fV Wo (bJ ∅)];refine q _ _ _ _ _ (.tup [s0,.tup mv]) ⟨_,_,rfl,US,UT,UU⟩ ?_ (dI Wo);have g5:Fr M4.length M4 M9:=(((f5.none f6 (aq _)).app).none f8 (aq _)).none f9 (aq _);refine⟨by rw[sY];exact g5.1,λn hn k=>?_⟩;rw[mq (fk k)];exact g5.2 n hn ∅
theorem Qg{G:a8}{dt aH jh cY eA:Nat}(hW:p0 (G dt))(hD:dJ (G aH))(hR:wY (G jh))(Qf:l5 (G cY))(UQ:rV (G eA)):Ef (ai G 9 (y3 dt aH jh cY eA)):=by
 intro M ns lP;rw[ba];show d8 G (y3 dt aH jh cY eA) [some (.ls (ns.map D.int)),none,none,none,none,none,none,none,none] M _ _ _ _;have hb:y3 dt aH jh cY eA=[.asg [1] (.call dt [(.lI 0),(.bx (.int 0))]),.asg [2] (.sub (.lst [(.bx (.int 2)),(.bx (.int 1)),(.bx (.int 3)),(.bx (.int 2)),(.bx (.int 4)),(.bx (.int 3))]) (.call aH [(.lI 1),(.bx (.int 6))])),.asg [3] (.call jh [(.lI 1),(.lI 2)]),.asg [4] (.lst []),.eG [5] .fB [(.lI 2)] (Jf dt aH cY eA),.ret (.tup [(.bi .tuple1 [(.lI 4)]),(.lI 3)])]:=rfl;rw[hb];nofun;refine(hW M ns 0 ∅ ∅ lP).imp ?_;rintro r M1 ⟨rfl,Iv,D_,f1⟩;nofun;refine⟨(show(6:Nat)<=sizeLine by decide),?_⟩;nofun;refine(hD _ _ _ 6 D_ ∅ ∅ ∅).imp ?_;rintro r M2 ⟨i2,rfl,Rj,UH,p5,f2⟩
 obtain⟨d,hd,m,e,We,UG⟩:=nP (P:=λd=>∃j:Int,d=.int j/\1<=j/\j<=4) (ds:=[.int 2,.int 1,.int 3,.int 2,.int 4,.int 3]) (i:=i2) (k:=6) (by
  intro d hd;simp only[bz,iQ,fj]at hd;rcases hd with rfl | rfl | rfl | rfl | rfl | rfl<;>exact⟨_,rfl,∅,∅⟩) Rj UH rfl
 subst e;nofun;rw[nM Rj hd];nofun;refine(hR _ _ _ m p5 ∅ We UG).imp ?_;rintro r M3 ⟨bw,rfl,Qd,F4,lZ,f3⟩;nofun;refine⟨(show(0:Nat)<=sizeLine by decide),?_⟩;nofun;refine⟨⟨∅,∅⟩,?_⟩;have FD:Fr M.length M M3:=(f1.trans f2).trans f3;have l3:=FD.1
 refine kZ (n:=m.toNat) (λi ρ M'=>∃b_ o1 o5 o6 o7 o8,ρ=[some (.ls (ns.map D.int)),o1,some (.int m),some (.tup bw),some (.aJ M3.length),o5,o6,o7,o8]/\M'[M3.length]?=some (.lst b_)/\b_.length=i/\(∀k x,b_[k]?=some x->Ee bw k x)/\Fr M.length M M')
  ⟨[],_,none,none,none,none,rfl,aQ,rfl,(by intro k x h;simp at h),FD.app⟩ ?_ ?_
 ·rintro i ρ M4 hi ⟨b_,o1,o5,o6,o7,o8,rfl,h4,pT,pb,pd⟩;rw[show(0:Int)+(i:Int)=i by omega];refine Ba hW hD Qf UQ lP (m:=m) (i:=i) ∅ Qd F4 h4 pT λp1 p6 p7 p8 M9 x hx f9 h9=>?_;refine⟨b_++[x],_,_,_,_,_,rfl,h9,by simp[pT],?_,pd.none f9 l3⟩;intro k y hk;by_cases F9:k<b_.length
  ·rw[gH F9]at hk;exact pb k y hk
  ·have Zh:k=b_.length:=by have:=(cP.mp hk).1;simp at this;omega
   subst Zh;simp at hk;subst hk;rw[pT];exact hx
 ·rintro ρ M4 ⟨b_,o1,o5,o6,o7,o8,rfl,h4,pT,pb,pd⟩;nofun;rw[eL h4];nofun;refine⟨(show(2:Nat)<=sizeLine by decide),_,rfl,⟨b_,bw,rfl,∅,∅,Qd,?_,pb⟩,pd⟩;have:(b_.length:Int)=m:=∅;rw[this];exact F4
theorem Mp(a b:Str):PyData.strOk (a++b)=(PyData.strOk a&&PyData.strOk b):=by
 show(a.cps++b.cps).all _=_;rw[Array.all_append];rfl
noncomputable def Tx(b:Nat)(x:Str):Prop:=x.length<=b/\PyData.strOk x=true
theorem Tx.app{a b:Nat}{x y:Str}(h:Tx a x)(k:Tx b y):Tx (a+b) (x++y):=⟨by rw[strLen_append];have:=h.1;have:=k.1;omega,by rw[Mp,h.2,k.2];rfl⟩
theorem Tx.mono{a b:Nat}{x:Str}(h:Tx a x)(k:a<=b):Tx b x:=⟨bH h.1 k,h.2⟩
end Ev
end
section
namespace Ev
open PySem
noncomputable def w6:List S:=[.ret (.dc [(.bi (.j5 .int) [0]),(.neg (.bi (.j5 .bool) [0]))])]
noncomputable def w8(eU:Nat):List S:=[.ret (.dc [(.call eU [0]),(.chain .le .lt (.kn 0) 0 1)])]
noncomputable def Eh:List S:=[.ret (.dc [(.bi (.j5 .str) [0]),(.cmp .eq (.bi .len [0]) (.kn 1)),(.chain .le .le (.bx (.str "a")) 0 (.bx (.str "z")))])]
noncomputable def w_:List S:=[.ret (.bi .list1 [(.sub (.sub (.ks 0 1) 1) (.kn 1))])]
noncomputable def xg(aH:Nat):List S:=[.asg [2] (.lst [(.kn 0),(.call aH [0,(.kn 6)]),(.call aH [0,(.bin .sub (.bin .pow (.kn 10) (.kn 9)) (.kn 1000))])]),.asg [3] (.sub 2 (.bin .fdiv (.call aH [0,(.kn 5)]) (.kn 2))),.asg [4] (.lst []),.asg [5] 3,.eG [6] .fB [(.bi .min2 [3,(.call aH [0,(.kn 4)])])] [.asg [5] (.bin .sub (.bin .sub 5 (.kn 1)) (.bin .mul (.bi .uB [(.cmp .eq 1 (.bx (.str "heap")))]) (.call aH [0,(.kn 3)]))),.iff (.val (.cmp .ge 5 (.kn 0))) [.expr (.me .insert 4 [(.kn 0),(.tup [5,(.sub (.bx (.str "abcz")) (.call aH [0,(.kn 4)]))])])] []],.ret (.tup [3,(.bi .tuple1 [4])])]
def rX(dt:Nat)(aH:Nat)(nQ:Nat):List S:=[.asg [2] (.call dt [0,(.kn 5)]),.asg [3] (.bi .tuple1 [(.comp .seq [(.ks 1 1)] [1] none (.tup [(.kn 0),(.tup [])]) [none,none])]),.asg [4] (.bi .tuple1 [(.comp .seq [(.ks 1 0)] [1] none (.ks 1 0) [none,none])]),.iff (.val (.cmp .gt (.call aH [2,(.kn 3)]) (.kn 0))) [.asg [3] (.bi .tuple1 [(.comp .seq [(.ks 1 1)] [1] none (.call nQ [2,(.ks 1 2)]) [none,none,some 2])]),.iff (.val (.cmp .eq (.call aH [2,(.kn 4)]) (.kn 0))) [.asg [4] (.bi .tuple1 [(.comp .seq [(.ks 1 0)] [1] none (.call aH [2,(.kn 100)]) [none,none,some 2])])] []] [],.ret (.tup [4,3])]
end Ev
end
section
namespace Ev
open L2
open PySem PySem.Spec PyProof.Rows
structure Mv where
 s:Int
 c:Str
 a:Int
 sd:List (Int×Str)
 w:Option Str
structure Fm where
 ru:List (Int×List Mv)
 ro:List (Int×Int×Str)
structure Sd where
 st:List Int
 ld:List (Int×List (Int×Str))
def pD(p:Int×Str):D:=.tup [.int p.1,.str p.2]
def Wq:Option Str->D
 | none=>.a6
 | some x=>.str x
noncomputable def Wr(m:Mv):D:=.tup [.int m.s,.str m.c,.int m.a,.tup (m.sd.map pD),Wq m.w]
def Bq(r:Int×List Mv):D:=.tup [.int r.1,.tup (r.2.map Wr)]
noncomputable def k_(r:Int×Int×Str):D:=.tup [.int r.1,.int r.2.1,.str r.2.2]
def Bb(f:Fm):D:=.tup [.tup (f.ru.map Bq),.tup (f.ro.map k_)]
noncomputable def gL(l:Int×List (Int×Str)):D:=.tup [.int l.1,.tup (l.2.map pD)]
def rY(s:Sd):D:=.tup [.tup (s.st.map D.int),.tup (s.ld.map gL)]
noncomputable def jW(s:Str):Prop:=s = "a" \/ s = "b" \/ s = "c" \/ s = "z"
def Qh(w:Option Str):Prop:=∀x,w=some x->x = "x" \/ x = "yes" \/ x = "abcdefgh" \/ x = "own" \/ x = "a"
structure Mq (ro:List (Int×Int×Str)) (m:Nat) (y:Mv):Prop where
 s:0<=y.s/\y.s<100
 c:y.c = "own" \/ y.c = "a" \/ y.c = "b" \/ y.c = "z"
 a:0<=y.a/\y.a<100
 l:y.sd.length<=3
 sd:∀p∈y.sd,jW p.2/\0<=p.1/\∃r,ro[p.1.toNat]?=some r/\r.1=m
 w:Qh y.w
structure nR (n:Nat) (r:Int×Int×Str):Prop where
 a:0<=r.1/\r.1<n
 b:0<=r.2.1/\r.2.1<n
 ab:r.1≠r.2.1
 k:r.2.2 = "row" \/ r.2.2 = "heap"
structure lL (f:Fm):Prop where
 l1:1<=f.ru.length
 l4:f.ru.length<=4
 l8:f.ro.length<=8
 ro:∀r∈f.ro,nR f.ru.length r
 ru:∀m x,f.ru[m]?=some x->(0<=x.1/\x.1<100)/\x.2.length<=28/\∀y∈x.2,Mq f.ro m y
structure Bc (N:Nat) (l:Int×List (Int×Str)):Prop where
 s:0<=l.1/\l.1<=1000000000+N
 n:l.2.length<=N
 p:∀p∈l.2,jW p.2/\0<=p.1/\p.1<l.1
 r:l.2.Pairwise λp q=>p.1<q.1
structure nU (f:Fm) (N:Nat) (s:Sd):Prop where
 ls:s.st.length=f.ru.length
 st:∀x∈s.st,0<=x/\x<100
 ll:s.ld.length=f.ro.length
 ld:∀l∈s.ld,Bc N l
theorem Ei{α:Type}{toD:α->D}:∀{ds:List D}{Q:Nat->α->Prop},(∀m x,ds[m]?=some x->∃a,x=toD a/\Q m a)->∃as:List α,ds=as.map toD/\∀m a,as[m]?=some a->Q m a
  | [],Q,_=>⟨[],rfl,λm a h=>by simp at h⟩
  | d::ds,Q,h=>by
    obtain⟨as,e,q⟩:=Ei (toD:=toD) (ds:=ds) (Q:=λm a=>Q (m+1) a) λm x hx=>h (m+1) x (by simpa using hx);obtain⟨a,e0,q0⟩:=h 0 d (by simp);refine⟨a::as,by rw[eM,<- e,e0],λm b hb=>?_⟩
    cases m with
    | zero => have : a = b := by simpa using hb
              subst this;exact q0
    | succ m=>exact q m b (by simpa using hb)
theorem xh{α:Type}{toD:α->D}{ds:List D}{Q:α->Prop}(h:∀x∈ds,∃a,x=toD a/\Q a):∃as:List α,ds=as.map toD/\∀a∈as,Q a:=by
 obtain⟨as,e,q⟩:=Ei (toD:=toD) (ds:=ds) (Q:=λ_ a=>Q a) λm x hx=>h x (c_ hx);exact⟨as,e,λa ha=>by obtain⟨i,hi,rfl⟩:=qd.mp ha;exact q i _ (cf hi)⟩
theorem xj{d:D}(h:Je d):∃f,d=Bb f/\lL f:=by
 obtain⟨b_,bw,rfl,h1,h4,h8,F4,Zi⟩:=h
 obtain⟨ro,rfl,Rp⟩:=xh (toD:=k_) (ds:=bw) (Q:=nR b_.length) λx hx=>by
  obtain⟨a,b,k,rfl,a0,a1,b0,b1,ab,hk⟩:=F4 x hx;exact⟨(a,b,k),rfl,⟨a0,a1⟩,⟨b0,b1⟩,ab,hk⟩
 obtain⟨ru,e,hr⟩:=Ei (toD:=Bq) (ds:=b_) (Q:=λm x=>(0<=x.1/\x.1<100)/\x.2.length<=28/\∀y∈x.2,Mq ro m y) λm x hx=>by
  obtain⟨st,moves,rfl,⟨i,rfl,i0,i1⟩,hl,hm⟩:=Zi m x hx
  obtain⟨mv,rfl,UT⟩:=xh (toD:=Wr) (ds:=moves) (Q:=Mq ro m) λy hy=>by
   obtain⟨s,c,a,sd,wd,rfl,⟨s',rfl,s0,s1⟩,⟨c',rfl,hc⟩,⟨a',rfl,a0,a1⟩,hl,UN,hw⟩:=hm y hy
   obtain⟨Zj,rfl,hs⟩:=xh (toD:=pD) (ds:=sd) (Q:=λp=>jW p.2/\0<=p.1/\∃r,ro[p.1.toNat]?=some r/\r.1=(m:Int)) λz hz=>by
    obtain⟨r,c,rfl,⟨r0,b,k,hr⟩,hc⟩:=UN z hz;rw[dy]at hr
    cases e:ro[r.toNat]? with
    | none=>rw[e]at hr;cases hr
    | some q =>
     rw[e]at hr;have hr:k_ q=.tup [.int m,b,k]:=cH hr;refine⟨(r,c),rfl,hc,r0,q,e,?_⟩;unfold k_ at hr;simp only[D.tup.injEq,List.cons.injEq,D.int.injEq]at hr;exact hr.1
   have UW:∃w,wd=Wq w/\Qh w:=by
    rcases hw with rfl | ⟨x,rfl,hx⟩
    ·exact⟨none,rfl,λx h=>by cases h⟩
    ·exact⟨some x,rfl,λy h=>by cases h;exact hx⟩
   obtain⟨w,rfl,p5⟩:=UW;exact⟨⟨s',c',a',Zj,w⟩,rfl,⟨s0,s1⟩,hc,⟨a0,a1⟩,by simpa using hl,hs,p5⟩
  exact⟨(i,mv),rfl,⟨i0,i1⟩,by simpa using hl,UT⟩
 subst e;rw[aZ]at h1 h4;exact⟨⟨ru,ro⟩,rfl,h1,h4,by simpa using h8,by simpa using Rp,hr⟩
def nV(f:Fm)(r:Nat):Int×Int×Str:=f.ro.getD r (0,0,"")
noncomputable def load(s:Sd)(r:Nat):Int×List (Int×Str):=s.ld.getD r (0,[])
theorem lL.rd{f:Fm}(h:lL f){r:Nat}(hr:r<f.ro.length):(f.ro.map k_)[r]?=some (.tup [.int (nV f r).1,.int (nV f r).2.1,.str (nV f r).2.2])/\nR f.ru.length (nV f r):=by
 unfold nV;rw[dy,p_,cf hr];exact⟨rfl,h.ro _ (sV hr)⟩
theorem nU.UX{f:Fm}{N:Nat}{s:Sd}(h:nU f N s){r:Nat}(hr:r<f.ro.length):(s.ld.map gL)[r]?=some (.tup [.int (load s r).1,.tup ((load s r).2.map pD)])/\Bc N (load s r):=by
 have Ws:r<s.ld.length:=by rw[h.ll];exact hr
 unfold load;rw[dy,p_,cf Ws];exact⟨rfl,h.ld _ (sV Ws)⟩
theorem nR.ok{n:Nat}{r:Int×Int×Str}(h:nR n r):PyData.strOk r.2.2=true:=by
 rcases h.k with e | e<;>rw[e]<;>decide +kernel
section
variable {M:ag} {n:Nat} {ds:List D} {i:Int} {x:D}
abbrev iD(ks:List Int):List D:=ks.map D.int
theorem rZ{k:Nat}:∀(ks:List Int),bO M k (iD ks)=some (ks.map PyData.int)
 | []=>by show bO M k []=_;unfold bO;rfl
 | i::ks=>by
  show bO M k (.int i::iD ks)=_;unfold bO;have:dB M k (.int i)=some (.int i):=by cases k<;>(unfold dB;rfl)
  rw[this,rZ ks];rfl
end
def Wt:D->Bool
 | .int _=>true
 | _=>false
def Zk:D->Bool
 | .bl _=>true
 | _=>false
def Zl:D->Bool
 | .str _=>true
 | _=>false
theorem nW:PyData.strOk "row" = true:=⋯
theorem iq:PyData.strOk "heap" = true:=⋯
theorem s2:(2:Nat)<=sizeLine:=by decide
theorem s3:(3:Nat)<=sizeLine:=by decide
theorem s0:(0:Nat)<=sizeLine:=by decide
theorem kP{M:ag}{ds:List D}{m:Nat}{x:D}(h:ds[m]?=some x):d6 (.d (.tup ds)) (.d (.int m)) M=.ok (.d x) M:=DZ h
def gA(F:Fn):Prop:=∀(M:ag)(i:Int),aO (F [.int i] M) λr M'=>M=M'/\r=.d (.bl true)
theorem xk{G:a8}:gA (ai G 1 w6):=by
 intro M i;rw[ba];show d8 G w6 [some (.int i)] M _ _ _ _;nofun;exact⟨rfl,rfl⟩
def gB(F:Fn):Prop:=∀(M:ag)(i n:Nat),i<n->aO (F [.int i,.int n] M) λr M'=>M=M'/\r=.d (.bl true)
theorem xl{G:a8}{eU:Nat}(hW:gA (G eU)):gB (ai G 2 (w8 eU)):=by
 intro M i n h;rw[ba];show d8 G (w8 eU) [some (.int i),some (.int n)] M _ _ _ _;nofun;refine(hW M i).imp ?_;rintro r M1 ⟨rfl,rfl⟩;nofun;rw[dQ (show(i:Int)<n by omega)];exact⟨rfl,rfl⟩
def nX(F:Fn):Prop:=∀(M:ag)(c:Str),jW c->aO (F [.str c] M) λr M'=>M=M'/\r=.d (.bl true)
theorem Ej{G:a8}:nX (ai G 1 Eh):=by
 intro M c h;rw[ba];show d8 G Eh [some (.str c)] M _ _ _ _;rcases h with rfl | rfl | rfl | rfl<;>(nofun;exact⟨rfl,rfl⟩)
def xm(F:Fn):Prop:=∀(M:ag)(f:Fm)(N:Nat)(s:Sd)(r:Nat),nU f N s->r<f.ro.length->aO (F [rY s,.int r] M) λo M'=>M=M'/\o=.lv ((load s r).2.map pD)
theorem Mr{G:a8}:xm (ai G 2 w_):=by
 intro M f N s r hs hr;rw[ba];show d8 G w_ [some (rY s),some (.int r)] M _ _ _ _;nofun;rw[kP (hs.UX hr).1];exact⟨rfl,rfl⟩
noncomputable def pe(a b:Int):List Int:=(List.range (b-a).toNat).map λk=>a+((k:Nat):Int)
theorem Ek{a b:Int}(h:b<=a):pe a b=[]:=by
 unfold pe;rw[show(b-a).toNat=0 by omega];rfl
theorem Bd{a b:Int}(h:a<b):pe a b=a::pe (a+1) b:=by
 unfold pe;obtain⟨n,hn⟩:∃n,(b-a).toNat=n+1:=⟨(b-a).toNat-1,∅⟩;rw[hn,show(b-(a+1)).toNat=n by omega,List.range_succ_eq_map,eM,vI];refine congr (oG List.cons (by simp)) (List.map_congr_left λk _=>?_);show a+((k+1:Nat):Int)=a+1+(k:Int);omega
def cz(l:Int×List (Int×Str)):List Int:=l.2.map (·.1)
def Be(l:Int×List (Int×Str)):Prop:=cz l=pe (l.1-(l.2.length:Int)) l.1
def xn(F:Fn):Prop:=∀(M:ag)(w:Nat)(T:Int)(o:Str),WA M w T->T<10000->PyData.strOk o=true->aO (F [.aJ w,.str o] M) λr M'=>∃l,r=.d (gL l)/\Bc 4 l/\((o == "heap")=false->Be l)/\WA M' w (T+20)/\Fr w M M'
theorem Ms{G:a8}{aH:Nat}(hD:dJ (G aH)):xn (ai G 7 (xg aH)):=by
 intro M w T o hw hT ho;rw[ba];show d8 G (xg aH) [some (.aJ w),some (.str o),none,none,none,none,none] M _ _ _ _;nofun;refine(hD M w T 6 hw ∅ ∅ ∅).imp ?_;rintro r M1 ⟨a,rfl,a0,a1,D_,f1⟩;nofun;refine(hD M1 w _ (10 ^ 9-1000) D_ ∅ ∅ ∅).imp ?_;rintro r M2 ⟨b,rfl,b0,b1,p5,f2⟩;nofun;refine⟨s3,?_⟩;nofun;have hA:(M2++[MO.lst [.int 0,.int a,.int b]])[M2.length]?=some (.lst [.int 0,.int a,.int b]):=aQ;have lZ:WA (M2++[MO.lst [.int 0,.int a,.int b]]) w (T+1+1):=p5.app;have f3:Fr w M (M2++[MO.lst [.int 0,.int a,.int b]]):=(f1.trans f2).app;have hml:M.length<=M2.length:=(f1.trans f2).1;have Ik:=p5.lt;generalize M2++[MO.lst [.int 0,.int a,.int b]]=M3 at hA lZ f3⊢;refine(hD M3 w _ 5 lZ ∅ ∅ ∅).imp ?_;rintro r M4 ⟨c,rfl,c0,c1,j7,f4⟩;nofun;refine⟨⟨∅,∅⟩,?_⟩;have Zm:=f4.get hA ∅
 obtain⟨d,hd,s,rfl,Zn,s1'⟩:∃d,[D.int 0,.int a,.int b][(c / 2).toNat]?=some d/\∃s:Int,d=.int s/\0<=s/\s<1000000000:=nP (ds:=[D.int 0,.int a,.int b]) (k:=3) (λd hd=>by
  simp only[bz,iQ,fj]at hd;rcases hd with rfl | rfl | rfl
  ·exact⟨0,rfl,∅,∅⟩
  ·exact⟨a,rfl,∅,∅⟩
  ·exact⟨b,rfl,∅,∅⟩) ∅ ∅ rfl
 nofun;rw[cC Zm (i:=c / 2) ∅ hd];nofun;refine⟨s0,?_⟩;nofun;have f5:=f3.trans f4;refine(hD (M4++[MO.lst []]) w _ 4 j7.app ∅ ∅ ∅).imp ?_;rintro r M5 ⟨g,rfl,g0,g1,ji,f6⟩;nofun;have Zo:0<=(if g<s then g else s)/\(if g<s then g else s)<=3/\(if g<s then g else s)<=s:=by split<;>omega
 generalize (if g<s then g else s)=mn at Zo;refine⟨⟨∅,∅⟩,?_⟩;have UG:M.length<=M4.length:=f5.1;have P5:=j7.lt;refine kZ (n:=mn.toNat) (λi ρ M'=>∃o2 x6 ls,∃ps:List (Int×Str),ρ=[some (.aJ w),some (.str o),o2,some (.int s),some (.aJ M4.length),some (.int ls),x6]/\M'[M4.length]?=some (.lst (ps.map pD))/\ps.length<=i/\(∀p∈ps,jW p.2/\0<=p.1/\p.1<s/\ls<=p.1)/\(ps.Pairwise λp q=>p.1<q.1)/\ls<=s/\WA M' w (T+5+2*i)/\Fr w M M'/\((o == "heap")=false->ls=s-(i:Int)/\ps.length=i/\ps.map (·.1)=pe ls s)) ⟨_,_,_,[],rfl,f6.get aQ ∅,aq _,(by intro p h;cases h),.nil,tm _,ji.mono ∅,f5.app.trans f6,λ_=>⟨∅,rfl,(Ek (tm _)).symm⟩⟩ ?_ ?_
 ·rintro i ρ M6 hi ⟨o2,x6,ls,ps,rfl,hn,jx,Mu,Rq,Zq,u7,f7,ht⟩;nofun;rw[jV ho iq];nofun;refine(hD M6 w _ 3 u7 ∅ ∅ ∅).imp ?_;rintro r M7 ⟨h,rfl,h0,h1,Nm,f8⟩;have UY:=f8.get hn ∅;nofun;have SU:0<=(if (o == "heap")=true then (1:Int) else 0)/\(if (o == "heap")=true then (1:Int) else 0)<=1:=by split<;>omega
  refine⟨.inr ⟨∅,∅⟩,?_⟩;have hmul:0<=(if (o == "heap")=true then (1:Int) else 0)*h:=Int.mul_nonneg SU.1 h0;have hz:(o == "heap")=false->(if (o == "heap")=true then (1:Int) else 0)*h=0:=λq=>by rw[q];simp
  generalize (if (o == "heap")=true then (1:Int) else 0)*h=mm at hmul hz;nofun;by_cases HD:0<=ls-1-mm
  ·rw[dQ HD];nofun;refine⟨d9 UY,?_⟩;nofun;refine(hD M7 w _ 4 Nm ∅ ∅ ∅).imp ?_;rintro r M8 ⟨q,rfl,q0,q1,Mo,f9⟩;have Wu:=f9.get UY ∅;obtain⟨ch,Bl,UZ⟩:=P9 (M:=M8) q0 q1;nofun;rw[Bl];nofun;refine⟨s2,?_⟩;nofun;rw[u5 (x:=.tup [.int (ls-1-mm),.str ch]) (i:=0) Wu (bJ (by rw[aZ];omega)) ∅ ∅];refine⟨_,_,_,(ls-1-mm,ch)::ps,rfl,?_,by simp;omega,?_,?_,∅,(Mo.set ∅).mono ∅,((f7.trans f8).trans f9).set ∅,λq=>?_⟩
   ·rw[dI Wu];simp[pD]
   ·intro p hp;rcases bz.mp hp with rfl | hp
    ·exact⟨UZ,HD,by show ls-1-mm<s;omega,tm _⟩
    ·obtain⟨a1,a2,a3,a4⟩:=Mu p hp;exact⟨a1,a2,a3,∅⟩
   ·refine mr.mpr ⟨λp hp=>?_,Rq⟩;obtain⟨a1,a2,a3,a4⟩:=Mu p hp;show ls-1-mm<p.1;omega
   ·have z:=hz q;obtain⟨t1,t2,t3⟩:=ht q;refine⟨∅,by simp[t2],?_⟩;show(ls-1-mm)::ps.map (·.1)=_;rw[t3,z,Int.sub_zero,Bd (a:=ls-1) ∅,show ls-1+1=ls by omega]
  ·rw[cx HD]
   refine⟨_,_,_,ps,rfl,UY,∅,λp hp=>?_,Rq,∅,Nm.mono ∅,f7.trans f8,λq=>by
    have z:=hz q;obtain⟨t1,t2,t3⟩:=ht q;omega⟩
   obtain⟨a1,a2,a3,a4⟩:=Mu p hp;exact⟨a1,a2,a3,∅⟩
 ·rintro ρ M6 ⟨o2,x6,ls,ps,rfl,hn,jx,Mu,Rq,Zq,u7,f7,ht⟩;nofun;rw[eL hn];nofun;refine⟨s2,(s,ps),rfl,⟨⟨Zn,by show s<=_;omega⟩,by show ps.length<=4;omega,λp hp=>?_,Rq⟩,λq=>?_,u7.mono ∅,f7⟩
  ·obtain⟨a1,a2,a3,a4⟩:=Mu p hp;exact⟨a1,a2,a3⟩
  ·obtain⟨t1,t2,t3⟩:=ht q;show ps.map (·.1)=pe (s-(ps.length:Int)) s;rw[t3,t2,<- t1]
theorem jX{α:Type}{P:α->Prop}{aE:List α}{x:α}(h:∀y∈aE,P y)(hx:P x):∀y∈aE++[x],P y:=by
 intro y hy;rcases iu.mp hy with z | z
 ·exact h y z
 ·have:y=x:=by simpa using z
  subst this;exact hx
theorem y9{ds:List D}{M:ag}{i:Nat}:itemAt M i (.items ds)=some ds[i]?:=rfl
def Tl(f:Fm)(s:Sd):Prop:=∀r,r<f.ro.length->((nV f r).2.2 == "heap")=false->Be (load s r)
def Mx(f:Fm)(ls:List (Int×List (Int×Str))):Prop:=∀(j:Nat) l,ls[j]?=some l->((nV f j).2.2 == "heap")=false->Be l
theorem Mx.snoc{f:Fm}{ls:List (Int×List (Int×Str))}{l:Int×List (Int×Str)}(h:Mx f ls) (k:((nV f ls.length).2.2 == "heap")=false->Be l):Mx f (ls++[l]):=λj x e q=>by
 rcases qi j ls.length with z | z
 ·rw[gH z]at e;exact h j x e q
 ·rw[oy z]at e
  have hj:j=ls.length:=by
   have:=(cP.mp e).1;simp only[jo,BD]at this;omega
  subst hj;simp at e;subst e;exact k q
theorem Mx.tl{f:Fm}{st:List Int}{ls:List (Int×List (Int×Str))}(h:Mx f ls)(hl:ls.length=f.ro.length):Tl f ⟨st,ls⟩:=λr hr q=>h r _ (by
 show ls[r]?=some (ls.getD r (0,[]));rw[p_,cf ∅];rfl) q
theorem Qi:Be (0,[]):=rfl
def r_(F:Fn):Prop:=∀(M:ag)(ns:List Int)(f:Fm),ns.length<=63->lL f->aO (F [.ls (ns.map D.int),Bb f] M) λr M'=>∃s,r=.d (rY s)/\nU f 4 s/\Tl f s/\Ex M M'
theorem HE{G:a8}{dt aH nQ:Nat}(hW:p0 (G dt))(hD:dJ (G aH))(hL:xn (G nQ)):r_ (ai G 5 (rX dt aH nQ)):=by
 intro M ns f lP hf;have h8:=hf.l8;have h4:=hf.l4;rw[ba];show d8 G (rX dt aH nQ) [some (.ls (ns.map D.int)),some (Bb f),none,none,none] M _ _ _ _;nofun;refine(hW M ns 5 ∅ ∅ lP).imp ?_;rintro r M1 ⟨rfl,Iv,D_,f1⟩;nofun;refine pZ (ds:=f.ro.map k_) (λi M' aE=>M1=M'/\∃ls:List (Int×List (Int×Str)),aE=ls.map gL/\ls.length=i/\(∀l∈ls,Bc 4 l)/\Mx f ls) (by decide) (λi M' aE _ _=>y9) ⟨rfl,[],rfl,rfl,(by intro l h;cases h),(by intro j l h;simp at h)⟩ ?_ ?_ rfl
 ·rintro i M' aE d hd ⟨rfl,ls,rfl,sO,Jg,Jh⟩;have hi:=(cP.mp hd).1;rw[aZ]at hi;refine⟨bJ (by rw[aZ];omega),?_⟩;nofun;refine⟨s0,s2,rfl,ls++[(0,[])],by simp[gL],by simp[sO],jX Jg ⟨⟨tm _,by show(0:Int)<=_;omega⟩,by simp,(by intro p h;cases h),.nil⟩,Jh.snoc λ_=>Qi⟩
 rintro M' aE ⟨rfl,ls,rfl,sO,Jg,Jh⟩;rw[aZ]at sO;nofun;refine pZ (ds:=f.ru.map Bq) (λi M' aE=>M1=M'/\∃st:List Int,aE=st.map D.int/\st.length=i/\∀l∈st,0<=l/\l<100) (by decide) (λi M' aE _ _=>y9) ⟨rfl,[],rfl,rfl,(by intro l h;cases h)⟩ ?_ ?_ rfl
 ·rintro i M' aE d hd ⟨rfl,st,rfl,AQ,Ji⟩;have hi:=(cP.mp hd).1;rw[aZ]at hi;refine⟨bJ (by rw[aZ];omega),?_⟩;rw[dy,cf hi]at hd;cases hd;have hr:=(hf.ru i _ (cf hi)).1;nofun;refine⟨rfl,st++[f.ru[i].1],by simp,by simp[AQ],jX Ji hr⟩
 rintro M' aE ⟨rfl,st,rfl,AQ,Ji⟩;rw[aZ]at AQ;nofun;refine(hD M1 M.length 0 3 D_ ∅ ∅ ∅).imp ?_;rintro r M2 ⟨a,rfl,a0,a1,p5,f2⟩;nofun;by_cases ha:0<a
 ·rw[dQ ha];nofun;refine pZ (ds:=f.ro.map k_) (λi M' aE=>(WA M' M.length (1+20*i)/\Fr M.length M M')/\∃ls:List (Int×List (Int×Str)),aE=ls.map gL/\ls.length=i/\(∀l∈ls,Bc 4 l)/\Mx f ls) (by decide) (λi M' aE _ _=>y9) ⟨⟨p5.mono ∅,f1.trans f2⟩,[],rfl,rfl,(by intro l h;cases h),(by intro j l h;simp at h)⟩ ?_ ?_ rfl
  ·rintro i M' aE d hd ⟨⟨lZ,f3⟩,ls,rfl,sO,Jg,Jh⟩;have hi:=(cP.mp hd).1;rw[aZ]at hi;refine⟨bJ (by rw[aZ];omega),?_⟩;rw[(hf.rd hi).1]at hd;cases hd;nofun;refine(hL M' M.length _ _ lZ ∅ (hf.rd hi).2.ok).imp ?_;rintro r M4 ⟨l,rfl,hl,ht,j7,f4⟩;nofun;refine⟨⟨j7.mono ∅,f3.trans f4⟩,ls++[l],by simp,by simp[sO],jX Jg hl,Jh.snoc (by rw[sO];exact ht)⟩
  rintro M3 aE ⟨⟨lZ,f3⟩,ls,rfl,sO,Jg,Jh⟩;rw[aZ]at sO lZ;nofun;refine(hD M3 M.length _ 4 lZ ∅ ∅ ∅).imp ?_;rintro r M4 ⟨b,rfl,b0,b1,j7,f4⟩;nofun
  cases hb:(b==(0:Int))with
  | true =>
   nofun;refine pZ (ds:=f.ru.map Bq) (λi M' aE=>(WA M' M.length (300+i)/\Fr M.length M M')/\∃st:List Int,aE=st.map D.int/\st.length=i/\∀l∈st,0<=l/\l<100) (by decide) (λi M' aE _ _=>y9) ⟨⟨j7.mono ∅,f3.trans f4⟩,[],rfl,rfl,(by intro l h;cases h)⟩ ?_ ?_ rfl
   ·rintro i M' aE d hd ⟨⟨ji,f5⟩,st,rfl,AQ,Ji⟩;have hi:=(cP.mp hd).1;rw[aZ]at hi;refine⟨bJ (by rw[aZ];omega),?_⟩;nofun;refine(hD M' M.length _ 100 ji ∅ ∅ ∅).imp ?_;rintro r M6 ⟨c,rfl,c0,c1,u7,f6⟩;nofun;refine⟨⟨u7.mono ∅,f5.trans f6⟩,st++[c],by simp,by simp[AQ],jX Ji ⟨c0,c1⟩⟩
   rintro M5 aE ⟨⟨ji,f5⟩,st,rfl,AQ,Ji⟩;rw[aZ]at AQ;nofun;exact⟨s2,⟨st,ls⟩,rfl,⟨AQ,Ji,sO,Jg⟩,Jh.tl sO,f5⟩
  | false =>
   nofun;exact⟨s2,⟨st,ls⟩,rfl,⟨AQ,Ji,sO,Jg⟩,Jh.tl sO,f3.trans f4⟩
 ·rw[cx ha];nofun;exact⟨s2,⟨st,ls⟩,rfl,⟨AQ,Ji,sO,Jg⟩,Jh.tl sO,f1.trans f2⟩
end Ev
end
section
namespace Ev
open PySem
end Ev
end
section
namespace Ev
open L2
open PySem PySem.Spec PyProof.Rows
end Ev
end
section
namespace Ev
open PySem
noncomputable def xo(eV:Nat):List S:=[.ret (.call eV [0,(.Bn "STATES" 100)])]
noncomputable def se:List S:=[.ret (.dc [(.bi (.j5 .tuple) [0]),(.cmp .eq (.bi .len [0]) 1)])]
noncomputable def sg:List S:=[.ret (.bi .all1 [(.comp .zip [0,(.oQ 0 (some (.kn 1)) none)] [1,2] none (.cmp .lt 1 2) [none,none,none])])]
def nY(bh:Nat)(nZ:Nat):List S:=[.ret (.dc [(.call bh [1,(.bi .len [(.ks 0 0)])]),(.bi .all1 [(.comp .seq [1] [1] none (.call nZ [1]) [none,none])])])]
noncomputable def si(bh:Nat)(eV:Nat)(u9:Nat):List S:=[.ret (.dc [(.call bh [0,(.kn 2)]),(.call eV [(.ks 0 0),1]),(.call u9 [(.ks 0 1)])])]
def kQ(bh:Nat)(eU:Nat)(jY:Nat)(jZ:Nat):List S:=[.iff (.dw [(.neg (.val (.call bh [1,(.kn 2)]))),(.neg (.val (.call eU [(.ks 1 0)]))),(.val (.cmp .lt (.ks 1 0) (.kn 0))),(.neg (.val (.bi (.j5 .tuple) [(.ks 1 1)])))]) [.ret (.bx (.bl false))] [],.asg [2] (.ks 1 0),.iff (.neg (.val (.bi .all1 [(.comp .seq [(.ks 1 1)] [1] none (.call jY [1,2]) [none,none,some 2])]))) [.ret (.bx (.bl false))] [],.jT 3 (.comp .seq [(.ks 1 1)] [1] none (.ks 1 0) [none,none]),.iff (.val (.cmp .eq 0 (.bx (.str "row")))) [.ret (.cmp .eq 3 (.jl false [(.bin .sub 2 (.bi .len [3])),2]))] [],.ret (.call jZ [3])]
noncomputable def sj(bh:Nat)(fW:Nat):List S:=[.iff (.neg (.val (.call bh [1,(.bi .len [(.ks 0 1)])]))) [.ret (.bx (.bl false))] [],.ret (.bi .all1 [(.comp .zip [(.ks 0 1),1] [1,2] none (.call fW [(.ks 1 2),2]) [none,none,none])])]
noncomputable def so(bh:Nat)(h_:Nat)(j3:Nat):List S:=[.iff (.neg (.val (.call bh [1,(.kn 2)]))) [.ret (.bx (.bl false))] [],.ret (.dc [(.call h_ [0,(.ks 1 0)]),(.call j3 [0,(.ks 1 1)])])]
end Ev
end
section
namespace Ev
open L2
open PySem PySem.Spec PyProof.Rows
theorem El(ks:List Int):PyData.canLay0 (.list (ks.map PyData.int))=true:=by
 have:=zp ks;unfold SeqAt.shaped at this;exact((ay _ _).mp this).1
theorem Em{M:ag}{n:Nat}{ks:List Int}(h:M[n]?=some (.lst (ks.map D.int))):lH M (.d (.aJ n))=some (.list (ks.map PyData.int)):=by
 show dB M 30 (.aJ n)=_;unfold dB;simp only[h];rw[show bO M 29 (ks.map D.int)=_ from rZ ks];rfl
theorem Eo{M:ag}{ks:List Int}:lH M (.lv (ks.map D.int))=some (.list (ks.map PyData.int)):=by
 show(bO M 30 (ks.map D.int)).map PyData.list=_;rw[show bO M 30 (ks.map D.int)=_ from rZ ks];rfl
theorem Qj{M:ag}{n:Nat}{ks:List Int}(h:M[n]?=some (.lst (ks.map D.int))):bG .eq (.d (.aJ n)) (.lv (ks.map D.int)) M=.ok true M:=by
 unfold bG;simp only[Em h,Eo,zp ks,qk,fm,SeqAt.eqv_refl _ (El ks)]
theorem u_:∀{ds:List D},(∀d∈ds,d=.bl true)->∃bs,oU ds=some bs/\bs.all id=true
 | [],_=>⟨[],rfl,rfl⟩
 | d::ds,h=>by
  obtain⟨bs,e,q⟩:=u_ (ds:=ds) λd hd=>h d (cZ _ hd);rw[h d (du ..)];refine⟨true::bs,?_,by simpa using q⟩;show(oU ds).map (true::·)=_;rw[e];rfl
theorem Ep{M:ag}{ds:List D}(h:∀d∈ds,d=.bl true):fG .all1 [.lv ds] M=.ok (.d (.bl true)) M:=by
 obtain⟨bs,e,q⟩:=u_ h;unfold fG bC;simp only[e,q]
theorem su{M:ag}{α:Type}{l:List α}:fG .all1 [.lv (l.filterMap λ_=>some (D.bl true))] M=.ok (.d (.bl true)) M:=Ep λd hd=>by
 obtain⟨_,_,e⟩:=E6.mp hd;exact(cH e).symm
def jk(F:Fn):Prop:=∀(M:ag)(i:Int),0<=i->i<100->aO (F [.int i] M) λr M'=>M=M'/\r=.d (.bl true)
theorem xq{G:a8}{eV:Nat}(hB:gB (G eV)):jk (ai G 1 (xo eV)):=by
 intro M i h0 h1;obtain⟨n,rfl⟩:∃n:Nat,i=n:=⟨i.toNat,∅⟩;rw[ba];show d8 G (xo eV) [some (.int (n:Nat))] M _ _ _ _;nofun;exact hB M n 100 ∅
def xr(F:Fn):Prop:=∀(M:ag)(ds:List D)(n:Nat),ds.length=n->aO (F [.tup ds,.int n] M) λr M'=>M=M'/\r=.d (.bl true)
theorem U0{G:a8}:xr (ai G 2 se):=by
 intro M ds n h;subst h;rw[ba];show d8 G se [some (.tup ds),some (.int (ds.length:Nat))] M _ _ _ _;nofun;refine⟨rfl,?_⟩;rw[qf]
def gC(F:Fn):Prop:=∀(M:ag)(p:Int×Str)(s:Int),jW p.2->0<=p.1->p.1<s->aO (F [pD p,.int s] M) λr M'=>M=M'/\r=.d (.bl true)
theorem letterF{G:a8}{bh eV u9:Nat}(hT:xr (G bh))(hB:gB (G eV))(hS:nX (G u9)):gC (ai G 2 (si bh eV u9)):=by
 rintro M ⟨i,c⟩ s hc h0 h1;obtain⟨n,rfl⟩:∃n:Nat,i=n:=⟨i.toNat,by have:0<=i:=h0;omega⟩;obtain⟨k,rfl⟩:∃k:Nat,s=k:=⟨s.toNat,by have:(n:Int)<s:=h1;omega⟩;rw[ba];show d8 G (si bh eV u9) [some (.tup [.int (n:Nat),.str c]),some (.int (k:Nat))] M _ _ _ _;nofun;refine(hT M [.int (n:Nat),.str c] 2 rfl).imp ?_;rintro r M1 ⟨rfl,rfl⟩;nofun;refine(hB M n k (by have:(n:Int)<k:=h1;omega)).imp ?_;rintro r M1 ⟨rfl,rfl⟩;nofun;exact hS M c hc
def gD(F:Fn):Prop:=∀(M:ag)(n:Nat)(ks:List Int),M[n]?=some (.lst (ks.map D.int))->(ks.Pairwise λa b=>a<b)->ks.length<=900->aO (F [.aJ n] M) λr M'=>r=.d (.bl true)/\Ex M M'
theorem Jj{ds:List D}:cutD ds (some 1) none=ds.drop 1:=by
 unfold cutD;have e1:HT.cB ds.length ds.length none=ds.length:=rfl
 have e2:HT.cB ds.length 0 (some 1)=min 1 ds.length:=by
  show(if (1:Int)<0 then ((1:Int)+(ds.length:Int)).toNat else min (1:Int).toNat ds.length)=_;rw[aU (by decide)];rfl
 rw[e1,e2];rcases ds with _|⟨d,ds⟩
 ·rfl
 ·rw[show min 1 (d::ds).length=1 by simp];exact Bs (by simp)
theorem sv{G:a8}:gD (ai G 1 sg):=by
 intro M n ks hn hp hl;rw[ba];show d8 G sg [some (.aJ n)] M _ _ _ _;nofun;have e1:kB (.d (.aJ n)) (some 1) none M=.ok (.lv ((ks.map D.int).drop 1)) M:=by unfold kB;simp only[bC,hn,Jj]
 rw[e1];nofun;have z1:wu M (.d (.aJ n))=some (.at n):=by unfold wu bC;simp only[hn];rfl
 rw[show jI .zip [.d (.aJ n),.lv ((ks.map D.int).drop 1)] M=.ok (.zip (.at n) (.items ((ks.map D.int).drop 1))) M by
  show(match wu M (.d (.aJ n)),wu M (.lv ((ks.map D.int).drop 1))with | some a,some b=>bF.ok (It.zip a b) M | _,_=>.ae)=_;rw[z1];rfl]
 nofun;have U1:(List.zipWith (λa b=>D.tup [a,b]) (ks.map D.int) ((ks.map D.int).drop 1)).length<=ks.length:=by rw[oB,aZ];omega
 refine fh (ds:=List.zipWith (λa b=>D.tup [a,b]) (ks.map D.int) ((ks.map D.int).drop 1)) (λ_=>some (.bl true)) (by decide) (λM' f i hi=>?_) (ar ∅) ?_ ?_ ?_
 ·have h2:=Ex.get f hn;unfold Ev.itemAt lK;simp only[h2];unfold kW;rw[sS];cases (ks.map D.int)[i]? <;> cases ((ks.map D.int).drop 1)[i]? <;> rfl
 ·intro i M' d hd f;rw[sS,Fb,dy,dy]at hd
  cases ea:ks[i]? with
  | none=>rw[ea]at hd;cases hd
  | some a =>
   cases eb:ks[1+i]? with
   | none=>rw[ea,eb]at hd;cases hd
   | some b =>
    rw[ea,eb]at hd;cases hd;obtain⟨ia,va⟩:=cP.mp ea;obtain⟨ib,vb⟩:=cP.mp eb
    have Rf:a<b:=by
     have:=Jr.mp hp i (1+i) ia ib ∅;rw[va,vb]at this;exact this
    nofun;rw[dQ Rf];exact⟨rfl,f⟩
 ·intro M' f;nofun;rw[su];exact⟨rfl,f⟩
 ·unfold cR lK;simp only[hn];rw[oB]
def kR(F:Fn):Prop:=∀(M:ag)(o:Str)(N:Nat)(l:Int×List (Int×Str)),Bc N l->N<=900->(o = "row" \/ o = "heap")->((o == "heap")=false->Be l)->aO (F [.str o,gL l] M) λr M'=>r=.d (.bl true)/\Ex M M'
noncomputable def sC:D->Option D
 | .tup [.int i,_]=>some (.int i)
 | _=>none
theorem HF{ps:List (Int×Str)}:(ps.map pD).filterMap sC=(ps.map (·.1)).map D.int:=by
 induction ps with
 | nil=>rfl
 | cons p ps ih=>rw[eM,lg,ih];rfl
theorem Bf{G:a8}{bh eU jY jZ:Nat}(hT:xr (G bh))(hW:gA (G eU))(hL:gC (G jY))(hR:gD (G jZ)):kR (ai G 4 (kQ bh eU jY jZ)):=by
 rintro M o N ⟨s,ps⟩ ok hN ho ht;have k0:0<=s:=ok.s.1;have k1:s<=1000000000+N:=ok.s.2;have kn:ps.length<=N:=ok.n;rw[ba];show d8 G (kQ bh eU jY jZ) [some (.str o),some (.tup [.int s,.tup (ps.map pD)]),none,none] M _ _ _ _;nofun;refine(hT M [.int s,.tup (ps.map pD)] 2 rfl).imp ?_;rintro r M1 ⟨rfl,rfl⟩;nofun;refine(hW M s).imp ?_;rintro r M1 ⟨rfl,rfl⟩;nofun;rw[cx (by omega:¬s<0)];nofun;refine fh (ds:=ps.map pD) (λ_=>some (.bl true)) (by decide) cT (ar (by rw[aZ];omega)) ?_ ?_ rfl
 ·intro i M' d hd f;obtain⟨p,hp,rfl⟩:=iR.mp (c_ hd);have q:=ok.p p hp;nofun;refine(hL M' p s q.1 q.2.1 q.2.2).imp ?_;rintro r M1 ⟨rfl,rfl⟩;exact⟨rfl,f⟩
 intro M1 f1;nofun;rw[su];nofun;refine fh (ds:=ps.map pD) sC (by decide) cT (ar (by rw[aZ];omega)) ?_ ?_ rfl
 ·intro i M' d hd f;obtain⟨p,hp,rfl⟩:=iR.mp (c_ hd);nofun;exact⟨rfl,f⟩
 intro M2 f2;rw[HF];nofun;have h3:(M2++[MO.lst ((ps.map (·.1)).map D.int)])[M2.length]?=some (.lst ((ps.map (·.1)).map D.int)):=aQ;have f3:Ex M (M2++[MO.lst ((ps.map (·.1)).map D.int)]):=(Ex.trans f1 f2).app;generalize M2++[MO.lst ((ps.map (·.1)).map D.int)]=M3 at h3 f3;rcases ho with rfl | rfl
 ·rw[jV nW nW,show(("row" : Str) == "row")=true by decide +kernel];nofun;rw[cD h3];nofun;have aY:((ps.map (·.1)).map D.int).length=ps.length:=by simp
  refine⟨⟨⟨∅,∅,∅,∅⟩,by rw[aY];omega⟩,?_⟩;nofun
  have hd:oV (s-(((ps.map (·.1)).map D.int).length:Int)) (s-(s-(((ps.map (·.1)).map D.int).length:Int))).toNat=(ps.map (·.1)).map D.int:=by
   have t:ps.map (·.1)=pe (s-(ps.length:Int)) s:=ht ⋯;rw[aY];rw[t];unfold oV pe;rw[vI];rfl
  rw[hd];rw[show q_ false ((ps.map (·.1)).map D.int)=.lv ((ps.map (·.1)).map D.int) from rfl,Qj h3];exact⟨rfl,f3⟩
 ·rw[jV iq nW,show(("heap" : Str) == "row")=false by decide +kernel];nofun;refine(hR M3 M2.length (ps.map (·.1)) h3 ?_ (by rw[aZ];omega)).imp λr M4 ⟨e,f4⟩=>⟨e,Ex.trans f3 f4⟩;exact JH.mpr ok.r
def eW(F:Fn):Prop:=∀(M:ag)(f:Fm)(N:Nat)(s:Sd),lL f->nU f N s->aO (F [Bb f,.tup (s.st.map D.int)] M) λr M'=>r=.d (.bl true)/\Ex M M'
theorem n_{G:a8}{bh nZ:Nat}(hT:xr (G bh))(hS:jk (G nZ)):eW (ai G 2 (nY bh nZ)):=by
 intro M f N s hf hs;have h4:=hf.l4;have hl:(s.st.map D.int).length=(f.ru.map Bq).length:=by rw[aZ,aZ,hs.ls]
 rw[ba];show d8 G (nY bh nZ) [some (.tup [.tup (f.ru.map Bq),.tup (f.ro.map k_)]),some (.tup (s.st.map D.int))] M _ _ _ _;nofun;refine(hT M (s.st.map D.int) _ hl).imp ?_;rintro r M1 ⟨rfl,rfl⟩;nofun;refine fh (ds:=s.st.map D.int) (λ_=>some (.bl true)) (by decide) cT (ar (by rw[aZ,hs.ls];omega)) ?_ ?_ rfl
 ·intro i M' d hd fr;obtain⟨x,hx,rfl⟩:=iR.mp (c_ hd);have q:=hs.st x hx;nofun;refine(hS M' x q.1 q.2).imp ?_;rintro r M1 ⟨rfl,rfl⟩;exact⟨rfl,fr⟩
 ·intro M' fr;nofun;rw[su];exact⟨rfl,fr⟩
def gE(F:Fn):Prop:=∀(M:ag)(f:Fm)(N:Nat)(s:Sd),lL f->nU f N s->Tl f s->N<=900->aO (F [Bb f,.tup (s.ld.map gL)] M) λr M'=>r=.d (.bl true)/\Ex M M'
theorem sD{G:a8}{bh fW:Nat}(hT:xr (G bh))(hL:kR (G fW)):gE (ai G 2 (sj bh fW)):=by
 intro M f N s hf hs ht hN;have h8:=hf.l8;have hl:(s.ld.map gL).length=(f.ro.map k_).length:=by rw[aZ,aZ,hs.ll]
 rw[ba];show d8 G (sj bh fW) [some (.tup [.tup (f.ru.map Bq),.tup (f.ro.map k_)]),some (.tup (s.ld.map gL))] M _ _ _ _;nofun;refine(hT M (s.ld.map gL) _ hl).imp ?_;rintro r M1 ⟨rfl,rfl⟩;nofun;have U1:(List.zipWith (λa b=>D.tup [a,b]) (f.ro.map k_) (s.ld.map gL)).length<=8:=by rw[oB,aZ];omega
 refine fh (ds:=List.zipWith (λa b=>D.tup [a,b]) (f.ro.map k_) (s.ld.map gL)) (λ_=>some (.bl true)) (by decide) D3 (ar ∅) ?_ ?_ (by rw[oB];rfl)
 ·intro i M' d hd fr
  have hi:i<f.ro.length:=by
   have:=(cP.mp hd).1;rw[oB,aZ]at this;omega
  obtain⟨e1,e2⟩:=hf.rd hi;obtain⟨e3,e4⟩:=hs.UX hi;rw[sS,e1,e3]at hd;cases hd;nofun;refine(hL M' (nV f i).2.2 N (load s i) e4 hN e2.k (ht i hi)).imp ?_;rintro r M1 ⟨rfl,f1⟩;exact⟨rfl,Ex.trans fr f1⟩
 ·intro M' fr;nofun;rw[su];exact⟨rfl,fr⟩
def gF(F:Fn):Prop:=∀(M:ag)(f:Fm)(N:Nat)(s:Sd),lL f->nU f N s->Tl f s->N<=900->aO (F [Bb f,rY s] M) λr M'=>r=.d (.bl true)/\Ex M M'
theorem sE{G:a8}{bh h_ j3:Nat}(hT:xr (G bh))(hS:eW (G h_))(hR:gE (G j3)):gF (ai G 2 (so bh h_ j3)):=by
 intro M f N s hf hs ht hN;rw[ba];show d8 G (so bh h_ j3) [some (Bb f),some (.tup [.tup (s.st.map D.int),.tup (s.ld.map gL)])] M _ _ _ _;nofun;refine(hT M [.tup (s.st.map D.int),.tup (s.ld.map gL)] 2 rfl).imp ?_;rintro r M1 ⟨rfl,rfl⟩;nofun;refine(hS M f N s hf hs).imp ?_;rintro r M1 ⟨rfl,f1⟩;nofun;exact(hR M1 f N s hf hs ht hN).imp λr M2 ⟨e,f2⟩=>⟨e,Ex.trans f1 f2⟩
theorem ints_map:∀l:List Int,gZ (l.map D.int)=some l
 | []=>rfl
 | i::l=>by
  show(gZ (l.map D.int)).map (i::·)=_;rw[ints_map l];rfl
end Ev
end
section
namespace bV
open Ev PySem
abbrev Fu:=List D->ag->bF W
abbrev c0(l:List Fu):=l
def n0:List Str:=["thing"]
def b0:List S:=w6
def f0:Fu:=ai (cm (c0 [])) 1 b0
abbrev c1(l:List Fu):=c0 (f0::l)
def n1:List Str:=["thing","bound"]
def b1:List S:=w8 0
def f1:Fu:=ai (cm (c1 [])) 2 b1
abbrev c2(l:List Fu):=c1 (f1::l)
def n2:List Str:=["thing"]
def b2:List S:=xo 1
def f2:Fu:=ai (cm (c2 [])) 1 b2
abbrev c3(l:List Fu):=c2 (f2::l)
def n3:List Str:=["thing"]
def b3:List S:=Eh
def f3:Fu:=ai (cm (c3 [])) 1 b3
abbrev c4(l:List Fu):=c3 (f3::l)
def n4:List Str:=["thing","many"]
def b4:List S:=se
def f4:Fu:=ai (cm (c4 [])) 2 b4
abbrev c5(l:List Fu):=c4 (f4::l)
def n5:List Str:=["numbers"]
def b5:List S:=sg
def f5:Fu:=ai (cm (c5 [])) 1 b5
abbrev c6(l:List Fu):=c5 (f5::l)
def n6:List Str:=["form","states","roads"]
def b6:List S:=[.asg [1] (.bi .tuple1 [(.comp .seq [(.ks 0 0)] [1] none (.ks 1 0) [none,none])]),.asg [2] (.bi .tuple1 [(.comp .seq [(.ks 0 1)] [1] none (.tup [(.kn 0),(.tup [])]) [none,none])]),.ret (.tup [1,2])]
def f6:Fu:=ai (cm (c6 [])) 3 b6
abbrev c7(l:List Fu):=c6 (f6::l)
def n7:List Str:=["form","thing"]
def b7:List S:=nY 4 2
def f7:Fu:=ai (cm (c7 [])) 2 b7
abbrev c8(l:List Fu):=c7 (f7::l)
def n8:List Str:=["thing","sent"]
def b8:List S:=si 4 1 3
def f8:Fu:=ai (cm (c8 [])) 2 b8
abbrev c9(l:List Fu):=c8 (f8::l)
def n9:List Str:=["order","thing","sent","numbers"]
def b9:List S:=kQ 4 0 8 5
def f9:Fu:=ai (cm (c9 [])) 4 b9
abbrev Qk(l:List Fu):=c9 (f9::l)
def Zr:List Str:=["form","thing"]
def Rr:List S:=sj 4 9
def Wv:Fu:=ai (cm (Qk [])) 2 Rr
abbrev Ql(l:List Fu):=Qk (Wv::l)
def Zs:List Str:=["form","thing"]
def Rt:List S:=so 4 7 10
def Zt:Fu:=ai (cm (Ql [])) 2 Rt
abbrev Qm(l:List Fu):=Ql (Zt::l)
def Zu:List Str:=["stand","road"]
def Ww:List S:=w_
def Zv:Fu:=ai (cm (Qm [])) 2 Ww
abbrev Ru(l:List Fu):=Qm (Zv::l)
def Zw:List Str:=["_law_script","_law_k","_law_cell"]
def Wx:List S:=D4
def Rv:Fu:=ai (cm (Ru [])) 3 Wx
abbrev Rw(l:List Fu):=Ru (Rv::l)
noncomputable def Zx:List Str:=["_law_well_here","_law_many","_law_turn","_law_left","_law_here","_law_mixed"]
def Wy:List S:=yZ
def Zy:Fu:=ai (cm (Rw [])) 6 Wy
abbrev Qn(l:List Fu):=Rw (Zy::l)
noncomputable def Zz:List Str:=["_law_well_here","_law_machines","_law_roads_here","_law_many","_law_k","_law_one","_law_other"]
def Wz:List S:=wV 14
def ZB:Fu:=ai (cm (Qn [])) 7 Wz
abbrev Rx(l:List Fu):=Qn (ZB::l)
noncomputable def ZC:List Str:=["_law_well_here","_law_some","_law_many","_law_k","_law_state"]
def WB:List S:=rT 14
def ZD:Fu:=ai (cm (Rx [])) 5 WB
abbrev Ry(l:List Fu):=Rx (ZD::l)
noncomputable def ZE:List Str:=["_law_well_here","_law_ways","_law_sends_here","_law_k","_law_road"]
def WC:List S:=wW 14
def ZF:Fu:=ai (cm (Ry [])) 5 WC
abbrev Rz(l:List Fu):=Ry (ZF::l)
noncomputable def ZG:List Str:=["_law_well_here","_law_some","_law_ways","_law_words","_law_moves_here","_law_state","_law_cause","_law_after","_law_sends_here","_law_word","_law_at"]
def WD:List S:=wX 14 17
def ZH:Fu:=ai (cm (Rz [])) 11 WD
abbrev RA(l:List Fu):=Rz (ZH::l)
noncomputable def ZI:List Str:=["_law_script","_law_well_here","_law_machines","_law_roads_here","_law_rules","_law_m","_law_some","_law_ways","_law_start"]
def WE:List S:=y3 13 14 15 16 18
def ZJ:Fu:=ai (cm (RA [])) 9 WE
abbrev RB(l:List Fu):=RA (ZJ::l)
noncomputable def ZK:List Str:=["_law_well_here","_law_order","_law_some","_law_sent","_law_waiting","_law_least","_law_k"]
def WG:List S:=xg 14
def ZL:Fu:=ai (cm (RB [])) 7 WG
abbrev RC(l:List Fu):=RB (ZL::l)
noncomputable def ZM:List Str:=["_law_script","_law_form_here","_law_well_here","_law_loads","_law_states_here"]
def WH:List S:=rX 13 14 20
def ZN:Fu:=ai (cm (RC [])) 5 WH
abbrev RE(l:List Fu):=RC (ZN::l)
def ZO:List Str:=["_law_thing","_law_low","_law_high"]
noncomputable def RF:List S:=[.ret (.dc [(.bi (.j5 .int) [0]),(.neg (.bi (.j5 .bool) [0])),(.chain .le .le 1 0 2)])]
def ZP:Fu:=ai (cm (RE [])) 3 RF
abbrev RG(l:List Fu):=RE (ZP::l)
def ZQ:List Str:=["_law_thing","_law_many"]
def RH:List S:=se
def ZR:Fu:=ai (cm (RG [])) 2 RH
abbrev RI(l:List Fu):=RG (ZR::l)
noncomputable def ZS:List Str:=["_law_thing","_law_order","_law_letter","_law_numbers"]
def RJ:List S:=[.iff (.dw [(.neg (.val (.call 23 [0,(.kn 2)]))),(.neg (.val (.call 22 [(.ks 0 0),(.kn 0),(.bin .pow (.kn 10) (.kn 20))]))),(.neg (.val (.bi (.j5 .tuple) [(.ks 0 1)])))]) [.ret (.bx (.bl false))] [],.eG [2] .seq [(.ks 0 1)] [.iff (.dw [(.neg (.val (.call 23 [2,(.kn 2)]))),(.neg (.val (.call 22 [(.ks 2 0),(.kn 0),(.bin .sub (.ks 0 0) (.kn 1))]))),(.neg (.val (.bi (.j5 .str) [(.ks 2 1)])))]) [.ret (.bx (.bl false))] [],.iff (.dw [(.val (.cmp .ne (.bi .len [(.ks 2 1)]) (.kn 1))),(.val (.cmp .lt (.fP (.bx (.str "abcdefghijklmnopqrstuvwxyz")) (.ks 2 1)) (.kn 0)))]) [.ret (.bx (.bl false))] []],.jT 3 (.comp .seq [(.ks 0 1)] [1] none (.ks 1 0) [none,none]),.iff (.val (.cmp .ne 3 (.sset 3))) [.ret (.bx (.bl false))] [],.ret (.dw [(.cmp .eq 1 (.bx (.str "heap"))),(.cmp .eq 3 (.lst [])),(.cmp .eq (.ks 3 0) (.bin .sub (.ks 0 0) (.bi .len [3])))])]
def ZT:Fu:=ai (cm (RI [])) 4 RJ
abbrev RK(l:List Fu):=RI (ZT::l)
noncomputable def ZU:List Str:=["_law_form_here","_law_thing","_law_state"]
def RL:List S:=[.iff (.dw [(.neg (.val (.call 23 [1,(.kn 2)]))),(.neg (.val (.call 23 [(.ks 1 0),(.bi .len [(.ks 0 0)])]))),(.neg (.val (.call 23 [(.ks 1 1),(.bi .len [(.ks 0 1)])])))]) [.ret (.bx (.bl false))] [],.eG [2] .seq [(.ks 1 0)] [.iff (.neg (.val (.call 22 [2,(.kn 0),(.kn 99)]))) [.ret (.bx (.bl false))] []],.ret (.bi .all1 [(.comp .fB [(.bi .len [(.ks 0 1)])] [1] none (.call 24 [(.sub (.ks 3 1) 1),(.sub (.sub (.ks 2 1) 1) (.kn 2))]) [none,none,some 0,some 1])])]
def ZV:Fu:=ai (cm (RK [])) 3 RL
abbrev RM(l:List Fu):=RK (ZV::l)
noncomputable def ZW:List Str:=["_law_well_here","_law_part","_law_some"]
noncomputable def RN:List S:=[.asg [2] (.lst [(.bx .a6),(.bx (.bl true)),(.bx (.bl false)),(.kn (-1)),(.kn 0),(.kn 1),(.kn 99),(.kn 100),(.bin .pow (.kn 10) (.kn 9)),(.kn 7),(.bx (.str "")),(.bx (.str "a")),(.bx (.str "A")),(.bx (.str "ab")),(.tup []),(.lst []),(.tup [(.tup []),(.tup [])]),(.tup [(.kn 0),(.tup [])])]),.asg [2] (.bin .add 2 (.lst [(.tup [(.kn 1),(.tup [(.tup [(.kn 0),(.bx (.str "a"))])])]),(.tup [(.kn 2),(.tup [(.tup [(.kn 1),(.bx (.str "a"))]),(.tup [(.kn 0),(.bx (.str "b"))])])]),(.tup [(.kn 2),(.tup [(.tup [(.kn 0),(.bx (.str "a"))])])]),(.tup [(.kn 3),(.tup [(.tup [(.kn 0),(.bx (.str "a"))]),(.tup [(.kn 2),(.bx (.str "b"))])])])])),.expr (.me .append 2 [(.tup [(.tup [(.kn 0),(.bx (.str "a"))])])]),.iff (.val (.bi (.j5 .tuple) [1])) [.asg [2] (.bin .add 2 (.bin .mul (.lst [(.bi .list1 [1]),(.bin .add 1 (.oQ 1 none (some (.kn 1)))),(.oQ 1 none (some (.kn (-1)))),(.oQ 1 (some (.kn 1)) none),(.ym 1 (-1)),(.tup [1])]) (.kn 4)))] [],.iff (.dc [(.val (.bi (.j5 .int) [1])),(.neg (.val (.bi (.j5 .bool) [1])))]) [.asg [2] (.bin .add 2 (.bin .mul (.lst [(.bin .add 1 (.kn 1)),(.bin .sub 1 (.kn 1)),(.bi .str1 [1])]) (.kn 4)))] [],.ret (.sub 2 (.call 14 [0,(.bi .len [2])]))]
def ZX:Fu:=ai (cm (RM [])) 3 RN
abbrev Jk(l:List Fu):=RM (ZX::l)
noncomputable def ZY:List Str:=["_law_well_here","_law_part","_law_deep","_law_at"]
noncomputable def Np:List S:=[.iff (.dw [(.neg (.val (.bi (.j5 .tuple) [1]))),(.val (.cmp .eq (.bi .len [1]) (.kn 0))),(.val (.cmp .eq 2 (.kn 0))),(.val (.cmp .eq (.call 14 [0,(.kn 6)]) (.kn 0)))]) [.ret (.call 26 [0,1])] [],.asg [3] (.call 14 [0,(.bi .len [1])]),.ret (.bin .add (.bin .add (.oQ 1 none (some 3)) (.tup [(.call 27 [0,(.sub 1 3),(.bin .sub 2 (.kn 1))])])) (.oQ 1 (some (.bin .add 3 (.kn 1))) none))]
def ZZ:Fu:=DQ (Jk []) 4 Np 9
abbrev RO(l:List Fu):=Jk (ZZ::l)
noncomputable def Z0:List Str:=["_law_form_here","_law_thing","_law_kept","_law_found"]
noncomputable def RP:List S:=[.asg [2] (.bi .d5 [1]),.asg [3] (.call 11 [0,1]),.ret (.dc [(.bi (.j5 .bool) [3]),(.cmp .eq 3 (.call 25 [0,1])),(.cmp .eq (.bi .d5 [1]) 2)])]
def Z2:Fu:=ai (cm (RO [])) 4 RP
abbrev RQ(l:List Fu):=RO (Z2::l)
noncomputable def Z3:List Str:=["_law_form_here","_law_stand_here","_law_road","_law_due","_law_found"]
noncomputable def RS:List S:=[.eG [2] .fB [(.bi .len [(.ks 0 1)])] [.asg [3] (.bi .list1 [(.sub (.sub (.ks 1 1) 2) (.kn 1))]),.asg [4] (.call 12 [1,2]),.iff (.dw [(.neg (.val (.bi (.j5 .list) [4]))),(.val (.cmp .ne (.bi .d5 [4]) (.bi .d5 [3])))]) [.ret (.bx (.bl false))] [],.expr (.me .append 4 [(.tup [(.kn 0),(.bx (.str "a"))])]),.expr (.me .reverse 4 []),.iff (.val (.cmp .ne (.bi .d5 [(.call 12 [1,2])]) (.bi .d5 [3]))) [.ret (.bx (.bl false))] []],.ret (.bx (.bl true))]
def Z4:Fu:=ai (cm (RQ [])) 5 RS
abbrev RT(l:List Fu):=RQ (Z4::l)
noncomputable def Z5:List Str:=["_law_script","_law_form_here","_law_due","_law_stand_here","_law_k","_law_well_here","_law_bent_here","_law_turn","_law_thing","_law_wide"]
def RU:List S:=[.asg [1] (.call 19 [0]),.asg [2] (.tup [(.bi .tuple1 [(.comp .seq [(.ks 1 0)] [1] none (.ks 1 0) [none,none])]),(.bin .mul (.tup [(.tup [(.kn 0),(.tup [])])]) (.bi .len [(.ks 1 1)]))]),.iff (.dw [(.val (.cmp .ne (.bi .d5 [(.call 6 [1])]) (.bi .d5 [2]))),(.val (.eh true (.call 11 [1,2])))]) [.ret (.bx (.bl false))] [],.asg [3] (.call 21 [0,1]),.iff (.dw [(.val (.eh true (.call 11 [1,3]))),(.neg (.val (.call 29 [1,3])))]) [.ret (.bx (.bl false))] [],.eG [4] .fB [(.kn 16)] [.asg [5] (.call 13 [0,(.bin .add (.kn 6) 4)]),.asg [6] (.sub (.lst [3,3,2]) (.call 14 [5,(.kn 3)])),.eG [7] .fB [(.bin .add (.kn 1) (.call 14 [5,(.kn 2)]))] [.asg [6] (.call 27 [5,6,(.kn 6)])],.iff (.neg (.val (.call 28 [1,6]))) [.ret (.bx (.bl false))] []],.eG [8] .seq [(.tup [(.bx .a6),(.tup []),(.kn 7),(.bx (.str "a")),(.lst [(.ks 2 0),(.ks 2 1)]),(.oQ 2 none (some (.kn 1))),(.bin .add 2 (.tup [(.tup [])])),(.tup [(.tup []),(.tup [])])])] [.iff (.neg (.val (.call 28 [1,8]))) [.ret (.bx (.bl false))] []],.iff (.dc [(.val (.cmp .gt (.bi .len [(.ks 1 1)]) (.kn 0))),(.val (.cmp .eq (.sub (.sub (.ks 1 1) (.kn 0)) (.kn 2)) (.bx (.str "heap"))))]) [.asg [9] (.tup [(.ks 2 0),(.bin .add (.tup [(.tup [(.bin .pow (.kn 10) (.kn 9)),(.bi .tuple1 [(.comp .fB [(.kn 100)] [1] none (.tup [(.bin .mul (.kn 3) 1),(.bx (.str "a"))]) [none,none])])])]) (.oQ (.ks 2 1) (some (.kn 1)) none))]),.ret (.eh false (.call 11 [1,9]))] [],.ret (.bx (.bl true))]
def Qo:Fu:=ai (cm (RT [])) 10 RU
def gs:List (Str×Int):=[(("STATES" : Str),100)]
noncomputable def fs:List (Str×Nat):=[(("is_whole" : Str),1),(("is_below" : Str),2),(("is_state" : Str),1),(("is_sign" : Str),1),(("is_tuple_of" : Str),2),(("is_rising" : Str),1),(("first" : Str),1),(("right_states" : Str),2),(("is_letter" : Str),2),(("right_letters" : Str),2),(("right_roads" : Str),2),(("right_stand" : Str),2),(("waits" : Str),2),(("_law_well" : Str),2),(("_law_draw" : Str),2),(("_law_roads" : Str),2),(("_law_states" : Str),1),(("_law_sends" : Str),2),(("_law_moves" : Str),3),(("_law_form" : Str),1),(("_law_load" : Str),2),(("_law_stand" : Str),2),(("_law_whole" : Str),3),(("_law_long" : Str),2),(("_law_is_load" : Str),2),(("_law_is_stand" : Str),2),(("_law_odd" : Str),2),(("_law_bent" : Str),3),(("_law_right" : Str),2),(("_law_waits_right" : Str),2),(("law" : Str),1)]
end bV
end
section
namespace bV
open L2 Ev
open PySem PySem.Spec PyProof.Rows
def l7(i:Int):Str:=Str.ofString (toString i)
def xt:List Str:=["","a","b","c","z","A","ab"]
noncomputable def At(B:Nat):D->Prop
 | .a6=>True
 | .bl _=>True
 | .int i=>i.natAbs<=B
 | .str s=>s∈xt\/∃i:Int,i.natAbs<=B/\s=l7 i
 | _=>False
mutual
inductive Tg (M:ag) (B L:Nat):Nat->Nat->D->Prop
 | at (c h:Nat) (d:D) (a:At B d) (hc:300<=c):Tg M B L c h d
 | tup (c e h:Nat) (ds:List D) (t:Ts M B L c h ds) (hc:c+5<=e) (hl:ds.length<=L):Tg M B L e (h+1) (.tup ds)
 | lst (c e h n:Nat) (ds:List D) (hM:M[n]?=some (.lst ds)) (t:Ts M B L c h ds) (hc:c+5<=e) (hl:ds.length<=L):Tg M B L e (h+1) (.aJ n)
inductive Ts (M:ag) (B L:Nat):Nat->Nat->List D->Prop
 | nil (c h:Nat):Ts M B L c h []
 | cons (c c1 c2 h:Nat) (d:D) (ds:List D) (t:Tg M B L c1 h d) (r:Ts M B L c2 h ds) (hc:c1+c2<=c):Ts M B L c h (d::ds)
end
section
variable {M M':ag} {B B' L L':Nat}
theorem At.mono{d:D}(a:At B d)(hb:B<=B'):At B' d:=by
 cases d with
 | int i=>exact bH a hb
 | str s =>
  rcases a with a | ⟨i,h,e⟩
  ·exact .inl a
  ·exact .inr ⟨i,bH h hb,e⟩
 | a6=>trivial
 | bl _=>trivial
 | tup _=>exact a
 | aJ _=>exact a
 | ls _=>exact a
mutual
theorem Tg.mono(f:Ex M M')(hb:B<=B')(hL:L<=L'):∀{c h c' h':Nat}{d:D},Tg M B L c h d->c<=c'->h<=h'->Tg M' B' L' c' h' d
 | _,_,_,_,_,.at c h d a hc,e1,e2=>.at _ _ _ (a.mono hb) (bH hc e1)
 | _,_,c',h',_,.tup c e h ds t hc hl,e1,e2=>by
  obtain⟨k,rfl⟩:∃k,h'=k+1:=⟨h'-1,∅⟩;exact .tup c c' k ds (Ts.mono f hb hL t (aq _) ∅) ∅ (bH hl hL)
 | _,_,c',h',_,.lst c e h n ds hM t hc hl,e1,e2=>by
  obtain⟨k,rfl⟩:∃k,h'=k+1:=⟨h'-1,∅⟩;exact .lst c c' k n ds (Ex.get f hM) (Ts.mono f hb hL t (aq _) ∅) ∅ (bH hl hL)
theorem Ts.mono(f:Ex M M')(hb:B<=B')(hL:L<=L'):∀{c h c' h':Nat}{ds:List D},Ts M B L c h ds->c<=c'->h<=h'->Ts M' B' L' c' h' ds
 | _,_,_,_,_,.nil c h,_,_=>.nil _ _
 | _,_,_,_,_,.cons c c1 c2 h d ds t r hc,e1,e2=>.cons _ c1 c2 _ d ds (Tg.mono f hb hL t (aq _) e2) (Ts.mono f hb hL r (aq _) e2) ∅
end
theorem Ts.app:∀{c1 c2 h:Nat}{ds es:List D},Ts M B L c1 h ds->Ts M B L c2 h es->Ts M B L (c1+c2) h (ds++es)
 | _,c2,_,_,_,.nil c h,k=>Ts.mono (Ex.refl M) (aq _) (aq _) k ∅ (aq _)
 | _,c2,_,_,_,.cons c a b h d ds t r hc,k=>.cons _ a (b+c2) h d _ t (Ts.app r k) ∅
theorem Ts.cut:∀{c h:Nat}{ds:List D}(n:Nat),Ts M B L c h ds->∃a b,a+b<=c/\Ts M B L a h (ds.take n)/\Ts M B L b h (ds.drop n)
 | c,h,ds,0,t=>⟨0,c,∅,.nil _ _,t⟩
 | _,_,_,n+1,.nil c h=>⟨0,0,∅,.nil _ _,.nil _ _⟩
 | _,_,_,n+1,.cons c a b h d ds t r hc=>by
  obtain⟨x,y,e,p,q⟩:=Ts.cut n r;exact⟨a+x,y,∅,.cons _ a x h d _ t p (aq _),q⟩
theorem Ts.rev:∀{c h:Nat}{ds:List D},Ts M B L c h ds->Ts M B L c h ds.reverse
 | _,_,_,.nil c h=>.nil _ _
 | _,_,_,.cons c a b h d ds t r hc=>by
  rw[Fd];exact(Ts.app (Ts.rev r) (.cons a a 0 h d [] t (.nil _ _) (aq _))).mono (Ex.refl M) (aq _) (aq _) ∅ (aq _)
theorem Ts.mem:∀{c h:Nat}{ds:List D},Ts M B L c h ds->∀d∈ds,Tg M B L c h d
 | _,_,_,.nil c h,d,hd=>by cases hd
 | _,_,_,.cons c a b h x ds t r hc,d,hd=>by
  rcases bz.mp hd with z | z
  ·rw[z];exact Tg.mono (Ex.refl M) (aq _) (aq _) t ∅ (aq _)
  ·exact Tg.mono (Ex.refl M) (aq _) (aq _) (Ts.mem r d z) ∅ (aq _)
theorem Ts.at:∀{c h:Nat}{ds:List D}{n:Nat}{d:D},Ts M B L c h ds->ds[n]?=some d->∃a x b,a+x+b<=c/\Ts M B L a h (ds.take n)/\Tg M B L x h d/\Ts M B L b h (ds.drop (n+1))
 | _,_,_,n,d,.nil c h,e=>by simp at e
 | _,_,_,0,d,.cons c a b h x ds t r hc,e=>by
  have:x=d:=by simpa using e
  subst this;exact⟨0,a,b,∅,.nil _ _,t,r⟩
 | _,_,_,n+1,d,.cons c a b h x ds t r hc,e=>by
  obtain⟨p,q,s,k,k1,k2,k3⟩:=Ts.at (n:=n) r (by simpa using e);exact⟨a+p,q,s,∅,.cons _ a p h x _ t k1 (aq _),k2,k3⟩
theorem Tg.tupI{c h:Nat}{ds:List D}(t:Tg M B L c h (.tup ds)):∃e k,e+5<=c/\h=k+1/\Ts M B L e k ds/\ds.length<=L:=by
 cases t with
 | «at» _ _ _ a hc=>exact a.elim
 | tup e _ k _ t hc hl=>exact⟨e,k,hc,rfl,t,hl⟩
end
end bV
end
section
namespace bV
open L2 Ev
open PySem PySem.Spec PyProof.Rows
theorem og{i:Int}{c:Nat}(h:c∈(l7 i).cps.toList):c=45\/48<=c/\c<=57:=by
 refine Classical.byContradiction λq=>?_;exact int_text_free' c ⟨∅,∅⟩ i h
theorem Es(i:Int):PyData.strOk (l7 i)=true:=by
 unfold PyData.strOk;rw[Array.all_eq_true'];intro c hc;have:=og (i:=i) (c:=c) (by simpa using hc);exact dQ ∅
theorem sF{i:Int}(h:i.natAbs<10 ^ 20):(l7 i).length<=22:=by
 have:=int_text_length_le10 (a:=i) (k:=20) (by decide) h;unfold l7;rw[PySem.ofString_length];omega
theorem Qp:∀q∈[34,39],∀c∈[45,48,49,50,51,52,53,54,55,56,57],(Builtin.Str.reprChar q c).all (λx=>decide (x<1114112))=true:=⋯
theorem Et{q:Nat}(hq:q∈[34,39]):∀(l:List Nat)(aE:Array Nat),(∀c∈l,c=45\/48<=c/\c<=57)->aE.all (λx=>decide (x<1114112))=true->(l.foldl (λout c=>out++(Builtin.Str.reprChar q c).toArray) aE).all (λx=>decide (x<1114112))=true
 | [],aE,_,h=>h
 | c::r,aE,hl,h=>by
  rw[List.foldl_cons];refine Et hq r _ (λd hd=>hl d (cZ _ hd)) ?_;rw[Array.all_append,h,gR];have hc:=hl c du;have:c∈[45,48,49,50,51,52,53,54,55,56,57]:=by simp only[bz,iQ,fj];omega
  have:=Qp q hq c this;simpa using this
theorem My{i:Int}(h:i.natAbs<10 ^ 20):Tx 298 (reprText (l7 i)):=by
 constructor
 ·have:=StrLaws.reprText_len (l7 i) λc hc=>by have:=og hc;omega
  have:=sF h;omega
 ·have hq:reprQuote (l7 i)∈[34,39]:=by unfold reprQuote;split<;>simp
  unfold PyData.strOk reprText;show((((l7 i).cps.foldl (λout c=>out++(Builtin.Str.reprChar (reprQuote (l7 i)) c).toArray) #[reprQuote (l7 i)]).push (reprQuote (l7 i))).all λx=>decide (x<1114112))=true;have EV:reprQuote (l7 i)<1114112:=by simp only[bz,iQ,fj]at hq;omega
  rw[Array.all_push,<- Array.foldl_toList,Et hq _ _ (λc hc=>og hc) (by simpa using EV)];simpa using EV
theorem sG{s:Str}(h:s∈xt):PyData.strOk s=true/\Tx 298 (reprText s)/\s.length<=2:=by
 simp only[xt,bz,iQ,fj]at h;rcases h with rfl | rfl | rfl | rfl | rfl | rfl | rfl<;>exact⟨⋯,⟨⋯,⋯⟩,⋯⟩
theorem y_{i:Int}(h:(l7 i).length=1):0<=i/\i<10:=by
 unfold l7 at h;rw[PySem.ofString_length]at h
 cases i with
 | ofNat n =>
  have h:(toString n).length=1:=h
  have e:(toString n).length=(Nat.toDigits 10 n).length:=by
   rw[show toString n=Nat.repr n from rfl];unfold Nat.repr;simp
  rw[e]at h;have:=(Nat.length_toDigits_le_iff (b:=10) (n:=n) (k:=1) (by decide) (by decide)).mp ∅;show(0:Int)<=(n:Int)/\(n:Int)<10;omega
 | negSucc n =>
  have h:("-" ++ toString (n+1)).length=1:=h;rw[String.length_append]at h
  have:0<(toString (n+1)).length:=by
   rw[show toString (n+1)=Nat.repr (n+1) from rfl];unfold Nat.repr;have:=Nat.length_toDigits_pos (b:=10) (n:=n+1);simpa using this
  have:("-" : String).length=1:=by decide
  omega
end bV
end
section
namespace bV
open L2 Ev
open PySem PySem.Spec PyProof.Rows
def ln(l:List Str):Nat:=(l.map λx=>x.length+2).sum
theorem l_{x:Str}{l:List Str}:ln (x::l)=x.length+2+ln l:=by unfold ln;simp
theorem Jl:∀{l:List Str},(∀x∈l,PyData.strOk x=true)->Tx (ln l) ((Str.ofString ", ").join l)
 | [],_=>by rw[Str.join.eq_1];exact⟨jt _,⋯⟩
 | [x],h=>by rw[Str.join.eq_2];exact⟨by rw[l_];omega,h x du⟩
 | x::y::r,h=>by
  rw[Str.join.eq_3 _ _ _ (λq=>by cases q)];have h1:Tx x.length x:=⟨aq _,h x du⟩;have h2:=Jl (l:=y::r) λz hz=>h z (cZ _ hz);have h3:Tx 2 (Str.ofString ", "):=⟨⋯,⋯⟩;exact((h1.app h3).app h2).mono (by rw[l_ (x:=x)];omega)
theorem U2{l:List Str}(h:∀x∈l,PyData.strOk x=true):Tx (ln l+3) (tupleText l):=by
 unfold tupleText;have h1:Tx 1 (Str.ofString "("):=⟨⋯,⋯⟩
 have h2:Tx 2 (Str.ofString (if (l.length==1)=true then ",)" else ")")):=by
  split<;>exact⟨⋯,⋯⟩
 exact((h1.app (Jl h)).app h2).mono ∅
theorem Jm:∀{l:List Str}{n a:Nat}{x:Str},Tx a x->(∀x∈l,PyData.strOk x=true)->Tx (a+ln l) (textFrom n x l)
 | [],_,_,_,h,_=>by rw[textFrom.eq_1];exact h.mono (Nat.le_add_right _ _)
 | t::ts,n,a,x,h,k=>by
  rw[textFrom.eq_2];have h2:Tx 2 (Str.ofString (if n>0 then ", " else "")):=by split<;>exact⟨⋯,⋯⟩
  have h3:Tx t.length t:=⟨aq _,k t du⟩;exact(Jm (l:=ts) (n:=n+1) ((h.app h2).app h3) λz hz=>k z (cZ _ hz)).mono (by rw[l_];omega)
theorem Qq{l:List Str}(h:∀x∈l,PyData.strOk x=true):Tx (ln l+2) (listText l):=by
 unfold listText;have h1:Tx 1 (Str.ofString "["):=⟨⋯,⋯⟩;have h2:Tx 1 (Str.ofString "]"):=⟨⋯,⋯⟩;exact((Jm h1 h).app h2).mono ∅
theorem Qr{B:Nat}{d:D}(hB:B<10 ^ 20)(a:At B d):∃p:PyData,(∀M n,dB M n d=some p)/\p.canLay0=true/\p.showable=true/\p.depth<=0/\Tx 298 p.shown:=by
 cases d with
 | a6=>exact⟨.none,λM n=>by cases n<;>(unfold dB;rfl),PyData.canLay0.eq_1,PyData.showable.eq_1,oE PyData.depth.eq_4,by rw[PyData.shown.eq_1];exact⟨⋯,⋯⟩⟩
 | bl b =>
  refine⟨.bool b,λM n=>by cases n<;>(unfold dB;rfl),?_⟩;cases b<;>exact⟨⋯,⋯,⋯,⋯,⋯⟩
 | int i =>
  have a:i.natAbs<=B:=a;have hn:i.natAbs<10 ^ 20:=∅
  have U3:i.natAbs.log2<1920:=by
   by_cases h0:i.natAbs=0
   ·rw[h0];decide
   ·have:i.natAbs<2 ^ 1920:=eZ hn (by decide);exact(Nat.log2_lt h0).mpr this
  refine⟨.int i,λM n=>by cases n<;>(unfold dB;rfl),PyData.canLay0.eq_3 i,?_,oE (PyData.depth.eq_6 i),?_⟩
  ·rw[PyData.showable.eq_4];exact dQ U3
  ·rw[PyData.shown.eq_3];exact⟨bH (sF hn) (by decide),Es i⟩
 | str s =>
  have q:PyData.strOk s=true/\Tx 298 (reprText s):=by
   rcases a with a | ⟨i,h,rfl⟩
   ·exact⟨(sG a).1,(sG a).2.1⟩
   ·exact⟨Es i,My ∅⟩
  exact⟨.str s,λM n=>by cases n<;>(unfold dB;rfl),(PyData.canLay0.eq_4 s).trans q.1,PyData.showable.eq_3 s,oE (PyData.depth.eq_7 s),by rw[PyData.shown.eq_4];exact q.2⟩
 | tup _=>exact a.elim
 | aJ _=>exact a.elim
 | ls _=>exact a.elim
section
variable {M:ag} {B L:Nat}
mutual
theorem Jn(hB:B<10 ^ 20):∀{c h:Nat}{d:D},Tg M B L c h d->∃p:PyData,(∀M' n,Ex M M'->h<=n->dB M' n d=some p)/\p.canLay0=true/\p.showable=true/\p.depth<=h/\p.shown.length+2<=c/\PyData.strOk p.shown=true
 | _,_,_,.at c h d a hc=>by
  obtain⟨p,e,q1,q2,q3,q4⟩:=Qr hB a;exact⟨p,λM' n _ _=>e M' n,q1,q2,bH q3 (jt _),by have:=q4.1;omega,q4.2⟩
 | _,_,_,.tup c e h ds t hc hl=>by
  obtain⟨ps,es,a1,a2,a3,a4,a5⟩:=zc hB t;refine⟨.tuple ps,λM' n f hn=>?_,(PyData.canLay0.eq_6 ps).trans a1,(PyData.showable.eq_6 ps).trans a2,by rw[PyData.depth.eq_2];omega,?_⟩
  ·obtain⟨m,rfl⟩:∃m,n=m+1:=⟨n-1,∅⟩;unfold dB;rw[es M' m f ∅];rfl
  ·rw[PyData.shown.eq_6];have:=U2 a5;exact⟨by have:=this.1;omega,this.2⟩
 | _,_,_,.lst c e h k ds hM t hc hl=>by
  obtain⟨ps,es,a1,a2,a3,a4,a5⟩:=zc hB t;refine⟨.list ps,λM' n f hn=>?_,(PyData.canLay0.eq_5 ps).trans a1,(PyData.showable.eq_5 ps).trans a2,by rw[PyData.depth.eq_1];omega,?_⟩
  ·obtain⟨m,rfl⟩:∃m,n=m+1:=⟨n-1,∅⟩;unfold dB;simp only[Ex.get f hM];rw[es M' m f ∅];rfl
  ·rw[PyData.shown.eq_5];have:=Qq a5;exact⟨by have:=this.1;omega,this.2⟩
theorem zc(hB:B<10 ^ 20):∀{c h:Nat}{ds:List D},Ts M B L c h ds->∃ps:List PyData,(∀M' n,Ex M M'->h<=n->bO M' n ds=some ps)/\PyData.canLayAll0 ps=true/\PyData.showableAll ps=true/\PyData.depthAll ps<=h/\ln (PyData.shownAll ps)<=c/\∀x∈PyData.shownAll ps,PyData.strOk x=true
 | _,_,_,.nil c h=>⟨[],λM' n _ _=>by unfold bO;rfl,PyData.canLayAll0.eq_1,PyData.showableAll.eq_1,by rw[PyData.depthAll.eq_1];omega,by rw[PyData.shownAll.eq_1];exact jt _,by rw[PyData.shownAll.eq_1];intro x h;cases h⟩
 | _,_,_,.cons c c1 c2 h d ds t r hc=>by
  obtain⟨p,e,b1,b2,b3,b4,b5⟩:=Jn hB t;obtain⟨ps,es,a1,a2,a3,a4,a5⟩:=zc hB r;refine⟨p::ps,λM' n f hn=>by unfold bO;rw[e M' n f hn,es M' n f hn],by rw[PyData.canLayAll0.eq_2,a1,b1];rfl,by rw[PyData.showableAll.eq_2,a2,b2];rfl,by rw[PyData.depthAll.eq_2];omega,by rw[PyData.shownAll.eq_2,l_];omega,?_⟩;rw[PyData.shownAll.eq_2];intro x hx;rcases bz.mp hx with rfl | hx
  ·exact b5
  ·exact a5 x hx
end
theorem zd{c h:Nat}{d:D}(hB:B<10 ^ 20)(t:Tg M B L c h d)(hc:c<=1000000)(hh:h<=30):∃x,PyData.strOk x=true/\∀M',Ex M M'->fG .d5 [.d d] M'=.ok (.d (.str x)) M':=by
 obtain⟨p,e,q1,q2,q3,q4,q5⟩:=Jn hB t;refine⟨p.shown,q5,λM' f=>?_⟩;unfold fG;have:lH M' (.d d)=some p:=e M' 30 f hh;simp only[this];rw[aT ⟨q2,∅,bH (show p.shown.length<=1000000 by omega) (by decide)⟩]
end
end bV
end
section
namespace bV
open L2 Ev
open PySem PySem.Spec PyProof.Rows
def U4:D->Bool
 | .tup _=>true
 | _=>false
noncomputable def Nl(M:ag):D->Prop
 | .ls _=>False
 | .aJ n=>∃ds,M[n]?=some (.lst ds)
 | _=>True
section
variable {M:ag} {d:D} {B L c h:Nat}
theorem Tg.nl(t:Tg M B L c h d):Nl M d:=by
 cases t with
 | «at» _ _ _ a _=>cases d<;>first | trivial | exact a.elim
 | tup=>trivial
 | lst _ _ _ n ds hM=>exact⟨ds,hM⟩
theorem Bg(x:Nl M d):fG (.j5 .tuple) [.d d] M=.ok (.d (.bl (U4 d))) M:=by
 cases d with
 | aJ n=>obtain⟨ds,hM⟩:=x;unfold fG;simp only[wq,hM];rfl
 | ls _=>exact x.elim
 | _=>rfl
theorem Mz(x:Nl M d):fG (.j5 .int) [.d d] M=.ok (.d (.bl (Wt d||Zk d))) M:=by
 cases d with
 | aJ n=>obtain⟨ds,hM⟩:=x;unfold fG;simp only[wq,hM];rfl
 | ls _=>exact x.elim
 | _=>rfl
theorem Qs(x:Nl M d):fG (.j5 .str) [.d d] M=.ok (.d (.bl (Zl d))) M:=by
 cases d with
 | aJ n=>obtain⟨ds,hM⟩:=x;unfold fG;simp only[wq,hM];rfl
 | ls _=>exact x.elim
 | _=>rfl
end
noncomputable def sP(lo hi:Int):D->Bool
 | .int i=>decide (lo<=i)&&decide (i<hi)
 | _=>false
noncomputable def Qt(s:Str):Prop:=s∈xt\/∃i:Int,i.natAbs<10 ^ 20/\s=l7 i
noncomputable def xu(s:Str):Bool:=s == "a" || s == "b" || s == "c" || s == "z"
def Nq:D->Bool
 | .str s=>xu s
 | _=>false
def sN:D->Prop
 | .str s=>Qt s
 | _=>True
theorem Tg.WI{M:ag}{d:D}{B L c h:Nat}(t:Tg M B L c h d)(hB:B<10 ^ 20):sN d:=by
 cases d with
 | str s =>
  cases t with
  | «at» _ _ _ a _ =>
   rcases a with a | ⟨i,q,e⟩
   ·exact .inl a
   ·exact .inr ⟨i,∅,e⟩
 | _=>trivial
theorem WJ{i:Int}(h:0<=i/\i<10):i=0\/i=1\/i=2\/i=3\/i=4\/i=5\/i=6\/i=7\/i=8\/i=9:=∅
theorem Eu{s:Str}(h:Qt s):s.length<=22:=by
 rcases h with h | ⟨i,h,rfl⟩
 ·exact bH (sG h).2.2 (by decide)
 ·exact sF h
theorem Ew{s:Str}(h:Qt s):((((s.length:Nat):Int)==1)&&((!decide (s.cps.toList<("a" : Str).cps.toList)) && !decide (("z" : Str).cps.toList<s.cps.toList)))=xu s:=by
 rcases h with h | ⟨i,h,rfl⟩
 ·simp only[xt,bz,iQ,fj]at h;rcases h with rfl | rfl | rfl | rfl | rfl | rfl | rfl<;>decide +kernel
 ·by_cases q:(l7 i).length=1
  ·rcases WJ (y_ q)with rfl | rfl | rfl | rfl | rfl | rfl | rfl | rfl | rfl | rfl<;>decide +kernel
  ·have e:(((l7 i).length:Int)==1)=false:=by simp;omega
   rw[e,jr]
   have ne:∀c:Str,c.length=1->(l7 i==c)=false:=λc hc=>by
    rw[qe];intro z;rw[z]at q;exact q hc
   unfold xu;rw[ne "a" (⋯),ne "b" (⋯),ne "c" (⋯),ne "z" (⋯)];rfl
theorem HG{s:Str}(h:Qt s):((((s.length:Nat):Int)==1)&&decide ((0:Int)<=(Txt.find ("abcdefghijklmnopqrstuvwxyz" : Str) s:Int)))=xu s:=by
 rcases h with h | ⟨i,h,rfl⟩
 ·simp only[xt,bz,iQ,fj]at h;rcases h with rfl | rfl | rfl | rfl | rfl | rfl | rfl<;>decide +kernel
 ·by_cases q:(l7 i).length=1
  ·rcases WJ (y_ q)with rfl | rfl | rfl | rfl | rfl | rfl | rfl | rfl | rfl | rfl<;>decide +kernel
  ·have e:(((l7 i).length:Int)==1)=false:=by simp;omega
   rw[e,jr];have:=Ew (.inr ⟨i,h,rfl⟩);rw[e,jr]at this;exact this
def gA(F:Fn):Prop:=∀(M:ag)(x:D),Nl M x->aO (F [x] M) λr M'=>M=M'/\r=.d (.bl (Wt x))
theorem xk{G:a8}:gA (ai G 1 b0):=by
 intro M x h;rw[ba];show d8 G b0 [some x] M _ _ _ _;nofun;rw[Mz h];cases x<;>first | exact h.elim | (nofun;first | exact⟨rfl,rfl⟩ | (rw[Z6 h];exact⟨rfl,rfl⟩))
def gB(F:Fn):Prop:=∀(M:ag)(x:D)(n:Int),Nl M x->aO (F [x,.int n] M) λr M'=>M=M'/\r=.d (.bl (sP 0 n x))
theorem xl{G:a8}(hW:gA (G 0)):gB (ai G 2 b1):=by
 intro M x n h;rw[ba];show d8 G b1 [some x,some (.int n)] M _ _ _ _;nofun;refine(hW M x h).imp ?_;rintro r M2 ⟨rfl,rfl⟩
 cases x with
 | int i =>
  nofun;by_cases h0:(0:Int)<=i
  ·rw[dQ h0];nofun;refine⟨rfl,?_⟩;show W.d (D.bl (decide (i<n)))=W.d (D.bl (decide (0<=i)&&decide (i<n)));rw[dQ h0,gR]
  ·rw[cx h0];nofun;refine⟨rfl,?_⟩;show W.d (D.bl false)=W.d (D.bl (decide (0<=i)&&decide (i<n)));rw[cx h0,jr]
 | _=>first | exact h.elim | (nofun;exact⟨rfl,rfl⟩)
def jk(F:Fn):Prop:=∀(M:ag)(x:D),Nl M x->aO (F [x] M) λr M'=>M=M'/\r=.d (.bl (sP 0 100 x))
theorem xq{G:a8}(hB:gB (G 1)):jk (ai G 1 b2):=by
 intro M x h;rw[ba];show d8 G b2 [some x] M _ _ _ _;nofun;exact hB M x 100 h
theorem len_str{M:ag}{s:Str}(h:s.length<=sizeLine):fG .len [.d (.str s)] M=.ok (.d (.int s.length)) M:=by
 unfold fG bC;simp only[];rw[aT h]
def nX(F:Fn):Prop:=∀(M:ag)(x:D),Nl M x->sN x->aO (F [x] M) λr M'=>M=M'/\r=.d (.bl (Nq x))
theorem Ej{G:a8}:nX (ai G 1 b3):=by
 intro M x h hs;rw[ba];show d8 G b3 [some x] M _ _ _ _;nofun;rw[Qs h]
 cases x with
 | str s =>
  have q:=Ew hs;nofun;rw[len_str (ar (bH (Eu hs) (by decide)))];nofun;have e:Nq (.str s)=xu s:=rfl;rw[e,<- q]
  cases q1:(((s.length:Nat):Int)==1)with
  | false=>exact⟨rfl,rfl⟩
  | true =>
   nofun
   cases q2:(!decide (s.cps.toList<("a" : Str).cps.toList))with
   | false=>nofun;exact⟨rfl,rfl⟩
   | true=>nofun;exact⟨rfl,rfl⟩
 | _=>first | exact h.elim | (nofun;exact⟨rfl,rfl⟩)
noncomputable def Ey(n:Int):D->Bool
 | .tup ds=>((ds.length:Nat):Int)==n
 | _=>false
def eX(F:Fn):Prop:=∀(M:ag)(x:D)(n:Int),Nl M x->aO (F [x,.int n] M) λr M'=>M=M'/\r=.d (.bl (Ey n x))
theorem MB{G:a8}:eX (ai G 2 b4):=by
 intro M x n h;rw[ba];show d8 G b4 [some x,some (.int n)] M _ _ _ _;nofun;rw[Bg h]
 cases x with
 | tup ds=>nofun;exact⟨rfl,rfl⟩
 | _=>first | exact h.elim | (nofun;exact⟨rfl,rfl⟩)
theorem ze{α:Type}{f:α->Bool}:∀l:List α,oU (l.map λx=>D.bl (f x))=some (l.map f)
 | []=>rfl
 | x::l=>by
  show(oU (l.map λx=>D.bl (f x))).map (f x::·)=_;rw[ze l];rfl
theorem all_map{M:ag}{α:Type}{f:α->Bool}{l:List α}:fG .all1 [.lv (l.map λx=>D.bl (f x))] M=.ok (.d (.bl (l.all f))) M:=by
 unfold fG bC;simp only[ze];rw[List.all_map];rfl
theorem oh{α β:Type}{f:α->β}(l:List α):l.filterMap (λx=>some (f x))=l.map f:=by
 induction l with
 | nil=>rfl
 | cons x l ih=>rw[lg,ih];rfl
theorem Nl.ex{M M':ag}{d:D}(x:Nl M d)(f:Ex M M'):Nl M' d:=by
 cases d with
 | aJ n=>obtain⟨ds,h⟩:=x;exact⟨ds,Ex.get f h⟩
 | ls _=>exact x.elim
 | _=>trivial
def xv(n:Nat):D->Bool
 | .tup ds=>(((ds.length:Nat):Int)==(n:Int))&&ds.all (sP 0 100)
 | _=>false
def eW(F:Fn):Prop:=∀(M:ag)(ru ro:List D)(x:D),Nl M x->(∀ds,x=.tup ds->ds.length<=1000/\∀d∈ds,Nl M d)->aO (F [.tup [.tup ru,.tup ro],x] M) λr M'=>r=.d (.bl (xv ru.length x))/\Ex M M'
theorem n_{G:a8}(hS:jk (G 2))(hT:eX (G 4)):eW (ai G 2 b7):=by
 intro M ru ro x h hx;rw[ba];show d8 G b7 [some (.tup [.tup ru,.tup ro]),some x] M _ _ _ _;nofun;refine(hT M x _ h).imp ?_;rintro r M2 ⟨rfl,rfl⟩
 cases x with
 | tup ds =>
  obtain⟨hl,hn⟩:=hx ds rfl;have e:Ey (ru.length:Nat) (.tup ds)=(((ds.length:Nat):Int)==(ru.length:Nat)):=rfl;have e':xv ru.length (.tup ds)=((((ds.length:Nat):Int)==((ru.length:Nat):Int))&&ds.all (sP 0 100)):=rfl;rw[e,e']
  cases q:(((ds.length:Nat):Int)==(ru.length:Nat))with
  | false=>nofun;exact⟨rfl,Ex.refl M⟩
  | true =>
   nofun;refine fh (ds:=ds) (λd=>some (.bl (sP 0 100 d))) (by decide) cT (ar hl) ?_ ?_ rfl
   ·intro i M' d hd f;nofun
    exact(hS M' d ((hn d (c_ hd)).ex f)).imp λr M1 ⟨e1,e2⟩=>by
     subst e1 e2;exact⟨rfl,f⟩
   ·intro M' f;rw[oh];nofun;rw[all_map];exact⟨by rw[gR],f⟩
 | _=>first | exact h.elim | (nofun;exact⟨rfl,Ex.refl M⟩)
def iG(s:Int):D->Bool
 | .tup [a,b]=>sP 0 s a&&Nq b
 | _=>false
def gC(F:Fn):Prop:=∀(M:ag)(x:D)(s:Int),Nl M x->(∀ds,x=.tup ds->∀d∈ds,Nl M d/\sN d)->aO (F [x,.int s] M) λr M'=>M=M'/\r=.d (.bl (iG s x))
theorem letterF{G:a8}(hB:gB (G 1))(hS:nX (G 3))(hT:eX (G 4)):gC (ai G 2 b8):=by
 intro M x s h hx;rw[ba];show d8 G b8 [some x,some (.int s)] M _ _ _ _;nofun;refine(hT M x _ h).imp ?_;rintro r M2 ⟨rfl,rfl⟩
 cases x with
 | tup ds =>
  have hn:=hx ds rfl;rcases ds with _|⟨a,_|⟨b,_|⟨e,r⟩⟩⟩
  ·nofun;exact⟨rfl,rfl⟩
  ·nofun;exact⟨rfl,rfl⟩
  ·nofun;refine(hB M a s (hn a (by simp)).1).imp ?_;rintro r M2 ⟨rfl,rfl⟩;have e':iG s (.tup [a,b])=(sP 0 s a&&Nq b):=rfl;rw[e']
   cases q:sP 0 s a with
   | false=>nofun;exact⟨rfl,rfl⟩
   | true =>
    nofun;exact(hS M b (hn b (by simp)).1 (hn b (by simp)).2).imp λr M2 ⟨e1,e2⟩=>⟨e1,by rw[e2,gR]⟩
  ·have q:Ey 2 (.tup (a::b::e::r))=false:=by
    show((((a::b::e::r).length:Nat):Int)==2)=false;simp only[jo];rw[qe];omega
   rw[q];nofun;exact⟨rfl,rfl⟩
 | _=>first | exact h.elim | (nofun;exact⟨rfl,rfl⟩)
noncomputable def RV:D->Bool
 | .tup [.int a,.int b]=>decide (a<b)
 | _=>false
def om(ks:List Int):Bool:=(List.zipWith (λa b=>D.tup [a,b]) (ks.map D.int) ((ks.map D.int).drop 1)).all RV
def gD(F:Fn):Prop:=∀(M:ag)(n:Nat)(ks:List Int),M[n]?=some (.lst (ks.map D.int))->ks.length<=900->aO (F [.aJ n] M) λr M'=>r=.d (.bl (om ks))/\Ex M M'
theorem sv{G:a8}:gD (ai G 1 b5):=by
 intro M n ks hn hl;rw[ba];show d8 G b5 [some (.aJ n)] M _ _ _ _;nofun;have e1:kB (.d (.aJ n)) (some 1) none M=.ok (.lv ((ks.map D.int).drop 1)) M:=by unfold kB;simp only[bC,hn,Jj]
 rw[e1];nofun;have z1:wu M (.d (.aJ n))=some (.at n):=by unfold wu bC;simp only[hn];rfl
 rw[show jI .zip [.d (.aJ n),.lv ((ks.map D.int).drop 1)] M=.ok (.zip (.at n) (.items ((ks.map D.int).drop 1))) M by
  show(match wu M (.d (.aJ n)),wu M (.lv ((ks.map D.int).drop 1))with | some a,some b=>bF.ok (It.zip a b) M | _,_=>.ae)=_;rw[z1];rfl]
 nofun;have U1:(List.zipWith (λa b=>D.tup [a,b]) (ks.map D.int) ((ks.map D.int).drop 1)).length<=ks.length:=by rw[oB,aZ];omega
 refine fh (ds:=List.zipWith (λa b=>D.tup [a,b]) (ks.map D.int) ((ks.map D.int).drop 1)) (λd=>some (.bl (RV d))) (by decide) (λM' f i hi=>?_) (ar ∅) ?_ ?_ ?_
 ·have h2:=Ex.get f hn;unfold Ev.itemAt lK;simp only[h2];unfold kW;rw[sS];cases (ks.map D.int)[i]? <;> cases ((ks.map D.int).drop 1)[i]? <;> rfl
 ·intro i M' d hd f;rw[sS,Fb,dy,dy]at hd
  cases ea:ks[i]? with
  | none=>rw[ea]at hd;cases hd
  | some a =>
   cases eb:ks[1+i]? with
   | none=>rw[ea,eb]at hd;cases hd
   | some b =>
    rw[ea,eb]at hd;cases hd;nofun;exact⟨rfl,f⟩
 ·intro M' f;rw[oh];nofun;rw[all_map];exact⟨rfl,f⟩
 ·unfold cR lK;simp only[hn];rw[oB]
end bV
end
section
namespace bV
open L2 Ev
open PySem PySem.Spec PyProof.Rows
section
variable {M:ag} {B L c h:Nat} {ds:List D} {d:D}
theorem Tg.vc(t:Tg M B L c h (.tup ds))(hd:d∈ds):Tg M B L c h d:=by
 obtain⟨e,k,h1,h2,q,_⟩:=t.tupI;exact Tg.mono (Ex.refl M) (aq _) (aq _) (q.mem d hd) ∅ ∅
theorem Tg.ln(t:Tg M B L c h (.tup ds)):ds.length<=L:=by
 obtain⟨e,k,h1,h2,q,l⟩:=t.tupI;exact l
theorem Tg.num{i:Int}(t:Tg M B L c h (.int i)):i.natAbs<=B:=by
 cases t with
 | «at» _ _ _ a _=>exact a
end
noncomputable def U5:D->Option Int
 | .tup [.int i,_]=>some i
 | _=>none
def cz(ls:List D):List Int:=ls.filterMap U5
theorem xx{s:Int}{x:D}(h:iG s x=true):∃k c,x=.tup [.int k,.str c]/\0<=k/\k<s:=by
 cases x with
 | tup ds =>
  rcases ds with _|⟨a,_|⟨b,_|⟨e,r⟩⟩⟩
  ·cases h
  ·cases h
  ·have h:(sP 0 s a&&Nq b)=true:=h;obtain⟨h1,h2⟩:=(ay _ _).mp h
   cases a with
   | int k =>
    have h1:(decide (0<=k)&&decide (k<s))=true:=h1;simp only[ay,oC]at h1
    cases b with
    | str c=>exact⟨k,c,rfl,h1.1,h1.2⟩
    | _=>cases h2
   | _=>cases h1
  ·cases h
 | _=>cases h
theorem oo:∀{ls:List D},(∀l∈ls,∃k c,l=.tup [.int k,.str c])->ls.filterMap sC=(cz ls).map D.int/\(cz ls).length=ls.length
 | [],_=>⟨rfl,rfl⟩
 | l::ls,h=>by
  obtain⟨k,c,rfl⟩:=h l du;obtain⟨e1,e2⟩:=oo (ls:=ls) λx hx=>h x (cZ _ hx);exact⟨by rw[lg,e1];rfl,by rw[jo,<- e2];rfl⟩
noncomputable def lM(i:Int)(n:Nat):List Int:=(List.range n).map λk=>i+(k:Nat)
def U6(o:Str):D->D->Bool
 | .int s,.tup ls=>decide (0<=s)&&(ls.all (iG s)&&(if (o == "row")=true then decide (cz ls=lM (s-(cz ls).length) (cz ls).length) else om (cz ls)))
 | _,_=>false
def Bh(o:Str):D->Bool
 | .tup [a,b]=>U6 o a b
 | _=>false
theorem zf{o:Str}{ds:List D}(h:(((ds.length:Nat):Int)==2)=false):Bh o (.tup ds)=false:=by
 rcases ds with _|⟨a,_|⟨b,_|⟨e,r⟩⟩⟩
 ·rfl
 ·rfl
 ·cases h
 ·rfl
theorem oq:∀(ks js:List Int),PyData.eqvAll (ks.map PyData.int) (js.map PyData.int)=decide (ks=js)
 | [],[]=>by rw[s_,PyData.eqvAll.eq_1];rfl
 | [],j::js=>by rw[s_,eM,PyData.eqvAll.eq_3];rfl
 | k::ks,[]=>by rw[s_,eM,PyData.eqvAll.eq_4];rfl
 | k::ks,j::js=>by
  rw[eM,eM,PyData.eqvAll.eq_2,oq ks js,PyData.eqv.eq_5];by_cases h:k=j<;>by_cases h2:ks=js<;>simp[h,h2]
theorem zg{M:ag}{n:Nat}{ks js:List Int}(h:M[n]?=some (.lst (ks.map D.int))):bG .eq (.d (.aJ n)) (.lv (js.map D.int)) M=.ok (decide (ks=js)) M:=by
 unfold bG;simp only[Em h,Eo,zp ks,zp js,qk,fm];rw[show PyData.eqv (.list (ks.map PyData.int)) (.list (js.map PyData.int))=PyData.eqvAll (ks.map PyData.int) (js.map PyData.int) from PyData.eqv.eq_7 _ _,oq]
theorem HH{M:ag}{n:Nat}{ks js:List Int}(h:M[n]?=some (.lst (ks.map D.int))):bG .ne (.d (.aJ n)) (.lv (js.map D.int)) M=.ok (!decide (ks=js)) M:=by
 unfold bG;simp only[Em h,Eo,zp ks,zp js,qk,fm];rw[show PyData.eqv (.list (ks.map PyData.int)) (.list (js.map PyData.int))=PyData.eqvAll (ks.map PyData.int) (js.map PyData.int) from PyData.eqv.eq_7 _ _,oq]
def HI(o:Str):Prop:=o = "row" \/ o = "heap"
theorem Jo{o:Str}(h:HI o):PyData.strOk o=true:=by rcases h with rfl | rfl<;>decide +kernel
def Ez(F:Fn):Prop:=∀(M:ag)(B L c h:Nat)(o:Str)(x:D),Tg M B L c h x->B<10 ^ 12->L<=110->HI o->aO (F [.str o,x] M) λr M'=>r=.d (.bl (Bh o x))/\Ex M M'
theorem Qu{G:a8}(hW:gA (G 0))(hT:eX (G 4))(hR:gD (G 5))(hL:gC (G 8)):Ez (ai G 4 b9):=by
 intro M B L c h o x t hB MC ho;rw[ba];show d8 G b9 [some (.str o),some x,none,none] M _ _ _ _;nofun;refine(hT M x _ t.nl).imp ?_;rintro r M2 ⟨rfl,rfl⟩
 cases x with
 | tup ds =>
  cases q2:(((ds.length:Nat):Int)==2)with
  | false =>
   rw[show Ey 2 (.tup ds)=false from q2,zf q2];nofun;exact⟨rfl,Ex.refl M⟩
  | true =>
   have hl:ds.length=2:=by have:=eq_of_beq q2;omega
   rcases ds with _|⟨a,_|⟨b,_|⟨e,r⟩⟩⟩<;>first | (simp at hl;done) | skip
   have ta:=t.vc (d:=a) (by simp);have tb:=t.vc (d:=b) (by simp);nofun;refine(hW M a ta.nl).imp ?_;rintro r M2 ⟨rfl,rfl⟩
   cases a with
   | int s =>
    have hs:=ta.num;nofun;by_cases h0:s<0
    ·rw[dQ h0];nofun;refine⟨?_,Ex.refl M⟩;cases b<;>first | rfl | (show _=W.d (D.bl (decide (0<=s)&&_));rw[cx ∅];rfl)
    ·rw[cx h0];nofun;rw[Bg tb.nl]
     cases b with
     | tup ls =>
      have sO:=tb.ln;nofun;have e:Bh o (.tup [.int s,.tup ls])=(decide (0<=s)&&(ls.all (iG s)&&(if (o == "row")=true then decide (cz ls=lM (s-(cz ls).length) (cz ls).length) else om (cz ls)))):=rfl;rw[e,dQ (show 0<=s by omega),gR];clear e;refine fh (ds:=ls) (λd=>some (.bl (iG s d))) (by decide) cT (ar ∅) ?_ ?_ rfl
      ·intro i M' d hd f;nofun;have td:=tb.vc (c_ hd)
       refine(hL M' d s (td.nl.ex f) λes ee x hx=>?_).imp λr M1 ⟨e1,e2⟩=>by
        subst e1 e2;exact⟨rfl,f⟩
       subst ee;have tx:=td.vc hx;exact⟨tx.nl.ex f,tx.WI (zE hB (by decide))⟩
      intro M1 f1;rw[oh];nofun;rw[all_map]
      cases qa:ls.all (iG s)with
      | false=>nofun;exact⟨rfl,f1⟩
      | true =>
       have w4:∀l∈ls,∃k c,l=.tup [.int k,.str c]:=λl hl=>by
        obtain⟨k,c,e,_⟩:=xx (ir.mp qa l hl);exact⟨k,c,e⟩
       obtain⟨n1,n2⟩:=oo w4;nofun;refine fh (ds:=ls) sC (by decide) cT (ar ∅) ?_ ?_ rfl
       ·intro i M' d hd f;obtain⟨k,c,rfl⟩:=w4 d (c_ hd);nofun;exact⟨rfl,f⟩
       intro M2 f2;rw[n1];nofun;have h3:(M2++[MO.lst ((cz ls).map D.int)])[M2.length]?=some (.lst ((cz ls).map D.int)):=aQ;have f3:Ex M (M2++[MO.lst ((cz ls).map D.int)]):=(Ex.trans f1 f2).app;generalize M2++[MO.lst ((cz ls).map D.int)]=M3 at h3 f3⊢;rw[jV (Jo ho) nW,gR]
       cases qo:(o==("row" : Str))with
       | true =>
        nofun;rw[cD h3];nofun;have aY:((cz ls).map D.int).length=(cz ls).length:=by simp
        refine⟨⟨⟨by rw[aY];omega,by rw[aY];omega,∅,∅⟩,by rw[aY];omega⟩,?_⟩;nofun
        have hd:q_ false (oV (s-(((cz ls).map D.int).length:Int)) (s-(s-(((cz ls).map D.int).length:Int))).toNat)=.lv ((lM (s-((cz ls).length:Int)) (cz ls).length).map D.int):=by
         rw[aY,show(s-(s-((cz ls).length:Int))).toNat=(cz ls).length by omega];show W.lv (oV _ _)=_;unfold oV lM;rw[vI];rfl
        rw[hd,zg h3];exact⟨rfl,f3⟩
       | false =>
        nofun;exact(hR M3 M2.length (cz ls) h3 ∅).imp λr M4 ⟨e,f4⟩=>⟨e,Ex.trans f3 f4⟩
     | _=>first | exact absurd tb.nl id | (nofun;exact⟨rfl,Ex.refl M⟩)
   | _=>first | exact absurd ta.nl id | (nofun;exact⟨rfl,Ex.refl M⟩)
 | _=>first | exact absurd t.nl id | (nofun;exact⟨rfl,Ex.refl M⟩)
end bV
end
section
namespace bV
open L2 Ev
open PySem PySem.Spec PyProof.Rows
def U7:D->Str
 | .tup [_,_,.str o]=>o
 | _ => ""
noncomputable def nR(ro:List D):Prop:=ro.length<=8/\∀r∈ro,∃a b o,r=.tup [a,b,.str o]/\HI o
def EA:D->Bool
 | .tup [r,l]=>Bh (U7 r) l
 | _=>false
def xy(ro:List D):D->Bool
 | .tup ls=>(((ls.length:Nat):Int)==((ro.length:Nat):Int))&&(List.zipWith (λa b=>D.tup [a,b]) ro ls).all EA
 | _=>false
def gE(F:Fn):Prop:=∀(M:ag)(B L c h:Nat)(ru ro:List D)(x:D),Tg M B L c h x->B<10 ^ 12->L<=110->nR ro->aO (F [.tup [.tup ru,.tup ro],x] M) λr M'=>r=.d (.bl (xy ro x))/\Ex M M'
theorem sD{G:a8}(hT:eX (G 4))(hL:Ez (G 9)):gE (ai G 2 Rr):=by
 intro M B L c h ru ro x t hB MC hr;rw[ba];show d8 G Rr [some (.tup [.tup ru,.tup ro]),some x] M _ _ _ _;nofun;refine(hT M x _ t.nl).imp ?_;rintro r M2 ⟨rfl,rfl⟩
 cases x with
 | tup ls =>
  have sO:=t.ln;have e:Ey (ro.length:Nat) (.tup ls)=(((ls.length:Nat):Int)==((ro.length:Nat):Int)):=rfl;have e':xy ro (.tup ls)=((((ls.length:Nat):Int)==((ro.length:Nat):Int))&&(List.zipWith (λa b=>D.tup [a,b]) ro ls).all EA):=rfl;rw[e,e']
  cases q:(((ls.length:Nat):Int)==((ro.length:Nat):Int))with
  | false=>nofun;exact⟨rfl,Ex.refl M⟩
  | true =>
   nofun;refine fh (ds:=List.zipWith (λa b=>D.tup [a,b]) ro ls) (λd=>some (.bl (EA d))) (by decide) D3 (ar (by rw[oB];omega)) ?_ ?_ ?_
   ·intro i M' d hd f;rw[sS]at hd
    cases ea:ro[i]? with
    | none=>rw[ea]at hd;cases hd
    | some r =>
     cases eb:ls[i]? with
     | none=>rw[ea,eb]at hd;cases hd
     | some l =>
      rw[ea,eb]at hd;cases hd;obtain⟨a,b,o,rfl,ho⟩:=hr.2 r (c_ ea);nofun;have tl:Tg M' B L c h l:=Tg.mono f (aq _) (aq _) (t.vc (c_ eb)) (aq _) (aq _)
      exact(hL M' B L c h o l tl hB MC ho).imp λr M1 ⟨e1,f1⟩=>by
       subst e1;exact⟨rfl,Ex.trans f f1⟩
   ·intro M' f;rw[oh];nofun;rw[all_map];exact⟨by rw[gR],f⟩
   ·show min ro.length ls.length=_;rw[oB]
 | _=>first | exact absurd t.nl id | (nofun;exact⟨rfl,Ex.refl M⟩)
def Bj(ru ro:List D):D->Bool
 | .tup [a,b]=>xv ru.length a&&xy ro b
 | _=>false
theorem zh{ru ro ds:List D}(h:(((ds.length:Nat):Int)==2)=false):Bj ru ro (.tup ds)=false:=by
 rcases ds with _|⟨a,_|⟨b,_|⟨e,r⟩⟩⟩
 ·rfl
 ·rfl
 ·cases h
 ·rfl
def gF(F:Fn):Prop:=∀(M:ag)(B L c h:Nat)(ru ro:List D)(x:D),Tg M B L c h x->B<10 ^ 12->L<=110->nR ro->aO (F [.tup [.tup ru,.tup ro],x] M) λr M'=>r=.d (.bl (Bj ru ro x))/\Ex M M'
theorem sE{G:a8}(hT:eX (G 4))(hS:eW (G 7))(hR:gE (G 10)):gF (ai G 2 Rt):=by
 intro M B L c h ru ro x t hB MC hr;rw[ba];show d8 G Rt [some (.tup [.tup ru,.tup ro]),some x] M _ _ _ _;nofun;refine(hT M x _ t.nl).imp ?_;rintro r M2 ⟨rfl,rfl⟩
 cases x with
 | tup ds =>
  cases q2:(((ds.length:Nat):Int)==2)with
  | false =>
   rw[show Ey 2 (.tup ds)=false from q2,zh q2];nofun;exact⟨rfl,Ex.refl M⟩
  | true =>
   have hl:ds.length=2:=by have:=eq_of_beq q2;omega
   rcases ds with _|⟨a,_|⟨b,_|⟨e,r⟩⟩⟩<;>first | (simp at hl;done) | skip
   have ta:=t.vc (d:=a) (by simp);have tb:=t.vc (d:=b) (by simp);have e:Bj ru ro (.tup [a,b])=(xv ru.length a&&xy ro b):=rfl;rw[e];nofun;refine(hS M ru ro a ta.nl λds ed=>?_).imp λr M2 ⟨e1,f1⟩=>?_
   ·subst ed;exact⟨bH ta.ln ∅,λd hd=>(ta.vc hd).nl⟩
   subst e1
   cases q:xv ru.length a with
   | false=>nofun;exact⟨rfl,f1⟩
   | true =>
    nofun;have U8:Tg M2 B L c h b:=Tg.mono f1 (aq _) (aq _) tb (aq _) (aq _);exact(hR M2 B L c h ru ro b U8 hB MC hr).imp λr M3 ⟨e1,f2⟩=>⟨by rw[e1,gR],Ex.trans f1 f2⟩
 | _=>first | exact absurd t.nl id | (nofun;exact⟨rfl,Ex.refl M⟩)
noncomputable def RX(lo hi:Int):D->Bool
 | .int i=>decide (lo<=i)&&decide (i<=hi)
 | _=>false
def ma(F:Fn):Prop:=∀(M:ag)(x:D)(lo hi:Int),Nl M x->aO (F [x,.int lo,.int hi] M) λr M'=>M=M'/\r=.d (.bl (RX lo hi x))
theorem HJ{G:a8}:ma (ai G 3 RF):=by
 intro M x lo hi h;rw[ba];show d8 G RF [some x,some (.int lo),some (.int hi)] M _ _ _ _;nofun;rw[Mz h]
 cases x with
 | int i =>
  have e:RX lo hi (.int i)=(decide (lo<=i)&&decide (i<=hi)):=rfl;rw[e];nofun
  cases q:decide (lo<=i)with
  | false=>nofun;exact⟨rfl,rfl⟩
  | true=>nofun;exact⟨rfl,by rw[gR]⟩
 | bl b=>nofun;exact⟨rfl,rfl⟩
 | _=>first | exact h.elim | (nofun;exact⟨rfl,rfl⟩)
theorem MD{G:a8}:eX (ai G 2 RH):=by
 intro M x n h;rw[ba];show d8 G RH [some x,some (.int n)] M _ _ _ _;nofun;rw[Bg h]
 cases x with
 | tup ds=>nofun;exact⟨rfl,rfl⟩
 | _=>first | exact h.elim | (nofun;exact⟨rfl,rfl⟩)
end bV
end
section
namespace bV
open L2 Ev
open PySem PySem.Spec PyProof.Rows
theorem EB{k:Int}:∀{ks:List Int},om (k::ks)=(match ks with | []=>true | j::_=>decide (k<j)&&om ks)
 | []=>rfl
 | j::ks=>by
  show(RV (.tup [.int k,.int j])&&(List.zipWith (λa b=>D.tup [a,b]) ((j::ks).map D.int) (ks.map D.int)).all RV)=_;rfl
theorem j4:∀{ks:List Int},om ks=true↔ks.Pairwise (· < ·)
 | []=>⟨λ_=>.nil,λ_=>rfl⟩
 | [k]=>⟨λ_=>List.pairwise_singleton _ _,λ_=>rfl⟩
 | k::j::ks=>by
  have ih:=j4 (ks:=j::ks);rw[EB,mr];show(decide (k<j)&&om (j::ks))=true↔_;rw[ay,oC,ih];constructor
  ·rintro⟨h1,h2⟩;refine⟨λx hx=>?_,h2⟩;rcases bz.mp hx with rfl | hx
   ·exact h1
   ·have:=(mr.mp h2).1 x hx;omega
  ·rintro⟨h1,h2⟩;exact⟨h1 j du,h2⟩
theorem Qv{ks:List Int}(h:ks.Pairwise (· < ·)):ks.Nodup:=h.imp λh=>∅
theorem Qw{ks:List Int}(h:ks.Pairwise (· < ·)):ks.Pairwise (·<=·):=h.imp λh=>∅
theorem Qx{ks:List Int}(h:ks.Pairwise (·<=·))(n:ks.Nodup):ks.Pairwise (· < ·):=(h.and n).imp λ⟨a,b⟩=>∅
theorem HK(ks:List Int):decide (ks=kz (vk ks))=om ks:=by
 by_cases h:ks=kz (vk ks)
 ·rw[dQ h];refine(j4.mpr ?_).symm;rw[h];exact Qx gh (gX.nodup_iff.mpr (yd ks))
 ·rw[cx h]
  cases q:om ks with
  | false=>rfl
  | true =>
   have hp:=j4.mp q;refine absurd ?_ h;have hl:(vk ks).length<=ks.length:=List.Nodup.length_le_of_subset (yd ks) λx hx=>wb.mp hx;have p:(vk ks).Perm ks:=qU (Qv hp) (λk hk=>wb.mpr hk) hl;exact(iX (gX.trans p) gh (Qw hp)).symm
theorem ME(ks:List Int):(vk ks).length<=ks.length:=List.Nodup.length_le_of_subset (yd ks) λx hx=>wb.mp hx
theorem xB:∀{ks:List Int}{i:Int},ks.Pairwise (· < ·)->(∀k∈ks,i<=k)->∀(n:Nat) k,ks[n]?=some k->i+n<=k
 | [],_,_,_,n,k,e=>by simp at e
 | x::ks,i,hp,hi,0,k,e=>by
  have:x=k:=by simpa using e
  subst this;have:=hi x du;omega
 | x::ks,i,hp,hi,n+1,k,e=>by
  rw[mr]at hp;have h0:=hi x du;have:=xB (i:=i+1) hp.2 (λy hy=>by have:=hp.1 y hy;omega) n k (by simpa using e);omega
theorem HL{i:Int}{n:Nat}:(lM i n).length=n:=by unfold lM;simp
theorem zi{i:Int}{n j:Nat}(h:j<n):(lM i n)[j]?=some (i+(j:Nat)):=by
 unfold lM;rw[dy,E5 h];rfl
theorem HM{i:Int}{n:Nat}:(lM i n).Pairwise (· < ·):=by
 unfold lM;rw[JH];exact E2.imp λh=>∅
theorem HN{ks:List Int}{s:Int}(hp:ks.Pairwise (· < ·))(hs:∀k∈ks,k<s):ks=lM (s-ks.length) ks.length↔ks=[]\/ks[0]?=some (s-ks.length):=by
 constructor
 ·intro h;rcases ks with _|⟨k,r⟩
  ·exact .inl rfl
  ·refine .inr ?_;have:=zi (i:=s-((k::r).length:Nat)) (n:=(k::r).length) (j:=0) (by simp);rw[<- h]at this;rw[this];simp
 ·rintro(rfl | h)
  ·rfl
  ·have HD:∀k∈ks,s-(ks.length:Nat)<=k:=by
    rcases ks with _|⟨k,r⟩
    ·intro k hk;cases hk
    ·have e:k=s-((k::r).length:Nat):=by simpa using h
     intro x hx;rcases bz.mp hx with rfl | hx
     ·omega
     ·have:=(mr.mp hp).1 x hx;omega
   refine JG λj=>?_;by_cases hj:j<ks.length
   ·rw[zi hj,cf hj];have h1:=xB hp HD j ks[j] (cf hj);have h2:=hs
    have h3:∀(n:Nat)(hn:n<ks.length),ks[n]+((ks.length-1-n:Nat):Int)<s:=by
     intro n hn;have hd:(ks.drop n).Pairwise (· < ·):=hp.sublist (List.drop_sublist _ _);have hl:ks.length-1<ks.length:=∅
     have h5:=xB (i:=ks[n]) hd (λy hy=>by
      obtain⟨m,hm,rfl⟩:=qd.mp hy;rw[List.getElem_drop];rcases Fc m with rfl | hm0
      ·simp
      ·have:=Jr.mp hp n (n+m) hn (by rw[mz]at hm;omega) ∅;omega) (ks.length-1-n) ks[ks.length-1] (by rw[Fb,show n+(ks.length-1-n)=ks.length-1 by omega,cf hl])
     have h6:=hs ks[ks.length-1] (sV _);omega
    have h4:=h3 j hj
    congr 1
    omega
   ·rw[ml ∅,ml (by rw[HL];omega)]
theorem EC{M:ag}{n:Nat}{is:List Int}(h:M[n]?=some (.lst (is.map D.int)))(h1:is.length+1<scanBound)(h2:(vk is).length<64):m9 (.d (.aJ n)) M=.ok (.lv ((kz (vk is)).map D.int)) M:=by
 unfold m9;simp only[show df M (.d (.aJ n))=some (is.map D.int) by unfold df;simp only[h],Ev.ints_map,aT (And.intro h1 h2)]
end bV
end
section
namespace bV
open L2 Ev
open PySem PySem.Spec PyProof.Rows
theorem ED{s:Int}{a:D}:RX 0 (s-1) a=sP 0 s a:=by
 cases a with
 | int i =>
  show(decide (0<=i)&&decide (i<=s-1))=(decide (0<=i)&&decide (i<s))
  congr 1
  exact decide_eq_decide.mpr ∅
 | _=>rfl
def xC(F:Fn):Prop:=∀(M:ag)(B L c h:Nat)(o:Str)(x:D),Tg M B L c h x->B<10 ^ 12->L<=60->HI o->aO (F [x,.str o] M) λr M'=>r=.d (.bl (Bh o x))/\Ex M M'
theorem MF{G:a8}(hW:ma (G 22))(hT:eX (G 23)):xC (ai G 4 RJ):=by
 intro M B L c h o x t hB MC ho;rw[ba];show d8 G RJ [some x,some (.str o),none,none] M _ _ _ _;nofun;refine(hT M x _ t.nl).imp ?_;rintro r M2 ⟨rfl,rfl⟩
 cases x with
 | tup ds =>
  cases q2:(((ds.length:Nat):Int)==2)with
  | false =>
   rw[show Ey 2 (.tup ds)=false from q2,zf q2];nofun;exact⟨rfl,Ex.refl M⟩
  | true =>
   have hl:ds.length=2:=by have:=eq_of_beq q2;omega
   rcases ds with _|⟨a,_|⟨b,_|⟨e,r⟩⟩⟩<;>first | (simp at hl;done) | skip
   have ta:=t.vc (d:=a) (by simp);have tb:=t.vc (d:=b) (by simp);nofun;refine(hW M a _ _ ta.nl).imp ?_;rintro r M2 ⟨rfl,rfl⟩
   cases a with
   | int s =>
    have hs:=ta.num
    have e0:RX 0 (10 ^ Int.toNat 20) (.int s)=decide (0<=s):=by
     show(decide (0<=s)&&decide (s<=10 ^ Int.toNat 20))=_;have:(10:Int) ^ Int.toNat 20=100000000000000000000:=by decide
     rw[this,dQ (show s<=100000000000000000000 by omega),Bool.and_true]
    rw[e0];by_cases h0:0<=s
    ·rw[dQ h0];nofun;rw[Bg tb.nl]
     cases b with
     | tup ls =>
      have sO:=tb.ln;have e:Bh o (.tup [.int s,.tup ls])=(decide (0<=s)&&(ls.all (iG s)&&(if (o == "row")=true then decide (cz ls=lM (s-(cz ls).length) (cz ls).length) else om (cz ls)))):=rfl;rw[e,dQ h0,gR];clear e;nofun;refine lY (ds:=ls) (λi ρ M'=>∃o2,ρ=[some (.tup [.int s,.tup ls]),some (.str o),o2,none]/\Ex M M'/\∀j,j<i->∀l,ls[j]?=some l->iG s l=true) ⟨_,rfl,Ex.refl M,λj hj=>absurd hj (zy _)⟩ ?_ ?_
      ·rintro i ρ M' l hd ⟨o2,rfl,f,mQ⟩;have tl:=tb.vc (c_ hd)
       have bad:iG s l=false->ls.all (iG s)=false:=λz=>by
        refine BB.mpr λq=>?_;have:=ir.mp q l (c_ hd);rw[z]at this;cases this
       have go:iG s l=true->∀j,j<i+1->∀l,ls[j]?=some l->iG s l=true:=λz j hj y hy=>by
        rcases qi j i with q | q
        ·exact mQ j q y hy
        ·obtain rfl:j=i:=∅;rw[hd]at hy;cases hy;exact z
       nofun;refine(hT M' l _ (tl.nl.ex f)).imp ?_;rintro r M2 ⟨rfl,rfl⟩
       cases l with
       | tup es =>
        cases q3:(((es.length:Nat):Int)==2)with
        | false =>
         rw[show Ey 2 (.tup es)=false from q3];nofun;refine⟨?_,f⟩
         rw[bad (by
          rcases es with _|⟨a,_|⟨b,_|⟨e,r⟩⟩⟩
          ·rfl
          ·rfl
          ·cases q3
          ·rfl),jr]
        | true =>
         have hl:es.length=2:=by have:=eq_of_beq q3;omega
         rcases es with _|⟨a,_|⟨b,_|⟨e,r⟩⟩⟩<;>first | (simp at hl;done) | skip
         have ta:=tl.vc (d:=a) (by simp);have U9:=tl.vc (d:=b) (by simp);have el:iG s (.tup [a,b])=(sP 0 s a&&Nq b):=rfl;nofun;refine(hW M' a 0 (s-1) (ta.nl.ex f)).imp ?_;rintro r M2 ⟨rfl,rfl⟩;rw[ED]
         cases q4:sP 0 s a with
         | false =>
          nofun;exact⟨by rw[bad (by rw[el,q4];rfl),jr],f⟩
         | true =>
          nofun;rw[Qs (U9.nl.ex f)]
          cases b with
          | str c =>
           have d0:Qt c:=U9.WI (zE hB (by decide));have MG:=HG d0;nofun;rw[len_str (ar (bH (Eu d0) (by decide)))];nofun
           have U_:iG s (.tup [a,.str c])=xu c:=by
            show(sP 0 s a&&xu c)=_;rw[q4,gR]
           cases q5:(((c.length:Nat):Int)==1)with
           | false =>
            nofun;rw[q5,jr]at MG;exact⟨by rw[bad (by rw[U_,<- MG]),jr],f⟩
           | true =>
            nofun;rw[q5,gR]at MG;by_cases q6:(Txt.find ("abcdefghijklmnopqrstuvwxyz" : Str) c:Int)<0
            ·rw[dQ q6];nofun;rw[cx ∅]at MG;exact⟨by rw[bad (by rw[U_,<- MG]),jr],f⟩
            ·rw[cx q6];nofun;rw[dQ ∅]at MG;exact⟨_,rfl,f,go (by rw[U_,<- MG])⟩
          | _=>first | exact absurd U9.nl id | (nofun;exact⟨by rw[bad (by rw[el,q4];rfl),jr],f⟩)
       | _=>first | exact absurd tl.nl id | (nofun;exact⟨by rw[bad rfl,jr],f⟩)
      ·rintro ρ M1 ⟨o2,rfl,f1,mQ⟩
       have hA:ls.all (iG s)=true:=ir.mpr λl hl=>by
        obtain⟨j,hj,e⟩:=qd.mp hl;exact mQ j hj l (by rw[cf hj,e])
       rw[hA,gR]
       have w4:∀l∈ls,∃k c,l=.tup [.int k,.str c]:=λl hl=>by
        obtain⟨k,c,e,_⟩:=xx (ir.mp hA l hl);exact⟨k,c,e⟩
       have EU:∀k∈cz ls,k<s:=λk hk=>by
        obtain⟨l,hl,e⟩:=E6.mp hk;obtain⟨k',c,rfl,_,q⟩:=xx (ir.mp hA l hl);cases e;exact q
       obtain⟨n1,n2⟩:=oo w4;nofun;refine fh (ds:=ls) sC (by decide) cT (ar ∅) ?_ ?_ rfl
       ·intro i M' d hd f;obtain⟨k,c,rfl⟩:=w4 d (c_ hd);nofun;exact⟨rfl,f⟩
       intro M2 f2;rw[n1];nofun;have h3:(M2++[MO.lst ((cz ls).map D.int)])[M2.length]?=some (.lst ((cz ls).map D.int)):=aQ;have f3:Ex M (M2++[MO.lst ((cz ls).map D.int)]):=(Ex.trans f1 f2).app;generalize M2++[MO.lst ((cz ls).map D.int)]=M3 at h3 f3⊢;have QY:=ME (cz ls);rw[EC h3 (JC (show(cz ls).length+1<=61 by omega) (by decide)) ∅];nofun;rw[HH h3,HK]
       cases qr:om (cz ls)with
       | false =>
        nofun;refine⟨?_,f3⟩
        cases qo:(o==("row" : Str))with
        | false=>rfl
        | true =>
         rw[aT rfl,cx];intro z;rw[z,j4.mpr HM]at qr;cases qr
       | true =>
        have hp:=j4.mp qr;nofun;rcases ho with rfl | rfl
        ·rw[jV nW iq,show(("row" : Str) == "heap")=false by decide +kernel,show(("row" : Str) == "row")=true by decide +kernel,aT rfl];nofun;refine⟨ar (by decide),?_⟩;nofun;rw[show(W.lv [])=W.lv (([]:List Int).map D.int) from rfl,zg h3]
         cases qn:cz ls with
         | nil =>
          nofun;exact⟨rfl,f3⟩
         | cons k r =>
          rw[qn]at h3 hp EU;nofun;rw[cC h3 (i:=0) (by decide) (x:=.int k) rfl];nofun;rw[cD h3];nofun;refine⟨?_,f3⟩;have ri:=HN hp EU;have aY:((k::r).map D.int).length=(k::r).length:=by simp
          rw[aY]
          congr 2
          by_cases z:k=s-((k::r).length:Nat)
          ·rw[dQ (ri.mpr (.inr (by rw[<- z];rfl)))];rw[e_];exact z
          ·rw[cx λw=>by
            rcases ri.mp w with y | y
            ·cases y
            ·exact z (by simpa using y)]
           rw[qe];exact z
        ·rw[jV iq iq,show(("heap" : Str) == "heap")=true by decide +kernel,show(("heap" : Str) == "row")=false by decide +kernel];nofun;exact⟨rfl,f3⟩
     | _=>first | exact absurd tb.nl id | (nofun;exact⟨rfl,Ex.refl M⟩)
    ·rw[cx h0];nofun;refine⟨?_,Ex.refl M⟩;cases b<;>first | rfl | (show _=W.d (D.bl (decide (0<=s)&&_));rw[cx h0];rfl)
   | _=>first | exact absurd ta.nl id | (nofun;exact⟨rfl,Ex.refl M⟩)
 | _=>first | exact absurd t.nl id | (nofun;exact⟨rfl,Ex.refl M⟩)
end bV
end
section
namespace bV
open L2 Ev
open PySem PySem.Spec PyProof.Rows
def MH(F:Fn):Prop:=∀(M:ag)(B L c h:Nat)(ru ro:List D)(x:D),Tg M B L c h x->B<10 ^ 12->L<=60->nR ro->aO (F [.tup [.tup ru,.tup ro],x] M) λr M'=>r=.d (.bl (Bj ru ro x))/\Ex M M'
theorem Va{G:a8}(hW:ma (G 22))(hT:eX (G 23))(hL:xC (G 24)):MH (ai G 3 RL):=by
 intro M B L c h ru ro x t hB MC hr;rw[ba];show d8 G RL [some (.tup [.tup ru,.tup ro]),some x,none] M _ _ _ _;nofun;refine(hT M x _ t.nl).imp ?_;rintro r M2 ⟨rfl,rfl⟩
 cases x with
 | tup ds =>
  cases q2:(((ds.length:Nat):Int)==2)with
  | false =>
   rw[show Ey 2 (.tup ds)=false from q2,zh q2];nofun;exact⟨rfl,Ex.refl M⟩
  | true =>
   have hl:ds.length=2:=by have:=eq_of_beq q2;omega
   rcases ds with _|⟨a,_|⟨b,_|⟨e,r⟩⟩⟩<;>first | (simp at hl;done) | skip
   have ta:=t.vc (d:=a) (by simp);have tb:=t.vc (d:=b) (by simp);have e:Bj ru ro (.tup [a,b])=(xv ru.length a&&xy ro b):=rfl;rw[e];nofun;refine(hT M a _ ta.nl).imp ?_;rintro r M2 ⟨rfl,rfl⟩
   cases a with
   | tup ss =>
    have e:Ey (ru.length:Nat) (.tup ss)=(((ss.length:Nat):Int)==((ru.length:Nat):Int)):=rfl;have e':xv ru.length (.tup ss)=((((ss.length:Nat):Int)==((ru.length:Nat):Int))&&ss.all (sP 0 100)):=rfl;rw[e,e'];clear e e'
    cases q:(((ss.length:Nat):Int)==((ru.length:Nat):Int))with
    | false=>nofun;exact⟨rfl,Ex.refl M⟩
    | true =>
     rw[gR];nofun;refine(hT M b _ tb.nl).imp ?_;rintro r M2 ⟨rfl,rfl⟩
     cases b with
     | tup ls =>
      have sO:=tb.ln;have e:Ey (ro.length:Nat) (.tup ls)=(((ls.length:Nat):Int)==((ro.length:Nat):Int)):=rfl;have e':xy ro (.tup ls)=((((ls.length:Nat):Int)==((ro.length:Nat):Int))&&(List.zipWith (λa b=>D.tup [a,b]) ro ls).all EA):=rfl;rw[e,e'];clear e e'
      cases q':(((ls.length:Nat):Int)==((ro.length:Nat):Int))with
      | false=>nofun;exact⟨by rw[jr,Bool.and_false],Ex.refl M⟩
      | true =>
       have hle:ls.length=ro.length:=by have:=eq_of_beq q';omega
       rw[gR];nofun;refine lY (ds:=ss) (λi ρ M'=>∃o2,ρ=[some (.tup [.tup ru,.tup ro]),some (.tup [.tup ss,.tup ls]),o2]/\M'=M/\∀j,j<i->∀l,ss[j]?=some l->sP 0 100 l=true) ⟨_,rfl,rfl,λj hj=>absurd hj (zy _)⟩ ?_ ?_
       ·rintro i ρ M' l hd ⟨o2,rfl,rfl,mQ⟩;have tl:=ta.vc (c_ hd);nofun;refine(hW M' l 0 (100-1) tl.nl).imp ?_;rintro r M2 ⟨rfl,rfl⟩;rw[ED]
        cases q4:sP 0 100 l with
        | false =>
         nofun
         have:ss.all (sP 0 100)=false:=by
          refine BB.mpr λq=>?_;have:=ir.mp q l (c_ hd);rw[q4]at this;cases this
         exact⟨by rw[this,jr],Ex.refl M'⟩
        | true =>
         nofun;refine⟨_,rfl,rfl,λj hj y hy=>?_⟩;rcases qi j i with q | q
         ·exact mQ j q y hy
         ·obtain rfl:j=i:=∅;rw[hd]at hy;cases hy;exact q4
       ·rintro ρ M1 ⟨o2,rfl,rfl,mQ⟩
        have hA:ss.all (sP 0 100)=true:=ir.mpr λl hl=>by
         obtain⟨j,hj,e⟩:=qd.mp hl;exact mQ j hj l (by rw[cf hj,e])
        rw[hA,gR];nofun;have h8:=hr.1;have U1:(List.zipWith (λa b=>D.tup [a,b]) ro ls).length=ro.length:=by rw[oB];omega
        refine⟨⟨∅,∅⟩,?_⟩;refine D2 (n:=(ro.length:Int).toNat) (λi M' aE=>aE=((List.zipWith (λa b=>D.tup [a,b]) ro ls).take i).map (λd=>D.bl (EA d))/\Ex M1 M') (by decide) ⟨rfl,Ex.refl M1⟩ ?_ ?_
        ·rintro i M' aE hi ⟨rfl,f⟩;refine⟨bJ (by rw[aZ,j9];omega),?_⟩;rw[show(0:Int)+(i:Int)=((i:Nat):Int) by omega];have h1:i<ro.length:=∅;have h2:i<ls.length:=∅;have e1:ro[i]?=some ro[i]:=cf h1;have e2:ls[i]?=some ls[i]:=cf h2;generalize ro[i]=rd at e1;generalize ls[i]=ld at e2;obtain⟨p,q,o,rfl,ho⟩:=hr.2 rd (c_ e1);have tl:Tg M' B L c h ld:=Tg.mono f (aq _) (aq _) (tb.vc (c_ e2)) (aq _) (aq _);nofun;rw[kP e2];nofun;rw[kP e1];nofun;refine(hL M' B L c h o ld tl hB MC ho).imp ?_;rintro r M3 ⟨rfl,f3⟩;refine⟨?_,Ex.trans f f3⟩;have ez:(List.zipWith (λa b=>D.tup [a,b]) ro ls)[i]?=some (D.tup [.tup [p,q,.str o],ld]):=by rw[sS,e1,e2]
         rw[kO ez,List.map_append];rfl
        ·rintro M' aE ⟨rfl,f⟩;nofun;rw[Bs ∅,all_map];exact⟨rfl,f⟩
     | _=>first | exact absurd tb.nl id | (nofun;exact⟨by rw[show xy ro _=false from rfl,Bool.and_false],Ex.refl M⟩)
   | _=>first | exact absurd ta.nl id | (nofun;exact⟨rfl,Ex.refl M⟩)
 | _=>first | exact absurd t.nl id | (nofun;exact⟨rfl,Ex.refl M⟩)
def xD(F:Fn):Prop:=∀(M:ag)(ru ro:List D),ru.length<=1000->ro.length<=1000->(∀d∈ru,∃(i:Int) (b:D),d=.tup [.int i,b])->aO (F [.tup [.tup ru,.tup ro]] M) λr M'=>r=.d (.tup [.tup (ru.filterMap sC),.tup (ro.map λ_=>.tup [.int 0,.tup []])])/\Ex M M'
theorem MI{G:a8}:xD (ai G 3 b6):=by
 intro M ru ro h1 h2 hp;rw[ba];show d8 G b6 [some (.tup [.tup ru,.tup ro]),none,none] M _ _ _ _;nofun;refine fh (ds:=ru) sC (by decide) cT (ar h1) ?_ ?_ rfl
 ·intro i M' d hd f;obtain⟨a,b,rfl⟩:=hp d (c_ hd);nofun;exact⟨rfl,f⟩
 intro M2 f2;nofun;refine fh (ds:=ro) (λ_=>some (.tup [.int 0,.tup []])) (by decide) cT (ar h2) ?_ ?_ rfl
 ·intro i M' d hd f;nofun;refine⟨ar (by decide),?_⟩;nofun;refine⟨ar (by decide),?_⟩;nofun;exact⟨rfl,f⟩
 intro M3 f3;rw[oh];nofun;refine⟨ar (show 2<=1000 by decide),?_⟩;nofun;exact⟨rfl,Ex.trans f2 f3⟩
end bV
end
section
namespace bV
open L2 Ev
open PySem PySem.Spec PyProof.Rows
section
variable {M M':ag} {B L:Nat}
noncomputable def Ls(M M':ag):Prop:=∀(n:Nat) ds,M[n]?=some (.lst ds)->M'[n]?=some (.lst ds)
theorem Ls.ex(f:Ex M M'):Ls M M':=λn ds h=>Ex.get f h
theorem Ls.fr{w:Nat}{T:Int}(f:Fr w M M')(h:WA M w T):Ls M M':=λn ds k=>f.get k (by
 rintro rfl;obtain⟨c,l,t,h,_⟩:=h;rw[k]at h;cases h)
mutual
theorem Tg.ls(f:Ls M M'):∀{c h:Nat}{d:D},Tg M B L c h d->Tg M' B L c h d
 | _,_,_,.at c h d a hc=>.at _ _ _ a hc
 | _,_,_,.tup c e h ds t hc hl=>.tup c _ h ds (Ts.ls f t) hc hl
 | _,_,_,.lst c e h n ds hM t hc hl=>.lst c _ h n ds (f n ds hM) (Ts.ls f t) hc hl
theorem Ts.ls(f:Ls M M'):∀{c h:Nat}{ds:List D},Ts M B L c h ds->Ts M' B L c h ds
 | _,_,_,.nil c h=>.nil _ _
 | _,_,_,.cons c c1 c2 h d ds t r hc=>.cons _ c1 c2 _ d ds (Tg.ls f t) (Ts.ls f r) hc
end
end
theorem sH{M:ag}{n:Nat}{xs ys:List D}(h:M[n]?=some (.lst xs))(hl:xs.length+ys.length<=sizeLine):qY .add (.d (.aJ n)) (.lv ys) M=.ok (.lv (xs++ys)) M:=by
 have e1:df M (.d (.aJ n))=some xs:=by unfold df;simp only[h]
 have e2:qY .add (.d (.aJ n)) (.lv ys) M=(match df M (.d (.aJ n)),df M (.lv ys)with
  | some xs,some ys=>if xs.length+ys.length<=sizeLine then .ok (.lv (xs++ys)) M else .ae
  | _,_=>.ae):=Eq.trans rfl rfl
 rw[e2,e1,show df M (.lv ys)=some ys from rfl];exact aT hl
theorem MJ{M:ag}{n:Nat}{xs:List D}(h:M[n]?=some (.lst xs)):(df M (.d (.aJ n))).isSome=true:=by
 have e1:df M (.d (.aJ n))=some xs:=by unfold df;simp only[h]
 rw[e1];rfl
theorem EE{xs:List D}:dh xs (-1)=xs.reverse:=by
 have e1:Builtin.Slice.sliceAdjust none none (-1) (xs.length:Int)=((xs.length:Int)-1,-1):=by simp[Builtin.Slice.sliceAdjust]
 have e2:Builtin.Slice.slicePlaces ((xs.length:Int)-1) (-1) (-1)=xs.length:=by
  unfold Builtin.Slice.slicePlaces;simp
  try omega
 unfold dh;rw[e1];dsimp only;rw[e2]
 have e3:∀n,n<=xs.length->(List.range n).filterMap (λ(j:Nat)=>xs[((xs.length:Int)-1+(j:Int) * -1).toNat]?)=xs.reverse.take n:=by
  intro n
  induction n with
  | zero=>intro _;rfl
  | succ n ih =>
   intro hn;rw[List.range_succ,List.filterMap_append,ih ∅];have h1:n<xs.reverse.length:=by rw[Bv];omega
   have h2:((xs.length:Int)-1+(n:Int) * -1).toNat=xs.length-1-n:=∅
   have h3:xs[xs.length-1-n]?=some xs.reverse[n]:=by
    rw[<- List.getElem?_reverse ∅,cf h1]
   rw[kO (cf h1)];simp only[lg,List.filterMap_nil,h2,h3]
 rw[e3 _ (aq _)];exact Bs (by rw[Bv];omega)
theorem HP{M:ag}{xs:List D}(h:xs.length<=1000):qZ (.d (.tup xs)) (-1) M=.ok (.d (.tup xs.reverse)) M:=by
 have e2:qZ (.d (.tup xs)) (-1) M=if ((-1:Int)=2\/(-1:Int)=-1)/\(dh xs (-1)).length<=sizeLine then .ok (.d (.tup (dh xs (-1)))) M else .ae:=Eq.trans rfl rfl
 rw[e2,EE,aT ⟨.inr rfl,ar (by rw[Bv];exact h)⟩]
theorem str_int{M:ag}{i:Int}(h:i.natAbs<10 ^ 20):fG .str1 [.d (.int i)] M=.ok (.d (.str (l7 i))) M:=by
 have e2:fG .str1 [.d (.int i)] M=if i.natAbs.log2<1920 then .ok (.d (.str (Str.ofString (toString i)))) M else .ae:=Eq.trans rfl rfl
 rw[e2,aT ?_]
 ·rfl
 ·rcases Fc i.natAbs with z | z
  ·rw[z];decide
  ·exact(Nat.log2_lt ∅).mpr (eZ h (bH (show 10 ^ 20<=2 ^ 70 by decide) (Nat.pow_le_pow_right (by decide) (by decide))))
def bx:Nat->Nat
 | 0=>300
 | h+1=>2*bx h+5
section
variable {M:ag} {B L h:Nat} {a b d:D}
def Mt(M:ag)(B L h:Nat)(d:D):Prop:=Tg M B L (bx h) h d
theorem EF:∀h,300<=bx h
 | 0=>aq _
 | h+1=>by have:=EF h;show 300<=2*bx h+5;omega
theorem HQ(q:At B d):Mt M B L h d:=.at _ _ _ q (EF h)
theorem Z7:Mt M B L (h+1) (.tup []):=.tup 0 _ _ _ (.nil _ _) (by show 0+5<=2*bx h+5;omega) (jt _)
theorem Z8(hL:2<=L)(p:Mt M B L h a):Mt M B L (h+1) (.tup [a]):=.tup (bx h) _ _ _ (.cons _ (bx h) 0 _ _ _ p (.nil _ _) ∅) (by show _<=2*bx h+5;omega) (by show 1<=L;omega)
theorem Z9(hL:2<=L)(p:Mt M B L h a)(q:Mt M B L h b):Mt M B L (h+1) (.tup [a,b]):=.tup (bx h+bx h) _ _ _ (.cons _ (bx h) (bx h) _ _ _ p (.cons _ (bx h) 0 _ _ _ q (.nil _ _) ∅) ∅) (by show _<=2*bx h+5;omega) hL
theorem Z_{n:Nat}(k:M[n]?=some (.lst [])):Mt M B L (h+1) (.aJ n):=.lst 0 _ _ n _ k (.nil _ _) (by show 0+5<=2*bx h+5;omega) (jt _)
theorem tW{i:Int}(hB:10 ^ 9<=B)(q:i.natAbs<=10 ^ 9):At B (.int i):=bH q hB
theorem atS{s:Str}(q:s∈xt):At B (.str s):=.inl q
theorem md{p:D->Prop}:∀d∈([]:List D),p d:=λd h=>by cases h
theorem all_cons{p:D->Prop}{l:List D}(h:p a)(k:∀d∈l,p d):∀d∈a::l,p d:=λd q=>by
 rcases bz.mp q with z | z
 ·rw[z];exact h
 ·exact k d z
theorem mh{p:D->Prop}{l r:List D}(h:∀d∈l,p d)(k:∀d∈r,p d):∀d∈l++r,p d:=λd q=>(iu.mp q).elim (h d) (k d)
theorem zj{p:D->Prop}{n:Nat}{l:List D}(h:∀d∈l,p d):∀d∈(List.replicate n l).flatten,p d:=λd q=>by
 obtain⟨x,hx,hd⟩:=List.mem_flatten.mp q;rw[(List.mem_replicate.mp hx).2]at hd;exact h d hd
theorem Ts.cutD{c:Nat}{ds:List D}(t:Ts M B L c h ds)(lo hi:Option Int):Ts M B L c h (Ev.cutD ds lo hi):=by
 unfold Ev.cutD;obtain⟨a,b,e,_,t1⟩:=t.cut (HT.cB ds.length 0 lo);obtain⟨a2,b2,e2,t2,_⟩:=t1.cut (HT.cB ds.length ds.length hi-HT.cB ds.length 0 lo);exact t2.mono (Ex.refl _) (aq _) (aq _) ∅ (aq _)
end
theorem sI{ds:List D}{lo hi:Option Int}:(Ev.cutD ds lo hi).length<=ds.length:=by
 unfold Ev.cutD;rw[j9,mz];omega
theorem zk{ds:List D}:(Ev.cutD ds none (some 1)).length<=1:=by
 unfold Ev.cutD;rw[j9,show HT.cB ds.length ds.length (some 1)=min 1 ds.length from HT.qI _ _ 1];omega
theorem Vb{M:ag}{A B C:List D}:((M++[MO.lst []]++[MO.lst A]++[MO.lst B]).set (M++[MO.lst []]++[MO.lst A]).length (MO.lst C))[(M++[MO.lst []]++[MO.lst A]).length]?=some (.lst C)/\((M++[MO.lst []]++[MO.lst A]++[MO.lst B]).set (M++[MO.lst []]++[MO.lst A]).length (MO.lst C))[M.length]?=some (.lst [])/\Ex M ((M++[MO.lst []]++[MO.lst A]++[MO.lst B]).set (M++[MO.lst []]++[MO.lst A]).length (MO.lst C)):=by
 have hQ:M.length<(M++[MO.lst []]++[MO.lst A]).length:=by simp only[dv,jo,BD];omega
 have f0:Ex M (M++[MO.lst []]++[MO.lst A]):=((Ex.refl M).app).app;exact⟨dI aQ,jU (cX (cX aQ)) ∅,Fr.set (f0.app) ∅⟩
noncomputable def mA(n:Nat):List D:=[D.a6,D.bl true,D.bl false,D.int (-1),D.int 0,D.int 1,D.int 99,D.int 100,D.int (10 ^ Int.toNat 9),D.int 7,D.str "",D.str "a",D.str "A",D.str "ab",D.tup [],D.aJ n,D.tup [D.tup [],D.tup []],D.tup [D.int 0,D.tup []]]++[D.tup [D.int 1,D.tup [D.tup [D.int 0,D.str "a"]]],D.tup [D.int 2,D.tup [D.tup [D.int 1,D.str "a"],D.tup [D.int 0,D.str "b"]]],D.tup [D.int 2,D.tup [D.tup [D.int 0,D.str "a"]]],D.tup [D.int 3,D.tup [D.tup [D.int 0,D.str "a"],D.tup [D.int 2,D.str "b"]]]]++[D.tup [D.tup [D.int 0,D.str "a"]]]
theorem MK{n:Nat}:(mA n).length=23:=rfl
theorem ML{M:ag}{B L n:Nat}(hB:10 ^ 9<=B)(hL:2<=L)(k:M[n]?=some (.lst [])):∀d∈mA n,Mt M B L 3 d:=by
 have hn:∀i:Int,i.natAbs<=1000->∀h,Mt M B L h (.int i):=λi q h=>HQ (tW hB (bH q (by decide)));have h9:Mt M B L 3 (.int (10 ^ Int.toNat 9)):=HQ (tW hB (by decide));have sa:∀h,Mt M B L h (.str "a"):=λh=>HQ (atS ⋯);have sb:∀h,Mt M B L h (.str "b"):=λh=>HQ (atS ⋯);have sA:∀h,Mt M B L h (.str "A"):=λh=>HQ (atS ⋯);have s0:∀h,Mt M B L h (.str ""):=λh=>HQ (atS ⋯);have sab:∀h,Mt M B L h (.str "ab"):=λh=>HQ (atS ⋯);have nn:Mt M B L 3 .a6:=HQ trivial;have bb:∀b,Mt M B L 3 (.bl b):=λb=>HQ trivial;have nl:Mt M B L 3 (.aJ n):=Z_ k;unfold mA;refine mh (mh ?_ ?_) ?_<;>(repeat' (first | exact md | refine all_cons ?_ ?_))<;>(repeat' (first | exact Z7 | refine Z9 hL ?_ ?_ | refine Z8 hL ?_))<;>first | exact h9 | exact hn _ (by decide) _ | exact sa _ | exact sb _ | exact sA _ | exact s0 _ | exact sab _ | exact nn | exact bb _ | exact nl
def HR(F:Fn):Prop:=∀(M:ag)(w:Nat)(T:Int)(B L c h:Nat)(x:D),WA M w T->T<2 ^ 39->Tg M B L c h x->10 ^ 9<=B->B<10 ^ 12->4<=L->L<=50->3<=h->aO (F [.aJ w,x] M) λr M'=>∃d,r=.d d/\Tg M' (B+1) (L+1) (2*c+3000) (h+1) d/\WA M' w (T+1)/\Fr w M M'
theorem Vc{G:a8}(hD:dJ (G 14)):HR (ai G 3 RN):=by
  intro M w T B L c h x hw hT t hB Vd hL Ve hh;rw[ba];show d8 G RN [some (.aJ w),some x,none] M _ _ _ _;nofun
  repeat (refine⟨ar (j8 rfl),?_⟩;nofun)
  rw[sH aQ (ar (j8 rfl))];nofun
  repeat (refine⟨ar (j8 rfl),?_⟩;nofun)
  refine⟨MJ aQ,?_⟩;nofun
  repeat (refine⟨ar (j8 rfl),?_⟩;nofun)
  rw[fV aQ (bJ (j8 rfl))];nofun;generalize hn:(M++[MO.lst []]++[MO.lst _]:ag).length=n3;generalize WK:(List.set (_:List MO) n3 _)=M3
  obtain⟨m1,m2,m3⟩:M3[n3]?=some (.lst (mA M.length))/\M3[M.length]?=some (.lst [])/\Ex M M3:=by
    rw[<- WK,<- hn];exact Vb
  clear WK hn;have t3:Tg M3 B L c h x:=t.ls (Ls.ex m3);have lZ:WA M3 w T:=hw.fr m3 (bW hw.lt);have f3:Fr w M M3:=(Fr.refl w M).ex m3 (.inl hw.lt);have w4:∀d∈mA M.length,Tg M3 (B+1) (L+1) (2*c+3000) (h+1) d:=λd hd=>Tg.mono (Ex.refl _) ∅ ∅ (ML hB (show 2<=L by omega) m2 d hd) (bH (show bx 3<=3000 by decide) ∅) ∅;have aY:(mA M.length).length=23:=MK;generalize mA M.length=A at m1 w4 aY;clear m2
  have tail : ∀ (M4 : ag) (n4 : Nat) (ds : List D), M4[n4]? = some (.lst ds) -> WA M4 w T -> Fr w M M4 -> 0 < ds.length -> ds.length <= 100 -> (∀ d ∈ ds, Tg M4 (B + 1) (L + 1) (2 * c + 3000) (h + 1) d) ->
      aO (G 14 [.aJ w,.int ds.length] M4) λr M5=>∃i x,r=.d (.int i)/\0<=i/\ds[i.toNat]?=some x/\M5[n4]?=some (.lst ds)/\Tg M5 (B+1) (L+1) (2*c+3000) (h+1) x/\WA M5 w (T+1)/\Fr w M M5:=λM4 n4 ds k1 k2 k3 k4 k5 k6=>by
    refine(hD M4 w T ds.length k2 ∅ ∅ ∅).imp ?_;rintro r M5 ⟨i,e,i0,i1,ji,f5⟩;have hi:i.toNat<ds.length:=∅;have eg:ds[i.toNat]?=some ds[i.toNat]:=cf hi;have ls:=Ls.fr f5 k2;exact⟨i,_,e,i0,eg,ls _ _ k1,(k6 _ (c_ eg)).ls ls,ji,k3.trans f5⟩
  rw[Bg t3.nl]
  cases x with
  | tup ds =>
    obtain⟨e,k,he,rfl,ts,hln⟩:=t3.tupI;nofun;refine⟨ar (by have:=zk (ds:=ds);omega),?_⟩;nofun;rw[HP ∅];nofun;refine⟨ar (j8 rfl),?_⟩;nofun;refine⟨ar (j8 rfl),?_⟩;nofun;have c1:=zk (ds:=ds)
    have Qc:∀d∈[D.aJ M3.length,.tup (ds++Ev.cutD ds none (some 1)),.tup (Ev.cutD ds none (some (-1))),.tup (Ev.cutD ds (some 1) none),.tup ds.reverse,.tup [.tup ds]],Tg (M3++[MO.lst ds]) (B+1) (L+1) (2*c+3000) (k+1+1) d:=by
      have x1:Ex M3 (M3++[MO.lst ds]):=(Ex.refl M3).app;have Nr:Ts (M3++[MO.lst ds]) (B+1) (L+1) e (k+1) ds:=ts.mono x1 ∅ ∅ (aq _) ∅;refine all_cons ?_ (all_cons ?_ (all_cons ?_ (all_cons ?_ (all_cons ?_ (all_cons ?_ md)))))
      · exact .lst e _ _ _ ds aQ Nr ∅ ∅
      · exact .tup (e+e) _ _ _ (Nr.app (Nr.cutD _ _)) ∅ (by rw[dv];omega)
      · exact .tup e _ _ _ (Nr.cutD _ _) ∅ (bH sI ∅)
      · exact .tup e _ _ _ (Nr.cutD _ _) ∅ (bH sI ∅)
      · exact .tup e _ _ _ Nr.rev ∅ (by rw[Bv];omega)
      · exact .tup (e+5) _ _ _ (.cons _ (e+5) 0 _ _ _ (.tup e _ _ _ (ts.mono x1 ∅ ∅ (aq _) (aq _)) (aq _) ∅) (.nil _ _) ∅) ∅ (by show 1<=L+1;omega)
    have WL:Ex M3 (M3++[MO.lst ds]):=(Ex.refl M3).app;have Vf:∀d∈A,Tg (M3++[MO.lst ds]) (B+1) (L+1) (2*c+3000) (k+1+1) d:=λd hd=>(w4 d hd).ls (Ls.ex WL);have m1':(M3++[MO.lst ds])[n3]?=some (.lst A):=Ex.get WL m1;have Vg:WA (M3++[MO.lst ds]) w T:=lZ.app;have f3':Fr w M (M3++[MO.lst ds]):=f3.app;generalize M3++[MO.lst ds]=N3 at *;generalize hS:[D.aJ M3.length,.tup (ds++Ev.cutD ds none (some 1)),.tup (Ev.cutD ds none (some (-1))),.tup (Ev.cutD ds (some 1) none),.tup ds.reverse,.tup [.tup ds]]=S6 at *;have Vh:S6.length=6:=by rw[<- hS];rfl
    have Vi:(List.replicate (Int.toNat 4) S6).flatten.length=24:=by
      rw[show Int.toNat 4=4 from rfl,List.length_flatten];simp[Vh]
    rw[sH m1' (ar ∅)];nofun;obtain⟨M4,e4⟩:∃M4,M4=N3++[MO.lst (A++(List.replicate (Int.toNat 4) S6).flatten)]:=⟨_,rfl⟩;have h4:M4[N3.length]?=some (.lst (A++(List.replicate (Int.toNat 4) S6).flatten)):=by rw[e4];exact aQ
    have j7:WA M4 w T:=by rw[e4];exact Vg.app
    have f4:Fr w M M4:=by rw[e4];exact f3'.app
    have Vj:∀d∈A++(List.replicate (Int.toNat 4) S6).flatten,Tg M4 (B+1) (L+1) (2*c+3000) (k+1+1) d:=mh (λd hd=>(Vf d hd).ls (Ls.ex (by rw[e4];exact(Ex.refl N3).app))) (zj λd hd=>(Qc d hd).ls (Ls.ex (by rw[e4];exact(Ex.refl N3).app)));have l0:0<(A++(List.replicate (Int.toNat 4) S6).flatten).length:=by rw[dv];omega
    have l1:(A++(List.replicate (Int.toNat 4) S6).flatten).length<=100:=by rw[dv];omega
    rw[<- e4];rw[cD h4];nofun;refine(tail M4 N3.length _ h4 j7 f4 l0 l1 Vj).imp ?_;rintro r M5 ⟨i,x,rfl,i0,eg,h5,tx,ji,f5⟩;nofun;rw[cC h5 i0 eg];exact⟨_,rfl,tx,ji,f5⟩
  | int i =>
    have hi:=t3.num;nofun;rw[str_int ∅];nofun;refine⟨ar (j8 rfl),?_⟩;nofun
    have Qc:∀d∈[D.int (i+1),D.int (i-1),D.str (l7 i)],Tg M3 (B+1) (L+1) (2*c+3000) (h+1) d:=by
      refine all_cons ?_ (all_cons ?_ (all_cons ?_ md))
      · exact .at _ _ _ (show(i+1).natAbs<=B+1 by omega) ∅
      · exact .at _ _ _ (show(i-1).natAbs<=B+1 by omega) ∅
      · exact .at _ _ _ (.inr ⟨i,∅,rfl⟩) ∅
    generalize hS:[D.int (i+1),D.int (i-1),D.str (l7 i)]=S6 at *;have Vh:S6.length=3:=by rw[<- hS];rfl
    have Vi:(List.replicate (Int.toNat 4) S6).flatten.length=12:=by
      rw[show Int.toNat 4=4 from rfl,List.length_flatten];simp[Vh]
    rw[sH m1 (ar ∅)];nofun;obtain⟨M4,e4⟩:∃M4,M4=M3++[MO.lst (A++(List.replicate (Int.toNat 4) S6).flatten)]:=⟨_,rfl⟩;have h4:M4[M3.length]?=some (.lst (A++(List.replicate (Int.toNat 4) S6).flatten)):=by rw[e4];exact aQ
    have j7:WA M4 w T:=by rw[e4];exact lZ.app
    have f4:Fr w M M4:=by rw[e4];exact f3.app
    have Vj:∀d∈A++(List.replicate (Int.toNat 4) S6).flatten,Tg M4 (B+1) (L+1) (2*c+3000) (h+1) d:=mh (λd hd=>(w4 d hd).ls (Ls.ex (by rw[e4];exact(Ex.refl M3).app))) (zj λd hd=>(Qc d hd).ls (Ls.ex (by rw[e4];exact(Ex.refl M3).app)));have l0:0<(A++(List.replicate (Int.toNat 4) S6).flatten).length:=by rw[dv];omega
    have l1:(A++(List.replicate (Int.toNat 4) S6).flatten).length<=100:=by rw[dv];omega
    rw[<- e4];rw[cD h4];nofun;refine(tail M4 M3.length _ h4 j7 f4 l0 l1 Vj).imp ?_;rintro r M5 ⟨i,x,rfl,i0,eg,h5,tx,ji,f5⟩;nofun;rw[cC h5 i0 eg];exact⟨_,rfl,tx,ji,f5⟩
  | bl b =>
    nofun;rw[cD m1];nofun;refine(tail M3 n3 _ m1 lZ f3 ∅ ∅ w4).imp ?_;rintro r M5 ⟨i,x,rfl,i0,eg,h5,tx,ji,f5⟩;nofun;rw[cC h5 i0 eg];exact⟨_,rfl,tx,ji,f5⟩
  | str s =>
    nofun;rw[cD m1];nofun;refine(tail M3 n3 _ m1 lZ f3 ∅ ∅ w4).imp ?_;rintro r M5 ⟨i,x,rfl,i0,eg,h5,tx,ji,f5⟩;nofun;rw[cC h5 i0 eg];exact⟨_,rfl,tx,ji,f5⟩
  | a6 =>
    nofun;rw[cD m1];nofun;refine(tail M3 n3 _ m1 lZ f3 ∅ ∅ w4).imp ?_;rintro r M5 ⟨i,x,rfl,i0,eg,h5,tx,ji,f5⟩;nofun;rw[cC h5 i0 eg];exact⟨_,rfl,tx,ji,f5⟩
  | aJ n =>
    nofun;rw[Mz t3.nl];nofun;rw[cD m1];nofun;refine(tail M3 n3 _ m1 lZ f3 ∅ ∅ w4).imp ?_;rintro r M5 ⟨i,x,rfl,i0,eg,h5,tx,ji,f5⟩;nofun;rw[cC h5 i0 eg];exact⟨_,rfl,tx,ji,f5⟩
  | ls l=>exact absurd t3.nl id
end bV
end
section
namespace bV
open L2 Ev
open PySem PySem.Spec PyProof.Rows
theorem MM{ds:List D}{i:Nat}(h:i<=ds.length):Ev.cutD ds none (some (i:Int))=ds.take i:=by
 unfold Ev.cutD;rw[HT.qI,HT.tU,List.drop_zero,Nat.sub_zero,Nat.min_eq_left h]
theorem vd{ds:List D}{i:Nat}(h:i<=ds.length):Ev.cutD ds (some (i:Int)) none=ds.drop i:=by
 unfold Ev.cutD;rw[HT.qI,HT.tU,Nat.min_eq_left h];exact Bs (by rw[mz];omega)
def vf(fE:Nat)(F:Fn):Prop:=∀(M:ag)(w:Nat)(T:Int)(B L c h:Nat)(x:D),WA M w T->T+3*fE<2 ^ 38->Tg M B L c h x->10 ^ 9<=B->B<10 ^ 12->4<=L->L<=50->3<=h->aO (F [.aJ w,x,.int fE] M) λr M'=>∃d,r=.d d/\Tg M' (B+1) (L+1) (2*c+3000) (h+1+fE) d/\WA M' w (T+3*fE+3)/\Fr w M M'
theorem Bk{G:a8}(hD:dJ (G 14))(hO:HR (G 26))(fE:Nat)(hd:fE<=9)(ih:∀k,fE=k+1->vf k (G 27)):vf fE (ai G 4 Np):=by
 intro M w T B L c h x hw hT t hB Vd hL Ve hh
 have odd:∀(M':ag)(u:Int),WA M' w u->u<=T+1->Fr w M M'->aO (G 26 [.aJ w,x] M') λr Vk=>∃d,r=.d d/\Tg Vk (B+1) (L+1) (2*c+3000) (h+1+fE) d/\WA Vk w (T+3*fE+3)/\Fr w M Vk:=λM' u UW hu f=>by
  refine(hO M' w u B L c h x UW ∅ (t.ls (Ls.fr f hw)) hB Vd hL Ve hh).imp ?_;rintro r M2 ⟨d,e,td,p5,f2⟩;exact⟨d,e,Tg.mono (Ex.refl _) (aq _) (aq _) td (aq _) ∅,p5.mono ∅,f.trans f2⟩
 have MN:=odd M T hw ∅ (Fr.refl w M);rw[ba];show d8 G Np [some (.aJ w),some x,some (.int fE),none] M _ _ _ _;nofun;rw[Bg t.nl]
 cases x with
 | tup ds =>
  obtain⟨e,k,he,rfl,ts,hln⟩:=t.tupI;nofun
  cases q0:(((ds.length:Nat):Int)==0)with
  | true=>nofun;exact MN
  | false =>
   have ON:0<ds.length:=by
    rcases Fc ds.length with z | z
    ·rw[z]at q0;cases q0
    ·exact z
   nofun
   cases q1:(((fE:Nat):Int)==0)with
   | true=>nofun;exact MN
   | false =>
    obtain⟨m,rfl⟩:∃m,fE=m+1:=⟨fE-1,by
     rcases Fc fE with z | z
     ·rw[z]at q1;cases q1
     ·omega⟩
    nofun;refine(hD M w T 6 hw ∅ (by decide) (by decide)).imp ?_;rintro r M2 ⟨i,rfl,_,_,p5,f2⟩;nofun
    cases q2:(i==(0:Int))with
    | true=>nofun;exact odd M2 (T+1) p5 (tm _) f2
    | false =>
     nofun;refine(hD M2 w (T+1) ds.length p5 ∅ ∅ ∅).imp ?_;rintro r M3 ⟨j,rfl,j0,j1,lZ,f3⟩;obtain⟨j,rfl⟩:∃n:Nat,j=(n:Int):=⟨j.toNat,∅⟩;have hj:j<ds.length:=∅;have eg:ds[j]?=some ds[j]:=cf hj;generalize ds[j]=y at eg;have Rv:=f2.trans f3;have ts3:=ts.ls (Ls.fr Rv hw);obtain⟨a,z,b,hc,ta,ty,tb⟩:=Ts.at ts3 eg;nofun;rw[kP eg];nofun;rw[show((m+1:Nat):Int)-1=(m:Int) by omega];refine(ih m rfl M3 w (T+2) B L z (k+1) y (lZ.mono ∅) ∅ (Tg.mono (Ex.refl _) (aq _) (aq _) ty (aq _) ∅) hB Vd hL Ve hh).imp ?_;rintro r M4 ⟨d,rfl,td,j7,f4⟩;have l4:=Ls.fr f4 lZ;have ta4:=Ts.ls l4 ta;have tb4:=Ts.ls l4 tb;rw[MM ∅];nofun;refine⟨ar (j8 rfl),?_⟩;nofun;refine⟨ar (by rw[j9];show _+1<=1000;omega),?_⟩;nofun;rw[show((j:Int)+1)=((j+1:Nat):Int) by omega,vd ∅];refine⟨ar (by rw[dv,j9,mz];show _+1+_<=1000;omega),?_⟩;nofun;refine⟨_,rfl,?_,j7.mono ∅,Rv.trans f4⟩;have ta':Ts M4 (B+1) (L+1) a (k+1+1+m) (ds.take j):=ta4.mono (Ex.refl _) ∅ ∅ (aq _) ∅;have U8:Ts M4 (B+1) (L+1) b (k+1+1+m) (ds.drop (j+1)):=tb4.mono (Ex.refl _) ∅ ∅ (aq _) ∅
     exact .tup (a+(2*z+3000)+b) _ _ _ ((ta'.app (.cons (2*z+3000) (2*z+3000) 0 _ _ _ td (.nil _ _) ∅)).app U8) ∅ (by
      rw[dv,dv,j9,mz];show _+1+_<=L+1;omega)
 | _=>first | exact absurd t.nl id | (nofun;exact MN)
theorem Jp(hD:∀l,dJ (cm (Qn l) 14))(hO:∀l,HR (cm (Jk l) 26)):∀(n fE:Nat),fE<n->n<=9->vf fE (DQ (Jk []) 4 Np n)
 | 0,fE,h,_=>absurd h (zy _)
 | n+1,fE,h,h9=>by
  refine Bk (G:=cm (Jk []++[DQ (Jk []) 4 Np n])) (hD _) (hO _) fE ∅ λk e=>?_;exact Jp hD hO n k ∅ ∅
end bV
end
section
namespace bV
open L2 Ev
open PySem PySem.Spec PyProof.Rows
theorem Jq{M:ag}{a b:Bool}:bG .eq (.d (.bl a)) (.d (.bl b)) M=.ok (a==b) M:=by
 have h:∀a,lH M (.d (.bl a))=some (.bool a):=λa=>by show dB M 30 (.bl a)=_;unfold dB;rfl
 have sh:∀a:Bool,SeqAt.shaped (.bool a)=true:=λa=>by cases a<;>decide +kernel
 have ev:∀a b:Bool,PyData.eqv (.bool a) (.bool b)=(a==b):=λa b=>by cases a<;>cases b<;>decide +kernel
 unfold bG
 try simp only[h,sh,qk,fm,ev]
def xE(F:Fn):Prop:=∀(M:ag)(B L c h:Nat)(ru ro:List D)(x:D),Tg M B L c h x->B<10 ^ 12->L<=60->c<=1000000->h<=30->nR ro->aO (F [.tup [.tup ru,.tup ro],x] M) λr M'=>r=.d (.bl true)/\Ex M M'
theorem MP{G:a8}(hR:gF (G 11))(hI:MH (G 25)):xE (ai G 4 RP):=by
 intro M B L c h ru ro x t hB hL hc hh hr;obtain⟨y,hy,hp⟩:=zd (zE hB (by decide)) t hc hh;rw[ba];show d8 G RP [some (.tup [.tup ru,.tup ro]),some x,none,none] M _ _ _ _;nofun;rw[hp M (Ex.refl M)];nofun;refine(hR M B L c h ru ro x t hB ∅ hr).imp ?_;rintro r M2 ⟨rfl,f2⟩;nofun;refine(hI M2 B L c h ru ro x (t.ls (Ls.ex f2)) hB hL hr).imp ?_;rintro r M3 ⟨rfl,f3⟩;nofun;have f:=Ex.trans f2 f3
 cases q:Bj ru ro x with
 | true =>
  rw[Jq];nofun;rw[hp M3 f];nofun;rw[jV hy hy,qf];exact⟨rfl,f⟩
 | false =>
  rw[Jq];nofun;rw[hp M3 f];nofun;rw[jV hy hy,qf];exact⟨rfl,f⟩
theorem EG{M:ag}:Ex [] M:=⟨jt _,λn h=>absurd h (zy _)⟩
theorem MQ{B L c h:Nat}{ds:List D}(t:Ts [] B L c h ds)(hB:B<10 ^ 20)(hc:c<=900000)(hh:h<=28):∃x,PyData.strOk x=true/\(∀M n,M[n]?=some (.lst ds)->fG .d5 [.d (.aJ n)] M=.ok (.d (.str x)) M)/\∀M,fG .d5 [.lv ds] M=.ok (.d (.str x)) M:=by
 obtain⟨ps,es,a1,a2,a3,a4,a5⟩:=zc hB t;have hx:=Qq a5;have hs:(PyData.list ps).shown=listText (PyData.shownAll ps):=PyData.shown.eq_5 ps;have hd:(PyData.list ps).depth<=30:=by rw[PyData.depth.eq_1];omega
 have hw:(PyData.list ps).showable=true:=(PyData.showable.eq_5 ps).trans a2;have hl:(PyData.list ps).shown.length<=1000000:=by rw[hs];have:=hx.1;omega
 have go:∀M (w:W),lH M w=some (.list ps)->fG .d5 [w] M=.ok (.d (.str (listText (PyData.shownAll ps)))) M:=λM w e=>by
  unfold fG;simp only[e];rw[aT ⟨hw,∅,bH hl (by decide)⟩,hs]
 refine⟨_,hx.2,λM n k=>go M _ ?_,λM=>go M _ ?_⟩
 ·show dB M 30 (.aJ n)=_;unfold dB;simp only[k];rw[es M 29 EG ∅];rfl
 ·show(bO M 30 ds).map PyData.list=_;rw[es M 30 EG ∅];rfl
theorem MR{B:Nat}{s:Str}(h:jW s):At B (.str s):=.inl (by rcases h with rfl | rfl | rfl | rfl<;>decide +kernel)
theorem EH{M:ag}{B L:Nat}(hL:2<=L):∀{ps:List (Int×Str)},(∀p∈ps,jW p.2/\0<=p.1/\p.1<=B)->Ts M B L (605*ps.length) 1 (ps.map pD)
 | [],_=>.nil _ _
 | p::ps,h=>by
  have hp:=h p du;refine .cons _ 605 (605*ps.length) _ _ _ (.tup 600 _ _ _ (.cons _ 300 300 _ _ _ (.at _ _ _ (show p.1.natAbs<=B by omega) (aq _)) (.cons _ 300 0 _ _ _ (.at _ _ _ (MR hp.1) (aq _)) (.nil _ _) ∅) ∅) ∅ hL) (EH hL λq hq=>h q (cZ _ hq)) ?_;rw[jo];omega
theorem Qy{M:ag}{n:Nat}{ds:List D}(h:M[n]?=some (.lst ds)):fG (.j5 .list) [.d (.aJ n)] M=.ok (.d (.bl true)) M:=by
 unfold fG;simp only[wq,h];rfl
def ou(F:Fn):Prop:=∀(M:ag)(f:Fm)(s:Sd),lL f->nU f 4 s->aO (F [Bb f,rY s] M) λr M'=>r=.d (.bl true)/\Ex M M'
theorem EI{G:a8}(hW:xm (G 12)):ou (ai G 5 RS):=by
 intro M f s hf hs;rw[ba];show d8 G RS [some (Bb f),some (rY s),none,none,none] M _ _ _ _;have h8:=hf.l8;have hrl:(f.ro.map k_).length=f.ro.length:=aZ _;nofun;refine⟨⟨∅,∅⟩,?_⟩;refine kZ (n:=((f.ro.map k_).length:Int).toNat) (λi ρ M'=>∃o2 o3 o4,ρ=[some (Bb f),some (rY s),o2,o3,o4]/\Ex M M') ⟨_,_,_,rfl,Ex.refl M⟩ ?_ ?_
 ·rintro i ρ M' hi ⟨o2,o3,o4,rfl,f1⟩;rw[show(0:Int)+(i:Int)=((i:Nat):Int) by omega];have Vl:i<f.ro.length:=∅;obtain⟨e0,Ph⟩:=hs.UX Vl
  have Mu:∀p∈(load s i).2,jW p.2/\0<=p.1/\p.1<=((10 ^ 11:Nat):Int):=λp hp=>by
   obtain⟨q1,q2,q3⟩:=Ph.p p hp;have:=Ph.s;exact⟨q1,q2,∅⟩
  have hn:=Ph.n;obtain⟨y,hy,r1,r2⟩:=MQ (EH (M:=[]) (L:=4) (by decide) Mu) (by decide) ∅ ∅;nofun;rw[kP e0];nofun;refine(hW _ f 4 s i hs Vl).imp ?_;rintro r M2 ⟨rfl,rfl⟩;nofun;have h3:(M'++[MO.lst ((load s i).2.map pD)]++[MO.lst ((load s i).2.map pD)])[M'.length]?=some (.lst ((load s i).2.map pD)):=cX aQ;have h4:(M'++[MO.lst ((load s i).2.map pD)]++[MO.lst ((load s i).2.map pD)])[(M'++[MO.lst ((load s i).2.map pD)]).length]?=some (.lst ((load s i).2.map pD)):=aQ;have f4:Ex M (M'++[MO.lst ((load s i).2.map pD)]++[MO.lst ((load s i).2.map pD)]):=f1.app.app;have vn:M'.length≠(M'++[MO.lst ((load s i).2.map pD)]).length:=by rw[dv];show _≠_+1;omega
  have HD:M.length<=(M'++[MO.lst ((load s i).2.map pD)]).length:=by rw[dv];have:=f1.1;omega
  generalize (M'++[MO.lst ((load s i).2.map pD)]++[MO.lst ((load s i).2.map pD)]:ag)=M4 at h3 h4 f4⊢;generalize (M'++[MO.lst ((load s i).2.map pD)]:ag).length=n4 at h4 vn HD⊢;rw[Qy h4];nofun;rw[r1 _ _ h4];nofun;rw[r1 _ _ h3];nofun;rw[D1 hy hy,qf];nofun;refine⟨d9 h4,?_⟩;nofun;refine⟨ar (j8 rfl),?_⟩;nofun;rw[fV h4 (bJ (by rw[aZ];omega))];nofun;have h5:(M4.set n4 (.lst ((load s i).2.map pD++[.tup [.int 0,.str "a"]])))[n4]?=some (.lst ((load s i).2.map pD++[.tup [.int 0,.str "a"]])):=dI h4;have RY:(M4.set n4 (.lst ((load s i).2.map pD++[.tup [.int 0,.str "a"]])))[M'.length]?=_:=jU h3 vn;have f5:Ex M (M4.set n4 (.lst ((load s i).2.map pD++[.tup [.int 0,.str "a"]]))):=Fr.set f4 HD;generalize (M4.set n4 (.lst ((load s i).2.map pD++[.tup [.int 0,.str "a"]])):ag)=M5 at h5 RY f5⊢;refine⟨d9 h5,?_⟩;nofun;rw[A_ h5];nofun;have h6:(M5.set n4 (.lst ((load s i).2.map pD++[D.tup [.int 0,.str "a"]]).reverse))[M'.length]?=_:=jU RY vn;have f6:Ex M (M5.set n4 (.lst ((load s i).2.map pD++[D.tup [.int 0,.str "a"]]).reverse)):=Fr.set f5 HD;generalize (M5.set n4 (.lst ((load s i).2.map pD++[D.tup [.int 0,.str "a"]]).reverse):ag)=M6 at h6 f6⊢;refine(hW M6 f 4 s i hs Vl).imp ?_;rintro r M7 ⟨rfl,rfl⟩;nofun;rw[r2];nofun;rw[r1 _ _ h6];nofun;rw[D1 hy hy,qf];nofun;exact⟨_,_,_,rfl,f6⟩
 ·rintro ρ M' ⟨o2,o3,o4,rfl,f1⟩;nofun;exact⟨rfl,f1⟩
end bV
end
section
namespace bV
open L2 Ev
open PySem PySem.Spec PyProof.Rows
theorem xF{M:ag}{B L c h:Nat}:∀{ds:List D},(∀d∈ds,Tg M B L c h d)->Ts M B L (c*ds.length) h ds
 | [],_=>.nil _ _
 | d::ds,k=>.cons _ c (c*ds.length) _ _ _ (k d du) (xF λx hx=>k x (cZ _ hx)) (by rw[jo,Nat.mul_succ];omega)
theorem vg{M:ag}{f:Fm}{s:Sd}(hf:lL f)(hs:nU f 4 s):Tg M (10 ^ 9+4) 8 30000 5 (rY s)/\Tg M (10 ^ 9+4) 8 30000 5 (.tup (s.st.map D.int))/\Tg M (10 ^ 9+4) 8 30000 5 (.tup (s.ld.map gL)):=by
 have h4:=hf.l4;have h8:=hf.l8
 have t1:Tg M (10 ^ 9+4) 8 2000 4 (.tup (s.st.map D.int)):=by
  refine .tup (300*(s.st.map D.int).length) _ 3 _ (xF λd hd=>?_) (by rw[aZ,hs.ls];omega) (by rw[aZ,hs.ls];omega);obtain⟨i,hi,rfl⟩:=iR.mp hd;have:=hs.st i hi;exact .at _ _ _ (show i.natAbs<=10 ^ 9+4 by omega) (aq _)
 have t2:Tg M (10 ^ 9+4) 8 25000 4 (.tup (s.ld.map gL)):=by
  refine .tup (2800*(s.ld.map gL).length) _ 3 _ (xF λd hd=>?_) (by rw[aZ,hs.ll];omega) (by rw[aZ,hs.ll];omega);obtain⟨l,hl,rfl⟩:=iR.mp hd;have k:=hs.ld l hl;have kn:=k.n;have ks:=k.s
  have tp:Tg M (10 ^ 9+4) 8 2430 2 (.tup (l.2.map pD)):=.tup (605*l.2.length) _ 1 _ (EH (by decide) λp hp=>by
   obtain⟨q1,q2,q3⟩:=k.p p hp;exact⟨q1,q2,∅⟩) ∅ (by rw[aZ];omega)
  exact .tup 2730 _ 2 _ (.cons _ 300 2430 _ _ _ (.at _ _ _ (show l.1.natAbs<=10 ^ 9+4 by omega) (aq _)) (.cons _ 2430 0 _ _ _ tp (.nil _ _) ∅) ∅) ∅ (by show 2<=8;omega)
 refine⟨.tup 27000 _ 4 _ (.cons _ 2000 25000 _ _ _ t1 (.cons _ 25000 0 _ _ _ t2 (.nil _ _) ∅) ∅) ∅ (by show 2<=8;omega),?_,?_⟩
 ·exact Tg.mono (Ex.refl _) (aq _) (aq _) t1 ∅ ∅
 ·exact Tg.mono (Ex.refl _) (aq _) (aq _) t2 ∅ ∅
noncomputable def eY(f:Fm):Sd:=⟨f.ru.map (·.1),f.ro.map λ_=>(0,[])⟩
theorem EJ{f:Fm}(hf:lL f):nU f 4 (eY f)/\Tl f (eY f):=by
 refine⟨⟨aZ _,λx hx=>?_,aZ _,λl hl=>?_⟩,λr hr _=>?_⟩
 ·obtain⟨y,hy,rfl⟩:=iR.mp hx;obtain⟨m,hm,e⟩:=qd.mp hy;exact(hf.ru m y (by rw[cf hm,e])).1
 ·obtain⟨y,hy,rfl⟩:=iR.mp hl;exact⟨⟨tm _,by decide⟩,jt _,λp hp=>(by cases hp),List.Pairwise.nil⟩
 ·have e:load (eY f) r=(0,[]):=by
   show(f.ro.map λ_=>((0:Int),([]:List (Int×Str)))).getD r (0,[])=(0,[]);rw[p_,dy];cases f.ro[r]? <;> rfl
  rw[e];show _=_;decide
theorem EK{f:Fm}:(f.ru.map Bq).filterMap sC=(eY f).st.map D.int:=by
 unfold eY;dsimp only
 induction f.ru with
 | nil=>rfl
 | cons r rs ih=>rw[eM,eM,eM,<- ih];rfl
theorem WM{f:Fm}:(f.ro.map k_).map (λ_=>D.tup [.int 0,.tup []])=(eY f).ld.map gL:=by
 unfold eY;rw[vI,vI];rfl
theorem MS{f:Fm}:((List.replicate (((f.ro.map k_).length:Nat):Int).toNat [D.tup [.int 0,.tup []]]).flatten)=(eY f).ld.map gL:=by
 rw[<- WM,mw]
 induction f.ro with
 | nil=>rfl
 | cons r rs ih=>rw[eM,jo,vC,zr,ih];rfl
theorem Qz{f:Fm}(hf:lL f):nR (f.ro.map k_):=by
 refine⟨by rw[aZ];exact hf.l8,λr hr=>?_⟩;obtain⟨y,hy,rfl⟩:=iR.mp hr;have:=hf.ro y hy;exact⟨_,_,_,rfl,this.k⟩
def sw(f:Fm):Sd:=⟨(eY f).st,((10:Int) ^ Int.toNat 9,(List.range 100).map λ(k:Nat)=>(3*(0+(k:Int)),("a" : Str)))::(eY f).ld.drop 1⟩
theorem HS{f:Fm}(hf:lL f)(hp:0<f.ro.length) (hh:(f.ro[0].2.2==("heap" : Str))=true):nU f 100 (sw f)/\Tl f (sw f):=by
 obtain⟨k1,k2⟩:=EJ hf;have h9:(10:Int) ^ Int.toNat 9=1000000000:=by decide
 refine⟨⟨k1.ls,k1.st,?_,λl hl=>?_⟩,λr hr q=>?_⟩
 ·show((eY f).ld.drop 1).length+1=_;rw[mz,k1.ll];omega
 ·rcases bz.mp hl with rfl | hl
  ·refine⟨⟨by rw[h9];decide,by rw[h9];decide⟩,by show(List.map _ _).length<=100;rw[aZ,vE];omega,λp hp=>?_,?_⟩
   ·obtain⟨k,hk,rfl⟩:=iR.mp hp;have:=Fl.mp hk;refine⟨.inl rfl,?_,?_⟩
    ·show 0<=3*(0+(k:Int));omega
    ·show 3*(0+(k:Int))<10 ^ Int.toNat 9;rw[h9];omega
   ·show(List.map _ _).Pairwise _;rw[JH];refine List.Pairwise.imp ?_ (E2 (n:=100));intro a b Rf;show 3*(0+(a:Int))<3*(0+(b:Int));omega
  ·have:=k1.ld l (List.mem_of_mem_drop hl);exact⟨⟨this.s.1,by have:=this.s.2;omega⟩,bH this.n (by decide),this.p,this.r⟩
 ·rcases r with _ | r
  ·exfalso
   have e:nV f 0=f.ro[0]:=by
    unfold nV;rw[p_,cf hp];rfl
   rw[e,hh]at q;cases q
  ·have e:load (sw f) (r+1)=(0,[]):=by
    show(((10:Int) ^ Int.toNat 9,(List.range 100).map λ(k:Nat)=>(3*(0+(k:Int)),("a" : Str)))::(f.ro.map λ_=>((0:Int),([]:List (Int×Str)))).drop 1).getD (r+1) (0,[])=(0,[]);rw[p_,List.getElem?_cons_succ,Fb,dy];cases f.ro[1+r]? <;> rfl
   rw[e];show _=_;decide
def cj:Nat->Nat
 | 0=>30000
 | n+1=>2*cj n+3000
theorem MT{G:a8}(hF:Ef (G 19))(Qf:r_ (G 21))(hFi:xD (G 6))(Vm:Ev.gF (G 11))(hWR:ou (G 29))(hWe:p0 (G 13))(hD:dJ (G 14))(hBe:vf 6 (G 27))(WN:xE (G 28))(ns:List Int)(lP:ns.length<=63):aO (ai G 10 RU [.ls (ns.map D.int)] []) λr _=>r=.d (.bl true):=by
 rw[ba];show d8 G RU [some (.ls (ns.map D.int)),none,none,none,none,none,none,none,none,none] [] _ _ _ _;nofun;refine(hF [] ns lP).imp ?_;rintro r M1 ⟨d,rfl,hd,f1⟩;obtain⟨f,rfl,hf⟩:=xj hd;have h4:=hf.l4;have h8:=hf.l8;obtain⟨k1,k2⟩:=EJ hf;have Rp:=Qz hf;nofun;refine fh (ds:=f.ru.map Bq) sC (by decide) cT (ar (by rw[aZ];omega)) ?_ ?_ rfl
 ·intro i M' d hd g;obtain⟨y,hy,rfl⟩:=iR.mp (c_ hd);nofun;exact⟨rfl,g⟩
 intro M2 f2;rw[EK];nofun;refine⟨ar (show 0<=1000 by decide),?_⟩;nofun;refine⟨ar (show 2<=1000 by decide),?_⟩;nofun;refine⟨ar (show 1<=1000 by decide),?_⟩;nofun;have hrl:(f.ro.map k_).length=f.ro.length:=aZ _;refine⟨⟨∅,∅,ar (by show 1*_<=1000;rw[mw];omega)⟩,?_⟩;rw[MS];nofun;refine⟨ar (show 2<=1000 by decide),?_⟩;nofun;refine(hFi M2 (f.ru.map Bq) (f.ro.map k_) (by rw[aZ];omega) (by rw[aZ];omega) λd hd=>?_).imp ?_
 ·obtain⟨y,hy,rfl⟩:=iR.mp hd;exact⟨_,_,rfl⟩
 rintro r M3 ⟨rfl,f3⟩;rw[EK,WM];obtain⟨y0,WO,hp0⟩:=zd (M:=M3) (by decide) (vg hf k1).1 (by decide) (by decide);have WQ:fG .d5 [.d (.tup [.tup ((eY f).st.map D.int),.tup ((eY f).ld.map gL)])] M3=.ok (.d (.str y0)) M3:=hp0 M3 (Ex.refl _);nofun;rw[WQ];nofun;rw[WQ];nofun;rw[D1 WO WO,qf];nofun;refine(Vm M3 f 4 (eY f) hf k1 k2 (by decide)).imp ?_;rintro r M4 ⟨rfl,f4⟩;nofun;refine(Qf M4 ns f lP hf).imp ?_;rintro r M5 ⟨s,rfl,hs,ht,f5⟩;nofun;refine(Vm M5 f 4 s hf hs ht (by decide)).imp ?_;rintro r M6 ⟨rfl,f6⟩;nofun;refine(hWR M6 f s hf hs).imp ?_;rintro r M7 ⟨rfl,f7⟩;nofun;refine⟨⟨by decide,by decide⟩,?_⟩;refine kZ (n:=16) (λi ρ M'=>∃o4 o5 o6 o7,ρ=[some (.ls (ns.map D.int)),some (Bb f),some (rY (eY f)),some (rY s),o4,o5,o6,o7,none,none]) ⟨_,_,_,_,rfl⟩ ?_ ?_
 ·rintro i ρ M' hi ⟨o4,o5,o6,o7,rfl⟩;nofun;refine(hWe M' ns (6+(0+(i:Int))) ∅ ∅ lP).imp ?_;rintro r M8 ⟨rfl,hl8,Mo,f8⟩;nofun;refine⟨ar (show 3<=1000 by decide),?_⟩;nofun;refine(hD M8 M'.length 0 3 Mo (by decide) (by decide) (by decide)).imp ?_;rintro r M9 ⟨a,rfl,a0,a1,Ro,f9⟩
  obtain⟨x,hx,tx⟩:∃x,([rY s,rY s,rY (eY f)]:List D)[a.toNat]?=some x/\∀M,Tg M (10 ^ 9+4) 8 30000 5 x:=by
   have:a=0\/a=1\/a=2:=∅;rcases this with rfl | rfl | rfl
   ·exact⟨_,rfl,λM=>(vg hf hs).1⟩
   ·exact⟨_,rfl,λM=>(vg hf hs).1⟩
   ·exact⟨_,rfl,λM=>(vg hf k1).1⟩
  nofun;rw[nM a0 hx];nofun;refine(hD M9 M'.length (0+1) 2 Ro (by decide) (by decide) (by decide)).imp ?_;rintro r M10 ⟨b,rfl,b0,b1,Vn,Wv⟩;nofun;refine⟨⟨∅,∅⟩,?_⟩;refine kZ (n:=(1+b).toNat) (λj ρ M2=>∃o7 d,ρ=[some (.ls (ns.map D.int)),some (Bb f),some (rY (eY f)),some (rY s),some (.int (0+(i:Int))),some (.aJ M'.length),some d,o7,none,none]/\Tg M2 (10 ^ 9+4+j) (8+j) (cj j) (5+7*j) d/\WA M2 M'.length (2+21*(j:Int))) ⟨_,_,rfl,tx _,Vn.mono ∅⟩ ?_ ?_
  ·rintro j ρ M2 hj ⟨o7,d,rfl,td,p5⟩;have WR:j=0\/j=1:=∅;nofun;refine(hBe M2 M'.length _ _ _ _ _ d p5 ∅ td ∅ ∅ ∅ ∅ ∅).imp ?_;rintro r M3 ⟨d2,rfl,td2,lZ,f3⟩;nofun;refine⟨_,_,rfl,?_,lZ.mono ∅⟩;exact Tg.mono (Ex.refl _) ∅ ∅ td2 (aq _) ∅
  ·rintro ρ M2 ⟨o7,d,rfl,td,p5⟩;have WR:(1+b).toNat=1\/(1+b).toNat=2:=∅;nofun;refine(WN M2 _ _ _ _ (f.ru.map Bq) (f.ro.map k_) d td ∅ ∅ (by rcases WR with e | e<;>rw[e]<;>decide) ∅ Rp).imp ?_;rintro r M3 ⟨rfl,f3⟩;nofun;exact⟨_,_,_,_,rfl⟩
 ·rintro ρ M' ⟨o4,o5,o6,o7,rfl⟩;nofun
  iterate 9 (refine⟨ar (j8 rfl),?_⟩;nofun)
  obtain⟨_,u1,u2⟩:=vg (M:=M'++[MO.lst [D.tup (List.map D.int (eY f).st),D.tup (List.map gL (eY f).ld)]]) hf k1;have hN:(M'++[MO.lst [D.tup (List.map D.int (eY f).st),D.tup (List.map gL (eY f).ld)]])[M'.length]?=some (.lst [D.tup (List.map D.int (eY f).st),D.tup (List.map gL (eY f).ld)]):=aQ
  have hit:∀d∈[D.a6,D.tup [],D.int 7,D.str (Str.ofString "a"),D.aJ (List.length M'),D.tup (Ev.cutD [D.tup (List.map D.int (eY f).st),D.tup (List.map gL (eY f).ld)] none (some 1)),D.tup ([D.tup (List.map D.int (eY f).st),D.tup (List.map gL (eY f).ld)]++[D.tup []]),D.tup [D.tup [],D.tup []]],Tg (M'++[MO.lst [D.tup (List.map D.int (eY f).st),D.tup (List.map gL (eY f).ld)]]) (10 ^ 9+4) 8 100000 6 d:=by
   have v2:Ts (M'++[MO.lst [D.tup (List.map D.int (eY f).st),D.tup (List.map gL (eY f).ld)]]) (10 ^ 9+4) 8 60000 5 [D.tup (List.map D.int (eY f).st),D.tup (List.map gL (eY f).ld)]:=.cons _ 30000 30000 _ _ _ u1 (.cons _ 30000 0 _ _ _ u2 (.nil _ _) ∅) ∅;have v0:Tg (M'++[MO.lst [D.tup (List.map D.int (eY f).st),D.tup (List.map gL (eY f).ld)]]) (10 ^ 9+4) 8 5 5 (.tup []):=.tup 0 _ 4 _ (.nil _ _) ∅ (jt _);refine all_cons ?_ (all_cons ?_ (all_cons ?_ (all_cons ?_ (all_cons ?_ (all_cons ?_ (all_cons ?_ (all_cons ?_ md)))))))
   ·exact .at _ _ _ trivial ∅
   ·exact Tg.mono (Ex.refl _) (aq _) (aq _) v0 ∅ ∅
   ·exact .at _ _ _ (show(7:Int).natAbs<=_ by decide) ∅
   ·exact .at _ _ _ (atS ⋯) ∅
   ·exact .lst 60000 _ 5 _ _ hN v2 ∅ (show 2<=8 by omega)
   ·exact .tup 60000 _ 5 _ (v2.cutD _ _) ∅ (bH sI (show 2<=8 by omega))
   ·exact .tup (60000+5) _ 5 _ (v2.app (.cons _ 5 0 _ _ _ v0 (.nil _ _) ∅)) ∅ (show 3<=8 by omega)
   ·exact .tup 10 _ 5 _ (.cons _ 5 5 _ _ _ v0 (.cons _ 5 0 _ _ _ v0 (.nil _ _) ∅) ∅) ∅ (show 2<=8 by omega)
  generalize [D.a6,D.tup [],D.int 7,D.str (Str.ofString "a"),D.aJ (List.length M'),D.tup (Ev.cutD [D.tup (List.map D.int (eY f).st),D.tup (List.map gL (eY f).ld)] none (some 1)),D.tup ([D.tup (List.map D.int (eY f).st),D.tup (List.map gL (eY f).ld)]++[D.tup []]),D.tup [D.tup [],D.tup []]]=aC at hit⊢;generalize (M'++[MO.lst [D.tup (List.map D.int (eY f).st),D.tup (List.map gL (eY f).ld)]]:ag)=N at hit⊢;refine lY (ds:=aC) (λi ρ M2=>∃o8,ρ=[some (.ls (ns.map D.int)),some (Bb f),some (rY (eY f)),some (rY s),o4,o5,o6,o7,o8,none]/\Ex N M2) ⟨_,rfl,Ex.refl _⟩ ?_ ?_
  ·rintro i ρ M2 d hd ⟨o8,rfl,g⟩;nofun;refine(WN M2 _ _ _ _ (f.ru.map Bq) (f.ro.map k_) d ((hit d (c_ hd)).ls (Ls.ex g)) (by decide) (by decide) (by decide) (by decide) Rp).imp ?_;rintro r M3 ⟨rfl,f3⟩;nofun;exact⟨_,rfl,Ex.trans g f3⟩
  ·rintro ρ M2 ⟨o8,rfl,g⟩;nofun;by_cases hp:(0:Int)<(f.ro.map k_).length
   ·rw[dQ hp];have KN:0<f.ro.length:=by rw[aZ]at hp;omega
    have e0:(f.ro.map k_)[0]?=some (k_ f.ro[0]):=by rw[dy,cf KN];rfl
    have UR:d6 (.d (.tup (f.ro.map k_))) (.d (.int 0)) M2=.ok (.d (k_ f.ro[0])) M2:=kP (m:=0) e0;nofun;rw[UR];nofun;rw[jV (Jo (hf.ro _ (sV KN)).k) iq]
    cases q:(f.ro[0].2.2==("heap" : Str))with
    | false=>nofun
    | true =>
     nofun;refine⟨⟨by decide,by decide⟩,?_⟩;refine D2 (n:=100) (λi M' aE=>aE=(List.range i).map λ(k:Nat)=>pD (3*(0+(k:Int)),("a" : Str))) (by decide) rfl ?_ ?_
     ·rintro i M' aE hi rfl;refine⟨bJ (by rw[aZ,vE];omega),?_⟩;nofun;refine⟨.inl ⟨by decide,by decide⟩,?_⟩;nofun;refine⟨ar (j8 rfl),?_⟩;nofun;rw[List.range_succ,List.map_append];rfl
     ·rintro M' aE rfl;nofun;refine⟨ar (show 2<=1000 by decide),?_⟩;nofun;refine⟨ar (show 1<=1000 by decide),?_⟩;nofun
      have ec:Ev.cutD ((eY f).ld.map gL) (some 1) none=((eY f).ld.drop 1).map gL:=by
       rw[List.map_drop];exact vd (i:=1) (by rw[aZ,k1.ll];exact KN)
      rw[ec];refine⟨ar (by show 1+_<=1000;rw[aZ,mz,k1.ll];omega),?_⟩;nofun;refine⟨ar (show 2<=1000 by decide),?_⟩;nofun;obtain⟨j1,j2⟩:=HS hf KN q
      have es:(D.tup [.tup ((eY f).st.map D.int),.tup ([D.tup [.int (10 ^ Int.toNat 9),.tup ((List.range 100).map λ(k:Nat)=>pD (3*(0+(k:Int)),("a" : Str)))]]++((eY f).ld.drop 1).map gL)])=rY (sw f):=by
       unfold rY sw gL;dsimp only;rw[eM,vI];rfl
      rw[es];refine(Vm M' f 100 (sw f) hf j1 j2 (by decide)).imp ?_;rintro r M3 ⟨rfl,f3⟩;nofun;rfl
   ·rw[cx hp];nofun
theorem EL:∀ns:List Int,ns.length<=63->∃M,Qo [.ls (ns.map D.int)] []=.ok (.d (.bl true)) M:=by
 intro ns lP;have h0:∀l,gA (cm (c1 l) 0):=λl=>xk;have WS:∀l,Ev.gA (cm (c1 l) 0):=λl=>Ev.xk;have h1:∀l,gB (cm (c2 l) 1):=λl=>xl (h0 _);have WT:∀l,Ev.gB (cm (c2 l) 1):=λl=>Ev.xl (WS _);have h2:∀l,jk (cm (c3 l) 2):=λl=>xq (h1 _);have h2':∀l,Ev.jk (cm (c3 l) 2):=λl=>Ev.xq (WT _);have h3:∀l,nX (cm (c4 l) 3):=λl=>Ej;have RY:∀l,Ev.nX (cm (c4 l) 3):=λl=>Ev.Ej;have h4:∀l,eX (cm (c5 l) 4):=λl=>MB;have QA:∀l,Ev.xr (cm (c5 l) 4):=λl=>Ev.U0;have h5:∀l,gD (cm (c6 l) 5):=λl=>sv;have h5':∀l,Ev.gD (cm (c6 l) 5):=λl=>Ev.sv;have h6:∀l,xD (cm (c7 l) 6):=λl=>MI;have h7:∀l,eW (cm (c8 l) 7):=λl=>n_ (h2 _) (h4 _);have h7':∀l,Ev.eW (cm (c8 l) 7):=λl=>Ev.n_ (QA _) (h2' _);have h8:∀l,gC (cm (c9 l) 8):=λl=>letterF (h1 _) (h3 _) (h4 _);have h8':∀l,Ev.gC (cm (c9 l) 8):=λl=>Ev.letterF (QA _) (WT _) (RY _);have h9:∀l,Ez (cm (Qk l) 9):=λl=>Qu (h0 _) (h4 _) (h5 _) (h8 _);have h9':∀l,Ev.kR (cm (Qk l) 9):=λl=>Ev.Bf (QA _) (WS _) (h8' _) (h5' _);have h10:∀l,gE (cm (Ql l) 10):=λl=>sD (h4 _) (h9 _);have Vo:∀l,Ev.gE (cm (Ql l) 10):=λl=>Ev.sD (QA _) (h9' _);have h11:∀l,gF (cm (Qm l) 11):=λl=>sE (h4 _) (h7 _) (h10 _);have Vp:∀l,Ev.gF (cm (Qm l) 11):=λl=>Ev.sE (QA _) (h7' _) (Vo _);have h12:∀l,xm (cm (Ru l) 12):=λl=>Mr;have Vq:∀l,p0 (cm (Rw l) 13):=λl=>P2;have EW:∀l,dJ (cm (Qn l) 14):=λl=>Mk;have N8:∀l,wY (cm (Rx l) 15):=λl=>Ml (EW _);have h16:∀l,l5 (cm (Ry l) 16):=λl=>HB (EW _);have h17:∀l,wZ (cm (Rz l) 17):=λl=>Mm (EW _);have h18:∀l,rV (cm (RA l) 18):=λl=>Mn (EW _) (h17 _);have h19:∀l,Ef (cm (RB l) 19):=λl=>Qg (Vq _) (EW _) (N8 _) (h16 _) (h18 _);have h20:∀l,xn (cm (RC l) 20):=λl=>Ms (EW _);have h21:∀l,r_ (cm (RE l) 21):=λl=>HE (Vq _) (EW _) (h20 _);have WU:∀l,ma (cm (RG l) 22):=λl=>HJ;have WV:∀l,eX (cm (RI l) 23):=λl=>MD;have h24:∀l,xC (cm (RK l) 24):=λl=>MF (WU _) (WV _);have h25:∀l,MH (cm (RM l) 25):=λl=>Va (WU _) (WV _) (h24 _);have h26:∀l,HR (cm (Jk l) 26):=λl=>Vc (EW _);have h27:∀l,vf 6 (cm (RO l) 27):=λl=>Jp EW h26 9 6 (by decide) (by decide);have h28:∀l,xE (cm (RQ l) 28):=λl=>MP (h11 _) (h25 _);have h29:∀l,ou (cm (RT l) 29):=λl=>EI (h12 _);obtain⟨r,M,e,q⟩:=LI (MT (G:=cm (RT [])) (h19 _) (h21 _) (h6 _) (Vp _) (h29 _) (Vq _) (EW _) (h27 _) (h28 _) ns lP);subst q;exact⟨M,e⟩
end bV
end
section
namespace bV
open L2 Ev PySem PySem.Spec PyProof.Rows
noncomputable def dg(i:Nat):Stmt:=PySem.Challenge.pw_cutstand_k03_what_is_a_stand.main.body.getD i (.Pass ⟨0,0,0,0⟩)
abbrev s0:=dg 2
abbrev s1:=dg 3
abbrev s2:=dg 4
abbrev s3:=dg 5
abbrev s4:=dg 6
abbrev s5:=dg 7
abbrev s6:=dg 9
abbrev s7:=dg 11
abbrev s8:=dg 14
abbrev s9:=dg 13
abbrev QQ:=dg 12
abbrev S9:=dg 10
abbrev WX:=dg 15
abbrev WY:=dg 17
abbrev WZ:=dg 18
abbrev W0:=dg 19
abbrev W2:=dg 20
abbrev W3:=dg 21
abbrev W4:=dg 22
abbrev W5:=dg 23
abbrev W6:=dg 24
abbrev W7:=dg 25
abbrev W8:=dg 26
abbrev W9:=dg 27
abbrev W_:=dg 28
abbrev Xa:=dg 29
abbrev Xb:=dg 30
abbrev Xc:=dg 31
abbrev Xd:=dg 32
abbrev Xe:=dg 33
abbrev Vr:=dg 34
abbrev m0:Value:=(.str "cutstand.kinds" 187)
abbrev m1:Value:=(.str "cutstand.stands" 234)
abbrev m2:Value:=(.str "law_cutstand_k03_what_is_a_stand" 284)
noncomputable def en(P:Params)(k:Str)(t:Nat)(v:Value):DictEntry:=⟨PyData.keyHash P k,.str k t,v⟩
noncomputable def co(a:Array Value):Obj:=⟨.type "code",none,.fields a,#[]⟩
def cp(n:Nat):Value:=.str "/claim/cut.py" n
def iv(n:Nat):Value:=.int n 0
def Kf(P:Params):PySem.W.Frag:=[(3,⟨(.type "dict"),none,.dict #[en P "__name__" 165 (.str "law_cutstand_k03_what_is_a_stand" 284),en P "__doc__" 166 .none,en P "__package__" 167 .none,en P "__loader__" 168 (.builtin "__main__.__loader__#opaque"),en P "__spec__" 169 .none,en P "__annotations__" 170 (.ref 6),en P "__builtins__" 171 (.ref 4),en P "__file__" 173 (cp 172),en P "__cached__" 174 .none,en P "STATES" 190 (.int 100 189),en P "is_whole" 197 (.ref 21),en P "is_below" 205 (.ref 28),en P "is_state" 212 (.ref 35),en P "is_sign" 219 (.ref 42),en P "is_tuple_of" 227 (.ref 49),en P "is_rising" 233 (.ref 54),en P "first" 241 (.ref 59),en P "right_stand" 249 (.ref 66),en P "right_states" 255 (.ref 71),en P "right_roads" 261 (.ref 76),en P "right_letters" 267 (.ref 81),en P "is_letter" 275 (.ref 88),en P "waits" 283 (.ref 95),en P "_law_well" 294 (.ref 102),en P "_law_draw" 306 (.ref 109),en P "_law_roads" 319 (.ref 116),en P "_law_states" 330 (.ref 123),en P "_law_sends" 341 (.ref 130),en P "_law_moves" 358 (.ref 137),en P "_law_form" 364 (.ref 142),en P "_law_load" 377 (.ref 149),en P "_law_stand" 383 (.ref 154),en P "_law_whole" 392 (.ref 161),en P "_law_long" 400 (.ref 168),en P "_law_is_load" 406 (.ref 173),en P "_law_is_stand" 412 (.ref 178),en P "_law_odd" 421 (.ref 185),en P "_law_bent" 431 (.ref 192),en P "_law_right" 441 (.ref 199),en P "_law_waits_right" 452 (.ref 206),en P "law" 458 (.ref 211)] 41,#[]⟩),(20,co #[(.str "is_whole" 191),(.str "is_whole" 192),(cp 193),(iv 3),(iv 1),(iv 0),(iv 0),(iv 3),(.ref 15),(.bool true),(iv 181),(.ref 16),.none,(.ref 17),(.ref 18),(.ref 19),(iv 195),(iv 3),(cp 196)]),(21,fo (fq "is_whole" s0 m0 (.ref 20))),(27,co #[(.str "is_below" 198),(.str "is_below" 199),(cp 200),(iv 5),(iv 2),(iv 0),(iv 0),(iv 3),(.ref 22),(.bool true),(iv 181),(.ref 23),.none,(.ref 24),(.ref 25),(.ref 26),(iv 203),(iv 5),(cp 204)]),(28,fo (fq "is_below" s1 m0 (.ref 27))),(34,co #[(.str "is_state" 206),(.str "is_state" 207),(cp 208),(iv 7),(iv 1),(iv 0),(iv 0),(iv 3),(.ref 29),(.bool true),(iv 181),(.ref 30),.none,(.ref 31),(.ref 32),(.ref 33),(iv 210),(iv 7),(cp 211)]),(35,fo (fq "is_state" s2 m0 (.ref 34))),(41,co #[(.str "is_sign" 213),(.str "is_sign" 214),(cp 215),(iv 9),(iv 1),(iv 0),(iv 0),(iv 3),(.ref 36),(.bool true),(iv 181),(.ref 37),.none,(.ref 38),(.ref 39),(.ref 40),(iv 217),(iv 9),(cp 218)]),(42,fo (fq "is_sign" s3 m0 (.ref 41))),(48,co #[(.str "is_tuple_of" 220),(.str "is_tuple_of" 221),(cp 222),(iv 11),(iv 2),(iv 0),(iv 0),(iv 3),(.ref 43),(.bool true),(iv 181),(.ref 44),.none,(.ref 45),(.ref 46),(.ref 47),(iv 225),(iv 11),(cp 226)]),(49,fo (fq "is_tuple_of" s4 m0 (.ref 48))),(53,co #[(.str "is_rising" 228),(.str "is_rising" 229),(cp 230),(iv 13),(iv 1),(iv 0),(iv 0),(iv 3),(.ref 50),(.bool true),(iv 181),(.ref 51),.none,.none,.none,(.ref 52),(iv 231),(iv 13),(cp 232)]),(54,fo (fq "is_rising" s5 m0 (.ref 53))),(58,co #[(.str "first" 236),(.str "first" 237),(cp 238),(iv 16),(iv 1),(iv 0),(iv 0),(iv 3),(.ref 55),(.bool true),(iv 181),(.ref 56),.none,.none,.none,(.ref 57),(iv 239),(iv 16),(cp 240)]),(59,fo (fq "first" s6 m1 (.ref 58))),(65,co #[(.str "right_stand" 242),(.str "right_stand" 243),(cp 244),(iv 20),(iv 2),(iv 0),(iv 0),(iv 3),(.ref 60),(.bool true),(iv 181),(.ref 61),.none,(.ref 62),(.ref 63),(.ref 64),(iv 247),(iv 20),(cp 248)]),(66,fo (fq "right_stand" S9 m1 (.ref 65))),(70,co #[(.str "right_states" 250),(.str "right_states" 251),(cp 252),(iv 24),(iv 2),(iv 0),(iv 0),(iv 3),(.ref 67),(.bool true),(iv 181),(.ref 68),.none,.none,.none,(.ref 69),(iv 253),(iv 24),(cp 254)]),(71,fo (fq "right_states" s7 m1 (.ref 70))),(75,co #[(.str "right_roads" 256),(.str "right_roads" 257),(cp 258),(iv 26),(iv 2),(iv 0),(iv 0),(iv 3),(.ref 72),(.bool true),(iv 181),(.ref 73),.none,.none,.none,(.ref 74),(iv 259),(iv 26),(cp 260)]),(76,fo (fq "right_roads" QQ m1 (.ref 75))),(80,co #[(.str "right_letters" 262),(.str "right_letters" 263),(cp 264),(iv 30),(iv 2),(iv 0),(iv 0),(iv 3),(.ref 77),(.bool true),(iv 181),(.ref 78),.none,.none,.none,(.ref 79),(iv 265),(iv 30),(cp 266)]),(81,fo (fq "right_letters" s9 m1 (.ref 80))),(87,co #[(.str "is_letter" 268),(.str "is_letter" 269),(cp 270),(iv 40),(iv 2),(iv 0),(iv 0),(iv 3),(.ref 82),(.bool true),(iv 181),(.ref 83),.none,(.ref 84),(.ref 85),(.ref 86),(iv 273),(iv 40),(cp 274)]),(88,fo (fq "is_letter" s8 m1 (.ref 87))),(94,co #[(.str "waits" 276),(.str "waits" 277),(cp 278),(iv 42),(iv 2),(iv 0),(iv 0),(iv 3),(.ref 89),(.bool true),(iv 181),(.ref 90),.none,(.ref 91),(.ref 92),(.ref 93),(iv 281),(iv 42),(cp 282)]),(95,fo (fq "waits" WX m1 (.ref 94))),(101,co #[(.str "_law_well" 286),(.str "_law_well" 287),(cp 288),(iv 45),(iv 2),(iv 0),(iv 0),(iv 3),(.ref 96),(.bool true),(iv 181),(.ref 97),.none,(.ref 98),(.ref 99),(.ref 100),(iv 292),(iv 45),(cp 293)]),(102,fo (fq "_law_well" WY m2 (.ref 101))),(108,co #[(.str "_law_draw" 295),(.str "_law_draw" 296),(cp 297),(iv 50),(iv 2),(iv 0),(iv 0),(iv 3),(.ref 103),(.bool true),(iv 181),(.ref 104),.none,(.ref 105),(.ref 106),(.ref 107),(iv 304),(iv 50),(cp 305)]),(109,fo (fq "_law_draw" WZ m2 (.ref 108))),(115,co #[(.str "_law_roads" 307),(.str "_law_roads" 308),(cp 309),(iv 60),(iv 2),(iv 0),(iv 0),(iv 3),(.ref 110),(.bool true),(iv 181),(.ref 111),.none,(.ref 112),(.ref 113),(.ref 114),(iv 317),(iv 60),(cp 318)]),(116,fo (fq "_law_roads" W0 m2 (.ref 115))),(122,co #[(.str "_law_states" 320),(.str "_law_states" 321),(cp 322),(iv 69),(iv 1),(iv 0),(iv 0),(iv 3),(.ref 117),(.bool true),(iv 181),(.ref 118),.none,(.ref 119),(.ref 120),(.ref 121),(iv 328),(iv 69),(cp 329)]),(123,fo (fq "_law_states" W2 m2 (.ref 122))),(129,co #[(.str "_law_sends" 331),(.str "_law_sends" 332),(cp 333),(iv 77),(iv 2),(iv 0),(iv 0),(iv 3),(.ref 124),(.bool true),(iv 181),(.ref 125),.none,(.ref 126),(.ref 127),(.ref 128),(iv 339),(iv 77),(cp 340)]),(130,fo (fq "_law_sends" W3 m2 (.ref 129))),(136,co #[(.str "_law_moves" 342),(.str "_law_moves" 343),(cp 344),(iv 83),(iv 3),(iv 0),(iv 0),(iv 3),(.ref 131),(.bool true),(iv 181),(.ref 132),.none,(.ref 133),(.ref 134),(.ref 135),(iv 356),(iv 83),(cp 357)]),(137,fo (fq "_law_moves" W4 m2 (.ref 136))),(141,co #[(.str "_law_form" 359),(.str "_law_form" 360),(cp 361),(iv 95),(iv 1),(iv 0),(iv 0),(iv 3),(.ref 138),(.bool true),(iv 181),(.ref 139),.none,.none,.none,(.ref 140),(iv 362),(iv 95),(cp 363)]),(142,fo (fq "_law_form" W5 m2 (.ref 141))),(148,co #[(.str "_law_load" 365),(.str "_law_load" 366),(cp 367),(iv 107),(iv 2),(iv 0),(iv 0),(iv 3),(.ref 143),(.bool true),(iv 181),(.ref 144),.none,(.ref 145),(.ref 146),(.ref 147),(iv 375),(iv 107),(cp 376)]),(149,fo (fq "_law_load" W6 m2 (.ref 148))),(153,co #[(.str "_law_stand" 378),(.str "_law_stand" 379),(cp 380),(iv 117),(iv 2),(iv 0),(iv 0),(iv 3),(.ref 150),(.bool true),(iv 181),(.ref 151),.none,.none,.none,(.ref 152),(iv 381),(iv 117),(cp 382)]),(154,fo (fq "_law_stand" W7 m2 (.ref 153))),(160,co #[(.str "_law_whole" 384),(.str "_law_whole" 385),(cp 386),(iv 126),(iv 3),(iv 0),(iv 0),(iv 3),(.ref 155),(.bool true),(iv 181),(.ref 156),.none,(.ref 157),(.ref 158),(.ref 159),(iv 390),(iv 126),(cp 391)]),(161,fo (fq "_law_whole" W8 m2 (.ref 160))),(167,co #[(.str "_law_long" 393),(.str "_law_long" 394),(cp 395),(iv 128),(iv 2),(iv 0),(iv 0),(iv 3),(.ref 162),(.bool true),(iv 181),(.ref 163),.none,(.ref 164),(.ref 165),(.ref 166),(iv 398),(iv 128),(cp 399)]),(168,fo (fq "_law_long" W9 m2 (.ref 167))),(172,co #[(.str "_law_is_load" 401),(.str "_law_is_load" 402),(cp 403),(iv 130),(iv 2),(iv 0),(iv 0),(iv 3),(.ref 169),(.bool true),(iv 181),(.ref 170),.none,.none,.none,(.ref 171),(iv 404),(iv 130),(cp 405)]),(173,fo (fq "_law_is_load" W_ m2 (.ref 172))),(177,co #[(.str "_law_is_stand" 407),(.str "_law_is_stand" 408),(cp 409),(iv 142),(iv 2),(iv 0),(iv 0),(iv 3),(.ref 174),(.bool true),(iv 181),(.ref 175),.none,.none,.none,(.ref 176),(iv 410),(iv 142),(cp 411)]),(178,fo (fq "_law_is_stand" Xa m2 (.ref 177))),(184,co #[(.str "_law_odd" 413),(.str "_law_odd" 414),(cp 415),(iv 149),(iv 2),(iv 0),(iv 0),(iv 3),(.ref 179),(.bool true),(iv 181),(.ref 180),.none,(.ref 181),(.ref 182),(.ref 183),(iv 419),(iv 149),(cp 420)]),(185,fo (fq "_law_odd" Xb m2 (.ref 184))),(191,co #[(.str "_law_bent" 422),(.str "_law_bent" 423),(cp 424),(iv 158),(iv 3),(iv 0),(iv 0),(iv 3),(.ref 186),(.bool true),(iv 181),(.ref 187),.none,(.ref 188),(.ref 189),(.ref 190),(iv 429),(iv 158),(cp 430)]),(192,fo (fq "_law_bent" Xc m2 (.ref 191))),(198,co #[(.str "_law_right" 432),(.str "_law_right" 433),(cp 434),(iv 163),(iv 2),(iv 0),(iv 0),(iv 3),(.ref 193),(.bool true),(iv 181),(.ref 194),.none,(.ref 195),(.ref 196),(.ref 197),(iv 439),(iv 163),(cp 440)]),(199,fo (fq "_law_right" Xd m2 (.ref 198))),(205,co #[(.str "_law_waits_right" 442),(.str "_law_waits_right" 443),(cp 444),(iv 167),(iv 2),(iv 0),(iv 0),(iv 3),(.ref 200),(.bool true),(iv 181),(.ref 201),.none,(.ref 202),(.ref 203),(.ref 204),(iv 450),(iv 167),(cp 451)]),(206,fo (fq "_law_waits_right" Xe m2 (.ref 205))),(210,co #[(.str "law" 453),(.str "law" 454),(cp 455),(iv 178),(iv 1),(iv 0),(iv 0),(iv 3),(.ref 207),(.bool true),(iv 181),(.ref 208),.none,.none,.none,(.ref 209),(iv 456),(iv 178),(cp 457)]),(211,fo (fq "law" Vr m2 (.ref 210)))]
noncomputable def ads:List Addr:=[3,20,21,27,28,34,35,41,42,48,49,53,54,58,59,65,66,70,71,75,76,80,81,87,88,94,95,101,102,108,109,115,116,122,123,129,130,136,137,141,142,148,149,153,154,160,161,167,168,172,173,177,178,184,185,191,192,198,199,205,206,210,211]
theorem nob{P:Params}{h:Heap}{mg:Str->Option Value}(X:(Kf P).In h)(G:h.Ns mainGlobals mg):∀b∈bI,mg b=none:=by
 have z:bI.all (λb=>match PySem.W.nsIn (Kf P) mainGlobals b with | some none=>true | _=>false)=true:=nofun;intro b hb;have q:=ir.mp z b hb;split at q
 ·rename_i e;exact PySem.W.mg_none_of X G e
 ·cases q
abbrev AL(l:PySem.W.OpenLaw)(w:World)(mg:Str->Option Value)(base:Heap)(k i:Nat):=All l.prog w (Kf w.params) mg base k (fs.take i)
theorem all_mk{l:PySem.W.OpenLaw}{w:World}{h:Heap}{mg:Str->Option Value}{fa:Addr}(X:(Kf w.params).In h)(G:h.Ns mainGlobals mg) (hfa:mg "law" = some (.ref fa)):∃fd:FuncData,(∀(s:Shared)(v:Value),BindsTo s fd ⟨[v],[]⟩ [("_law_script",v)])/\∀base:Heap,(Kf w.params).In base->base.Ns mainGlobals mg->f_ l.prog w (Kf w.params) mg base (Ay l.prog w) 39 fa fd ["_law_script"] (Bp (Kf w.params) 1 Qo):=by
 have W:Cw (Kf w.params) h mg gs:=⟨X,G,nob X G,LG X G (nofun)⟩;cases hfa.symm.trans (BH X G (show PySem.W.nsIn (Kf w.params) mainGlobals "law" = some (some (.ref 211)) by kernel_rfl));refine⟨fq "law" Vr m2 (.ref 210),λs v=>.of_eq rfl,λbase _ _=>?_⟩;have A0:AL l w mg base 0 0 []:=All.nil;have A1:AL l w mg base 1 1 (c1 []):=nx "is_whole" 21 s0 n0 ["thing"] b0 m0 (.ref 20) W A0;have A2:AL l w mg base 2 2 (c2 []):=nx "is_below" 28 s1 n1 ["thing","bound"] b1 m0 (.ref 27) W A1;have A3:AL l w mg base 3 3 (c3 []):=nx "is_state" 35 s2 n2 ["thing"] b2 m0 (.ref 34) W A2;have A4:AL l w mg base 4 4 (c4 []):=nx "is_sign" 42 s3 n3 ["thing"] b3 m0 (.ref 41) W A3;have A5:AL l w mg base 5 5 (c5 []):=nx "is_tuple_of" 49 s4 n4 ["thing","many"] b4 m0 (.ref 48) W A4;have A6:AL l w mg base 6 6 (c6 []):=nx "is_rising" 54 s5 n5 ["numbers"] b5 m0 (.ref 53) W A5;have A7:AL l w mg base 7 7 (c7 []):=nx "first" 59 s6 n6 ["form"] b6 m1 (.ref 58) W A6;have A8:AL l w mg base 8 8 (c8 []):=nx "right_states" 71 s7 n7 ["form","thing"] b7 m1 (.ref 70) W A7;have A9:AL l w mg base 9 9 (c9 []):=nx "is_letter" 88 s8 n8 ["thing","sent"] b8 m1 (.ref 87) W A8;have A10:AL l w mg base 10 10 (Qk []):=nx "right_letters" 81 s9 n9 ["order","thing"] b9 m1 (.ref 80) W A9;have A11:AL l w mg base 11 11 (Ql []):=nx "right_roads" 76 QQ Zr ["form","thing"] Rr m1 (.ref 75) W A10;have A12:AL l w mg base 12 12 (Qm []):=nx "right_stand" 66 S9 Zs ["form","thing"] Rt m1 (.ref 65) W A11;have A13:AL l w mg base 13 13 (Ru []):=nx "waits" 95 WX Zu ["stand","road"] Ww m1 (.ref 94) W A12;have A14:AL l w mg base 14 14 (Rw []):=nx "_law_well" 102 WY Zw ["_law_script","_law_k"] Wx m2 (.ref 101) W A13;have A15:AL l w mg base 15 15 (Qn []):=nx "_law_draw" 109 WZ Zx ["_law_well_here","_law_many"] Wy m2 (.ref 108) W A14;have A16:AL l w mg base 16 16 (Rx []):=nx "_law_roads" 116 W0 Zz ["_law_well_here","_law_machines"] Wz m2 (.ref 115) W A15;have A17:AL l w mg base 17 17 (Ry []):=nx "_law_states" 123 W2 ZC ["_law_well_here"] WB m2 (.ref 122) W A16;have A18:AL l w mg base 18 18 (Rz []):=nx "_law_sends" 130 W3 ZE ["_law_well_here","_law_ways"] WC m2 (.ref 129) W A17;have A19:AL l w mg base 19 19 (RA []):=nx "_law_moves" 137 W4 ZG ["_law_well_here","_law_some","_law_ways"] WD m2 (.ref 136) W A18;have A20:AL l w mg base 20 20 (RB []):=nx "_law_form" 142 W5 ZI ["_law_script"] WE m2 (.ref 141) W A19;have A21:AL l w mg base 21 21 (RC []):=nx "_law_load" 149 W6 ZK ["_law_well_here","_law_order"] WG m2 (.ref 148) W A20;have A22:AL l w mg base 22 22 (RE []):=nx "_law_stand" 154 W7 ZM ["_law_script","_law_form_here"] WH m2 (.ref 153) W A21;have A23:AL l w mg base 23 23 (RG []):=nx "_law_whole" 161 W8 ZO ["_law_thing","_law_low","_law_high"] RF m2 (.ref 160) W A22;have A24:AL l w mg base 24 24 (RI []):=nx "_law_long" 168 W9 ZQ ["_law_thing","_law_many"] RH m2 (.ref 167) W A23;have A25:AL l w mg base 25 25 (RK []):=nx "_law_is_load" 173 W_ ZS ["_law_thing","_law_order"] RJ m2 (.ref 172) W A24;have A26:AL l w mg base 26 26 (RM []):=nx "_law_is_stand" 178 Xa ZU ["_law_form_here","_law_thing"] RL m2 (.ref 177) W A25;have A27:AL l w mg base 27 27 (Jk []):=nx "_law_odd" 185 Xb ZW ["_law_well_here","_law_part"] RN m2 (.ref 184) W A26;have A28:AL l w mg base 36 28 (RO []):=Wc "_law_bent" 192 Xc ZY ["_law_well_here","_law_part","_law_deep"] Np m2 (.ref 191) W A27 (n:=9);have A29:AL l w mg base 37 29 (RQ []):=nx "_law_right" 199 Xd Z0 ["_law_form_here","_law_thing"] RP m2 (.ref 198) W A28;have A30:AL l w mg base 38 30 (RT []):=nx "_law_waits_right" 206 Xe Z3 ["_law_form_here","_law_stand_here"] RS m2 (.ref 205) W A29;exact wQ "law" 211 Vr Z5 ["_law_script"] RU m2 (.ref 210) W A30 (nofun) (nofun) (nofun) ⋯
theorem MU{K:PySem.W.Frag}{H:Hp}{a:Addr}{xs:List V}(hO:F5 H)(h:eO K H a xs):uz K H a xs:=by
 rcases h with(h | ⟨o,h⟩) | h
 ·rcases hO a with q | ⟨o,ys,q⟩
  ·rw[q]at h;cases h
  ·rw[q]at h;cases h
 ·exact .inl ⟨o,h⟩
 ·exact .inr h
theorem vh{K:PySem.W.Frag}{H:Hp}{ads:List Addr}:∀(ns:List Int),aN K ads H (ns.map D.int) (ns.map V.int)
 | []=>by unfold aN;rfl
 | i::ns=>by
  show aN K ads H (D.int i::ns.map D.int) (V.int i::ns.map V.int);unfold aN;exact⟨_,_,rfl,by unfold RD;rfl,vh ns⟩
theorem walk {l : PySem.W.OpenLaw} {q : Program} {loose : List Str} {XP : (Str -> Option Value) -> Heap -> Prop} {YP : World -> Heap -> Prop} {d : DefRec} {K : Params -> PySem.W.Frag} (Vs : ∀ ns : List Int, ns.length <= 63 -> ∃ M, Qo [.ls (ns.map D.int)] [] = .ok (.d (.bl true)) M) (hn : l.most = some 63) (Oj : d.params.defaults = [])
    (hY:∀(w:World)(h:Heap),YP w h->(K w.params).In h)
    (F:∀(w:World)(mg:Str->Option Value)(fa:Addr)(h:Heap),(K w.params).In h->h.Ns mainGlobals mg->mg d.name=some (.ref fa) ->
      ∃fd:FuncData,(∀(s:Shared)(u:Value),BindsTo s fd ⟨[u],[]⟩ [("_law_script",u)])/\∀base:Heap,(K w.params).In base->base.Ns mainGlobals mg->f_ l.prog w (K w.params) mg base (Ay l.prog w) 39 fa fd ["_law_script"] (Bp (K w.params) 1 Qo)) :
    PySem.W.WalkO q loose XP YP l.row.toRowW d [] (λf vs=>PySem.call f vs) :=
  L2.F6 (n:=63) (k:=39) (x := "_law_script") (CX:=λw=>Ay l.prog w) (sp:=λw=>Bp (K w.params) 1 Qo) hn (by decide) Oj ⟨rfl,by decide,by decide,rfl⟩ hY F (λw H a ns hl hO hS=>by
    obtain⟨M,hM⟩:=Vs ns hl;refine⟨[],[],[.ls (ns.map D.int)],⟨λi j a e _=>by simp at e,rfl,λn o a e _=>by simp at e⟩,.one ?_,rfl,?_⟩
    · unfold RD;exact⟨a,_,rfl,MU hO hS,vh ns⟩
    · rw[hM];intro v H' aw _ _ r;have r:RD (K w.params) aw H' (.bl true) v:=r;unfold RD at r;exact r) λ_ _ _ _ _ ⟨_,_,_,_,_,_,_,_,_,_,_,_,_,z⟩=>z
def vw:Program:={PySem.Challenge.pw_cutstand_k03_what_is_a_stand with main:={PySem.Challenge.pw_cutstand_k03_what_is_a_stand.main with body:=[dg 1,dg 2,dg 3,dg 4,dg 5,dg 6,dg 7,dg 9,dg 10,dg 11,dg 12,dg 13,dg 14,dg 15,dg 17,dg 18,dg 19,dg 20,dg 21,dg 22,dg 23,dg 24,dg 25,dg 26,dg 27,dg 28,dg 29,dg 30,dg 31,dg 32,dg 33,dg 34]}}
def hk:PySem.W.Hook:=PySem.W.kHook Kf ads (λ_=>nofun)
theorem lft:PySem.W.LeftO PySem.Challenge.pw_cutstand_k03_what_is_a_stand vw [] (λs=>PySem.W.xlAt vw [] s&&PySem.W.recOk [] s) (PySem.W.Hook.obs hk) (PySem.W.Hook.val hk) 2050:=by
 intro w
 kernel_rfl
theorem MV:PySem.W.OpenLaw.wellSaid PySem.Challenge.rw_cutstand_k03_what_is_a_stand=true:=nofun
end bV
end
end
open PySem PySem.W PyProof.Rows
set_option maxRecDepth 100000 in
set_option maxHeartbeats 0 in
theorem PySem.Challenge.cw_cutstand_k03_what_is_a_stand_holds : PySem.Challenge.rw_cutstand_k03_what_is_a_stand.Holds := by
 refine holds_law bV.MV λMV=>?_;refine holds_open (q:=bV.vw) (loose:=[]) (Xt:=λs=>xlAt bV.vw [] s&&recOk [] s) (XP:=XL bV.vw []) (Yf:=Hook.obs bV.hk) (Ya:=Hook.val bV.hk) (YP:=Hook.says bV.hk) (N:=2050) bV.lft (Hook.of bV.hk) (Hook.keeps bV.hk) (λs e=>xl_of s (Bool.and_eq_true_iff.mp e).1) XL.keeps (by rfl) (by rfl) (by rfl) (λs e=>recFacts_of (Bool.and_eq_true_iff.mp e).2) (by rfl) MV ⋯ ⟨rfl,rfl,rfl,rfl,rfl,⋯⟩ ?hw ?hc
 case hw=>w_witness2
 case hc=>exact bV.walk (l:=PySem.Challenge.rw_cutstand_k03_what_is_a_stand) (K:=bV.Kf) bV.EL rfl rfl (λw h Y=>kIn_of Y) λw mg fa h KX G Ol=>bV.all_mk KX G Ol
#print axioms PySem.Challenge.cw_cutstand_k03_what_is_a_stand_holds
