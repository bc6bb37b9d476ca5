import PyProof.Rows.All
import Wide.All
import OpenK.AllK
import Wide.FinOn
import Lean
import PyProof.EqAt
import PyProof.EqKinds
import PyProof.TupleCall
import PyProof.ZipIter
import PyProof.ListRange
import PyProof.TupleOfSeq
import PyProof.Rows.CallKwBuiltin
import PyProof.Rows.Range3
import KE.KFind
import PyProof.IsRules
import PyProof.DictIter
import PyProof.DictWalks
import PyProof.DictTruth
import PyProof.MeetsSeq
import PySem.Challenge.RW_cutstand_k09_events_and_letters
set_option Elab.async false
set_option linter.all false
set_option maxRecDepth 100000
set_option maxHeartbeats 4000000
local macro_rules
  | `(⋯) => `(by decide +kernel)
  | `(nofun) => `(by kernel_rfl)
  | `(tactic| omega) => `(tactic| first | with_reducible assumption | decide +kernel | omega (config := {}))
abbrev dh:=@List.getElem?_eq_some_iff
abbrev eD:=@List.getElem?_eq_getElem
abbrev fY:=@PySem.Heap.get?_push_of_some
abbrev bO:=@Bool.false_ne_true
abbrev aP:=@List.length_map
abbrev bH:=@Bool.and_eq_true
abbrev ba:=@Nat.le_refl
abbrev qt:=@List.getD_eq_getElem?_getD
abbrev ix:=@List.mem_cons_of_mem
abbrev jL:=@List.mem_of_getElem?
abbrev dy:=@List.getElem?_map
abbrev e_:=@Option.some.inj
abbrev y6:=@Int.le_refl
abbrev k_:=@PySem.Heap.get?_push_size
abbrev la:=@List.mem_map
abbrev jM:=@List.length_append
abbrev gi:=@List.size_toArray
abbrev je:=@List.mem_append
abbrev qu:=@List.map_append
abbrev uq:=@List.getElem?_append_left
section
namespace L2
open PySem PySem.Spec PyProof.Rows
abbrev Key:=Sum Int Str
def fk:Key->Value->Bool
 | .inl k,v=>Value.isInt k v
 | .inr x,v=>Value.isStrOf x v
def LS (w:World):Key->Int
 | .inl k=>hashInt k
 | .inr x=>hashStr w x
theorem bz:∀ {k:Key} {v:Value},fk k v=true->(∃ i t,k=Sum.inl i/\v=Value.int i t)\/(∃ x t,k=Sum.inr x/\v=Value.str x t)
 | .inl i,v,h=>by
  obtain ⟨t,e⟩:=Value.isInt_shape (k:=i) (v:=v) h
  exact .inl ⟨i,t,rfl,e⟩
 | .inr x,v,h=>by
  obtain ⟨t,e⟩:=Value.isStrOf_shape (x:=x) (v:=v) h
  exact .inr ⟨x,t,rfl,e⟩
theorem lb (i:Int) (t:Tok):fk (.inl i) (.int i t)=true:=by simp [fk,Value.isInt]
theorem lg (x:Str) (t:Tok):fk (.inr x) (.str x t)=true:=by simp [fk,Value.isStrOf]
theorem vK (a b:Int):decide ((Sum.inl a:Key)=Sum.inl b)=(a == b):=by
 by_cases e:a=b
 ·subst e;simp
 ·have h:¬ (Sum.inl a:Key)=Sum.inl b:=fun q=>e (Sum.inl.inj q)
  rw [decide_eq_false h]
  exact (beq_eq_false_iff_ne.mpr e).symm
theorem CU (a b:Str):decide ((Sum.inr a:Key)=Sum.inr b)=decide (a=b):=by
 by_cases e:a=b
 ·subst e;simp
 ·have h:¬ (Sum.inr a:Key)=Sum.inr b:=fun q=>e (Sum.inr.inj q)
  rw [decide_eq_false h,decide_eq_false e]
theorem CV (a:Int) (b:Str):decide ((Sum.inl a:Key)=Sum.inr b)=false:=decide_eq_false (fun q=>nomatch q)
theorem CW (a:Str) (b:Int):decide ((Sum.inr a:Key)=Sum.inl b)=false:=decide_eq_false (fun q=>nomatch q)
def aN (prog:Program) (w:World):PySem.KeyKind prog w Key where
 is:=fk
 hash:=LS w
 inj:=fun v a b ha hb=>by
  rcases bz ha with ⟨i,t,rfl,rfl⟩|⟨x,t,rfl,rfl⟩
  ·rcases bz hb with ⟨j,u,rfl,e⟩|⟨y,u,rfl,e⟩
   ·injection e with e1 _;rw [e1]
   ·exact nomatch e
  ·rcases bz hb with ⟨j,u,rfl,e⟩|⟨y,u,rfl,e⟩
   ·exact nomatch e
   ·injection e with e1 _;rw [e1]
 byValue:=fun k v h=>by
  rcases bz h with ⟨i,t,rfl,rfl⟩|⟨x,t,rfl,rfl⟩ <;> rfl
 pyHash:=fun hv h=>by
  rcases bz hv with ⟨i,t,rfl,rfl⟩|⟨x,t,rfl,rfl⟩
  ·exact wpAny_pyHash_int h
  ·exact wpAny_pyHash_str h
 eqBool:=fun hu hv h=>by
  rcases bz hu with ⟨i,t,rfl,rfl⟩|⟨x,t,rfl,rfl⟩
  ·rcases bz hv with ⟨j,u,rfl,rfl⟩|⟨y,u,rfl,rfl⟩
   ·rw [vK] at h;exact wpAny_eqBool_int h
   ·rw [CV] at h;exact SeqAt.EqAt.int_str i t y u _ _ _ _ h
  ·rcases bz hv with ⟨j,u,rfl,rfl⟩|⟨y,u,rfl,rfl⟩
   ·rw [CW] at h;exact SeqAt.EqAt.str_int x t j u _ _ _ _ h
   ·rw [CU] at h;exact wpAny_eqBool_str h
 «strs»:=fun k x t v h=>by
  rcases bz h with ⟨i,u,rfl,e⟩|⟨y,u,rfl,e⟩
  ·exact nomatch e
  ·injection e with e1 _
   subst e1
   cases v <;> rfl
theorem oo (prog:Program) (w:World) (i:Int) (t:Tok):(aN prog w).is (.inl i) (.int i t)=true:=lb i t
theorem oq (prog:Program) (w:World) (x:Str) (t:Tok):(aN prog w).is (.inr x) (.str x t)=true:=lg x t
inductive V where
 | az | bl (b:Bool) | int (i:Int) | str (x:Str) | GF (b:Array UInt8) | F4 (b:UInt64) | ref (a:Addr) | ty (n:String)
 deriving DecidableEq
def RelV:V->Value->Prop
 | .az,u=>u=Value.none
 | .bl b,u=>u=Value.bool b
 | .int i,u=>∃ t,u=Value.int i t
 | .str x,u=>∃ t,u=Value.str x t
 | .GF b,u=>∃ t,u=Value.bytes b t
 | .F4 b,u=>∃ t,u=Value.float b t
 | .ref a,u=>u=Value.ref a
 | .ty n,u=>u=Value.type n
abbrev Vals:List V->List Value->Prop:=Paired RelV
theorem Vals.length {xs:List V} {us:List Value} (r:Vals xs us):xs.length=us.length:=Paired.length r
theorem Vals.get:∀ {xs:List V} {us:List Value} {i:Nat} {x:V},Vals xs us->xs[i]?=some x->∃ u,us[i]?=some u/\RelV x u
 | _,_,_,_,.nil,e=>by simp at e
 | _,_,0,_,.cons r _,e=>by simp at e;subst e;exact ⟨_,rfl,r⟩
 | _,_,i+1,x,.cons _ t,e=>by
  obtain ⟨u,h1,h2⟩:=Vals.get (i:=i) (x:=x) t (by simpa using e)
  exact ⟨u,by simpa using h1,h2⟩
theorem Vals.set {x:V} {u:Value} (r:RelV x u):∀ {xs:List V} {us:List Value} (i:Nat),Vals xs us->Vals (xs.set i x) (us.set i u)
 | _,_,_,.nil=>.nil
 | _,_,0,.cons _ t=>.cons r t
 | _,_,i+1,.cons q t=>.cons q (Vals.set r i t)
theorem Vals.append:∀ {xs ys:List V} {us ws:List Value},Vals xs us->Vals ys ws->Vals (xs++ys) (us++ws)
 | _,_,_,_,.nil,s=>s
 | _,_,_,_,.cons r t,s=>.cons r (Vals.append t s)
theorem Vals.take:∀ {xs:List V} {us:List Value} (n:Nat),Vals xs us->Vals (xs.take n) (us.take n)
 | _,_,0,_=>.nil
 | _,_,_+1,.nil=>.nil
 | _,_,n+1,.cons r t=>.cons r (Vals.take n t)
theorem Vals.drop:∀ {xs:List V} {us:List Value} (n:Nat),Vals xs us->Vals (xs.drop n) (us.drop n)
 | _,_,0,r=>r
 | _,_,_+1,.nil=>.nil
 | _,_,n+1,.cons _ t=>Vals.drop n t
def gB:Option V->Option Value->Prop
 | some v,some u=>RelV v u
 | none,none=>True
 | _,_=>False
def KV {κ:Type}:List (κ×V)->List (κ×Value)->Prop:=Paired fun (p:κ×V) (q:κ×Value)=>p.1=q.1/\RelV p.2 q.2
def kV:Key->V
 | .inl i=>.int i
 | .inr x=>.str x
inductive HO where
 | lst (xs:List V)
 | tup (xs:List V)
 | dK (aa:List (Key×V)) | dT (aa:List (List Key×V))
 | set (S:Int->Bool) (n:Nat)
 | ins (C dx:Addr) (fs:List (Str×V))
 | own (x:Addr)
 | xd (fs:List (Str×V))
 | met (f x:Addr)
 | jf (lo hi:Int)
 | dc (o:Obj) (u:HO)
 | CY (ps:Array Value)
 | ext (φ:Heap->Prop)
abbrev Hp:=Addr->Option HO
def upd (H:Hp) (a:Addr) (o:HO):Hp:=fun b=>if b=a then some o else H b
theorem aJ {H:Hp} {a:Addr} {o:HO}:upd H a o a=some o:=by unfold upd;rw [if_pos rfl]
theorem aj {H:Hp} {a b:Addr} {o:HO} (h:b≠a):upd H a o b=H b:=by unfold upd;rw [if_neg h]
theorem GG {H:Hp} {a b:Addr} {o u:HO} (h:H a=some o) (h':H b=some u) (d:o≠u):a≠b:=by
 intro e;subst e;rw [h] at h';exact d (e_ h')
theorem dO {H:Hp} {a b:Addr} {o:HO} (h:H a=some o) (h':H b=none):a≠b:=by
 intro e;subst e;rw [h] at h';cases h'
section
variable (P:Program) (w:World)
def aY (H:Hp) (h:Heap) (a:Addr):HO->Prop
  | .lst xs=>xs.length<=sizeLine/\∃ (aq:List Value) (n:Nat),Vals xs aq/\h.get? a=some { cls:=.type "list",data:=.seq aq.toArray n }
  | .tup xs=>xs.length<=sizeLine/\∃ aq:List Value,Vals xs aq/\IsTup h a aq.toArray
  | .dK aa=>aa.length<=sizeLine/\(a == sysModules)=false/\∃ vs,KV aa vs/\h.DictOf (aN P w) a vs
  | .dT aa => aa.length <= sizeLine /\ (a == sysModules) = false /\ ∃ xs : List (List Key × Addr × Value),
      Paired (fun (p:List Key×V) (q:List Key×Addr×Value)=>p.1=q.1/\H q.2.1=some (.tup (p.1.map kV))/\RelV p.2 q.2.2) aa xs /\
      ∃ o es ep,h.get? a=some o/\o.ExactDict/\o.data=.dict es ep/\es.toList=xs.map (entryOfKey (tupleKind (aN P w)))/\(xs.map (·.1)).Nodup
  | .set S n=>h.SetOf (intKind P w) a S n
  | .ins C dx fs => H dx = some (.own a) /\ fs.length <= 1000 /\ dx ≠ a /\ h.get? a = some (PySem.W.instObj C dx) /\
      ∃ mA,h.Ns1 dx mA/\(∀ f,gB (fs.lookup f) (mA f))/\PySem.Within mA (fs.map (·.1))
  | .own _=>∃ o,h.get? a=some o
  | .xd fs=>∃ mA,h.Ns1 a mA/\∀ f,gB (fs.lookup f) (mA f)
  | .jf lo hi=>∃ t u v,h.get? a=some { cls:=.type "range",data:=.fields #[.int lo t,.int hi u,.int 1 v] }
  | .dc o u=>h.get? a=some o/\aY H h a u
  | .CY ps=>h.get? a=some { cls:=.none,data:=.fields ps }
  | .met f x=>h.get? a=some (PySem.W.methodObj (.ref f) (.ref x))
  | .ext φ=>φ h/\(∃ o,h.get? a=some o)/\∀ h1 h2:Heap,φ h1->(∀ o,h1.get? a=some o->h2.get? a=some o)->φ h2
def gC (H:Hp) (h:Heap):Prop:=∀ a o,H a=some o->aY P w H h a o
end
section
variable {P:Program} {w:World} {H H':Hp} {h h':Heap} {a:Addr} {o:HO}
theorem aY.lt (x:aY P w H h a o):a < h.objs.size:=by
 cases o with
 | lst xs=>obtain ⟨_,_,_,_,e⟩:=x;exact Heap.lt_size e
 | tup xs=>obtain ⟨_,_,_,p⟩:=x;exact p.lt
 | dK aa=>obtain ⟨_,_,_,_,o,_,_,e,_⟩:=x;exact Heap.lt_size e
 | dT aa=>obtain ⟨_,_,_,_,o,_,_,e,_⟩:=x;exact Heap.lt_size e
 | set S n=>obtain ⟨o,_,_,_,e,_⟩:=x;exact Heap.lt_size e
 | ins C dx fs=>obtain ⟨_,_,_,e,_⟩:=x;exact Heap.lt_size e
 | own y=>obtain ⟨_,e⟩:=x;exact Heap.lt_size e
 | xd fs=>obtain ⟨_,⟨_,_,_,e,_⟩,_⟩:=x;exact Heap.lt_size e
 | jf lo hi=>obtain ⟨_,_,_,e⟩:=x;exact Heap.lt_size e
 | dc ob u=>obtain ⟨e,_⟩:=x;exact Heap.lt_size e
 | CY ps=>exact Heap.lt_size (show h.get? a=some _ from x)
 | met f y=>exact Heap.lt_size (show h.get? a=some _ from x)
 | ext φ=>obtain ⟨_,⟨_,e⟩,_⟩:=x;exact Heap.lt_size e
theorem Paired.CZ {α β:Type} {F G:α->β->Prop}:∀ {GH:List α} {l₂:List β},Paired F GH l₂->(∀ a b,F a b->G a b)->Paired G GH l₂
 | _,_,.nil,_=>.nil
 | _,_,.cons r t,f=>.cons (f _ _ r) (Paired.CZ t f)
theorem aY.ur (x : aY P w H h a o) (k : ∀ b u, (b = a \/ H b = some (.own a)) -> h.get? b = some u -> h'.get? b = some u)
    (ho:∀ b,H b=some (.own a)->H' b=some (.own a)) (ht:∀ b xs,H b=some (.tup xs)->H' b=some (.tup xs)):aY P w H' h' a o:=by
  induction o with
  | lst xs=>obtain ⟨z,aq,n,r,e⟩:=x;exact ⟨z,aq,n,r,k _ _ (.inl rfl) e⟩
  | tup xs=>obtain ⟨z,aq,r,ob,e,c⟩:=x;exact ⟨z,aq,r,ob,k _ _ (.inl rfl) e,c⟩
  | dK aa=>obtain ⟨z,y,vs,r,ob,es,ep,e,c⟩:=x;exact ⟨z,y,vs,r,ob,es,ep,k _ _ (.inl rfl) e,c⟩
  | dT aa =>
    obtain ⟨z,y,xs,r,ob,es,ep,e,c⟩:=x
    exact ⟨z,y,xs,Paired.CZ r fun p q z=>⟨z.1,ht _ _ z.2.1,z.2.2⟩,ob,es,ep,k _ _ (.inl rfl) e,c⟩
  | set S n=>obtain ⟨ob,es,ep,t,e,c⟩:=x;exact ⟨ob,es,ep,t,k _ _ (.inl rfl) e,c⟩
  | ins C dx fs =>
    obtain ⟨d,z,ne,e,mA,⟨od,es,ep,e2,c⟩,r⟩:=x
    exact ⟨ho _ d,z,ne,k _ _ (.inl rfl) e,mA,⟨od,es,ep,k _ _ (.inr d) e2,c⟩,r⟩
  | own y=>obtain ⟨ob,e⟩:=x;exact ⟨ob,k _ _ (.inl rfl) e⟩
  | xd fs=>obtain ⟨mA,⟨od,es,ep,e,c⟩,r⟩:=x;exact ⟨mA,⟨od,es,ep,k _ _ (.inl rfl) e,c⟩,r⟩
  | jf lo hi=>obtain ⟨t,u,v,e⟩:=x;exact ⟨t,u,v,k _ _ (.inl rfl) e⟩
  | dc ob u ih=>obtain ⟨e,q⟩:=x;exact ⟨k _ _ (.inl rfl) e,ih q⟩
  | CY ps =>
    have e:h.get? a=some { cls:=.none,data:=.fields ps }:=x
    show h'.get? a=some { cls:=.none,data:=.fields ps }
    exact k a _ (.inl rfl) e
  | met f y =>
    have e:h.get? a=some (PySem.W.methodObj (.ref f) (.ref y)):=x
    show h'.get? a=some (PySem.W.methodObj (.ref f) (.ref y))
    exact k a _ (.inl rfl) e
  | ext φ=>obtain ⟨p,⟨o,e⟩,st⟩:=x;exact ⟨st _ _ p fun o q=>k _ _ (.inl rfl) q,⟨o,k _ _ (.inl rfl) e⟩,st⟩
theorem gC.lt (x:gC P w H h) (e:H a=some o):a < h.objs.size:=(x a o e).lt
theorem gC.fresh (x:gC P w H h) (e:h.objs.size<=a):H a=none:=by
 cases q:H a with
 | none=>rfl
 | some u=>exact absurd (Nat.lt_of_lt_of_le (x.lt q) e) (Nat.lt_irrefl _)
theorem gC.kept (x:gC P w H h) (k:∀ b u,h.get? b=some u->h'.get? b=some u):gC P w H h':=fun a o e =>
 (x a o e).ur (fun b u _ q=>k b u q) (fun _ q=>q) fun _ _ q=>q
theorem gC.laid (x:gC P w H h) (k:∀ b u,h.get? b=some u->h'.get? b=some u) (hp:h.objs.size<=a) (new:aY P w (upd H a o) h' a o):gC P w (upd H a o) h':=fun b u e=>by
 have hn:=x.fresh hp
 by_cases hb:b=a
 ·subst hb;rw [aJ] at e;cases e;exact new
 ·rw [aj hb] at e
  exact (x b u e).ur (fun c v _ q=>k c v q) (fun c q=>by rw [aj (dO q hn)];exact q) fun c xs q=>by rw [aj (dO q hn)];exact q
end
def Rd (H:Hp) (a:Addr) (u:HO):Prop:=H a=some u\/∃ o,H a=some (.dc o u)
theorem Rd.ok {P:Program} {w:World} {H:Hp} {h:Heap} {a:Addr} {u:HO} (r:Rd H a u) (x:gC P w H h):aY P w H h a u:=by
 rcases r with r | ⟨o,r⟩
 ·exact x a u r
 ·obtain ⟨_,q⟩:=x a _ r
  exact q
def GI:Option HO->Prop
 | some (.lst _)=>True
 | some (.dK _)=>True
 | some (.dT _)=>True
 | some (.set _ _)=>True
 | some (.ins _ _ _)=>True
 | some (.ext _)=>True
 | _=>False
section
variable {P:Program} {w:World} {H:Hp} {h h':Heap} {x e:Addr} {o':HO}
theorem gC.write (ok : gC P w H h) (mu : GI (H x)) (he : e = x \/ H e = some (.own x)) (k : ∀ b u, b ≠ e -> h.get? b = some u -> h'.get? b = some u) (F5 : ∃ u, h'.get? e = some u)
    (new:aY P w (upd H x o') h' x o'):gC P w (upd H x o') h':=fun b u q=>by
  have GJ:∀ c y,H c=some (.own y)->c≠x:=fun c y r z=>by subst z;rw [r] at mu;exact mu
  have LU:∀ c xs,H c=some (.tup xs)->c≠x:=fun c xs r z=>by subst z;rw [r] at mu;exact mu
  by_cases hb:b=x
  · subst hb;rw [aJ] at q;cases q;exact new
  · rw [aj hb] at q
    by_cases C0:b=e
    · have q' : H b = some (.own x) := by
        rcases he with z | z
        · exact absurd (C0.trans z) hb
        · rw [C0];exact z
      rw [q] at q';cases q'
      obtain ⟨v,hv⟩:=F5
      exact ⟨v,by rw [C0];exact hv⟩
    · refine (ok b u q).ur (fun c v hc r=>k c v ?_ r) (fun c r=>by rw [aj (GJ c b r)];exact r) fun c xs r=>by rw [aj (LU c xs r)];exact r
      rcases hc with rfl | hc
      · exact C0
      · rintro rfl
        rcases he with z | z
        · exact GJ c b hc z
        · rw [hc] at z;cases z;exact hb rfl
end
structure Un (fs ex:List Addr) (H H':Hp) (h h':Heap):Prop where
 keep:∀ b o,h.get? b=some o->H b=none->b∉fs->b∉ex->h'.get? b=some o
 slot:∀ b o,h.get? b=some o->H b=none->b∈fs->b∉ex->∃ sl,h'.get? b=some { o with slots:=sl }
 free:∀ b o,h.get? b=some o->H b=none->b∉ex->H' b=none
 there:∀ b o,h.get? b=some o->b∉ex->∃ o',h'.get? b=some o'
 fg:∀ b xs,H b=some (.tup xs)->H' b=some (.tup xs)
 l5:∀ b o u,H b=some (.dc o u)->H' b=some (.dc o u)
 ou:∀ b ps,H b=some (.CY ps)->∃ more,H' b=some (.CY (ps++more))
section
variable {fs Q0 ex Vy:List Addr} {H H1 H2:Hp} {h h1 h2 h':Heap} {a x e:Addr} {o:HO}
theorem Un.any (u:Un fs ex H H1 h h1) {b:Addr} {ob:Obj} (q:h.get? b=some ob) (n:H b=none) (hx:b∉ex):∃ sl,h1.get? b=some { ob with slots:=sl }:=by
 by_cases hb:b∈fs
 ·exact u.slot b ob q n hb hx
 ·exact ⟨ob.slots,u.keep b ob q n hb hx⟩
theorem Un.kept (k:∀ b u,h.get? b=some u->h'.get? b=some u):Un fs ex H H h h' :=
 ⟨fun b ob q _ _ _=>k b ob q,fun b ob q _ _ _=>⟨ob.slots,k b ob q⟩,fun _ _ _ n _=>n,fun b ob q _=>⟨ob,k b ob q⟩,fun _ _ q=>q,fun _ _ _ q=>q,fun _ ps q=>⟨#[],by rw [q];simp⟩⟩
theorem Un.refl:Un fs ex H H h h:=Un.kept fun _ _ q=>q
theorem Un.laid (k:∀ b u,h.get? b=some u->h'.get? b=some u) (hp:h.objs.size<=a) (hn:H a=none):Un fs ex H (upd H a o) h h' where
 keep:=fun b u q _ _ _=>k b u q
 slot:=fun b u q _ _ _=>⟨u.slots,k b u q⟩
 free:=fun b u q n _=>by rw [aj (Nat.ne_of_lt (Nat.lt_of_lt_of_le (Heap.lt_size q) hp))];exact n
 there:=fun b u q _=>⟨u,k b u q⟩
 fg:=fun b xs q=>by rw [aj (dO q hn)];exact q
 l5:=fun b u xs q=>by rw [aj (dO q hn)];exact q
 ou:=fun b ps q=>⟨#[],by rw [aj (dO q hn),q];simp⟩
theorem Un.write (mu:GI (H x)) (he:e=x\/H e=some (.own x)) (k:∀ b u,b≠e->h.get? b=some u->h'.get? b=some u) (F5:∃ u,h'.get? e=some u):Un fs ex H (upd H x o) h h':=by
 have hx:∀ b,H b=none->b≠x:=fun b n z=>by subst z;rw [n] at mu;exact mu
 have hb:∀ b,H b=none->b≠e:=fun b n z=>by
  subst z
  rcases he with r | r
  ·exact hx b n r
  ·rw [n] at r;cases r
 have hm:∀ b u,H b=some u->¬ GI (some u)->b≠x:=fun b u q nm z=>by subst z;rw [q] at mu;exact nm mu
 refine ⟨fun b u q n _ _=>k b u (hb b n) q,fun b u q n _ _=>⟨u.slots,k b u (hb b n) q⟩,fun b u q n _=>by rw [aj (hx b n)];exact n,fun b u q _=>?_,
  fun b xs q=>by rw [aj (hm b _ q fun z=>z)];exact q,fun b u xs q=>by rw [aj (hm b _ q fun z=>z)];exact q,fun b ps q=>⟨#[],by rw [aj (hm b _ q fun z=>z),q];simp⟩⟩
 by_cases C0:b=e
 ·subst C0;exact F5
 ·exact ⟨u,k b u C0 q⟩
end
def Ki (h:Heap) (H:Hp):List Addr:=(List.range h.objs.size).filter fun a=>(H a).isSome
def l7 (h:Heap) (H:Hp):Heap:=PySem.W.hideAll h (Ki h H)
theorem uu (h:Heap) (H:Hp):(l7 h H).objs.size=h.objs.size:=PySem.W.hideAll_size _ _
theorem vL {h:Heap} {H:Hp} {b:Addr} {o:Obj} (e:h.get? b=some o) (n:H b=none):(l7 h H).get? b=some o :=
 PySem.W.hideAll_get _ e fun hm=>by
  have q:(H b).isSome=true:=(List.mem_filter.mp hm).2
  rw [n] at q;simp at q
theorem zo {h:Heap} {H:Hp} {b:Addr} {o:Obj} (e:(l7 h H).get? b=some o):h.get? b=some o/\H b=none:=by
 have e':h.get? b=some o:=PySem.W.of_hideAll (Ki h H) e
 refine ⟨e',?_⟩
 cases q:H b with
 | none=>rfl
 | some x =>
  have hm:b∈Ki h H:=List.mem_filter.mpr ⟨List.mem_range.mpr (Heap.lt_size e'),by simp [q]⟩
  have z:(l7 h H).get? b=none:=PySem.W.hideAll_none (Ki h H) hm
  rw [z] at e;cases e
def zp (g h:Heap) (L:Addr):List (Addr×Obj):=(List.range h.objs.size).filterMap fun a=>if a=L\/(g.get? a).isSome=true then none else (h.get? a).map fun o=>(a,o)
def rest (g h:Heap) (L d:Addr):List (Addr×Obj):=(zp g h L).filter fun p=>decide (p.1≠d)
structure Mod (K:PySem.W.Frag) (mg:Str->Option Value) (base:Heap):Prop where
 LV:K.In base
 glob:base.Ns mainGlobals mg
 blt:∃ mb,base.Ns builtinsNs mb/\∀ x:Str,x ≠ "__name__" -> mb x=bootBuiltins x
 nolimit:base.NoLimit
structure Cx where
 prog:Program
 w:World
 K:PySem.W.Frag
 mg:Str->Option Value
 base:Heap
 A:Around
 N:List Str
 dz:Shared
 l9:Hp
 env:Env
 outer:List Env
 stack:List Env
 ex:List Addr
 fn:Str->Bool
 calm:Bool
 pn:List (Addr×Obj)
 xe:Value->Shared->Prop
def vM (l:List Env):List Addr:=l.filterMap (·.frame)
abbrev Cx.fs (X:Cx):List Addr:=vM X.outer
def LW (sc:Scope) (x:Str):Prop:=sc.names.lookup x=some .local\/sc.names.lookup x=some .cell\/sc.names.lookup x=some .free
def Loc (sc:Scope) (x:Str):Prop:=sc.names.lookup x=some .local\/sc.names.lookup x=some .cell
def Look (env:Env) (h:Heap) (m:Str->Option Value) (x:Str) (u:Value):Prop :=
 (env.kindOf x=some .local/\m x=some u)\/((env.kindOf x=some .cell\/env.kindOf x=some .free)/\∃ c,env.cells.lookup x=some c/\h.IsCell c (some u))
structure Cx.Ok (X:Cx):Prop where
 mod:Mod X.K X.mg X.base
 kind:X.env.scope.kind=.function
 glob:X.env.globals=mainGlobals
 blt:X.env.builtins=builtinsNs
 above:X.dz.heap.objs.size<=X.env.locals
 inj:∀ x y c,X.env.cells.lookup x=some c->X.env.cells.lookup y=some c->x=y
 has:∀ x,(X.env.kindOf x=some .cell\/X.env.kindOf x=some .free)->∃ c,X.env.cells.lookup x=some c
 C1:∀ x c,X.fn x=true->X.env.cells.lookup x=some c->X.dz.heap.objs.size<=c
 hd:X.calm=true->X.A.handled=none
 frames:X.A.frames=some X.stack
 Kj:X.stack=X.outer\/(X.stack=X.env::X.outer/\X.env.frame=some X.env.locals)
 LX:∀ b∈X.ex,b≠X.env.locals/\∀ x c,X.env.cells.lookup x=some c->c≠b
 bs:∀ b o,X.base.get? b=some o->X.dz.heap.get? b=some o/\X.l9 b=none
 BV:X.base.objs.size<=X.dz.heap.objs.size
 vN:∀ b o,X.base.get? b=some o->b∉X.ex
 vO:∀ b∈X.ex,b∉X.fs
 jN:X.dz.heap.FunFrames X.base X.outer
 F6:∀ b∈X.fs,X.l9 b=none
structure Inv (X:Cx) (pins:List (Addr×Obj)) (σ:List (Option V)) (H:Hp) (s:Shared):Prop where
 ok:X.Ok
 os:s.os=X.dz.os
 bare:AllBare s.gens
 base:Un X.fs X.ex X.l9 H X.dz.heap s.heap
 loc:∃ m,s.heap.Ns X.env.locals m/\∀ (i:Nat) (x:Str) (v:V),X.N[i]?=some x->σ[i]?=some (some v)->LW X.env.scope x->∃ u,RelV v u/\Look X.env s.heap m x u
 cell:∀ x c,X.env.cells.lookup x=some c->∃ v,s.heap.IsCell c v
 free:H X.env.locals=none
 gj:∀ x c,X.env.cells.lookup x=some c->H c=none
 pin:∀ p∈X.pn++pins,s.heap.get? p.1=some p.2/\H p.1=none/\p.1≠X.env.locals/\p.1∉X.fs/\∀ v,p.2.data≠.cell v
 aV:gC X.prog X.w H s.heap
 len:σ.length=X.N.length
section
variable {X:Cx} {pins:List (Addr×Obj)} {σ:List (Option V)} {H H':Hp} {s:Shared} {h':Heap}
theorem Cx.Ok.LY (ok:X.Ok) {b:Addr} {o:Obj} (e:X.base.get? b=some o):b∉X.fs:=fun hb=>by
 have:=(ok.jN.mem hb).1
 rw [e] at this;cases this
theorem Inv.bs (I:Inv X pins σ H s):∀ b o,X.base.get? b=some o->s.heap.get? b=some o/\H b=none:=fun b o e =>
 ⟨I.base.keep b o (I.ok.bs b o e).1 (I.ok.bs b o e).2 (I.ok.LY e) (I.ok.vN b o e),I.base.free b o (I.ok.bs b o e).1 (I.ok.bs b o e).2 (I.ok.vN b o e)⟩
theorem Inv.bk (I:Inv X pins σ H s):∀ b o,X.base.get? b=some o->s.heap.get? b=some o:=fun b o e=>(I.bs b o e).1
theorem Inv.mod (I:Inv X pins σ H s):Mod X.K X.mg X.base:=I.ok.mod
theorem Inv.ow (I:Inv X pins σ H s):X.K.In s.heap:=I.ok.mod.LV.keeps I.bk
theorem Inv.lt (I:Inv X pins σ H s):X.env.locals < s.heap.objs.size:=let ⟨_,hn,_⟩:=I.loc;hn.lt
theorem Inv.sz (I:Inv X pins σ H s):X.dz.heap.objs.size<=s.heap.objs.size:=Nat.le_trans I.ok.above (Nat.le_of_lt I.lt)
theorem Inv.GK (I:Inv X pins σ H s) {a:Addr} (h:s.heap.objs.size<=a):a∉X.fs:=fun hb=>by
 obtain ⟨_,o,ho,_⟩:=I.ok.jN.mem hb
 exact absurd (Nat.lt_of_lt_of_le (Heap.lt_size ho) (Nat.le_trans I.sz h)) (Nat.lt_irrefl _)
theorem Inv.C2 (I:Inv X pins σ H s):∀ x c,X.env.cells.lookup x=some c->c≠X.env.locals:=fun x c e z=>by
 obtain ⟨v,o,ho,hd⟩:=I.cell x c e
 obtain ⟨m,⟨o',es,ep,sE,GL,_⟩,_⟩:=I.loc
 rw [z,sE] at ho;cases ho;rw [GL] at hd;cases hd
theorem Inv.jN (I:Inv X pins σ H s):s.heap.FunFrames X.base X.outer:=by
 have all:∀ (l:List Env),(∀ b∈vM l,b∈X.fs)->X.dz.heap.FunFrames X.base l->s.heap.FunFrames X.base l:=by
  intro l
  induction l with
  | nil=>intro _ _;trivial
  | cons env r ih =>
   intro hs hl
   obtain ⟨hk,⟨L,o,hf,hn,ho,hd⟩,hr⟩:=hl
   have hL:L∈X.fs:=hs L (by unfold vM;rw [List.filterMap_cons,hf];exact List.mem_cons_self)
   obtain ⟨sl,e⟩:=I.base.slot L o ho (I.ok.F6 L hL) hL fun z=>I.ok.vO L z hL
   exact ⟨hk,⟨L,_,hf,hn,e,hd⟩,ih (fun b hb=>hs b (by unfold vM;rw [List.filterMap_cons,hf];exact ix _ hb)) hr⟩
 exact all X.outer (fun _ hb=>hb) I.ok.jN
theorem Inv.stack (I:Inv X pins σ H s):s.heap.FunFrames X.base X.stack:=by
 rcases I.ok.Kj with e | ⟨e,hf⟩
 ·rw [e];exact I.jN
 ·rw [e]
  obtain ⟨m,hn,_⟩:=I.loc
  refine .cons (by rw [I.ok.kind];decide) hf hn ?_ I.jN
  exact Heap.get?_none_of_le (Nat.le_trans I.ok.BV I.ok.above)
theorem Inv.qC (I:Inv X pins σ H s):∀ b∈vM X.stack,b∈X.env.locals::X.fs:=fun b hb=>by
 rcases I.ok.Kj with e | ⟨e,hf⟩
 ·rw [e] at hb;exact ix _ hb
 ·rw [e] at hb
  unfold vM at hb
  rw [List.filterMap_cons,hf] at hb
  exact hb
theorem Inv.sF (I:Inv X pins σ H s):∀ b∈vM X.stack,H b=none:=fun b hb=>by
 rcases List.mem_cons.mp (I.qC b hb) with e | hb
 ·rw [e];exact I.free
 ·obtain ⟨_,o,ho,_⟩:=I.ok.jN.mem hb
  exact I.base.free b o ho (I.ok.F6 b hb) fun z=>I.ok.vO b z hb
theorem Inv.step {g' : Array GenState} {t' : Nat} {d' : Drawn} {ch : List Addr} (I : Inv X pins σ H s)
    (vB:∀ b∈ch,(b∈X.ex\/X.dz.heap.objs.size<=b)/\b≠X.env.locals/\(∀ x c,X.env.cells.lookup x=some c->c≠b)/\∀ p∈X.pn++pins,p.1≠b)
    (keep:∀ b o,b≠X.env.locals->b∉X.fs->b∉ch->s.heap.get? b=some o->H b=none->h'.get? b=some o)
    (slot:∀ b o,b≠X.env.locals->b∈X.fs->b∉ch->s.heap.get? b=some o->H b=none->∃ sl,h'.get? b=some { o with slots:=sl }) (free:∀ b o,b∉ch->s.heap.get? b=some o->H b=none->H' b=none)
    (there:∀ b o,b∉ch->s.heap.get? b=some o->∃ o',h'.get? b=some o')
    (fg:∀ b xs,H b=some (.tup xs)->H' b=some (.tup xs)) (l5:∀ b o u,H b=some (.dc o u)->H' b=some (.dc o u)) (ou:∀ b ps,H b=some (.CY ps)->∃ more,H' b=some (.CY (ps++more)))
    (ns:∀ m,s.heap.Ns X.env.locals m->h'.Ns X.env.locals m) (aV:gC X.prog X.w H' h') (hg:AllBare g') :
    Inv X pins σ H' { s with heap:=h',gens:=g',drawn:=d',toks:=t' }:=by
  have OK:∀ b o,X.dz.heap.get? b=some o->b≠X.env.locals:=fun b o e=>Nat.ne_of_lt (Nat.lt_of_lt_of_le (Heap.lt_size e) I.ok.above)
  have Kk:∀ b o,X.dz.heap.get? b=some o->b∉X.ex->b∉ch:=fun b o e hx hb=>by
    rcases (vB b hb).1 with z | z
    · exact hx z
    · exact absurd (Nat.lt_of_lt_of_le (Heap.lt_size e) z) (Nat.lt_irrefl _)
  have cellK:∀ x c,X.env.cells.lookup x=some c->∀ v,s.heap.IsCell c v->h'.IsCell c v:=fun x c e v ⟨o,ho,hd⟩=>by
    have GN:c∉ch:=fun z=>(vB c z).2.2.1 x c e rfl
    by_cases hc:c∈X.fs
    · obtain ⟨sl,q⟩:=slot c o (I.C2 x c e) hc GN ho (I.gj x c e)
      exact ⟨_,q,hd⟩
    · exact ⟨o,keep c o (I.C2 x c e) hc GN ho (I.gj x c e),hd⟩
  refine ⟨I.ok,I.os,hg,⟨fun b o e n hb hx=>?_,fun b o e n hb hx=>?_,fun b o e n hx=>?_,fun b o e hx=>?_,fun b xs e=>fg b xs (I.base.fg b xs e),fun b o xs e=>l5 b o xs (I.base.l5 b o xs e),fun b ps e=>?_⟩,?_,fun x c e=>?_,?_,fun x c e=>?_,fun p hp=>?_,aV,I.len⟩
  · exact keep b o (OK b o e) hb (Kk b o e hx) (I.base.keep b o e n hb hx) (I.base.free b o e n hx)
  · obtain ⟨sl,e1⟩:=I.base.slot b o e n hb hx
    obtain ⟨Q1,e2⟩:=slot b _ (OK b o e) hb (Kk b o e hx) e1 (I.base.free b o e n hx)
    exact ⟨Q1,e2⟩
  · obtain ⟨o',e1⟩:=I.base.there b o e hx
    exact free b o' (Kk b o e hx) e1 (I.base.free b o e n hx)
  · obtain ⟨o',e1⟩:=I.base.there b o e hx
    exact there b o' (Kk b o e hx) e1
  · obtain ⟨m1,e1⟩:=I.base.ou b ps e
    obtain ⟨m2,e2⟩:=ou b _ e1
    exact ⟨m1++m2,by rw [e2,Array.append_assoc]⟩
  · obtain ⟨m,hn,hl⟩:=I.loc
    refine ⟨m,ns m hn,fun i x v e1 e2 e3=>?_⟩
    obtain ⟨u,r,l⟩:=hl i x v e1 e2 e3
    refine ⟨u,r,?_⟩
    rcases l with l | ⟨k,c,e,z⟩
    · exact .inl l
    · exact .inr ⟨k,c,e,cellK x c e _ z⟩
  · obtain ⟨v,z⟩:=I.cell x c e
    exact ⟨v,cellK x c e v z⟩
  · obtain ⟨m,⟨o,_,_,ho,_⟩,_⟩:=I.loc
    exact free _ o (fun z=>(vB _ z).2.1 rfl) ho I.free
  · obtain ⟨v,o,ho,hd⟩:=I.cell x c e
    exact free c o (fun z=>(vB c z).2.2.1 x c e rfl) ho (I.gj x c e)
  · obtain ⟨e,n,ne,nf,d⟩:=I.pin p hp
    have GN:p.1∉ch:=fun z=>(vB p.1 z).2.2.2 p hp rfl
    exact ⟨keep p.1 p.2 ne nf GN e n,free p.1 p.2 GN e n,ne,nf,d⟩
theorem Inv.un {t':Nat} (I:Inv X pins σ H s) (u:Un X.fs [] H H' s.heap h') (aV:gC X.prog X.w H' h'):Inv X pins σ H' { s with heap:=h',toks:=t' }:=by
 obtain ⟨m,⟨o,es,ep,ho,r⟩,_⟩:=id I.loc
 obtain ⟨sl,hL⟩:=u.any ho I.free (by simp)
 exact I.step (g':=s.gens) (d':=s.drawn) (ch:=[]) (fun _ z=>nomatch z) (fun b o _ hb _ e n=>u.keep b o e n hb (by simp)) (fun b o _ hb _ e n=>u.slot b o e n hb (by simp)) (fun b o _ e n=>u.free b o e n (by simp)) (fun b o _ e=>u.there b o e (by simp)) u.fg u.l5 u.ou (fun m' hm=>by
  obtain ⟨o',LZ,L1,sE,r'⟩:=hm
  rw [ho] at sE;cases sE
  exact ⟨_,LZ,L1,hL,r'⟩) aV I.bare
theorem Inv.call {g' : Array GenState} {t' : Nat} {d' : Drawn} {ch : List Addr} (I : Inv X pins σ H s) (u : Un (vM X.stack) ch H H' s.heap h') (aV : gC X.prog X.w H' h') (hg : AllBare g')
    (vB:∀ b∈ch,(b∈X.ex\/X.dz.heap.objs.size<=b)/\b≠X.env.locals/\(∀ x c,X.env.cells.lookup x=some c->c≠b)/\∀ p∈X.pn++pins,p.1≠b) :
    Inv X pins σ H' { s with heap:=h',gens:=g',drawn:=d',toks:=t' }:=by
  obtain ⟨m,⟨o,es,ep,ho,r⟩,_⟩:=id I.loc
  obtain ⟨sl,hL⟩:=u.any ho I.free fun z=>(vB _ z).2.1 rfl
  exact I.step (ch:=ch) vB (fun b o hL hb hc e n=>u.keep b o e n (fun z=>(List.mem_cons.mp (I.qC b z)).elim hL hb) hc) (fun b o _ _ hc e n=>u.any e n hc) (fun b o hc e n=>u.free b o e n hc) (fun b o hc e=>u.there b o e hc) u.fg u.l5 u.ou (fun m' hm=>by
    obtain ⟨o',LZ,L1,sE,r'⟩:=hm
    rw [ho] at sE;cases sE
    exact ⟨_,LZ,L1,hL,r'⟩) aV hg
theorem Inv.turned {t' : Nat} {it : Addr} (I : Inv X pins σ H s) (k : ∀ b o, b ≠ it -> s.heap.get? b = some o -> h'.get? b = some o) (hn : H it = none) (hL : it ≠ X.env.locals)
    (h1:it∈X.ex\/X.dz.heap.objs.size<=it) (h2:∀ x c,X.env.cells.lookup x=some c->c≠it) (h3:∀ p∈X.pn++pins,p.1≠it):Inv X pins σ H { s with heap:=h',toks:=t' }:=by
  have GO:∀ b u,H b=some u->b≠it:=fun b u e z=>by rw [z,hn] at e;cases e
  refine I.step (g':=s.gens) (d':=s.drawn) (ch:=[it]) (fun b hb=>?_) (fun b o _ _ hc e _=>k b o (fun z=>hc (by simp [z])) e) (fun b o _ _ hc e _=>⟨o.slots,k b o (fun z=>hc (by simp [z])) e⟩) (fun _ _ _ _ n=>n)
    (fun b o hc e=>⟨o,k b o (fun z=>hc (by simp [z])) e⟩) (fun _ _ e=>e) (fun _ _ _ e=>e) (fun b ps e=>⟨#[],by rw [e];simp⟩) (fun m hm=>?_) (fun b u e=>?_) I.bare
  · have e:b=it:=by simpa using hb
    subst e
    exact ⟨h1,hL,h2,h3⟩
  · obtain ⟨o,es,ep,ho,r⟩:=hm
    exact ⟨o,es,ep,k _ o (Ne.symm hL) ho,r⟩
  · refine (I.aV b u e).ur (fun c v hc q=>k c v ?_ q) (fun _ q=>q) fun _ _ q=>q
    rcases hc with z | z
    · rw [z];exact GO b u e
    · exact GO c _ z
theorem Inv.tok (I:Inv X pins σ H s) (t:Nat):Inv X pins σ H { s with toks:=t }:=I.un (h':=s.heap) (t':=t) Un.refl I.aV
theorem Inv.kept {t':Nat} (I:Inv X pins σ H s) (k:∀ b u,s.heap.get? b=some u->h'.get? b=some u):Inv X pins σ H { s with heap:=h',toks:=t' }:=I.un (Un.kept k) (I.aV.kept k)
theorem Inv.laid {a : Addr} {o : HO} {t' : Nat} (I : Inv X pins σ H s) (k : ∀ b u, s.heap.get? b = some u -> h'.get? b = some u) (hp : s.heap.objs.size <= a) (new : aY X.prog X.w (upd H a o) h' a o) :
    Inv X pins σ (upd H a o) { s with heap:=h',toks:=t' }:=I.un (Un.laid k hp (I.aV.fresh hp)) (I.aV.laid k hp new)
theorem Inv.write {x e : Addr} {o : HO} {t' : Nat} (I : Inv X pins σ H s) (mu : GI (H x)) (he : e = x \/ H e = some (.own x)) (k : ∀ b u, b ≠ e -> s.heap.get? b = some u -> h'.get? b = some u) (F5 : ∃ u, h'.get? e = some u)
    (new:aY X.prog X.w (upd H x o) h' x o):Inv X pins σ (upd H x o) { s with heap:=h',toks:=t' }:=I.un (Un.write mu he k F5) (I.aV.write mu he k F5 new)
theorem Inv.l_ {BW:List (Addr×Obj)} (I:Inv X pins σ H s) (h:∀ p∈BW,s.heap.get? p.1=some p.2/\H p.1=none/\p.1≠X.env.locals/\p.1∉X.fs/\∀ v,p.2.data≠.cell v):Inv X BW σ H s :=
 ⟨I.ok,I.os,I.bare,I.base,I.loc,I.cell,I.free,I.gj,fun p hp=>(je.mp hp).elim (fun z=>I.pin p (List.mem_append_left _ z)) (h p),I.aV,I.len⟩
theorem ox {N:List Str} (hN:N.Nodup) {i j:Nat} {x:Str} (a:N[i]?=some x) (b:N[j]?=some x):i=j:=by
 obtain ⟨h1,e1⟩:=dh.mp a
 obtain ⟨h2,e2⟩:=dh.mp b
 exact (List.getElem_inj hN).mp (e1.trans e2.symm)
theorem uw {M : Model} {A : Around} {E : Value -> Shared -> Prop} {i : Nat} {x : Str} {v : V} {u : Value} {Q : Unit -> Shared -> Prop} (I : Inv X pins σ H s) (hN : X.N.Nodup) (hi : X.N[i]? = some x) (hx : Loc X.env.scope x) (r : RelV v u)
    (h:∀ s',Inv X pins (σ.set i (some v)) H s'->(∃ a,Heap.SameBut a s.heap s'.heap/\(a=X.env.locals\/X.env.cells.lookup x=some a))->Q () s') (hf:X.fn x=true\/X.env.scope.names.lookup x=some .local:=by first | exact .inl rfl | exact .inr rfl | assumption):wpAny M A (storeName X.env x u) Q E s:=by
  obtain ⟨m,hn,hl⟩:=id I.loc
  have L3:(X.env.scope.kind == .class || (X.env.scope.kind == .module && X.env.locals != X.env.globals))=false:=by rw [I.ok.kind];rfl
  have GP:i < σ.length:=by rw [I.len];exact (dh.mp hi).1
  have C2:=I.C2
  have tracked:∀ {a:Addr} {h':Heap},(∃ o,s.heap.get? a=some o/\H a=none)->Heap.SameBut a s.heap h'->gC X.prog X.w H h':=fun {a h'} ha hs b ob e=>by
    obtain ⟨_,_,oy⟩:=ha
    refine (I.aV b ob e).ur (fun c w' hc q=>(hs.2 c ?_).trans q) (fun _ q=>q) fun _ _ q=>q
    rintro rfl
    rcases hc with rfl | hc
    · rw [oy] at e;cases e
    · rw [oy] at hc;cases hc
  rcases hx with hk | hk
  · refine wpAny_storeName_local hk hn (fun h' Q2 hs=>?_) L3
    obtain ⟨oL,_,_,Q3,_⟩:=id hn
    refine h _ ⟨I.ok,I.os,I.bare,⟨fun b o e n hb hx=>?_,fun b o e n hb hx=>?_,I.base.free,fun b o e hx=>?_,I.base.fg,I.base.l5,I.base.ou⟩,⟨_,Q2,fun j y v' e1 e2 e3=>?_⟩,fun y c e=>?_,I.free,I.gj,fun p hp=>?_,tracked ⟨oL,Q3,I.free⟩ hs,by simpa using I.len⟩ ⟨_,hs,.inl rfl⟩
    · exact (hs.2 b (Nat.ne_of_lt (Nat.lt_of_lt_of_le (Heap.lt_size e) I.ok.above))).trans (I.base.keep b o e n hb hx)
    · obtain ⟨sl,e1⟩:=I.base.slot b o e n hb hx
      exact ⟨sl,(hs.2 b (Nat.ne_of_lt (Nat.lt_of_lt_of_le (Heap.lt_size e) I.ok.above))).trans e1⟩
    · obtain ⟨o',e1⟩:=I.base.there b o e hx
      exact ⟨o',(hs.2 b (Nat.ne_of_lt (Nat.lt_of_lt_of_le (Heap.lt_size e) I.ok.above))).trans e1⟩
    · by_cases hj:j=i
      · subst hj
        rw [hi] at e1;cases e1
        rw [List.getElem?_set_self GP] at e2
        cases e2
        exact ⟨u,r,.inl ⟨hk,by simp⟩⟩
      · rw [List.getElem?_set_ne (Ne.symm hj)] at e2
        obtain ⟨u',r',q⟩:=hl j y v' e1 e2 e3
        refine ⟨u',r',?_⟩
        rcases q with ⟨k,e⟩|⟨k,c,e,z⟩
        · refine .inl ⟨k,?_⟩
          have:y≠x:=fun e=>hj (ox hN e1 (e ▸ hi))
          simp [this,e]
        · exact .inr ⟨k,c,e,z.sameBut hs (C2 y c e)⟩
    · obtain ⟨w',z⟩:=I.cell y c e
      exact ⟨w',z.sameBut hs (C2 y c e)⟩
    · obtain ⟨e,n,ne,nf,d⟩:=I.pin p hp
      exact ⟨(hs.2 p.1 ne).trans e,n,ne,nf,d⟩
  · have L4 : X.fn x = true := by
      rcases hf with z | z
      · exact z
      · rw [z] at hk;cases hk
    obtain ⟨c,hc⟩:=I.ok.has x (.inl hk)
    obtain ⟨w',z⟩:=I.cell x c hc
    refine wpAny_storeName_cell I.ok.kind hk hc z (fun h' ux hs=>?_)
    obtain ⟨oc,OL,L5⟩:=id z
    refine h { s with heap:=h' } ⟨I.ok,I.os,I.bare,⟨fun b o e n hb hx=>?_,fun b o e n hb hx=>?_,I.base.free,fun b o e hx=>?_,I.base.fg,I.base.l5,I.base.ou⟩,⟨m,hn.sameBut hs (Ne.symm (C2 x c hc)),fun j y v' e1 e2 e3=>?_⟩,fun y c' e=>?_,I.free,I.gj,fun p hp=>?_,tracked ⟨oc,OL,I.gj x c hc⟩ hs,by simpa using I.len⟩ ⟨c,hs,.inr hc⟩
    · exact (hs.2 b (Nat.ne_of_lt (Nat.lt_of_lt_of_le (Heap.lt_size e) (I.ok.C1 x c L4 hc)))).trans (I.base.keep b o e n hb hx)
    · obtain ⟨sl,e1⟩:=I.base.slot b o e n hb hx
      exact ⟨sl,(hs.2 b (Nat.ne_of_lt (Nat.lt_of_lt_of_le (Heap.lt_size e) (I.ok.C1 x c L4 hc)))).trans e1⟩
    · obtain ⟨o',e1⟩:=I.base.there b o e hx
      exact ⟨o',(hs.2 b (Nat.ne_of_lt (Nat.lt_of_lt_of_le (Heap.lt_size e) (I.ok.C1 x c L4 hc)))).trans e1⟩
    · by_cases hj:j=i
      · subst hj
        rw [hi] at e1;cases e1
        rw [List.getElem?_set_self GP] at e2
        cases e2
        exact ⟨u,r,.inr ⟨.inl hk,c,hc,ux⟩⟩
      · rw [List.getElem?_set_ne (Ne.symm hj)] at e2
        obtain ⟨u',r',q⟩:=hl j y v' e1 e2 e3
        refine ⟨u',r',?_⟩
        rcases q with q | ⟨k,c',e,z'⟩
        · exact .inl q
        · refine .inr ⟨k,c',e,z'.sameBut hs ?_⟩
          rintro rfl
          exact hj (ox hN e1 (I.ok.inj _ _ _ e hc ▸ hi))
    · by_cases OM:c'=c
      · subst OM;exact ⟨_,ux⟩
      · obtain ⟨w2,z2⟩:=I.cell y c' e
        exact ⟨w2,z2.sameBut hs OM⟩
    · obtain ⟨e,n,ne,nf,d⟩:=I.pin p hp
      refine ⟨(hs.2 p.1 ?_).trans e,n,ne,nf,d⟩
      intro q
      rw [q,OL] at e
      have q':oc=p.2:=e_ e
      exact d w' (by rw [<- q'];exact L5)
theorem vP {M : Model} {A : Around} {E : Value -> Shared -> Prop} {i : Nat} {x : Str} {v : V} {u : Value} {Q : Unit -> Shared -> Prop} (I : Inv X pins σ H s) (hN : X.N.Nodup) (hi : X.N[i]? = some x) (hx : Loc X.env.scope x) (r : RelV v u)
    (h:∀ s',Inv X pins (σ.set i (some v)) H s'->Q () s') (hf:X.fn x=true\/X.env.scope.names.lookup x=some .local:=by first | exact .inl rfl | exact .inr rfl | assumption):wpAny M A (storeName X.env x u) Q E s :=
  uw I hN hi hx r (fun s' I' _=>h s' I') hf
theorem Inv.GQ {s' : Shared} {ch : List Addr} (I : Inv X pins σ H s) (ho : s'.os = s.os) (u : Un (vM X.stack) ch H H' s.heap s'.heap) (aV : gC X.prog X.w H' s'.heap) (hg : AllBare s'.gens)
    (vB:∀ b∈ch,(b∈X.ex\/X.dz.heap.objs.size<=b)/\b≠X.env.locals/\(∀ x c,X.env.cells.lookup x=some c->c≠b)/\∀ p∈X.pn++pins,p.1≠b):Inv X pins σ H' s':=by
  obtain ⟨h',g',d',t',o'⟩:=s'
  have e:o'=s.os:=ho
  subst e
  exact I.call (g':=g') (t':=t') (d':=d') u aV hg vB
end
abbrev XK:=Value->Option Addr->Hp->Prop
abbrev St:=List (Option V)
abbrev VK:=V->Hp->Prop
abbrev TE:=St->Hp->VK->Prop
abbrev TT:=St->Hp->(Bool->Hp->Prop)->Prop
abbrev TA:=St->Hp->(List V->Hp->Prop)->Prop
structure Ends where
 nx:St->Hp->Prop
 rt:VK
 bk:St->Hp->Prop:=fun _ _=>False
 ct:St->Hp->Prop:=fun _ _=>False
abbrev TS:=Ends->St->Hp->Prop
def EP (X:Cx) (pins:List (Addr×Obj)) (σ:St) (Q:VK) (u:Value) (s':Shared):Prop:=∃ v H',Inv X pins σ H' s'/\RelV v u/\Q v H'
def TP (X:Cx) (pins:List (Addr×Obj)) (σ:St) (Q:Bool->Hp->Prop) (b:Bool) (s':Shared):Prop:=∃ H',Inv X pins σ H' s'/\Q b H'
def AP (X:Cx) (pins:List (Addr×Obj)) (σ:St) (Q:List V->Hp->Prop) (us:List Value) (s':Shared):Prop:=∃ vs H',Inv X pins σ H' s'/\Vals vs us/\Q vs H'
def SP (X:Cx) (pins:List (Addr×Obj)) (D:Ends) (f:Flow) (s':Shared):Prop :=
 match f with
 | .next=>∃ cg H',Inv X pins cg H' s'/\D.nx cg H'
 | .brk=>∃ cg H',Inv X pins cg H' s'/\D.bk cg H'
 | .cont=>∃ cg H',Inv X pins cg H' s'/\D.ct cg H'
 | .ret u=>∃ v cg H',Inv X pins cg H' s'/\RelV v u/\D.rt v H'
def PE (X:Cx) (e:Expr) (t:TE):Prop :=
 ∀ (pins:List (Addr×Obj)) (s:Shared) (σ:St) (H:Hp) (Q:VK),Inv X pins σ H s->t σ H Q->wpAny (model X.prog X.w) X.A (eval e X.env) (EP X pins σ Q) X.xe s
def PT (X:Cx) (e:Expr) (t:TT):Prop :=
 ∀ (pins:List (Addr×Obj)) (s:Shared) (σ:St) (H:Hp) (Q:Bool->Hp->Prop),Inv X pins σ H s->t σ H Q->wpAny (model X.prog X.w) X.A (isTrue e X.env (eval e X.env)) (TP X pins σ Q) X.xe s
def PW (X:Cx) (e:Expr) (t:TT):Prop :=
 ∀ (whole:Sem Value) (pins:List (Addr×Obj)) (s:Shared) (σ:St) (H:Hp) (Q:Bool->Hp->Prop),Inv X pins σ H s->t σ H Q->wpAny (model X.prog X.w) X.A (isTrue e X.env whole) (TP X pins σ Q) X.xe s
theorem PW.pt {X:Cx} {e:Expr} {t:TT} (h:PW X e t):PT X e t:=h _
def PA (X:Cx) (es:List Expr) (t:TA):Prop :=
 ∀ (pos:Pos) (pins:List (Addr×Obj)) (s:Shared) (σ:St) (H:Hp) (Q:List V->Hp->Prop),Inv X pins σ H s->t σ H Q->wpAny (model X.prog X.w) X.A (spliced (backTo pos (starEach es X.env))) (AP X pins σ Q) X.xe s
def PS (X:Cx) (st:Stmt) (t:TS):Prop :=
 ∀ (pins:List (Addr×Obj)) (s:Shared) (σ:St) (H:Hp) (D:Ends),Inv X pins σ H s->t D σ H->wpAny (model X.prog X.w) X.A (exec st X.env) (SP X pins D) X.xe s
def oz (X:Cx) (st:List Stmt) (t:TS):Prop :=
 ∀ (pins:List (Addr×Obj)) (s:Shared) (σ:St) (H:Hp) (D:Ends),Inv X pins σ H s->t D σ H->wpAny (model X.prog X.w) X.A (execs st X.env) (SP X pins D) X.xe s
theorem bP {α:Type} {t:Sem α} {Q Q':α->Shared->Prop} {M:Model} {A:Around} {E:Value->Shared->Prop} {s:Shared} (h:wpAny M A t Q E s) (hQ:∀ a s,Q a s->Q' a s):wpAny M A t Q' E s:=wpAny_mono h hQ fun _ _ x=>x
section
variable {X:Cx}
theorem bin {a b : Expr} {ta tb : TE} (ha : PE X a ta) (hb : PE X b tb) {pins : List (Addr × Obj)} {s : Shared} {σ : St} {H : Hp} {R : V -> V -> Hp -> Prop} (I : Inv X pins σ H s) (h : ta σ H fun x H1 => tb σ H1 fun y H2 => R x y H2)
    {α:Type} {Q:α->Shared->Prop} {f:Value->Value->Sem α}
    (hf:∀ v u s2 x y H2,Inv X pins σ H2 s2->RelV x v->RelV y u->R x y H2->wpAny (model X.prog X.w) X.A (f v u) Q X.xe s2) :
    wpAny (model X.prog X.w) X.A (eval a X.env) (fun v bb=>wpAny (model X.prog X.w) X.A (eval b X.env) (fun u uy=>wpAny (model X.prog X.w) X.A (f v u) Q X.xe uy) X.xe bb) X.xe s:=by
  refine bP (ha pins s σ H _ I h) ?_
  rintro v s1 ⟨x,H1,I1,r1,q1⟩
  refine bP (hb pins s1 σ H1 _ I1 q1) ?_
  rintro u s2 ⟨y,H2,I2,r2,q2⟩
  exact hf v u s2 x y H2 I2 r1 r2 q2
def L6 (i:Nat):TE:=fun σ H Q=>∃ v,σ[i]?=some (some v)/\Q v H
def tC (v:V):TE:=fun _ H Q=>Q v H
theorem C3 {i:Nat} {x:Str} {pos:Pos} (hN:X.N[i]?=some x) (hv:LW X.env.scope x) (hd:(x == ("__debug__" : Str))=false:=by decide) (BX:(x == ("__classdict__" : Str))=false:=by decide):PE X (.Name x pos) (L6 i):=by
 intro pins s σ H Q I h
 obtain ⟨v,e,h⟩:=h
 obtain ⟨m,hn,hl⟩:=I.loc
 obtain ⟨u,r,l⟩:=hl i x v hN e hv
 have fin:EP X pins σ Q u s:=⟨v,H,I,r,h⟩
 rcases l with ⟨hk,hm⟩|⟨hk,c,hc,sG⟩
 ·exact wpAny_Name (wpAny_loadName_local I.ok.kind hk hn hm fin) hd
 ·rcases hk with hk | hk
  ·exact wpAny_Name (wpAny_loadName_cell I.ok.kind hk hc sG fin) hd
  ·exact wpAny_Name (wpAny_loadName_free I.ok.kind hk hc sG fin BX) hd
theorem ma {i j pos}:PE X (.Constant (.int i) j pos) (tC (.int i)):=fun _ _ _ H _ I h=>wpAny_Constant_int ⟨.int i,H,I.tok _,⟨_,rfl⟩,h⟩
theorem BY {b j pos}:PE X (.Constant (.bool b) j pos) (tC (.bl b)):=fun _ _ _ H _ I h=>Constant_bool ⟨.bl b,H,I,rfl,h⟩
theorem C4 {j pos}:PE X (.Constant .none j pos) (tC .az):=fun _ _ _ H _ I h=>Constant_none ⟨.az,H,I,rfl,h⟩
theorem vQ {x j pos}:PE X (.Constant (.str x) j pos) (tC (.str x)):=fun _ _ _ H _ I h=>Calls.Constant_str ⟨.str x,H,I.tok _,⟨_,rfl⟩,h⟩
def Gl (X:Cx) (x:Str):Prop:=X.env.kindOf x=some .globalImplicit
theorem sH {E : Value -> Shared -> Prop} {pins : List (Addr × Obj)} {s : Shared} {σ : St} {H : Hp} {x : Str} {u : Value} {pos : Pos} {Q : Value -> Shared -> Prop} (I : Inv X pins σ H s) (hg : Gl X x) (hm : X.mg x = some u) (h : Q u s)
    (hd:(x == ("__debug__" : Str))=false:=by decide):wpAny (model X.prog X.w) X.A (eval (.Name x pos) X.env) Q E s :=
  Calls.Name_function_global I.ok.kind hg (Calls.loadGlobal_global (by rw [I.ok.glob];exact I.mod.glob.keeps I.bk) hm h) hd
theorem iy {E : Value -> Shared -> Prop} {pins : List (Addr × Obj)} {s : Shared} {σ : St} {H : Hp} {x : Str} {u : Value} {pos : Pos} {Q : Value -> Shared -> Prop} (I : Inv X pins σ H s) (hg : Gl X x) (hm : X.mg x = none) (hv : bootBuiltins x = some u) (h : Q u s)
    (hn:x ≠ "__name__" := by decide) (hd:(x == ("__debug__" : Str))=false:=by decide):wpAny (model X.prog X.w) X.A (eval (.Name x pos) X.env) Q E s:=by
  obtain ⟨mb,h1,h2⟩:=I.mod.blt
  exact Calls.Name_function_global I.ok.kind hg (Calls.loadGlobal_builtin (by rw [I.ok.glob];exact I.mod.glob.keeps I.bk) hm (by rw [I.ok.blt];exact h1.keeps I.bk) ((h2 x hn).trans hv) h) hd
theorem zq {x:Str} {v:V} {u:Value} {pos:Pos} (hg:Gl X x) (hm:X.mg x=some u) (r:RelV v u) (hd:(x == ("__debug__" : Str))=false:=by decide):PE X (.Name x pos) (tC v) :=
 fun _ _ _ H _ I h=>sH I hg hm ⟨v,H,I,r,h⟩ hd
theorem zt {x:Str} {v:V} {u:Value} {pos:Pos} (hg:Gl X x) (hm:X.mg x=none) (hv:bootBuiltins x=some u) (r:RelV v u) (hn:x ≠ "__name__" := by decide) (hd:(x == ("__debug__" : Str))=false:=by decide):PE X (.Name x pos) (tC v) :=
 fun _ _ _ H _ I h=>iy I hg hm hv ⟨v,H,I,r,h⟩ hn hd
variable {a b:Expr} {ta tb:TE} {pos:Pos}
variable {tA Kl:TT} {rest:List Expr}
def L7 (t u:TT):TT:=fun σ H Q=>t σ H fun c H1=>if c=true then u σ H1 Q else Q false H1
def Q4 (t u:TT):TT:=fun σ H Q=>t σ H fun c H1=>if c=true then Q true H1 else u σ H1 Q
def L8 (t:TT):TT:=fun σ H Q=>t σ H fun c H1=>Q (!c) H1
theorem zu (ha:PT X a tA):PW X (.BoolOp .And [a] pos) tA:=by
 intro wh pins s σ H Q I h
 refine isTrue_and (bP (ha pins s σ H Q I h) fun c s1 e=>?_)
 cases c with
 | true=>exact isTrue_and_nil e
 | false=>exact e
theorem C5 (ha:PT X a tA):PW X (.BoolOp .Or [a] pos) tA:=by
 intro wh pins s σ H Q I h
 refine isTrue_or (bP (ha pins s σ H Q I h) fun c s1 e=>?_)
 cases c with
 | false=>exact isTrue_or_nil e
 | true=>exact e
theorem C6 (ha:PT X a tA) (hb:PW X (.BoolOp .And (b::rest) pos) Kl):PW X (.BoolOp .And (a::b::rest) pos) (L7 tA Kl):=by
 intro wh pins s σ H Q I h
 refine isTrue_and (bP (ha pins s σ H _ I h) ?_)
 rintro c s1 ⟨H1,I1,q1⟩
 cases c with
 | true=>exact hb wh pins s1 σ H1 Q I1 q1
 | false=>exact ⟨H1,I1,q1⟩
theorem GR (ha:PT X a tA) (hb:PW X (.BoolOp .Or (b::rest) pos) Kl):PW X (.BoolOp .Or (a::b::rest) pos) (Q4 tA Kl):=by
 intro wh pins s σ H Q I h
 refine isTrue_or (bP (ha pins s σ H _ I h) ?_)
 rintro c s1 ⟨H1,I1,q1⟩
 cases c with
 | true=>exact ⟨H1,I1,q1⟩
 | false=>exact hb wh pins s1 σ H1 Q I1 q1
theorem C7 (ha:PT X a tA):PT X (.UnaryOp .Not a pos) (L8 tA):=by
 intro pins s σ H Q I h
 exact isTrue_not (ha pins s σ H (fun c H1=>Q (!c) H1) I h)
def GS (ta tb:TE):TE:=fun σ H Q=>ta σ H fun x H1=>∃ c,x=.bl c/\if c=true then tb σ H1 Q else Q (.bl false) H1
def L9 (ta tb:TE):TE:=fun σ H Q=>ta σ H fun x H1=>∃ c,x=.bl c/\if c=true then Q (.bl true) H1 else tb σ H1 Q
def GU (ta:TE):TE:=fun σ H Q=>ta σ H fun x H1=>∃ c,x=.bl c/\Q (.bl (!c)) H1
theorem vR {op} {t:TE} (h:PE X a t):PE X (.BoolOp op [a] pos) t:=fun pins s σ H Q I hw=>BoolOp_one (h pins s σ H Q I hw)
theorem C8 (ha:PE X a ta) (hb:PE X (.BoolOp .And (b::rest) pos) tb):PE X (.BoolOp .And (a::b::rest) pos) (GS ta tb):=by
 intro pins s σ H Q I h
 refine BoolOp_and (bP (ha pins s σ H _ I h) ?_)
 rintro v s1 ⟨x,H1,I1,r1,q1⟩
 obtain ⟨c,rfl,q1⟩:=q1
 cases r1
 refine wpAny_truthy_bool ?_
 cases c with
 | true=>exact hb pins s1 σ H1 Q I1 q1
 | false=>exact ⟨.bl false,H1,I1,rfl,q1⟩
theorem GV (ha:PE X a ta) (hb:PE X (.BoolOp .Or (b::rest) pos) tb):PE X (.BoolOp .Or (a::b::rest) pos) (L9 ta tb):=by
 intro pins s σ H Q I h
 refine BoolOp_or (bP (ha pins s σ H _ I h) ?_)
 rintro v s1 ⟨x,H1,I1,r1,q1⟩
 obtain ⟨c,rfl,q1⟩:=q1
 cases r1
 refine wpAny_truthy_bool ?_
 cases c with
 | false=>exact hb pins s1 σ H1 Q I1 q1
 | true=>exact ⟨.bl true,H1,I1,rfl,q1⟩
theorem C9 (ha:PE X a ta):PE X (.UnaryOp .Not a pos) (GU ta):=by
 intro pins s σ H Q I h
 refine UnaryOp_ (bP (ha pins s σ H _ I h) ?_)
 rintro v s1 ⟨x,H1,I1,r1,q1⟩
 obtain ⟨c,rfl,q1⟩:=q1
 cases r1
 exact not_of (wpAny_truthy_bool ⟨.bl (!c),H1,I1,rfl,q1⟩)
def Q5 (t:TT) (ta tb:TE):TE:=fun σ H Q=>t σ H fun c H1=>if c=true then ta σ H1 Q else tb σ H1 Q
theorem vS {c:Expr} (hc:PT X c tA) (ha:PE X a ta) (hb:PE X b tb):PE X (.IfExp c a b pos) (Q5 tA ta tb):=by
 intro pins s σ H Q I h
 refine wpAny_IfExp (bP (hc pins s σ H _ I h) ?_)
 rintro d s1 ⟨H1,I1,q1⟩
 cases d with
 | true=>exact ha pins s1 σ H1 Q I1 q1
 | false=>exact hb pins s1 σ H1 Q I1 q1
end
def d9 (K:PySem.W.Frag) (H:Hp) (a:Addr) (xs:List V):Prop :=
 Rd H a (.lst xs) \/
  ∃ (o:Obj) (aq:Array Value) (n:Nat),K.lookup a=some o/\o.cls=.type "list" /\ o.dict=none/\o.data=.seq aq n/\aq.size<=sizeLine/\Vals xs aq.toList
def eT (K:PySem.W.Frag) (H:Hp) (a:Addr) (xs:List V):Prop :=
 Rd H a (.tup xs) \/
  ∃ (o:Obj) (aq:Array Value) (n:Nat),K.lookup a=some o/\o.cls=.type "tuple" /\ o.data=.seq aq n/\aq.size<=sizeLine/\Vals xs aq.toList
def L_:Value->Option V
 | .none=>some .az
 | .bool b=>some (.bl b)
 | .int i _=>some (.int i)
 | .str x _=>some (.str x)
 | .bytes b _=>some (.GF b)
 | .float b _=>some (.F4 b)
 | .ref a=>some (.ref a)
 | .type n=>some (.ty n)
 | _=>none
theorem RelV.abs {x:V} {u:Value} (r:RelV x u):L_ u=some x:=by
 cases x with
 | az=>cases r;rfl
 | bl _=>cases r;rfl
 | int _=>obtain ⟨t,rfl⟩:=r;rfl
 | str _=>obtain ⟨t,rfl⟩:=r;rfl
 | GF _=>obtain ⟨t,rfl⟩:=r;rfl
 | F4 _=>obtain ⟨t,rfl⟩:=r;rfl
 | ref _=>cases r;rfl
 | ty _=>cases r;rfl
theorem RelV.inj {x y:V} {u:Value} (r:RelV x u) (q:RelV y u):x=y:=e_ (r.abs.symm.trans q.abs)
theorem Vals.inj:∀ {xs ys:List V} {us:List Value},Vals xs us->Vals ys us->xs=ys
 | _,_,_,.nil,.nil=>rfl
 | _,_,_,.cons r t,.cons r' t'=>by rw [r.inj r',Vals.inj t t']
section
variable {X:Cx} {pins:List (Addr×Obj)} {σ:St} {H:Hp} {s:Shared} {a:Addr} {xs ys:List V}
theorem d9.of {K:PySem.W.Frag} (h:H a=some (.lst xs)):d9 K H a xs:=.inl (.inl h)
theorem eT.of {K:PySem.W.Frag} (h:H a=some (.tup xs)):eT K H a xs:=.inl (.inl h)
theorem Inv.list (I:Inv X pins σ H s) (h:d9 X.K H a xs):∃ aq:List Value,Vals xs aq/\PlainL s.heap a aq.toArray/\xs.length<=sizeLine:=by
 rcases h with h | ⟨o,aq,n,hk,hc,hd,hs,hz,r⟩
 ·obtain ⟨z,aq,n,r,e⟩:=h.ok I.aV
  exact ⟨aq,r,⟨_,n,e,rfl,rfl,rfl⟩,z⟩
 ·refine ⟨aq.toList,r,⟨o,n,I.ow a o hk,hc,hd,by simpa using hs⟩,?_⟩
  have e:=r.length
  simp only [Array.length_toList] at e
  omega
theorem Inv.tuple (I:Inv X pins σ H s) (h:eT X.K H a xs):∃ aq:List Value,Vals xs aq/\IsTup s.heap a aq.toArray/\xs.length<=sizeLine:=by
 rcases h with h | ⟨o,aq,n,hk,hc,hs,hz,r⟩
 ·obtain ⟨z,aq,r,p⟩:=h.ok I.aV
  exact ⟨aq,r,p,z⟩
 ·refine ⟨aq.toList,r,⟨o,I.ow a o hk,hc,n,by simpa using hs⟩,?_⟩
  have e:=r.length
  simp only [Array.length_toList] at e
  omega
theorem Inv.oA (I:Inv X pins σ H s) (h:d9 X.K H a xs) (h':d9 X.K H a ys):xs=ys:=by
 obtain ⟨aq,r,⟨o,n,e,_,_,d⟩,_⟩:=I.list h
 obtain ⟨its',r',⟨o',n',e',_,_,d'⟩,_⟩:=I.list h'
 rw [e] at e';cases e'
 rw [d] at d'
 injection d' with d1 _
 have:aq=its':=by simpa using congrArg Array.toList d1
 subst this
 exact r.inj r'
theorem Inv.lh (I:Inv X pins σ H s) (h:eT X.K H a xs) (h':eT X.K H a ys):xs=ys:=by
 obtain ⟨aq,r,⟨o,e,_,n,d⟩,_⟩:=I.tuple h
 obtain ⟨its',r',⟨o',e',_,n',d'⟩,_⟩:=I.tuple h'
 rw [e] at e';cases e'
 rw [d] at d'
 injection d' with d1 _
 have:aq=its':=by simpa using congrArg Array.toList d1
 subst this
 exact r.inj r'
end
abbrev Cx.kQ (X:Cx) (E:Value->Shared->Prop):Cx:={ X with xe:=E }
abbrev Cx.GW (X:Cx):Cx:=X.kQ fun _ _=>False
theorem Cx.Ok.kQ {X:Cx} (ok:X.Ok) (E:Value->Shared->Prop):(X.kQ E).Ok :=
 ⟨ok.mod,ok.kind,ok.glob,ok.blt,ok.above,ok.inj,ok.has,ok.C1,ok.hd,ok.frames,ok.Kj,ok.LX,ok.bs,ok.BV,ok.vN,ok.vO,ok.jN,ok.F6⟩
theorem Cx.Ok.fm {X:Cx} {E:Value->Shared->Prop} (ok:(X.kQ E).Ok):X.Ok :=
 ⟨ok.mod,ok.kind,ok.glob,ok.blt,ok.above,ok.inj,ok.has,ok.C1,ok.hd,ok.frames,ok.Kj,ok.LX,ok.bs,ok.BV,ok.vN,ok.vO,ok.jN,ok.F6⟩
section
variable {X:Cx} {pins:List (Addr×Obj)} {σ:St} {H:Hp} {s:Shared} {E:Value->Shared->Prop}
theorem Inv.kQ (I:Inv X pins σ H s) (E:Value->Shared->Prop):Inv (X.kQ E) pins σ H s:=⟨I.ok.kQ E,I.os,I.bare,I.base,I.loc,I.cell,I.free,I.gj,I.pin,I.aV,I.len⟩
theorem Inv.fm (I:Inv (X.kQ E) pins σ H s):Inv X pins σ H s:=⟨I.ok.fm,I.os,I.bare,I.base,I.loc,I.cell,I.free,I.gj,I.pin,I.aV,I.len⟩
theorem SP.fm {D:Ends} {f:Flow} {s':Shared} (h:SP (X.kQ E) pins D f s'):SP X pins D f s':=by
 cases f with
 | next=>obtain ⟨cg,H',I,q⟩:=h;exact ⟨cg,H',I.fm,q⟩
 | brk=>obtain ⟨cg,H',I,q⟩:=h;exact ⟨cg,H',I.fm,q⟩
 | cont=>obtain ⟨cg,H',I,q⟩:=h;exact ⟨cg,H',I.fm,q⟩
 | ret u=>obtain ⟨v,cg,H',I,r,q⟩:=h;exact ⟨v,cg,H',I.fm,r,q⟩
theorem oz.GW {st:List Stmt} {t:TS} (h:oz X.GW st t):oz X st t:=fun pins s σ H D I hw =>
 wpAny_mono (h pins s σ H D (I.kQ _) hw) (fun _ _ q=>q.fm) fun _ _ z=>False.elim z
end
section
variable {X:Cx} {st:Stmt} {rest:List Stmt} {t u:TS} {e:Expr} {te:TE} {pos:Pos}
def BZ:TS:=fun D σ H=>D.nx σ H
def GX (t u:TS):TS:=fun D σ H=>t { D with nx:=u D } σ H
theorem zv:oz X [] BZ:=fun _ _ σ H _ I h=>wpAny_execs_nil ⟨σ,H,I,h⟩
theorem vT (h1:PS X st t) (h2:oz X rest u):oz X (st::rest) (GX t u):=by
 intro pins s σ H D I h
 refine wpAny_execs_cons (bP (h1 pins s σ H { D with nx:=u D } I h) fun f s1 q=>?_)
 cases f with
 | next =>
  obtain ⟨cg,H',I',q⟩:=q
  exact h2 pins s1 cg H' D I' q
 | ret v=>exact q
 | brk=>exact q
 | cont=>exact q
def C_:TS:=fun D σ H=>D.bk σ H
def GY:TS:=fun D σ H=>D.ct σ H
theorem zw:PS X (.Pass pos) BZ:=fun _ _ σ H _ I h=>wpAny_Pass ⟨σ,H,I,h⟩
theorem vU:PS X (.Break pos) C_:=fun _ _ σ H _ I h=>wpAny_Break ⟨σ,H,I,h⟩
theorem oB:PS X (.Continue pos) GY:=fun _ _ σ H _ I h=>wpAny_Continue ⟨σ,H,I,h⟩
theorem Inv.quiet {pins:List (Addr×Obj)} {σ:St} {H:Hp} {s:Shared} (I:Inv X pins σ H s):interactive X.env=false:=by simp [interactive,I.ok.kind]
def GZ (te:TE):TS:=fun D σ H=>te σ H fun _ H1=>D.nx σ H1
theorem zx (he:PE X e te) (hs:swapsWith e none pos.line X.env=pure false:=by rfl):PS X (.Expr e pos) (GZ te):=by
 intro pins s σ H D I h
 exact wpAny_Expr_any (bP (he pins s σ H _ I h) fun v s1 ⟨x,H1,I1,r1,q1⟩=>⟨σ,H1,I1,q1⟩) I.quiet hs
def Ma (te:TE):TS:=fun D σ H=>te σ H D.rt
theorem Dc (he:PE X e te):PS X (.Return (some e) pos) (Ma te):=by
 intro pins s σ H D I h
 exact wpAny_Return_some (bP (he pins s σ H _ I h) fun v s1 ⟨x,H1,I1,r1,q1⟩=>⟨x,σ,H1,I1,r1,q1⟩)
def G0:TS:=fun D _ H=>D.rt .az H
theorem zy:PS X (.Return none pos) G0:=fun _ _ σ H _ I h=>wpAny_Return_none ⟨.az,σ,H,I,rfl,h⟩
def Mb (c:TT) (t u:TS):TS:=fun D σ H=>c σ H fun b H1=>if b=true then t D σ H1 else u D σ H1
theorem G1 {c:Expr} {a b:List Stmt} {tc:TT} (hc:PT X c tc) (ha:oz X a t) (hb:oz X b u):PS X (.If c a b pos) (Mb tc t u):=by
 intro pins s σ H D I h
 refine wpAny_If (bP (hc pins s σ H _ I h) ?_)
 rintro d s1 ⟨H1,I1,q1⟩
 cases d with
 | true=>exact ha pins s1 σ H1 D I1 q1
 | false=>exact hb pins s1 σ H1 D I1 q1
def Dd:TS:=fun _ _ _=>False
theorem vV:PS X st Dd:=fun _ _ _ _ _ _ h=>h.elim
end
abbrev TG:=V->St->Hp->(St->Hp->Prop)->Prop
abbrev B0:=List V->St->Hp->(St->Hp->Prop)->Prop
def PG (X:Cx) (target:Expr) (t:TG):Prop :=
 ∀ (pins:List (Addr×Obj)) (s:Shared) (σ:St) (H:Hp) (v:V) (u:Value) (Q:St->Hp->Prop),Inv X pins σ H s->RelV v u->t v σ H Q ->
  wpAny (model X.prog X.w) X.A (assign target X.env u) (fun _ s'=>∃ cg H',Inv X pins cg H' s'/\Q cg H') X.xe s
def F7 (X:Cx) (ts:List Expr) (t:B0):Prop :=
 ∀ (pins:List (Addr×Obj)) (s:Shared) (σ:St) (H:Hp) (vs:List V) (us:List Value) (Q:St->Hp->Prop),Inv X pins σ H s->Vals vs us->t vs σ H Q ->
  wpAny (model X.prog X.w) X.A (assignInOrder ((assignEach ts X.env).map (·.2)) us) (fun _ s'=>∃ cg H',Inv X pins cg H' s'/\Q cg H') X.xe s
abbrev zz:=V->V->V->Hp->(Hp->Prop)->Prop
def zA (X:Cx) (t:zz):Prop :=
 ∀ (pins:List (Addr×Obj)) (s:Shared) (σ:St) (H:Hp) (o i v:V) (ov iv u:Value) (Q:Hp->Prop),Inv X pins σ H s->RelV o ov->RelV i iv->RelV v u->t o i v H Q ->
  wpAny (model X.prog X.w) X.A (setItem ov iv u) (fun _ s'=>∃ H',Inv X pins σ H' s'/\Q H') X.xe s
section
variable {X:Cx} {pos:Pos}
def B1 (i:Nat):TG:=fun v σ H Q=>Q (σ.set i (some v)) H
theorem mf {i:Nat} {x:Str} (hN:X.N.Nodup) (hi:X.N[i]?=some x) (hx:Loc X.env.scope x) (hf:X.fn x=true\/X.env.scope.names.lookup x=some .local:=by first | exact .inl rfl | exact .inr rfl | assumption):PG X (.Name x pos) (B1 i):=by
 intro pins s σ H v u Q I r h
 exact wpAny_assign_Name (vP I hN hi hx r (fun s' I'=>⟨_,H,I',h⟩) hf)
def G2:B0:=fun vs σ H Q=>vs=[]/\Q σ H
def B2 (t:TG) (u:B0):B0:=fun vs σ H Q=>∃ v r,vs=v::r/\t v σ H fun cg H'=>u r cg H' Q
theorem zB:F7 X [] G2:=by
 intro pins s σ H vs us Q I r h
 obtain ⟨e,h⟩:=h
 subst e
 cases r
 exact assignInOrder_nil ⟨σ,H,I,h⟩
theorem vW {e : Expr} {es : List Expr} {t : TG} {u : B0} (h1 : PG X e t) (h2 : F7 X es u)
    (hs:(assignEach (e::es) X.env).map (·.2)=assign e X.env::(assignEach es X.env).map (·.2):=by rfl):F7 X (e::es) (B2 t u):=by
  intro pins s σ H vs us Q I r h
  obtain ⟨v,vr,e1,h⟩:=h
  subst e1
  cases r with
  | cons r rr =>
    rw [hs]
    refine assignInOrder_cons (bP (h1 pins s σ H _ _ _ I r h) ?_)
    rintro _ s1 ⟨ON,H1,I1,q1⟩
    exact h2 pins s1 ON H1 _ _ Q I1 rr q1
def Mc (K:PySem.W.Frag) (n:Nat) (t:B0):TG:=fun v σ H Q=>∃ a xs,v=.ref a/\eT K H a xs/\xs.length=n/\t xs σ H Q
theorem De {es : List Expr} {k : Nat} {t : B0} {n : Nat} (hc : X.calm = true) (h : F7 X es t)
    (hn:(assignEach es X.env).length=n:=by rfl) (eK:(assignEach es X.env).findIdx? (·.1)=none:=by rfl):PG X (.Tuple es k pos) (Mc X.K n t):=by
  intro pins s σ H v u Q I r hw
  obtain ⟨a,xs,e1,hq,hl,hw⟩:=hw
  subst e1
  cases r
  obtain ⟨aq,rv,ht,hz⟩:=I.tuple hq
  refine assign_Tuple_tuple (I.ok.hd hc) ht (by simp [hn,<- hl,rv.length]) eK fun h' hx=>?_
  have I1:Inv X pins σ H { s with heap:=h' }:=I.kept (t':=s.toks) fun b o e=>hx b o (Nat.ne_of_lt (Heap.lt_size e)) e
  exact h pins _ σ H xs _ Q I1 (by simpa using rv) hw
def Md (to ti:TE) (t:zz):TG:=fun v σ H Q=>to σ H fun o H1=>ti σ H1 fun i H2=>t o i v H2 fun H3=>Q σ H3
theorem vX {o i : Expr} {to ti : TE} {t : zz} (ho : PE X o to) (hi : PE X i ti) (hs : zA X t)
    (ha:∀ v,assign (.Subscript o i pos) X.env v=(do
      let ov <- holding [v] (eval o X.env)
      let iv <- holding [v,ov] (eval i X.env)
      standAt pos
      holding [v,ov,iv] (setItem ov iv v)
      release [v,ov,iv] []):=by intro _;rfl):PG X (.Subscript o i pos) (Md to ti t):=by
  intro pins s σ H v u Q I r h
  rw [ha]
  refine wpAny_bind (wpAny_holding (bP (ho pins s σ H _ I h) ?_))
  rintro ov s1 ⟨x,H1,I1,r1,q1⟩
  refine wpAny_bind (wpAny_holding (bP (hi pins s1 σ H1 _ I1 q1) ?_))
  rintro iv s2 ⟨y,H2,I2,r2,q2⟩
  refine wpAny_bind (wpAny_standAt (wpAny_bind (wpAny_holding (bP (hs pins s2 σ H2 x y v ov iv u _ I2 r1 r2 r q2) ?_))))
  rintro _ s3 ⟨H3,I3,q3⟩
  exact wpAny_release ⟨σ,H3,I3,q3⟩
def G3 (te:TE) (g:TG):TS:=fun D σ H=>te σ H fun x H1=>g x σ H1 D.nx
theorem mh {tg e : Expr} {te : TE} {g : TG} (he : PE X e te) (hg : PG X tg g) (hs : swapsWithSole [tg] e pos.line X.env = pure false := by rfl) (hw : swappedStores [tg] e X.env = pure none := by rfl)
    (h1:(assignEach [tg] X.env).map (·.2)=[assign tg X.env]:=by rfl):PS X (.Assign [tg] e pos) (G3 te g):=by
  intro pins s σ H D I h
  refine wpAny_Assign_stores (bP (he pins s σ H _ I h) ?_) hs hw
  rintro v s1 ⟨x,H1,I1,r1,q1⟩
  rw [h1]
  exact bP (hg pins s1 σ H1 x v _ I1 r1 q1) fun _ s2 q=>q
end
structure It where
 go:Nat->Hp->Prop
 F8:Nat->Hp->V->Hp->Prop
 stop:Nat->Hp->Prop
def jg (X:Cx) (pins:List (Addr×Obj)) (H:Hp) (b:Addr):Prop :=
 H b=none/\b≠X.env.locals/\b∉X.fs/\(b∈X.ex\/X.dz.heap.objs.size<=b)/\(∀ x c,X.env.cells.lookup x=some c->c≠b)/\∀ p∈X.pn++pins,p.1≠b
theorem Inv.uA {X:Cx} {pins:List (Addr×Obj)} {σ:St} {H H':Hp} {s:Shared} {b:Addr} (I:Inv X pins σ H s) (hb:s.heap.objs.size<=b) (hn:H' b=none):jg X pins H' b:=by
 refine ⟨hn,Nat.ne_of_gt (Nat.lt_of_lt_of_le I.lt hb),I.GK hb,.inr (Nat.le_trans I.sz hb),fun x c e z=>?_,fun p hp z=>?_⟩
 ·obtain ⟨v,q⟩:=I.cell x c e
  exact absurd (Nat.lt_of_lt_of_le q.lt (by rw [z];exact hb)) (Nat.lt_irrefl _)
 ·exact absurd (Nat.lt_of_lt_of_le (Heap.lt_size (I.pin p hp).1) (by rw [z];exact hb)) (Nat.lt_irrefl _)
structure Turn (P:Program) (w:World) (K:PySem.W.Frag) (tg:Expr) (J:It) (fp:List Addr) (it:Addr) (tn:Nat->Heap->Prop):Prop where
 mem:it∈fp
 obj:∀ i h,tn i h->∀ b∈fp,∃ o,h.get? b=some o/\∀ v,o.data≠.cell v
 keep:∀ i h h',tn i h->(∀ b∈fp,∀ o,h.get? b=some o->h'.get? b=some o)->tn i h'
 item:∀ (X:Cx),X.prog=P->X.w=w->X.K=K->X.calm=true->∀ (i:Nat) (pins:List (Addr×Obj)) (s:Shared) (σ:St) (H:Hp) (E:Value->Shared->Prop),Inv X pins σ H s->(∀ b∈fp,jg X pins H b)->tn i s.heap->J.go i H ->
  wpAny (model P w) X.A (pyNext (.ref it)) (fun r s1=>∃ u,r=some u /\
   wpAny (model P w) X.A (letOwnedTupleGo tg (.ref it) u) (fun _ s2=>∃ x H',Inv X pins σ H' s2/\RelV x u/\J.F8 i H x H'/\tn (i+1) s2.heap/\∀ b∈fp,H' b=none) E s1) E s
 done:∀ (X:Cx),X.prog=P->X.w=w->X.K=K->X.calm=true->∀ (i:Nat) (pins:List (Addr×Obj)) (s:Shared) (σ:St) (H:Hp) (E:Value->Shared->Prop),Inv X pins σ H s->(∀ b∈fp,jg X pins H b)->tn i s.heap->J.stop i H ->
  wpAny (model P w) X.A (pyNext (.ref it)) (fun r s1=>r=none/\Inv X pins σ H s1) E s
 self:∀ (A:Around) (i:Nat) (s:Shared) (Q:Value->Shared->Prop) (E:Value->Shared->Prop),tn i s.heap->Q (.ref it) s->wpAny (model P w) A (pyIter (.ref it)) Q E s
abbrev TI:=St->Hp->(It->Hp->Prop)->Prop
def Mf (X:Cx) (pins:List (Addr×Obj)) (σ:St) (tg:Expr) (R:It->Hp->Prop) (Km:Value) (s2:Shared):Prop :=
 ∃ (it:Addr) (fp:List Addr) (tn:Nat->Heap->Prop) (J:It) (H':Hp),Km=.ref it/\Inv X pins σ H' s2/\Turn X.prog X.w X.K tg J fp it tn/\tn 0 s2.heap/\(∀ b∈fp,jg X pins H' b)/\R J H'
def PI (X:Cx) (tg iter:Expr) (wi:TI):Prop :=
 ∀ (pins:List (Addr×Obj)) (s:Shared) (σ:St) (H:Hp) (R:It->Hp->Prop),Inv X pins σ H s->wi σ H R ->
  wpAny (model X.prog X.w) X.A (eval iter X.env) (fun v s1=>wpAny (model X.prog X.w) X.A (pyIter v) (Mf X pins σ tg R) X.xe s1) X.xe s
theorem sI {M : Model} {A : Around} {E : Value -> Shared -> Prop} {s : Shared} {tg : Expr} {it : Addr} {u : Value} {o : Obj} {n : String} {vs : Array Value} {Q : Unit -> Shared -> Prop} (ho : s.heap.get? it = some o) (hc : o.cls = .type n) (hd : o.data = .fields vs)
    (hn:["enumerate","zip","dict_itemiterator","dict_reverseitemiterator","odict_iterator","itertools.zip_longest","itertools.pairwise"].contains n=false) (hQ:Q () s):wpAny M A (letOwnedTupleGo tg (.ref it) u) Q E s:=by
  unfold letOwnedTupleGo
  cases tg <;> first
    | exact wpAny_pure hQ
    | (cases u <;> first
        | exact wpAny_pure hQ
        | (refine wpAny_bind (wpAny_load ho ?_)
           rw [hc,hd]
           show wpAny M A (if (["enumerate","zip","dict_itemiterator","dict_reverseitemiterator","odict_iterator","itertools.zip_longest","itertools.pairwise"].contains n && vs[0]? == some (rawInt _))=true then _ else _) Q E s
           rw [if_neg (by intro h;rw [hn,Bool.false_and] at h;cases h)]
           exact wpAny_pure hQ))
def Mg (K:PySem.W.Frag) (a:Addr):It :=
 ⟨fun i H=>∃ xs x,d9 K H a xs/\xs[i]?=some x,fun i H x H'=>H'=H/\∀ xs,d9 K H a xs->xs[i]?=some x,fun i H=>∃ xs,d9 K H a xs/\xs.length<=i⟩
def Mh (K:PySem.W.Frag) (a:Addr):It :=
 ⟨fun i H=>∃ xs x,eT K H a xs/\xs[i]?=some x,fun i H x H'=>H'=H/\∀ xs,eT K H a xs->xs[i]?=some x,fun i H=>∃ xs,eT K H a xs/\xs.length<=i⟩
def G4 (lo:Int) (n:Nat):It:=⟨fun i _=>i < n,fun i H x H'=>H'=H/\x=.int (lo+i),fun i _=>n<=i⟩
theorem uB {P:Program} {w:World} {K:PySem.W.Frag} {tg:Expr} (a it:Addr):Turn P w K tg (Mg K a) [it] it (fun i h=>h.IsListIter it a i) where
 mem:=by simp
 obj:=fun i h st b hb=>by
  have e:b=it:=by simpa using hb
  subst e
  obtain ⟨o,e,c,d⟩:=st
  exact ⟨o,e,fun v z=>by rw [d] at z;cases z⟩
 keep:=fun i h h' st k=>st.at fun o e=>k it (by simp) o e
 item:=by
  intro X hP hw hK hc i pins s σ H E I hf st hg
  subst hP hw hK
  obtain ⟨xs,x,hq,hx⟩:=hg
  obtain ⟨aq,rv,p,hz⟩:=I.list hq
  obtain ⟨u,hu,ru⟩:=rv.get hx
  obtain ⟨f0,f1,f2,f3,f4,f5⟩:=hf it (by simp)
  refine wpAny_pyNext_list_item st p.isList (x:=u) (by simpa using hu) fun h' vY sb=>?_
  have I1:Inv X pins σ H { s with heap:=h' }:=I.turned (t':=s.toks) (fun b o hb e=>(sb.2 b hb).trans e) f0 f1 f3 f4 f5
  obtain ⟨o,e,c,d⟩:=id vY
  exact ⟨u,rfl,sI (s:={ s with heap:=h' }) e c d (by decide) ⟨x,H,I1,ru,⟨rfl,fun ys hy=>by rw [I.oA hy hq];exact hx⟩,vY,fun b hb=>(hf b hb).1⟩⟩
 done:=by
  intro X hP hw hK hc i pins s σ H E I hf st hg
  subst hP hw hK
  obtain ⟨xs,hq,hx⟩:=hg
  obtain ⟨aq,rv,p,hz⟩:=I.list hq
  obtain ⟨f0,f1,f2,f3,f4,f5⟩:=hf it (by simp)
  have hl:=rv.length
  exact wpAny_pyNext_list_end (I.ok.hd hc) st p.isList (by simp;omega) fun h' eb=>⟨rfl,I.turned (t':=s.toks) (fun b o hb e=>eb b o hb e) f0 f1 f3 f4 f5⟩
 self:=fun _ _ _ _ _ st h=>wpAny_pyIter_listiter st h
theorem qD {P:Program} {w:World} {K:PySem.W.Frag} {tg:Expr} (a it:Addr):Turn P w K tg (Mh K a) [it] it (fun i h=>h.IsTupleIter it a i) where
 mem:=by simp
 obj:=fun i h st b hb=>by
  have e:b=it:=by simpa using hb
  subst e
  obtain ⟨o,e,c,d⟩:=st
  exact ⟨o,e,fun v z=>by rw [d] at z;cases z⟩
 keep:=fun i h h' st k=>st.at fun o e=>k it (by simp) o e
 item:=by
  intro X hP hw hK hc i pins s σ H E I hf st hg
  subst hP hw hK
  obtain ⟨xs,x,hq,hx⟩:=hg
  obtain ⟨aq,rv,p,hz⟩:=I.tuple hq
  obtain ⟨u,hu,ru⟩:=rv.get hx
  obtain ⟨f0,f1,f2,f3,f4,f5⟩:=hf it (by simp)
  refine wpAny_pyNext_tuple_item st (show s.heap.IsTuple a aq.toArray from p) (x:=u) (by simpa using hu) fun h' vY sb=>?_
  have I1:Inv X pins σ H { s with heap:=h' }:=I.turned (t':=s.toks) (fun b o hb e=>(sb.2 b hb).trans e) f0 f1 f3 f4 f5
  obtain ⟨o,e,c,d⟩:=id vY
  exact ⟨u,rfl,sI (s:={ s with heap:=h' }) e c d (by decide) ⟨x,H,I1,ru,⟨rfl,fun ys hy=>by rw [I.lh hy hq];exact hx⟩,vY,fun b hb=>(hf b hb).1⟩⟩
 done:=by
  intro X hP hw hK hc i pins s σ H E I hf st hg
  subst hP hw hK
  obtain ⟨xs,hq,hx⟩:=hg
  obtain ⟨aq,rv,p,hz⟩:=I.tuple hq
  obtain ⟨f0,f1,f2,f3,f4,f5⟩:=hf it (by simp)
  have hl:=rv.length
  exact wpAny_pyNext_tuple_end (I.ok.hd hc) st (show s.heap.IsTuple a aq.toArray from p) (by simp;omega) fun h' eb=>⟨rfl,I.turned (t':=s.toks) (fun b o hb e=>eb b o hb e) f0 f1 f3 f4 f5⟩
 self:=fun _ _ _ _ _ st h=>wpAny_pyIter_tupleiter st h
theorem qE {P:Program} {w:World} {K:PySem.W.Frag} {tg:Expr} (it:Addr) (lo:Int) (n:Nat):Turn P w K tg (G4 lo n) [it] it (fun i h=>IsRangeIter h it (lo+(i:Nat) * 1) ((n:Int) - (i:Nat)) 1) where
 mem:=by simp
 obj:=fun i h st b hb=>by
  have e:b=it:=by simpa using hb
  subst e
  exact ⟨_,st,fun v z=>by
   have z':Data.fields _=Data.cell v:=z
   cases z'⟩
 keep:=fun i h h' st k=>k it (by simp) _ st
 item:=by
  intro X hP hw hK hc i pins s σ H E I hf st hg
  subst hP hw hK
  obtain ⟨f0,f1,f2,f3,f4,f5⟩:=hf it (by simp)
  have W:=Walks.range (prog:=X.prog) (w:=X.w) (I.ok.hd hc) it lo 1 n
  refine W.item i s _ _ hg st fun v h' tk hv vY kk=>?_
  obtain ⟨t,rfl⟩:=hv
  have I1:Inv X pins σ H { s with heap:=h',toks:=tk }:=I.turned (fun b o hb e=>kk b o (by simpa using hb) e) f0 f1 f3 f4 f5
  refine ⟨_,rfl,sI (s:={ s with heap:=h',toks:=tk }) (n := "range_iterator") vY rfl rfl (by decide) ⟨.int (lo+i),H,I1,⟨t,?_⟩,⟨rfl,rfl⟩,vY,fun b hb=>(hf b hb).1⟩⟩
  rw [Int.mul_one]
 done:=by
  intro X hP hw hK hc i pins s σ H E I hf st hg
  subst hP hw hK
  obtain ⟨f0,f1,f2,f3,f4,f5⟩:=hf it (by simp)
  exact wpAny_pyNext_range_end (I.ok.hd hc) st (by have:n<=i:=hg;omega) fun h' eb=>⟨rfl,I.turned (t':=s.toks) (fun b o hb e=>eb b o hb e) f0 f1 f3 f4 f5⟩
 self:=fun _ _ _ _ _ st h=>wpAny_pyIter_rangeiter st h
section
variable {X:Cx} {tg:Expr}
def G5 (K:PySem.W.Frag) (tl:TE):TI:=fun σ H R=>tl σ H fun x H1=>∃ a,x=.ref a/\(∃ xs,d9 K H1 a xs)/\R (Mg K a) H1
def Mi (K:PySem.W.Frag) (tl:TE):TI:=fun σ H R=>tl σ H fun x H1=>∃ a,x=.ref a/\(∃ xs,eT K H1 a xs)/\R (Mh K a) H1
theorem mi {l:Expr} {tl:TE} (hl:PE X l tl):PI X tg l (G5 X.K tl):=by
 intro pins s σ H R I h
 refine bP (hl pins s σ H _ I h) ?_
 rintro v s1 ⟨x,H1,I1,r1,q1⟩
 obtain ⟨a,e,⟨xs,hq⟩,q⟩:=q1
 subst e
 cases r1
 obtain ⟨aq,rv,p,hz⟩:=I1.list hq
 refine wpAny_pyIter_list p.isList ?_
 refine ⟨s1.heap.objs.size,[s1.heap.objs.size],_,_,H1,rfl,I1.kept (t':=s1.toks) fun b o e=>fY _ e,uB a _,⟨_,k_ _ rfl,rfl,rfl⟩,fun b hb=>?_,q⟩
 have e:b=s1.heap.objs.size:=by simpa using hb
 subst e
 exact I1.uA (ba _) (I1.aV.fresh (ba _))
theorem Df {l:Expr} {tl:TE} (hl:PE X l tl):PI X tg l (Mi X.K tl):=by
 intro pins s σ H R I h
 refine bP (hl pins s σ H _ I h) ?_
 rintro v s1 ⟨x,H1,I1,r1,q1⟩
 obtain ⟨a,e,⟨xs,hq⟩,q⟩:=q1
 subst e
 cases r1
 obtain ⟨aq,rv,p,hz⟩:=I1.tuple hq
 refine wpAny_pyIter_tuple (show s1.heap.IsTuple a aq.toArray from p) ?_
 refine ⟨s1.heap.objs.size,[s1.heap.objs.size],_,_,H1,rfl,I1.kept (t':=s1.toks) fun b o e=>fY _ e,qD a _,⟨_,k_ _ rfl,rfl,rfl⟩,fun b hb=>?_,q⟩
 have e:b=s1.heap.objs.size:=by simpa using hb
 subst e
 exact I1.uA (ba _) (I1.aV.fresh (ba _))
theorem oC {pins : List (Addr × Obj)} {σ : St} {H : Hp} {s : Shared} {R : It -> Hp -> Prop} {E : Value -> Shared -> Prop} {lo hi : Int} {t u v : Tok} {tk : Nat} (I : Inv X pins σ H s) (h1 : -(2 ^ 62) <= lo) (h2 : lo < 2 ^ 62) (h3 : -(2 ^ 62) <= hi) (h4 : hi < 2 ^ 62)
    (q:R (G4 lo (hi - lo).toNat) H):wpAny (model X.prog X.w) X.A (pyIter (.ref s.heap.objs.size)) (Mf X pins σ tg R) E { s with heap:=s.heap.push { cls:=.type "range",data:=.fields #[.int lo t,.int hi u,.int 1 v] },toks:=tk }:=by
  refine wpAny_pyIter_range (IsRange.new ..) (small_one h1 h2 h3 h4) ?_
  have I1:Inv X pins σ H { s with heap:=s.heap.push { cls:=.type "range",data:=.fields #[.int lo t,.int hi u,.int 1 v] },toks:=tk }:=I.kept fun b o e=>fY _ e
  refine ⟨(s.heap.push { cls:=.type "range",data:=.fields #[.int lo t,.int hi u,.int 1 v] }).objs.size,[(s.heap.push { cls:=.type "range",data:=.fields #[.int lo t,.int hi u,.int 1 v] }).objs.size],_,_,H,rfl,
    I1.kept (t':=tk) fun b o e=>fY _ e,qE _ lo (hi - lo).toNat,?_,fun b hb=>?_,q⟩
  · have e1:lo+((0:Nat):Int) * 1=lo:=by simp
    have e2:(((hi - lo).toNat:Nat):Int) - ((0:Nat):Int)=Builtin.Range.rangeSize lo hi 1:=by rw [rangeSize_one];split <;> omega
    show IsRangeIter _ _ (lo+((0:Nat):Int) * 1) ((((hi - lo).toNat:Nat):Int) - ((0:Nat):Int)) 1
    rw [e1,e2]
    exact k_ _ rfl
  · have e:b=(s.heap.push { cls:=.type "range",data:=.fields #[.int lo t,.int hi u,.int 1 v] }).objs.size:=by simpa using hb
    subst e
    exact I1.uA (ba _) (I1.aV.fresh (ba _))
def G6 (ta:TA):TI:=fun σ H R=>ta σ H fun vs H1=>∃ j:Int,vs=[.int j]/\-(2 ^ 62)<=j/\j < 2 ^ 62/\R (G4 0 j.toNat) H1
def G7 (ta:TA):TI:=fun σ H R=>ta σ H fun vs H1=>∃ i j:Int,vs=[.int i,.int j]/\(-(2 ^ 62)<=i/\i < 2 ^ 62/\-(2 ^ 62)<=j/\j < 2 ^ 62)/\R (G4 i (j - i).toNat) H1
theorem uC {a:Expr} {ta:TA} {p pos:Pos} (hg:Gl X "range") (hm:X.mg "range" = none) (ha:PA X [a] ta) (hs:starEach [a] X.env=[(false,eval a X.env)]:=by rfl):PI X tg (.Call (.Name "range" p) [a] [] pos) (G6 ta):=by
 intro pins s σ H R I h
 refine Call_ (iy I hg hm boot_range (PyProof.Rows.callWith_type1 (bP (ha pos pins s σ H _ I h) ?_) hs rfl))
 rintro us s1 ⟨vs,H1,I1,r1,q1⟩
 obtain ⟨j,e,q1,q2,q⟩:=q1
 subst e
 cases r1 with
 | cons r rr =>
  cases rr
  obtain ⟨t,rfl⟩:=r
  exact call_range_1 (oC I1 (by omega) (by omega) q1 q2 (by simpa using q))
theorem uD {a b : Expr} {ta : TA} {p pos : Pos} (hg : Gl X "range") (hm : X.mg "range" = none) (ha : PA X [a, b] ta) (hs : starEach [a, b] X.env = [(false, eval a X.env), (false, eval b X.env)] := by rfl) (y8 : starEach [b] X.env = [(false, eval b X.env)] := by rfl) :
    PI X tg (.Call (.Name "range" p) [a,b] [] pos) (G7 ta):=by
  intro pins s σ H R I h
  refine Call_ (iy I hg hm boot_range (PyProof.Rows.callWith_type1 (bP (ha pos pins s σ H _ I h) ?_) (by rw [hs,y8]) (by rw [y8];rfl)))
  rintro us s1 ⟨vs,H1,I1,r1,q1⟩
  obtain ⟨i,j,e,⟨q1,q2,q3,q4⟩,q⟩:=q1
  subst e
  cases r1 with
  | cons r rr =>
    cases rr with
    | cons r' rr =>
      cases rr
      obtain ⟨t,rfl⟩:=r
      obtain ⟨t',rfl⟩:=r'
      exact call_range_2 (oC I1 q1 q2 q3 q4 q)
def Mj (wi:TI) (g:TG) (tb:TS):TS:=fun D σ H=>wi σ H fun J H1=>∃ W:Nat->Nat->St->Hp->Prop,(∃ m,W 0 m σ H1)/\∀ i m σ H,W i m σ H ->
 (J.stop i H/\D.nx σ H)\/(J.go i H/\∃ N:St->Hp->Prop,(∀ cg H',N cg H'->∃ m',m' < m/\W (i+1) m' cg H')/\∀ x H',J.F8 i H x H'->g x σ H' fun Dg H2=>tb { D with nx:=N,ct:=N,bk:=D.nx } Dg H2)
def iz (fp:List Addr) (h:Heap):List (Addr×Obj):=fp.filterMap fun b=>(h.get? b).map fun o=>(b,o)
theorem eU {fp:List Addr} {h:Heap} {b:Addr} {o:Obj} (hb:b∈fp) (e:h.get? b=some o):(b,o)∈iz fp h:=List.mem_filterMap.mpr ⟨b,hb,by rw [e];rfl⟩
theorem uE {fp:List Addr} {h:Heap} {p:Addr×Obj} (hp:p∈iz fp h):p.1∈fp/\h.get? p.1=some p.2:=by
 obtain ⟨b,hb,e⟩:=List.mem_filterMap.mp hp
 cases q:h.get? b with
 | none=>rw [q] at e;cases e
 | some o =>
  rw [q] at e
  have e':(b,o)=p:=e_ e
  subst e'
  exact ⟨hb,q⟩
theorem Inv.pinned {pins:List (Addr×Obj)} {σ:St} {H:Hp} {s:Shared} {fp:List Addr} (I:Inv X pins σ H s) (hf:∀ b∈fp,jg X pins H b) (ho:∀ b∈fp,∃ o,s.heap.get? b=some o/\∀ v,o.data≠.cell v):Inv X (pins++iz fp s.heap) σ H s :=
 I.l_ fun p hp=>(je.mp hp).elim (fun z=>I.pin p (List.mem_append_right _ z)) fun z=>by
  obtain ⟨hb,e⟩:=uE z
  obtain ⟨f0,f1,f2,_⟩:=hf p.1 hb
  obtain ⟨o,e',d⟩:=ho p.1 hb
  rw [e] at e';cases e'
  exact ⟨e,f0,f1,f2,d⟩
theorem Inv.ft {pins pl:List (Addr×Obj)} {σ:St} {H:Hp} {s:Shared} (I:Inv X (pins++pl) σ H s):Inv X pins σ H s:=I.l_ fun p hp=>I.pin p (List.mem_append_right _ (List.mem_append_left _ hp))
theorem Dh {iter : Expr} {body : List Stmt} {wi : TI} {g : TG} {tb : TS} {pos : Pos} (hp : PassesOwn (model X.prog X.w) X.A X.env X.xe) (hc : X.calm = true) (hi : PI X tg iter wi) (hg : PG X tg g) (hb : oz X body tb)
    (hs:∀ x,foldedSetIterable iter X.env x=pure x:=by intro _;rfl):PS X (.For tg iter body [] pos) (Mj wi g tb):=by
  intro pins s σ H D I h
  refine wpAny_For (bP (hi pins s σ H _ I h) fun v s1 h1=>bP h1 fun Km s2 h2=>?_) hs
  obtain ⟨it,fp,tn,J,H2,e,I2,T,zC,f2,W,⟨m0,w0⟩,turn⟩:=h2
  subst e
  have Di:∀ {H':Hp},(∀ b∈fp,H' b=none)->∀ b∈fp,jg X pins H' b:=fun hn b hb=>⟨hn b hb,(f2 b hb).2⟩
  refine codeAny_forLoop_any (fun n s'=>∃ i cg H',Inv X pins cg H' s'/\tn i s'.heap/\(∀ b∈fp,H' b=none)/\W i n cg H') ?_ m0 ⟨0,σ,H2,I2,zC,fun b hb=>(f2 b hb).1,w0⟩
  rintro n s3 ⟨i,zD,H3,I3,Kn,gk,w3⟩
  rcases turn i n zD H3 w3 with ⟨stop,qn⟩|⟨go,N,hN,step⟩
  · refine wpAny_passesOwn hp (bP (T.done X rfl rfl rfl hc i pins s3 zD H3 X.xe I3 (Di gk) Kn stop) ?_)
    rintro r s4 ⟨rfl,I4⟩
    exact wpAny_execs_nil ⟨zD,H3,I4,qn⟩
  · refine wpAny_passesOwn hp (bP (T.item X rfl rfl rfl hc i pins s3 zD H3 X.xe I3 (Di gk) Kn go) ?_)
    rintro r s4 ⟨u,rfl,h4⟩
    refine wpAny_passesOwn hp (bP h4 ?_)
    rintro _ s5 ⟨x,H5,I5,r5,y5,F9,jo⟩
    have Q6:=I5.pinned (Di jo) (T.obj _ _ F9)
    refine wpAny_passesOwn hp (bP (hg _ s5 zD H5 x u _ Q6 r5 (step x H5 y5)) ?_)
    rintro _ s6 ⟨Q7,H6,I6,q6⟩
    refine wpAny_passesOwn hp (bP (hb _ s6 Q7 H6 _ I6 q6) fun f s7 q7=>?_)
    have again:∀ {vZ:St} {H7:Hp},Inv X (pins++iz fp s5.heap) vZ H7 s7->N vZ H7->∃ m,m < n/\∃ i cg H',Inv X pins cg H' s7/\tn i s7.heap/\(∀ b∈fp,H' b=none)/\W i m cg H':=fun {vZ H7} I7 n7=>by
      obtain ⟨m',hm,w7⟩:=hN vZ H7 n7
      refine ⟨m',hm,i+1,vZ,H7,I7.ft,T.keep _ _ _ F9 fun b hb o e=>(I7.pin (b,o) (List.mem_append_right _ (List.mem_append_right _ (eU hb e)))).1,fun b hb=>?_,w7⟩
      obtain ⟨o,e,d⟩:=T.obj _ _ F9 b hb
      exact (I7.pin (b,o) (List.mem_append_right _ (List.mem_append_right _ (eU hb e)))).2.1
    cases f with
    | next=>obtain ⟨vZ,H7,I7,n7⟩:=q7;exact again I7 n7
    | cont=>obtain ⟨vZ,H7,I7,n7⟩:=q7;exact again I7 n7
    | brk=>obtain ⟨vZ,H7,I7,q7⟩:=q7;exact ⟨vZ,H7,I7.ft,q7⟩
    | ret v=>obtain ⟨x7,vZ,H7,I7,r7,q7⟩:=q7;exact ⟨x7,vZ,H7,I7.ft,r7,q7⟩
end
abbrev R2:=V->V->Hp->VK->Prop
def fZ (X:Cx) (f:Value->Value->Sem Value) (r:R2):Prop :=
 ∀ (pins:List (Addr×Obj)) (s:Shared) (σ:St) (H:Hp) (x y:V) (v u:Value) (Q:VK),Inv X pins σ H s->RelV x v->RelV y u->r x y H Q ->
  wpAny (model X.prog X.w) X.A (f v u) (EP X pins σ Q) X.xe s
def Mk (X:Cx) (f:Value->Sem Value) (r:V->Hp->VK->Prop):Prop :=
 ∀ (pins:List (Addr×Obj)) (s:Shared) (σ:St) (H:Hp) (x:V) (v:Value) (Q:VK),Inv X pins σ H s->RelV x v->r x H Q ->
  wpAny (model X.prog X.w) X.A (f v) (EP X pins σ Q) X.xe s
def cI (X:Cx) (f:Value) (r:List V->Hp->VK->Prop):Prop :=
 ∀ (pins:List (Addr×Obj)) (s:Shared) (σ:St) (H:Hp) (xs:List V) (us:List Value) (Q:VK),Inv X pins σ H s->Vals xs us->r xs H Q ->
  wpAny (model X.prog X.w) X.A (call f us) (EP X pins σ Q) X.xe s
def Ml (X:Cx) (r:V->Hp->(Bool->Hp->Prop)->Prop):Prop :=
 ∀ (pins:List (Addr×Obj)) (s:Shared) (σ:St) (H:Hp) (x:V) (v:Value) (Q:Bool->Hp->Prop),Inv X pins σ H s->RelV x v->r x H Q ->
  wpAny (model X.prog X.w) X.A (truthy v) (TP X pins σ Q) X.xe s
def y9 (r:R2) (ta tb:TE):TE:=fun σ H Q=>ta σ H fun x H1=>tb σ H1 fun y H2=>r x y H2 Q
def Q8 (r:V->Hp->VK->Prop) (ta:TE):TE:=fun σ H Q=>ta σ H fun x H1=>r x H1 Q
def rI (C:Int->Int->Prop) (g:Int->Int->V):R2:=fun x y H Q=>∃ i j,x=.int i/\y=.int j/\C i j/\Q (g i j) H
def B3 (g:Int->Int->V):R2:=fun x y H Q=>∃ i j,x=.int i/\y=.int j/\Q (g i j) H
def rU (g:Int->V):V->Hp->VK->Prop:=fun x H Q=>∃ i,x=.int i/\Q (g i) H
section
variable {X:Cx} {a b c:Expr} {ta tb tc:TE} {pos:Pos}
theorem Dj (ha : PE X a ta) (hb : PE X b tb) {pins : List (Addr × Obj)} {s : Shared} {σ : St} {H : Hp} {R : V -> V -> Hp -> Prop} (I : Inv X pins σ H s)
    (h:ta σ H fun x H1=>tb σ H1 fun y H2=>R x y H2) {Q:Value->Shared->Prop} {f:Value->Value->Sem Value}
    (hf:∀ v u s2 x y H2,Inv X pins σ H2 s2->RelV x v->RelV y u->R x y H2->wpAny (model X.prog X.w) X.A (f v u) Q X.xe s2) :
    wpAny (model X.prog X.w) X.A (eval a X.env) (fun v bb=>wpAny (model X.prog X.w) X.A (eval b X.env) (fun u uy=>wpAny (model X.prog X.w) X.A (f v u) Q X.xe uy) X.xe bb) X.xe s:=by
  refine bP (ha pins s σ H _ I h) ?_
  rintro v s1 ⟨x,H1,I1,r1,q1⟩
  refine bP (hb pins s1 σ H1 _ I1 q1) ?_
  rintro u s2 ⟨y,H2,I2,r2,q2⟩
  exact hf v u s2 x y H2 I2 r1 r2 q2
theorem G8 {op:Operator} {r:R2} (ho:fZ X (binaryOp op) r) (ha:PE X a ta) (hb:PE X b tb):PE X (.BinOp a op b pos) (y9 r ta tb):=by
 intro pins s σ H Q I h
 exact wpAny_BinOp (Dj ha hb I h fun v u s2 x y H2 I2 rx ry q=>ho pins s2 σ H2 x y v u Q I2 rx ry q)
theorem B4 {op:UnaryOp} {r:V->Hp->VK->Prop} (ho:Mk X (unaryOp op) r) (ha:PE X a ta):PE X (.UnaryOp op a pos) (Q8 r ta):=by
 intro pins s σ H Q I h
 exact UnaryOp_ (bP (ha pins s σ H _ I h) fun v s1 ⟨x,H1,I1,r1,q1⟩=>ho pins s1 σ H1 x v Q I1 r1 q1)
theorem Ko {f : Value -> Value -> Sem Value} {C : Int -> Int -> Prop} {g : Int -> Int -> Int}
    (rule:∀ (i j:Int) (t u:Tok) (s:Shared) (Q:Value->Shared->Prop) (E:Value->Shared->Prop),C i j->Q (.int (g i j) s.toks) { s with toks:=s.toks+1 }->wpAny (model X.prog X.w) X.A (f (.int i t) (.int j u)) Q E s) :
    fZ X f (rI C fun i j=>.int (g i j)):=by
  intro pins s σ H x y v u Q I rx ry h
  obtain ⟨i,j,rfl,rfl,hc,q⟩:=h
  obtain ⟨t,rfl⟩:=rx
  obtain ⟨t',rfl⟩:=ry
  exact rule i j t t' s _ _ hc ⟨.int (g i j),H,I.tok _,⟨_,rfl⟩,q⟩
theorem G9 {f : Value -> Value -> Sem Value} {g : Int -> Int -> Int}
    (rule:∀ (i j:Int) (t u:Tok) (s:Shared) (Q:Value->Shared->Prop) (E:Value->Shared->Prop),Q (.int (g i j) s.toks) { s with toks:=s.toks+1 }->wpAny (model X.prog X.w) X.A (f (.int i t) (.int j u)) Q E s) :
    fZ X f (B3 fun i j=>.int (g i j)):=by
  intro pins s σ H x y v u Q I rx ry h
  obtain ⟨i,j,rfl,rfl,q⟩:=h
  obtain ⟨t,rfl⟩:=rx
  obtain ⟨t',rfl⟩:=ry
  exact rule i j t t' s _ _ ⟨.int (g i j),H,I.tok _,⟨_,rfl⟩,q⟩
theorem zE {f : Value -> Value -> Sem Value} {g : Int -> Int -> Bool}
    (rule:∀ (i j:Int) (t u:Tok) (s:Shared) (Q:Value->Shared->Prop) (E:Value->Shared->Prop),Q (.bool (g i j)) s->wpAny (model X.prog X.w) X.A (f (.int i t) (.int j u)) Q E s) :
    fZ X f (B3 fun i j=>.bl (g i j)):=by
  intro pins s σ H x y v u Q I rx ry h
  obtain ⟨i,j,rfl,rfl,q⟩:=h
  obtain ⟨t,rfl⟩:=rx
  obtain ⟨t',rfl⟩:=ry
  exact rule i j t t' s _ _ ⟨.bl (g i j),H,I,rfl,q⟩
def Mm (i j:Int):Prop:=0 < j/\j < 1073741824
def Mn (i j:Int):Prop:=0<=j/\j<=1000000/\i.natAbs < 2 ^ 64
def Dk (i j:Int):Prop:=(-(2 ^ 64) < i/\i < 2 ^ 64)\/(-(2 ^ 64) < j/\j < 2 ^ 64)
theorem Dk.ok {i j:Int} (h:Dk i j):IntMulOk i j:=by
 rcases h with ⟨h1,h2⟩|⟨h1,h2⟩
 ·exact .of_left (intBits_le_64 h1 h2)
 ·exact .of_right (intBits_le_64 h1 h2)
theorem Dl:fZ X (binaryOp .Add) (B3 fun i j=>.int (i+j)):=G9 fun _ _ _ _ _ _ _ q=>add_int q
theorem Dm:fZ X (binaryOp .Sub) (B3 fun i j=>.int (i - j)):=G9 fun _ _ _ _ _ _ _ q=>sub_int q
theorem Dp:fZ X (binaryOp .Mult) (rI Dk fun i j=>.int (i * j)):=Ko fun _ _ _ _ _ _ _ hc q=>mul_int q hc.ok
theorem zF:fZ X (binaryOp .FloorDiv) (rI Mm fun i j=>.int (i / j)):=Ko fun i j _ _ _ _ _ hc q=>by
 have h1:(0:Int) < j:=hc.1
 have h2:j < 1073741824:=hc.2
 exact floordiv_int (by omega) (by rw [Int.fdiv_eq_ediv_of_nonneg i (by omega)];exact q) (.inl (PyProof.noPylong_small (by omega)))
theorem Dq:fZ X (binaryOp .Mod) (rI (fun _ j=>0 < j) fun i j=>.int (i % j)):=Ko fun i j _ _ _ _ _ hc q=>by
 have h1:(0:Int) < j:=hc
 exact mod_int' (by omega) (by rw [Int.fmod_eq_emod_of_nonneg i (by omega)];exact q)
theorem Dr:fZ X (binaryOp .Pow) (rI Mn fun i j=>.int (i ^ j.toNat)):=Ko fun _ _ _ _ _ _ _ hc q=>pow_int_small hc.1 hc.2.1 hc.2.2 q
theorem Q9 {f : Value -> Sem Value} {g : Int -> Int}
    (rule:∀ (i:Int) (t:Tok) (s:Shared) (Q:Value->Shared->Prop) (E:Value->Shared->Prop),Q (.int (g i) s.toks) { s with toks:=s.toks+1 }->wpAny (model X.prog X.w) X.A (f (.int i t)) Q E s) :
    Mk X f (rU fun i=>.int (g i)):=by
  intro pins s σ H x v Q I rx h
  obtain ⟨i,rfl,q⟩:=h
  obtain ⟨t,rfl⟩:=rx
  exact rule i t s _ _ ⟨.int (g i),H,I.tok _,⟨_,rfl⟩,q⟩
theorem v3:Mk X (unaryOp .USub) (rU fun i=>.int (-i)):=Q9 fun _ _ _ _ _ q=>neg_int q
end
section
variable {X:Cx} {a b c:Expr} {ta tb tc:TE} {pos:Pos}
theorem jO {pins:List (Addr×Obj)} {σ:St} {H:Hp} {s:Shared} {Q:VK} {k k':Bool} (I:Inv X pins σ H s) (q:Q (.bl k) H) (e:k=k'):EP X pins σ Q (.bool k') s:=by
 subst e
 exact ⟨.bl k,H,I,rfl,q⟩
theorem G_:fZ X (compareOp .Lt) (B3 fun i j=>.bl (decide (i < j))):=zE fun _ _ _ _ _ _ _ q=>lt_int q
theorem Ha:fZ X (compareOp .LtE) (B3 fun i j=>.bl (decide (i<=j))):=zE fun _ _ _ _ _ _ _ q=>le_int q
theorem Hb:fZ X (compareOp .Gt) (B3 fun i j=>.bl (decide (j < i))):=zE fun _ _ _ _ _ _ _ q=>gt_int q
theorem Hc:fZ X (compareOp .GtE) (B3 fun i j=>.bl (decide (j<=i))):=zE fun _ _ _ _ _ _ _ q=>ge_int q
theorem uF:fZ X (compareOp .Lt) (fun x y H Q=>∃ i j,x=.str i/\y=.str j/\Q (.bl (decide (i.cps.toList < j.cps.toList))) H):=by
 intro pins s σ H x y v u Q I rx ry h
 obtain ⟨i,j,rfl,rfl,q⟩:=h
 obtain ⟨t,rfl⟩:=rx
 obtain ⟨t',rfl⟩:=ry
 exact lt_str (jO I q rfl)
theorem Ds:fZ X (compareOp .Is) (fun x y H Q=>y=.az/\Q (.bl (decide (x=.az))) H):=by
 intro pins s σ H x y v u Q I rx ry h
 obtain ⟨rfl,q⟩:=h
 cases ry
 refine is_none_gen (jO I q ?_)
 cases x <;> first
  | (cases rx;rfl)
  | (obtain ⟨t,rfl⟩:=rx;rfl)
theorem zG:fZ X (compareOp .IsNot) (fun x y H Q=>y=.az/\Q (.bl (!decide (x=.az))) H):=by
 intro pins s σ H x y v u Q I rx ry h
 obtain ⟨rfl,q⟩:=h
 cases ry
 refine isnot_none_gen (jO I q ?_)
 cases x <;> first
  | (cases rx;rfl)
  | (obtain ⟨t,rfl⟩:=rx;rfl)
theorem jq {op:CmpOp} {r:R2} (ho:fZ X (compareOp op) r) (ha:PE X a ta) (hb:PE X b tb) (hm:behindInMarks op b=false):PE X (.Compare a [op] [b] pos) (y9 r ta tb):=by
 intro pins s σ H Q I h
 exact wpAny_Compare1 (Dj ha hb I h fun v u s2 x y H2 I2 rx ry q=>ho pins s2 σ H2 x y v u Q I2 rx ry q) hm
def fu (t:TE):TT:=fun σ H Q=>t σ H fun x H'=>∃ k,x=.bl k/\Q k H'
theorem jr {op:CmpOp} {r:R2} (ho:fZ X (compareOp op) r) (ha:PE X a ta) (hb:PE X b tb) (hm:behindInMarks op b=false):PT X (.Compare a [op] [b] pos) (fu (y9 r ta tb)):=by
 intro pins s σ H Q I h
 refine wpAny_isTrue_Compare1 (bP (ha pins s σ H _ I h) fun v s1 ⟨x,H1,I1,r1,q1⟩=>bP (hb pins s1 σ H1 _ I1 q1) fun u s2 ⟨y,H2,I2,r2,q2⟩ =>
  bP (ho pins s2 σ H2 x y v u _ I2 r1 r2 q2) fun c s3 ⟨z,H3,I3,r3,k,e,q3⟩=>?_) hm
 subst e
 cases r3
 exact wpAny_truthy_bool ⟨H3,I3,q3⟩
def qF (r r':R2) (ta tb tc:TE):TE:=fun σ H Q=>ta σ H fun x H1=>tb σ H1 fun y H2=>r x y H2 fun z H3=>∃ k,z=.bl k /\
 (if k=true then tc σ H3 fun w' H4=>r' y w' H4 Q else Q (.bl false) H3)
theorem v5 {op Dt : CmpOp} {r r' : R2} (ho : fZ X (compareOp op) r) (sE : fZ X (compareOp Dt) r') (ha : PE X a ta) (hb : PE X b tb) (hc : PE X c tc)
    (hm:lastMarks [op,Dt] [b,c]=false:=by with_unfolding_all rfl):PE X (.Compare a [op,Dt] [b,c] pos) (qF r r' ta tb tc):=by
  intro pins s σ H Q I h
  refine Compare_chain (bP (ha pins s σ H _ I h) fun v s1 ⟨x,H1,I1,r1,q1⟩=>chain_link (bP (hb pins s1 σ H1 _ I1 q1) fun u s2 ⟨y,H2,I2,r2,q2⟩ =>
    bP (ho pins s2 σ H2 x y v u _ I2 r1 r2 q2) fun d s3 ⟨z,H3,I3,r3,k,e,q3⟩=>?_)) hm
  subst e
  cases r3
  refine wpAny_truthy_bool ?_
  cases k with
  | false=>exact ite_ff ⟨.bl false,H3,I3,rfl,q3⟩
  | true=>exact ite_tt (chain_last (bP (hc pins s3 σ H3 _ I3 q3) fun w' s4 ⟨z',H4,I4,r4,q4⟩=>sE pins s4 σ H4 y z' u w' Q I4 r2 r4 q4))
theorem v7 {op Dt : CmpOp} {r r' : R2} (ho : fZ X (compareOp op) r) (sE : fZ X (compareOp Dt) r') (ha : PE X a ta) (hb : PE X b tb) (hc : PE X c tc)
    (hm:lastMarks [op,Dt] [b,c]=false:=by with_unfolding_all rfl):PT X (.Compare a [op,Dt] [b,c] pos) (fu (qF r r' ta tb tc)):=by
  intro pins s σ H Q I h
  refine isTrue_chain (bP (ha pins s σ H _ I h) fun v s1 ⟨x,H1,I1,r1,q1⟩=>test_link (bP (hb pins s1 σ H1 _ I1 q1) fun u s2 ⟨y,H2,I2,r2,q2⟩ =>
    bP (ho pins s2 σ H2 x y v u _ I2 r1 r2 q2) fun d s3 ⟨z,H3,I3,r3,k,e,q3⟩=>?_)) hm
  subst e
  cases r3
  refine wpAny_truthy_bool ?_
  cases k with
  | false =>
    obtain ⟨k',e',q'⟩:=q3
    cases e'
    exact ite_ff ⟨H3,I3,q'⟩
  | true =>
    refine ite_tt (test_last (bP (hc pins s3 σ H3 _ I3 q3) fun w' s4 ⟨z',H4,I4,r4,q4⟩=>bP (sE pins s4 σ H4 y z' u w' _ I4 r2 r4 q4) fun d' s5 ⟨z2,H5,I5,r5,k2,e2,q5⟩=>?_))
    subst e2
    cases r5
    exact wpAny_truthy_bool ⟨H5,I5,q5⟩
def v8 (K:PySem.W.Frag) (x:V) (H:Hp) (k:Bool):Prop :=
 match x with
 | .az=>k=false
 | .bl b=>k=b
 | .int i=>k=(i != 0)
 | .str y=>y.length<=sizeLine/\k=((y.length:Int) != 0)
 | .GF y=>y.size<=sizeLine/\k=((y.size:Int) != 0)
 | .ref p=>(∃ xs,d9 K H p xs/\k=!xs.isEmpty)\/(∃ xs,eT K H p xs/\k=!xs.isEmpty)\/∃ aa,H p=some (.dK aa)/\k=!aa.isEmpty
 | _=>False
theorem qG {κ:Type} {aa:List (κ×V)} {vs:List (κ×Value)} (r:KV aa vs):(!vs.isEmpty)=!aa.isEmpty:=by
 cases r <;> rfl
theorem jP {xs:List V} {aq:List Value} (r:Vals xs aq):(!aq.toArray.isEmpty)=!xs.isEmpty:=by
 cases r <;> simp
theorem gD:(sizeLine:Nat) < 2 ^ 63:=by rw [sizeLine_eq];decide
theorem Du:Ml X (fun x H Q=>∃ k,v8 X.K x H k/\Q k H):=by
 intro pins s σ H x v Q I rx h
 obtain ⟨k,e,q⟩:=h
 have hl:=gD
 have hs:sizeLine=16777216:=sizeLine_eq
 cases x with
 | az =>
  cases rx
  have e':k=false:=e
  subst e'
  exact truthy_none ⟨H,I,q⟩
 | bl b =>
  cases rx
  have e':k=b:=e
  subst e'
  exact wpAny_truthy_bool ⟨H,I,q⟩
 | int i =>
  obtain ⟨t,rfl⟩:=rx
  have e':k=(i != 0):=e
  subst e'
  exact PySem.P.truthy_int ⟨H,I,q⟩
 | str y =>
  obtain ⟨t,rfl⟩:=rx
  obtain ⟨hy,e'⟩:y.length<=sizeLine/\k=((y.length:Int) != 0):=e
  subst e'
  exact PySem.P.truthy_str (by omega) ⟨H,I.tok _,q⟩
 | GF y =>
  obtain ⟨t,rfl⟩:=rx
  obtain ⟨hy,e'⟩:y.size<=sizeLine/\k=((y.size:Int) != 0):=e
  subst e'
  exact PySem.W.truthy_bytes (by omega) ⟨H,I.tok _,q⟩
 | ref p =>
  cases rx
  have e':(∃ xs,d9 X.K H p xs/\k=!xs.isEmpty)\/(∃ xs,eT X.K H p xs/\k=!xs.isEmpty)\/∃ aa,H p=some (.dK aa)/\k=!aa.isEmpty:=e
  rcases e' with ⟨xs,hx,e'⟩|⟨xs,hx,e'⟩|⟨aa,hx,e'⟩
  ·subst e'
   obtain ⟨aq,r,pl,hz⟩:=I.list hx
   have hlen:=r.length
   exact wpAny_truthy_list pl.isList (by simp only [gi];omega) ⟨H,I.tok _,by rw [jP r];exact q⟩
  ·subst e'
   obtain ⟨aq,r,pl,hz⟩:=I.tuple hx
   have hlen:=r.length
   exact truthy_tuple pl (by simp only [gi];omega) ⟨H,I.tok _,by rw [jP r];exact q⟩
  ·subst e'
   obtain ⟨hz,hS,vs,r,m⟩:aa.length<=sizeLine/\(p == sysModules)=false/\∃ vs,KV aa vs/\s.heap.DictOf (aN X.prog X.w) p vs:=I.aV p _ hx
   have hlen:aa.length=vs.length:=Paired.length r
   exact wpAny_truthy_dict hS m (by omega) ⟨H,I.tok _,by rw [qG r];exact q⟩
 | _=>exact (show False from e).elim
theorem v9 (ha : PE X a ta) (he : ∀ whole, isTrue a X.env whole = (do let v <- whole; standAt a.pos; holding [v] (truthy v))) :
    PT X a (fun σ H Q=>ta σ H fun x H'=>∃ k,v8 X.K x H' k/\Q k H'):=by
  intro pins s σ H Q I h
  exact isTrue_plain (bP (ha pins s σ H _ I h) fun v s1 ⟨x,H1,I1,r1,q1⟩=>Du pins s1 σ H1 x v Q I1 r1 q1) (he _)
theorem vals1 {x:V} {us:List Value} (r:Vals [x] us):∃ u,us=[u]/\RelV x u:=by
 cases r with
 | cons r1 r2=>cases r2;exact ⟨_,rfl,r1⟩
theorem vals2 {x y:V} {us:List Value} (r:Vals [x,y] us):∃ u w',us=[u,w']/\RelV x u/\RelV y w':=by
 cases r with
 | cons r1 r2 =>
  cases r2 with
  | cons r3 r4=>cases r4;exact ⟨_,_,rfl,r1,r3⟩
theorem uG (hc:X.calm=true):cI X (.builtin "max") (fun xs H Q=>∃ i j,xs=[.int i,.int j]/\Q (.int (if j > i then j else i)) H):=by
 intro pins s σ H xs us Q I r h
 obtain ⟨i,j,rfl,q⟩:=h
 obtain ⟨u,w',rfl,⟨t,rfl⟩,⟨t',rfl⟩⟩:=vals2 r
 refine max_two_ints (I.ok.hd hc) fun h' tk k=>⟨_,H,I.kept k,?_,q⟩
 by_cases hj:j > i
 ·rw [if_pos hj,if_pos hj];exact ⟨_,rfl⟩
 ·rw [if_neg hj,if_neg hj];exact ⟨_,rfl⟩
theorem uH (hc:X.calm=true):cI X (.builtin "min") (fun xs H Q=>∃ i j,xs=[.int i,.int j]/\Q (.int (if j < i then j else i)) H):=by
 intro pins s σ H xs us Q I r h
 obtain ⟨i,j,rfl,q⟩:=h
 obtain ⟨u,w',rfl,⟨t,rfl⟩,⟨t',rfl⟩⟩:=vals2 r
 refine min_two_ints (I.ok.hd hc) fun h' tk k=>⟨_,H,I.kept k,?_,q⟩
 by_cases hj:j < i
 ·rw [if_pos hj,if_pos hj];exact ⟨_,rfl⟩
 ·rw [if_neg hj,if_neg hj];exact ⟨_,rfl⟩
theorem lj:cI X (.type "int") (fun xs H Q=>(∃ i,xs=[.int i]/\Q (.int i) H)\/∃ k,xs=[.bl k]/\Q (.int (if k then 1 else 0)) H):=by
 intro pins s σ H xs us Q I r h
 rcases h with ⟨i,rfl,q⟩|⟨k,rfl,q⟩
 ·obtain ⟨u,rfl,t,rfl⟩:=vals1 r
  exact call_int_int ⟨.int i,H,I,⟨_,rfl⟩,q⟩
 ·obtain ⟨u,rfl,r1⟩:=vals1 r
  cases r1
  exact call_int_bool ⟨.int (if k then 1 else 0),H,I.tok _,⟨_,rfl⟩,q⟩
end
structure zH (h:Heap) (x dx C:Addr) (mA:Str->Option Value):Prop where
 obj:h.get? x=some (PySem.W.instObj C dx)
 ns:h.Ns1 dx mA
 ne:dx≠x
theorem uI {h:Heap} {dx:Addr} {mA:Str->Option Value} (n:h.Ns1 dx mA):∃ od,h.get? dx=some od/\∀ name,PySem.W.lookIn name od=some (mA name):=by
 obtain ⟨o,es,ep,ho,hd,hk,_,hm⟩:=n
 refine ⟨o,ho,fun name=>?_⟩
 have e:=hm name
 unfold nsFind findBy at e
 rw [<- Array.find?_toList] at e
 unfold PySem.W.lookIn
 rw [hd]
 dsimp only
 split
 ·rename_i y q
  rw [q] at e
  exact congrArg some e
 ·rename_i q
  rw [q] at e
  have a:es.toList.any (·.refKey)=false:=by
   rw [List.any_eq_false]
   intro y hy
   obtain ⟨z,t,Dv⟩:=hk y (Array.mem_toList_iff.mp hy)
   simp [DictEntry.refKey,Dv]
  have a':¬ es.toList.any (·.refKey)=true:=by rw [a];exact bO
  rw [if_neg a']
  exact congrArg some e
theorem zH.look {h:Heap} {x dx C:Addr} {mA:Str->Option Value} (I:zH h x dx C mA):∃ od,PySem.W.InstAt h x (PySem.W.instObj C dx) C (some od)/\∀ name,PySem.W.lookIn name od=some (mA name) :=
 let ⟨od,ho,hl⟩:=uI I.ns
 ⟨od,⟨I.obj,rfl,rfl,ho⟩,hl⟩
section
variable {prog:Program} {w:World} {A:Around} {E:Value->Shared->Prop} {s:Shared} {K:PySem.W.Frag} {x dx C f:Addr} {mA:Str->Option Value} {name:Str} {v:Value}
theorem get_map {expr : Bool} {Q : Value -> Shared -> Prop} (X : K.In s.heap) (I : zH s.heap x dx C mA) (hg : PySem.W.plainGet K C name = true) (hh : PySem.W.hasDictIn K C = true)
    (ha:PySem.W.findIn K (.ref C) name=some none) (hv:mA name=some v) (Hd:PySem.W.handedIn v=true) (h:Q v { s with toks:=s.toks+1 }) :
    wpAny (model prog w) A (getAttr (.ref x) name expr) Q E s:=by
  obtain ⟨od,J,hl⟩:=I.look
  exact PySem.W.get_value X J (PySem.W.plainGet_of hg).1 (PySem.W.findObj_own hh ha rfl (by rw [hl,hv])) Hd h
end
theorem gB.some_of {v:V} {o:Option Value} (r:gB (some v) o):∃ u,o=some u/\RelV v u:=by
 cases o with
 | none=>exact (show False from r).elim
 | some u=>exact ⟨u,rfl,r⟩
theorem gB.none_of {o:Option Value} (r:gB none o):o=none:=by
 cases o with
 | none=>rfl
 | some u=>exact (show False from r).elim
section
variable {P:Program} {w:World} {H H':Hp} {h h':Heap} {a C dx:Addr} {fs Q0:List (Str×V)}
theorem zI (aV:gC P w H h) (e:H a=some (.ins C dx fs)):∃ mA,zH h a dx C mA/\(∀ f,gB (fs.lookup f) (mA f))/\PySem.Within mA (fs.map (·.1))/\fs.length<=1000/\H dx=some (.own a):=by
 obtain ⟨d,z,ne,ob,mA,n,r,q⟩:=(show aY P w H h a (.ins C dx fs) from aV a _ e)
 exact ⟨mA,⟨ob,n,ne⟩,r,q,z,d⟩
end
structure Mo (K:PySem.W.Frag) (C:Addr):Prop where
 pg:PySem.W.plainGet K C Str.empty=true
 hd:PySem.W.hasDictIn K C=true
 po:PySem.W.plainOver K C=true
 sa:PySem.W.findIn K (.ref C) "__setattr__" = some (some (.builtin "object.__setattr__"))
theorem Mo.get {K:PySem.W.Frag} {C:Addr} (c:Mo K C) (f:Str):PySem.W.plainGet K C f=true:=c.pg
section
variable {X:Cx} {o e value:Expr} {f:Str} {pos pos' Q_:Pos} {ta tv:TE}
def He:V->V->Hp->VK->Prop:=fun x y H Q=>∃ i j,x=.int i/\y=.int j/\Q (.int (i - j)) H
end
section
variable {X:Cx} {pins:List (Addr×Obj)} {σ:St} {H:Hp} {s:Shared} {A:Around} {E:Value->Shared->Prop} {Q:Value->Shared->Prop} {c:Value} {b:Bool}
inductive iB (K:PySem.W.Frag) (H:Hp):V->Value->Prop where
  | az:iB K H .az (.type "NoneType")
  | bl (x:Bool):iB K H (.bl x) (.type "bool")
  | int (i:Int):iB K H (.int i) (.type "int")
  | str (x:Str):iB K H (.str x) (.type "str")
  | F4 (x:UInt64):iB K H (.F4 x) (.type "float")
  | lst {a:Addr} {xs:List V} (e:H a=some (.lst xs)):iB K H (.ref a) (.type "list")
  | dc {a:Addr} {o:Obj} {xs:List V} (e:H a=some (.dc o (.lst xs))):iB K H (.ref a) (.type "list")
  | tup {a:Addr} {xs:List V} (e:H a=some (.tup xs)):iB K H (.ref a) (.type "tuple")
  | dK {a:Addr} {aa:List (Key×V)} (e:H a=some (.dK aa)):iB K H (.ref a) (.type "dict")
  | dT {a:Addr} {aa:List (List Key×V)} (e:H a=some (.dT aa)):iB K H (.ref a) (.type "dict")
  | ins {a C dx : Addr} {fs : List (Str × V)} (e : H a = some (.ins C dx fs)) (cl : Mo K C) (ha : PySem.W.findIn K (.ref C) "__class__" = some (some (.builtin "object.__class__")))
      (hn:PySem.W.specialIn K (.builtin "object.__class__") "__get__" = some (some (.builtin "getset_descriptor.__get__"))) (OO:PySem.W.takesIn K (.builtin "object.__class__")=some true)
      (hm:PySem.W.mroIn K C (.type "object")=some true):iB K H (.ref a) (.ref C)
theorem uJ {x : V} {u t : Value} (I : Inv X pins σ H s) (rx : RelV x u) (ty : iB X.K H x t) (e : PySem.W.kitOne X.K t c = some b) (h : ∀ tk, Q (.bool b) { s with toks := tk }) :
    wpAny (model X.prog X.w) A (call (.builtin "isinstance") [u,c]) Q E s:=by
  cases ty with
  | az=>cases (show u=Value.none from rx);exact PySem.W.kia_one PySem.W.kitx_none I.ow True.intro e (fun z=>nomatch z) h
  | bl y=>cases (show u=Value.bool y from rx);exact PySem.W.kia_one PySem.W.kitx_bool I.ow True.intro e (fun z=>nomatch z) h
  | int i=>obtain ⟨t,q⟩:=(show ∃ t,u=Value.int i t from rx);cases q;exact PySem.W.kia_one PySem.W.kitx_int I.ow True.intro e (fun z=>nomatch z) h
  | str y=>obtain ⟨t,q⟩:=(show ∃ t,u=Value.str y t from rx);cases q;exact PySem.W.kia_one PySem.W.kitx_str I.ow True.intro e (fun z=>nomatch z) h
  | F4 y=>obtain ⟨t,q⟩:=(show ∃ t,u=Value.float y t from rx);cases q;exact PySem.W.kia_one PySem.W.kitx_float I.ow True.intro e (fun z=>nomatch z) h
  | @lst a xs ea =>
    cases (show u=Value.ref a from rx)
    obtain ⟨_,_,n,_,h1⟩:=(show aY X.prog X.w H s.heap a (.lst xs) from I.aV a _ ea)
    exact PySem.W.kia_one PySem.W.kitx_list I.ow ⟨_,h1,rfl⟩ e (fun z=>nomatch z) h
  | @dc a ob xs ea =>
    cases (show u=Value.ref a from rx)
    obtain ⟨_,_,_,n,_,h1⟩:=(show aY X.prog X.w H s.heap a (.dc ob (.lst xs)) from I.aV a _ ea)
    exact PySem.W.kia_one PySem.W.kitx_list I.ow ⟨_,h1,rfl⟩ e (fun z=>nomatch z) h
  | @tup a xs ea =>
    cases (show u=Value.ref a from rx)
    obtain ⟨_,_,_,p⟩:=(show aY X.prog X.w H s.heap a (.tup xs) from I.aV a _ ea)
    obtain ⟨o,h1,h2,_⟩:=p
    exact PySem.W.kia_one PySem.W.kitx_tuple I.ow ⟨o,h1,h2⟩ e (fun z=>nomatch z) h
  | @dK a aa ea =>
    cases (show u=Value.ref a from rx)
    obtain ⟨_,_,vs,_,p⟩:=(show aY X.prog X.w H s.heap a (.dK aa) from I.aV a _ ea)
    obtain ⟨o,es,ep,h1,h2,_⟩:=p
    exact PySem.W.kia_one PySem.W.kitx_dict I.ow ⟨o,h1,h2.1⟩ e (fun z=>nomatch z) h
  | @dT a aa ea =>
    cases (show u=Value.ref a from rx)
    obtain ⟨_,_,xs,_,o,es,ep,h1,h2,_⟩:=(show aY X.prog X.w H s.heap a (.dT aa) from I.aV a _ ea)
    exact PySem.W.kia_one PySem.W.kitx_dict I.ow ⟨o,h1,h2.1⟩ e (fun z=>nomatch z) h
  | @ins a C dx fs ea cl ha hn OO hm =>
    cases (show u=Value.ref a from rx)
    obtain ⟨mA,O,_⟩:=zI I.aV ea
    obtain ⟨od,J,_⟩:=O.look
    exact PySem.W.kia_one (PySem.W.kitx_own (cl.get _) cl.hd ha hn OO hm) I.ow J e (fun z=>nomatch z) h
end
structure fv (k:Nat) (A:Around):Prop where
 hd:A.handled=none
 dp:A.depth+3 * k+5 < recursionLimit
 un:A.units+16 * k+200 < cLine
 gd:A.guards=some []
theorem fv.mono {j k:Nat} {A:Around} (r:fv k A) (h:j<=k):fv j A:=⟨r.hd,by have:=r.dp;omega,by have:=r.un;omega,r.gd⟩
theorem fv.deeper {k:Nat} {A:Around} (r:fv (k+1) A) (env:Env):fv k (A.deeper env) :=
 ⟨r.hd,by have:=r.dp;show A.depth+1+3 * k+5 < _;omega,by have:=r.un;show A.units+3+16 * k+200 < _;omega,r.gd⟩
theorem fv.depth {k:Nat} {A:Around} (r:fv k A):A.depth < recursionLimit:=by have:=r.dp;omega
def Mp:TA:=fun _ H Q=>Q [] H
def Hf (ta:TE) (tr:TA):TA:=fun σ H Q=>ta σ H fun x H1=>tr σ H1 fun xs H2=>Q (x::xs) H2
section
variable {X:Cx} {e:Expr} {es:List Expr} {te:TE} {t:TA} {pos:Pos}
theorem gE:PA X [] Mp:=fun _ _ _ _ H Q I h=>Calls.spliced_nil ⟨[],H,I,.nil,h⟩
theorem dA (ha:PE X e te) (hr:PA X es t) (hs:starEach (e::es) X.env=(false,eval e X.env)::starEach es X.env:=by rfl):PA X (e::es) (Hf te t):=by
 intro pos pins s σ H Q I h
 rw [hs]
 show wpAny _ _ (spliced ((false,eval e X.env)::backTo pos (starEach es X.env))) _ _ s
 refine Calls.spliced_cons (bP (ha pins s σ H _ I h) ?_)
 rintro u s1 ⟨x,H1,I1,r1,q1⟩
 exact bP (hr pos pins s1 σ H1 _ I1 q1) fun us s2 ⟨xs,H2,I2,r2,q2⟩=>⟨x::xs,H2,I2,.cons r1 r2,q2⟩
def Mq (t:TA):TE:=fun σ H Q=>t σ H fun xs H1=>xs.length<=sizeLine/\∀ p,H1 p=none->Q (.ref p) (upd H1 p (.tup xs))
def Mr (t:TA):TE:=fun σ H Q=>t σ H fun xs H1=>xs.length<=sizeLine/\∀ p,H1 p=none->Q (.ref p) (upd H1 p (.lst xs))
theorem Dw {x1} (h:PA X es t):PE X (.Tuple es x1 pos) (Mq t):=by
 intro pins s σ H Q I hq
 refine wpAny_Tuple_spliced (bP (h pos pins s σ H _ I hq) fun us s1 ⟨xs,H1,I1,r,z,q⟩=>⟨by rw [<- r.length];exact z,?_⟩)
 have hf:H1 s1.heap.objs.size=none:=I1.aV.fresh (ba _)
 refine ⟨.ref s1.heap.objs.size,upd H1 s1.heap.objs.size (.tup xs),I1.laid (t':=s1.toks) (fun b u e=>fY _ e) (ba _) ?_,rfl,q _ hf⟩
 exact ⟨z,us,r,⟨_,k_ _ rfl,rfl,_,rfl⟩⟩
theorem Dx (h:PA X es t):PE X (.List es pos) (Mr t):=by
 intro pins s σ H Q I hq
 refine wpAny_List_spliced (bP (h pos pins s σ H _ I hq) fun us s1 ⟨xs,H1,I1,r,z,q⟩=>⟨by rw [<- r.length];exact z,?_⟩)
 have hf:H1 s1.heap.objs.size=none:=I1.aV.fresh (ba _)
 refine ⟨.ref s1.heap.objs.size,upd H1 s1.heap.objs.size (.lst xs),I1.laid (t':=s1.toks) (fun b u e=>fY _ e) (ba _) ?_,rfl,q _ hf⟩
 exact ⟨z,us,0,r,k_ _ rfl⟩
end
abbrev Sp:=List V->Hp->VK->XK->Prop
abbrev v_:=List Env->Hp->Shared->XK->Value->Shared->Prop
structure zJ (P:Program) (w:World) (K:PySem.W.Frag) (mg:Str->Option Value) (base:Heap) (A:Around) (outer:List Env) (s:Shared) (H:Hp):Prop where
 frames:A.frames=some outer
 mod:Mod K mg base
 bs:∀ b o,base.get? b=some o->s.heap.get? b=some o/\H b=none
 BV:base.objs.size<=s.heap.objs.size
 jN:s.heap.FunFrames base outer
 F6:∀ b∈vM outer,H b=none
 aV:gC P w H s.heap
 bare:AllBare s.gens
def CE (outer:List Env) (P:Program) (w:World) (H:Hp) (s:Shared) (Q:VK) (u:Value) (s':Shared):Prop :=
 ∃ v H',s'.os=s.os/\AllBare s'.gens/\Un (vM outer) [] H H' s.heap s'.heap/\gC P w H' s'.heap/\RelV v u/\Q v H'
def CR (CX:v_) (outer:List Env) (P:Program) (w:World) (H:Hp) (s:Shared) (Q:VK) (E:XK) (r:Result) (s':Shared):Prop :=
 match r with
 | .ok (.ret u)=>CE outer P w H s Q u s'
 | .ok _=>False
 | .error e=>CX outer H s E e s'
structure fw (P:Program) (w:World) (K:PySem.W.Frag) (mg:Str->Option Value) (base:Heap) (CX:v_) (k:Nat) (f:Addr) (fd:FuncData) (ps:List Str) (sp:Sp):Prop where
 len:∀ vs H Q E,sp vs H Q E->vs.length=ps.length
 run:∀ (A:Around) (outer:List Env) (s:Shared) (H:Hp) (args:Args) (us:List Value) (vs:List V) (Q:VK) (E:XK),fv k A->zJ P w K mg base A outer s H->BindsTo s fd args (ps.zip us)->Vals vs us->sp vs H Q E ->
  codeAny (model P w) A (.call (.ref f) args) (CR CX outer P w H s Q E) s
theorem fw.mono {P : Program} {w : World} {K : PySem.W.Frag} {mg : Str -> Option Value} {base : Heap} {CX : v_} {j k : Nat} {f : Addr} {fd : FuncData} {ps : List Str} {sp : Sp} (F : fw P w K mg base CX j f fd ps sp) (h : j <= k) :
    fw P w K mg base CX k f fd ps sp:=⟨F.len,fun A outer s H args us vs Q E hr=>F.run A outer s H args us vs Q E (hr.mono h)⟩
section
variable {X:Cx} {pins:List (Addr×Obj)} {σ:St} {H:Hp} {s s':Shared}
theorem Inv.Ms (I:Inv X pins σ H s):zJ X.prog X.w X.K X.mg X.base X.A X.stack s H :=
 ⟨I.ok.frames,I.ok.mod,I.bs,Nat.le_trans I.ok.BV I.sz,I.stack,I.sF,I.aV,I.bare⟩
theorem Inv.after {Q:VK} {u:Value} (I:Inv X pins σ H s) (h:CE X.stack X.prog X.w H s Q u s'):EP X pins σ Q u s':=by
 obtain ⟨v,H',os,bare,un,aV,r,q⟩:=h
 obtain ⟨hh,g,d,t,Ra⟩:=s'
 obtain rfl:Ra=s.os:=os
 exact ⟨v,H',I.call (h':=hh) (g':=g) (d':=d) (t':=t) (ch:=[]) un aV bare (fun b z=>absurd z (by simp)),r,q⟩
end
def Hg (sp:Sp) (B5:List V) (E:XK) (t:TA):TE:=fun σ H Q=>t σ H fun vs H1=>sp (vs++B5) H1 Q E
def Binds (K:PySem.W.Frag) (fd:FuncData) (ps:List Str) (ds:List Value):Prop :=
 ∀ (s:Shared) (us:List Value),K.In s.heap->(us++ds).length=ps.length->BindsTo s fd ⟨us,[]⟩ (ps.zip (us++ds))
theorem Binds.all {K:PySem.W.Frag} {fd:FuncData} {ps:List Str} (h:∀ us:List Value,us.length=ps.length->bindArgs fd ⟨us,[]⟩=pure (ps.zip us)):Binds K fd ps []:=fun s us _ hl=>by
 rw [List.append_nil] at hl ⊢
 exact .of_eq (h us hl)
def Passes (CX:v_) (X:Cx) (E:XK):Prop:=∀ (pins:List (Addr×Obj)) (σ:St) (H:Hp) (s:Shared) (e:Value) (s':Shared),Inv X pins σ H s->CX X.stack H s E e s'->X.xe e s'
section
variable {X:Cx} {CX:v_} {k:Nat} {f C:Addr} {fd:FuncData} {ps:List Str} {sp:Sp} {B5:List V} {ds:List Value} {E:XK} {x m:Str} {p pos apos:Pos} {e o:Expr} {es:List Expr} {ta:TE} {t:TA}
theorem Dy {pins : List (Addr × Obj)} {σ : St} {H : Hp} {s : Shared} {Q : VK} {us : List Value} {vs : List V} (F : fw X.prog X.w X.K X.mg X.base CX k f fd ps sp) (hr : fv k X.A) (hb : Binds X.K fd ps ds) (hd : Vals B5 ds) (hx : Passes CX X E)
    (I:Inv X pins σ H s) (r:Vals vs us) (h:sp (vs++B5) H Q E):wpAny (model X.prog X.w) X.A (call (.ref f) us) (EP X pins σ Q) X.xe s:=by
  have r2:Vals (vs++B5) (us++ds):=r.append hd
  have hl:(us++ds).length=ps.length:=by rw [<- r2.length];exact F.len _ _ _ _ h
  refine wpAny_call (codeAny_mono (F.run X.A X.stack s H ⟨us,[]⟩ (us++ds) (vs++B5) Q E hr I.Ms (hb s us I.ow hl) r2 h) fun r s' hq=>?_)
  cases r with
  | error e=>exact hx pins σ H s e s' I hq
  | ok fl =>
    cases fl with
    | ret u=>exact I.after hq
    | next=>exact False.elim hq
    | brk=>exact False.elim hq
    | cont=>exact False.elim hq
theorem zK (F : fw X.prog X.w X.K X.mg X.base CX k f fd ps sp) (hr : fv k X.A) (hg : Gl X x) (hm : X.mg x = some (.ref f)) (hk : PySem.W.keepIn X.K (.ref f) = true) (hb : Binds X.K fd ps ds) (hd : Vals B5 ds) (hx : Passes CX X E)
    (ha:PA X (e::es) t) (Dz:(x == ("__debug__" : Str))=false:=by decide) (he:starEach (e::es) X.env=(false,eval e X.env)::starEach es X.env:=by rfl) (oe:(backTo pos (starEach es X.env)).any (·.1)=false:=by rfl) :
    PE X (.Call (.Name x p) (e::es) [] pos) (Hg sp B5 E t):=by
  intro pins s σ H Q I h
  refine wpAny_Call_Name_kw (sH I hg hm ?_ Dz)
  refine PySem.W.callWith_K (h₀:=X.base) I.ok.mod.LV hk (bP (ha pos pins s σ H _ I h) fun us s1 ⟨vs,H1,I1,r,q⟩=>⟨I1.ow,?_⟩) he oe
  exact Dy F hr hb hd hx I1 r q
end
structure gW (N P:List Str) (sc:Scope):Prop where
 kind:sc.kind=.function
 co:sc.isCoroutine=false
 gen:sc.isGenerator=false
 nd:N.Nodup
 pre:N.take P.length=P
 par:∀ x∈P,sc.names.lookup x=some .local\/sc.names.lookup x=some .cell
 wa:∀ y∈sc.names,y.2≠.free
theorem lp {kindOf:Str->Option NameKind} {x:Str}:∀ {binds:List (Str×Value)} {m:Str->Option Value},(∀ v,(x,v)∉binds)->bindL kindOf binds m x=m x
 | [],_,_=>rfl
 | (n,v)::r,m,h=>by
  unfold bindL
  rw [lp fun w hw=>h w (ix _ hw)]
  split
  ·have:x≠n:=by rintro rfl;exact h v List.mem_cons_self
   simp [this]
  ·rfl
theorem lq {kindOf:Str->Option NameKind} {x:Str}:∀ {binds:List (Str×Value)} {m:Str->Option Value},(∀ v,(x,v)∉binds)->bindC kindOf binds m x=m x
 | [],_,_=>rfl
 | (n,v)::r,m,h=>by
  unfold bindC
  rw [lq fun w hw=>h w (ix _ hw)]
  split
  ·rfl
  ·have:x≠n:=by rintro rfl;exact h v List.mem_cons_self
   simp [this]
theorem lr {kindOf : Str -> Option NameKind} {x : Str} {v : Value} : ∀ {P : List Str} {vs : List Value} {i : Nat} {m : Str -> Option Value}, P.Nodup -> P[i]? = some x -> vs[i]? = some v -> kindOf x = some .local ->
    bindL kindOf (P.zip vs) m x=some v
  | [],_,_,_,_,h,_,_=>by simp at h
  | _::_,[],_,_,_,_,h,_=>by simp at h
  | p::P,w::vs,0,m,nd,h1,h2,hk=>by
    simp at h1 h2;subst h1;subst h2
    show bindL kindOf ((p,w)::P.zip vs) m p=_
    unfold bindL
    rw [lp fun v hv=>(List.nodup_cons.mp nd).1 (List.of_mem_zip hv).1,if_pos hk]
    simp
  | p::P,w::vs,i+1,m,nd,h1,h2,hk=>by
    show bindL kindOf ((p,w)::P.zip vs) m x=_
    unfold bindL
    exact lr (i:=i) (List.nodup_cons.mp nd).2 (by simpa using h1) (by simpa using h2) hk
theorem lu {kindOf : Str -> Option NameKind} {x : Str} {v : Value} : ∀ {P : List Str} {vs : List Value} {i : Nat} {m : Str -> Option Value}, P.Nodup -> P[i]? = some x -> vs[i]? = some v -> kindOf x ≠ some .local ->
    bindC kindOf (P.zip vs) m x=some v
  | [],_,_,_,_,h,_,_=>by simp at h
  | _::_,[],_,_,_,_,h,_=>by simp at h
  | p::P,w::vs,0,m,nd,h1,h2,hk=>by
    simp at h1 h2;subst h1;subst h2
    show bindC kindOf ((p,w)::P.zip vs) m p=_
    unfold bindC
    rw [lq fun v hv=>(List.nodup_cons.mp nd).1 (List.of_mem_zip hv).1,if_neg hk]
    simp
  | p::P,w::vs,i+1,m,nd,h1,h2,hk=>by
    show bindC kindOf ((p,w)::P.zip vs) m x=_
    unfold bindC
    exact lu (i:=i) (List.nodup_cons.mp nd).2 (by simpa using h1) (by simpa using h2) hk
def start (N:List Str) (vs:List V):St:=vs.map some++List.replicate (N.length - vs.length) none
def qH (CX:v_) (P:Program) (w:World) (K:PySem.W.Frag) (mg:Str->Option Value) (base:Heap) (N:List Str) (qual:Str) (scope:Scope) (f:Addr) (cd:Value) (A:Around) (outer:List Env) (s:Shared) (H:Hp) (E:XK):Cx where
 prog:=P
 w:=w
 K:=K
 mg:=mg
 base:=base
 A:=A.deeper (envOfC qual scope s.heap.objs.size f cd)
 N:=N
 dz:=s
 l9:=H
 env:=envOfC qual scope s.heap.objs.size f cd
 outer:=outer
 stack:=envOfC qual scope s.heap.objs.size f cd::outer
 ex:=[]
 calm:=true
 fn:=fun _=>true
 pn:=[]
 xe:=fun e s'=>wpAny (model P w) (A.deeper (envOfC qual scope s.heap.objs.size f cd)) (leaving (envOfC qual scope s.heap.objs.size f cd) e) (fun _ Hh=>CX outer H s E e Hh) (fun e' Hh=>CX outer H s E e' Hh) s'
theorem oE {sc:Scope} {n:Nat} {x:Str} (h:sc.names.lookup x=some .cell):∃ c,(cellsFrom n sc.names []).lookup x=some c:=by
 have q:=PySem.W.cellsFrom_some sc.names n [] (.inl h)
 exact Option.isSome_iff_exists.mp q
theorem uK {CX : v_} {P : Program} {w : World} {K : PySem.W.Frag} {mg : Str -> Option Value} {base : Heap} {N ps : List Str} {qual : Str} {scope : Scope} {f : Addr} {cd : Value} {A : Around} {outer : List Env} {s s1 : Shared} {H : Hp} {E : XK} {us : List Value} {vs : List V}
    (S:gW N ps scope) (hd:A.handled=none) (e0:zJ P w K mg base A outer s H) (hl:vs.length=ps.length) (r:Vals vs us)
    (x:InCallC s s.heap.objs.size (bindL (envOfC qual scope s.heap.objs.size f cd).kindOf (ps.zip us) fun _=>none) (cellsFrom (s.heap.objs.size+1) scope.names []) (bindC (envOfC qual scope s.heap.objs.size f cd).kindOf (ps.zip us) fun _=>none) s1) :
    Inv (qH CX P w K mg base N qual scope f cd A outer s H E) [] (start N vs) H s1:=by
  have oe:ps.length<=N.length:=by have:=congrArg List.length S.pre;rw [List.length_take] at this;omega
  obtain ⟨h1,tk,rfl,hk⟩:=x.done
  have Hi:∀ b:Addr,b∉(qH CX P w K mg base N qual scope f cd A outer s H E).ex:=fun b z=>absurd (show b∈([]:List Addr) from z) (by simp)
  refine ⟨⟨e0.mod,S.kind,rfl,rfl,ba _,fun y z c h1 h2=>?_,fun y hy=>?_,fun y c _ h=>?_,fun _=>hd,Around.frames_deeper e0.frames,.inr ⟨rfl,rfl⟩,fun b z=>absurd z (Hi b),e0.bs,e0.BV,fun b _ _=>Hi b,fun b z=>absurd z (Hi b),e0.jN,e0.F6⟩,
    rfl,e0.bare,Un.kept hk,⟨_,x.toInCall.ns,fun i y v h1 h2 h3=>?_⟩,fun y c h=>⟨_,x.cell y c h⟩,e0.aV.fresh (ba _),fun y c h=>?_,fun p hp=>absurd (show p∈([]:List (Addr×Obj)) from hp) (by simp),e0.aV.kept hk,?_⟩
  · exact name_of_addr x.apart (PySem.mem_of_lookup h1) (PySem.mem_of_lookup h2)
  · have hy:scope.names.lookup y=some .cell\/scope.names.lookup y=some .free:=hy
    rcases hy with hy | hy
    · exact oE hy
    · exact absurd rfl (S.wa _ (PySem.mem_of_lookup hy))
  · exact Nat.le_of_lt (x.above y c (PySem.mem_of_lookup h))
  · have hi : i < vs.length := by
      unfold start at h2
      by_cases hi:i < vs.length
      · exact hi
      · rw [List.getElem?_append_right (by simpa using hi)] at h2
        rw [List.getElem?_replicate] at h2
        split at h2 <;> cases h2
    have ha:vs[i]?=some v:=by
      unfold start at h2
      rw [uq (by simpa using hi),dy] at h2
      cases e:vs[i]? with
      | none=>rw [e] at h2;cases h2
      | some a=>rw [e] at h2;cases h2;rfl
    obtain ⟨u,hu,rv⟩:=r.get ha
    have hp:ps[i]?=some y:=by
      rw [<- S.pre,List.getElem?_take_of_lt (by omega)];exact h1
    have OP:ps.Nodup:=by rw [<- S.pre];exact S.nd.sublist (List.take_sublist _ _)
    refine ⟨u,rv,?_⟩
    rcases S.par y (jL hp) with k | k
    · exact .inl ⟨k,lr OP hp hu k⟩
    · obtain ⟨c,e⟩:=oE (n:=s.heap.objs.size+1) k
      refine .inr ⟨.inl k,c,e,?_⟩
      have q:=x.cell y c e
      rw [lu OP hp hu (by show scope.names.lookup y≠_;rw [k];decide)] at q
      exact q
  · exact e0.aV.fresh (Nat.le_of_lt (x.above y c (PySem.mem_of_lookup h)))
  · unfold start
    show _=N.length
    rw [jM,aP,List.length_replicate]
    omega
theorem Hj {CX : v_} {P : Program} {w : World} {K : PySem.W.Frag} {mg : Str -> Option Value} {base : Heap} {k : Nat} {f : Addr} {name qual : Str} {params : Arguments} {body : List Stmt} {scope : Scope} {dV kV doc pm kM ct oc : Value} {an od : Option Addr}
    {DA:Array (Option Value)} {N ps:List Str} {sp:Sp} (lk:K.lookup f=some ⟨oc,od,.func (PySem.W.fnOf name qual params body scope dV kV doc pm an kM ct),DA⟩) (BX:PySem.W.codeIn K kM qual=true) (S:gW N ps scope)
    (len:∀ vs H Q E,sp vs H Q E->vs.length=ps.length)
    (wb:∀ (A:Around) (outer:List Env) (s:Shared) (H:Hp) (vs:List V) (Q:VK) (E:XK),fv k (A.deeper (envOfC qual scope s.heap.objs.size f kM))->sp vs H Q E ->
      ∃ t,oz (qH CX P w K mg base N qual scope f kM A outer s H E) body t/\t { nx:=fun _ H'=>Q .az H',rt:=Q } (start N vs) H) :
    fw P w K mg base CX (k+1) f (PySem.W.fnOf name qual params body scope dV kV doc pm an kM ct) ps sp:=by
  refine ⟨len,fun A outer s H args us vs Q E hr e0 hb r y_=>?_⟩
  have hl:=len _ _ _ _ y_
  have KX:K.In s.heap:=e0.mod.LV.keeps fun b o e=>(e0.bs b o e).1
  have lim:s.heap.NoLimit:=e0.mod.nolimit.keeps fun b o e=>(e0.bs b o e).1
  have wc:∀ y∈ps.zip us,scope.names.lookup y.1=some .local\/(scope.names.lookup y.1=some .cell/\((cellsFrom (s.heap.objs.size+1) scope.names []).lookup y.1).isSome=true):=fun ⟨n,v⟩ hy=>by
    rcases S.par n (List.of_mem_zip hy).1 with q | q
    · exact .inl q
    · exact .inr ⟨q,PySem.W.cellsFrom_some _ _ _ (.inl q)⟩
  refine codeAny_call_function hr.depth (KX _ _ lk) rfl S.co S.gen rfl (PySem.W.codeRec_of KX BX) (hb _ _ _ _ ?_)
  refine wpAny_newFunctionEnv_cells S.kind wc fun env he s1 x=>?_
  subst he
  refine ⟨lim.keeps x.toInCall.keep,codeAny_func ?_⟩
  obtain ⟨t,ht,hq⟩:=wb A outer s H vs Q E (hr.deeper _) y_
  have I:Inv (qH CX P w K mg base N qual scope f kM A outer s H E) [] (start N vs) H s1:=uK S hr.hd e0 hl r x
  refine wpAny_mono (ht [] s1 (start N vs) H _ I hq) (fun fl s' hs=>?_) fun e s' hs=>hs
  have fin:∀ {cg:St} {H':Hp} {v:V} {u:Value},Inv (qH CX P w K mg base N qual scope f kM A outer s H E) [] cg H' s'->RelV v u->Q v H'->CE outer P w H s Q u s' :=
    fun {cg H' v u} J rv q=>⟨v,H',J.os,J.bare,J.base,J.aV,rv,q⟩
  cases fl with
  | ret u =>
    obtain ⟨v,cg,H',J,rv,q⟩:=hs
    exact fin J rv q
  | next =>
    obtain ⟨cg,H',J,q⟩:=hs
    exact fin (v:=V.az) (u:=Value.none) J rfl q
  | brk =>
    obtain ⟨_,_,_,q⟩:=hs
    exact False.elim q
  | cont =>
    obtain ⟨_,_,_,q⟩:=hs
    exact False.elim q
section
variable {X:Cx} {x:Str} {p pos:Pos} {e:Expr} {es:List Expr} {t:TA} {id T:String} {r:List V->Hp->VK->Prop}
def Mt (r:List V->Hp->VK->Prop) (t:TA):TE:=fun σ H Q=>t σ H fun vs H1=>r vs H1 Q
theorem eL (hc : cI X (.builtin id) r) (hg : Gl X x) (hm : X.mg x = none) (hv : bootBuiltins x = some (.builtin id)) (ha : PA X (e :: es) t) (hn : x ≠ "__name__" := by decide) (Dz : (x == ("__debug__" : Str)) = false := by decide)
    (he:starEach (e::es) X.env=(false,eval e X.env)::starEach es X.env:=by rfl) (oe:(backTo pos (starEach es X.env)).any (·.1)=false:=by rfl):PE X (.Call (.Name x p) (e::es) [] pos) (Mt r t):=by
  intro pins s σ H Q I h
  refine wpAny_Call_Name_kw (iy I hg hm hv ?_ hn Dz)
  exact PyProof.Rows.callWith_builtin1 (bP (ha pos pins s σ H _ I h) fun us s1 ⟨vs,H1,I1,r1,q1⟩=>hc pins s1 σ H1 vs us Q I1 r1 q1) he oe
theorem fM (hc : cI X (.type T) r) (hg : Gl X x) (hm : X.mg x = none) (hv : bootBuiltins x = some (.type T)) (ha : PA X (e :: es) t) (hn : x ≠ "__name__" := by decide) (Dz : (x == ("__debug__" : Str)) = false := by decide)
    (he:starEach (e::es) X.env=(false,eval e X.env)::starEach es X.env:=by rfl) (oe:(backTo pos (starEach es X.env)).any (·.1)=false:=by rfl):PE X (.Call (.Name x p) (e::es) [] pos) (Mt r t):=by
  intro pins s σ H Q I h
  refine wpAny_Call_Name_kw (iy I hg hm hv ?_ hn Dz)
  exact PyProof.Rows.callWith_type1 (bP (ha pos pins s σ H _ I h) fun us s1 ⟨vs,H1,I1,r1,q1⟩=>hc pins s1 σ H1 vs us Q I1 r1 q1) he oe
end
section
variable {κ:Type} [DecidableEq κ]
def gX (aa:List (κ×V)) (k:κ):Option V:=(aa.find? fun kv=>decide (kv.1=k)).map (·.2)
def putK (aa:List (κ×V)) (k:κ) (v:V):List (κ×V) :=
 if (aa.any fun kv=>decide (kv.1=k))=true then aa.map (fun kv=>if kv.1=k then (kv.1,v) else kv) else aa++[(k,v)]
theorem gY {p:κ×V} {r:List (κ×V)} {k:κ} (e:p.1=k):gX (p::r) k=some p.2:=by simp [gX,List.find?_cons,e]
theorem fx {p:κ×V} {r:List (κ×V)} {k:κ} (e:¬ p.1=k):gX (p::r) k=gX r k:=by simp [gX,List.find?_cons,e]
theorem oF (k:κ):∀ aa:List (κ×V),(aa.any fun kv=>decide (kv.1=k))=(gX aa k).isSome
 | []=>rfl
 | p::r=>by
  rw [List.any_cons]
  by_cases e:p.1=k
  ·simp only [gY e,decide_eq_true e,Bool.true_or,Option.isSome_some]
  ·rw [fx e,decide_eq_false e,Bool.false_or];exact oF k r
theorem fy (aa:List (κ×V)) (k:κ) (v:V):(putK aa k v).length<=aa.length+1:=by
 unfold putK
 split
 ·rw [aP];omega
 ·rw [jM,List.length_cons,List.length_nil];omega
theorem gB.eM {o:Option V} {u:Option Value} (r:gB o u):o.isSome=u.isSome:=by
 cases o with
 | none=>cases u with
  | none=>rfl
  | some _=>exact (show False from r).elim
 | some _=>cases u with
  | none=>exact (show False from r).elim
  | some _=>rfl
theorem KV.val {aa:List (κ×V)} {vs:List (κ×Value)} (r:KV aa vs) (k:κ):gB (gX aa k) (valueAt vs k):=by
 unfold KV at r
 induction r with
 | nil=>exact True.intro
 | @cons p q ps qs h t ih =>
  obtain ⟨h1,h2⟩:=h
  by_cases e:p.1=k
  ·have e':q.1=k:=h1.symm.trans e
   have b:valueAt (q::qs) k=some q.2:=by simp [valueAt,List.find?_cons,e']
   rw [gY e,b];exact h2
  ·have e':¬ q.1=k:=fun z=>e (h1.trans z)
   have b:valueAt (q::qs) k=valueAt qs k:=by simp [valueAt,List.find?_cons,e']
   rw [fx e,b];exact ih
theorem KV.any {aa:List (κ×V)} {vs:List (κ×Value)} (r:KV aa vs) (k:κ):(aa.any fun kv=>decide (kv.1=k))=vs.any fun kv=>decide (kv.1=k):=by
 unfold KV at r
 induction r with
 | nil=>rfl
 | cons h t ih=>rw [List.any_cons,List.any_cons,ih,h.1]
theorem KV.DB {aa : List (κ × V)} {vs : List (κ × Value)} (r : KV aa vs) (k : κ) {y : V} {u : Value} (ry : RelV y u) :
    KV (aa.map fun kv=>if kv.1=k then (kv.1,y) else kv) (vs.map fun kv=>if kv.1=k then (kv.1,u) else kv):=by
  unfold KV at r ⊢
  induction r with
  | nil=>exact .nil
  | @cons p q ps qs h t ih =>
    rw [List.map_cons,List.map_cons]
    refine .cons ?_ ih
    obtain ⟨h1,h2⟩:=h
    by_cases e:p.1=k
    · rw [if_pos e,if_pos (h1.symm.trans e)];exact ⟨h1,ry⟩
    · rw [if_neg e,if_neg (fun z=>e (h1.trans z))];exact ⟨h1,h2⟩
theorem KV.put {aa:List (κ×V)} {vs:List (κ×Value)} (r:KV aa vs) (k:κ) {y:V} {u:Value} (ry:RelV y u):KV (putK aa k y) (stored vs k u):=by
 unfold putK stored
 rw [r.any k]
 by_cases e:(vs.any fun kv=>decide (kv.1=k))=true
 ·rw [if_pos e,if_pos e];exact r.DB k ry
 ·rw [if_neg e,if_neg e];exact Paired.snoc r ⟨rfl,ry⟩
theorem KV.length {aa:List (κ×V)} {vs:List (κ×Value)} (r:KV aa vs):aa.length=vs.length:=Paired.length r
end
theorem lx {P:Program} {w:World} {k:Key} {u:Value} (r:RelV (kV k) u):(aN P w).is k u=true:=by
 cases k with
 | inl i=>obtain ⟨t,e⟩:=(show ∃ t,u=Value.int i t from r);subst e;exact oo P w i t
 | inr x=>obtain ⟨t,e⟩:=(show ∃ t,u=Value.str x t from r);subst e;exact oq P w x t
theorem ly {P:Program} {w:World}:∀ {ks:List Key} {us:List Value},Vals (ks.map kV) us->ItemsAre (aN P w) ks us
 | [],_,r=>by rw [List.map_nil] at r;cases r;exact .nil
 | k::ks,_,r=>by
  rw [List.map_cons] at r
  cases r with
  | cons h t=>exact .cons (lx h) (ly t)
abbrev KT (H:Hp):List (List Key×V)->List (List Key×Addr×Value)->Prop:=Paired fun p q=>p.1=q.1/\H q.2.1=some (.tup (p.1.map kV))/\RelV p.2 q.2.2
theorem KT.val {H:Hp} {aa:List (List Key×V)} {xs:List (List Key×Addr×Value)} (r:KT H aa xs) (k:List Key):gB (gX aa k) ((atKey xs k).map (·.2)):=by
 induction r with
 | nil=>exact True.intro
 | @cons p q ps qs h t ih =>
  obtain ⟨h1,_,h2⟩:=h
  by_cases e:p.1=k
  ·have e':q.1=k:=h1.symm.trans e
   have b:atKey (q::qs) k=some q.2:=by simp [atKey,List.find?_cons,e']
   rw [gY e,b];exact h2
  ·have e':¬ q.1=k:=fun z=>e (h1.trans z)
   have b:atKey (q::qs) k=atKey qs k:=by simp [atKey,List.find?_cons,e']
   rw [fx e,b];exact ih
theorem KT.DB {H : Hp} {aa : List (List Key × V)} {xs : List (List Key × Addr × Value)} (r : KT H aa xs) (k : List Key) {y : V} {u : Value} (ry : RelV y u) :
    KT H (aa.map fun kv=>if kv.1=k then (kv.1,y) else kv) (xs.map (putAt k u)):=by
  induction r with
  | nil=>exact .nil
  | @cons p q ps qs h t ih =>
    rw [List.map_cons,List.map_cons]
    refine .cons ?_ ih
    obtain ⟨h1,h2,h3⟩:=h
    unfold putAt
    by_cases e:p.1=k
    · rw [if_pos e,if_pos (h1.symm.trans e)];exact ⟨h1,h2,ry⟩
    · rw [if_neg e,if_neg (fun z=>e (h1.trans z))];exact ⟨h1,h2,h3⟩
theorem KT.put {H : Hp} {aa : List (List Key × V)} {xs : List (List Key × Addr × Value)} (r : KT H aa xs) (k : List Key) {b : Addr} {y : V} {u : Value} (hb : H b = some (.tup (k.map kV))) (ry : RelV y u) :
    KT H (putK aa k y) (storedH xs k b u):=by
  have e:(aa.any fun kv=>decide (kv.1=k))=(atKey xs k).isSome:=by
    rw [oF,(r.val k).eM,Option.isSome_map]
  unfold putK storedH
  rw [e]
  by_cases q:(atKey xs k).isSome=true
  · rw [if_pos q,if_pos q];exact r.DB k ry
  · rw [if_neg q,if_neg q];exact Paired.snoc r ⟨rfl,hb,ry⟩
theorem KT.keeps {H H':Hp} {aa:List (List Key×V)} {xs:List (List Key×Addr×Value)} (r:KT H aa xs) (ht:∀ b ys,H b=some (.tup ys)->H' b=some (.tup ys)):KT H' aa xs :=
 Paired.CZ r fun _ _ z=>⟨z.1,ht _ _ z.2.1,z.2.2⟩
section
variable {P:Program} {w:World} {H:Hp} {h:Heap} {a:Addr}
theorem B6 {u:HO} (ok:gC P w H h) (e:Rd H a u):aY P w H h a u:=e.ok ok
theorem oG {aa:List (Key×V)} (ok:gC P w H h) (e:Rd H a (.dK aa)):aa.length<=sizeLine/\(a == sysModules)=false/\∃ vs,KV aa vs/\h.DictOf (aN P w) a vs :=
 show aY P w H h a (.dK aa) from B6 ok e
theorem oH {aa:List (Key×V)} (ok:gC P w H h) (e:H a=some (.dK aa)):aa.length<=sizeLine/\(a == sysModules)=false/\∃ vs,KV aa vs/\h.DictOf (aN P w) a vs:=oG ok (.inl e)
theorem jQ {ks:List Key} (ok:gC P w H h) (e:H a=some (.tup (ks.map kV))):(tupleKind (aN P w)).is h ks a:=by
 obtain ⟨_,aq,r,o,h1,h2,n,h3⟩:=(show aY P w H h a (.tup (ks.map kV)) from ok a _ e)
 exact ⟨o,aq.toArray,n,h1,h2,h3,by simpa using ly r⟩
theorem oI {aa : List (List Key × V)} (ok : gC P w H h) (e : Rd H a (.dT aa)) : aa.length <= sizeLine /\ (a == sysModules) = false /\
    ∃ xs,KT H aa xs/\h.DictOfH (tupleKind (aN P w)) a xs:=by
  obtain ⟨z,y,xs,r,o,es,ep,h1,h2,h3,h4,h5⟩:=(show aY P w H h a (.dT aa) from B6 ok e)
  refine ⟨z,y,xs,r,o,es,ep,h1,h2,h3,h4,fun x hx=>?_,h5⟩
  have all:∀ {l:List (List Key×V)} {m:List (List Key×Addr×Value)},KT H l m->∀ x∈m,(tupleKind (aN P w)).is h x.1 x.2.1:=by
    intro l m q
    induction q with
    | nil=>intro x hx;exact nomatch hx
    | @cons p q ps qs hq t ih =>
      intro x hx
      rcases List.mem_cons.mp hx with e | hx
      · subst e
        exact jQ ok (by rw [<- hq.1];exact hq.2.1)
      · exact ih x hx
  exact all r x hx
theorem Hk {aa : List (List Key × V)} (ok : gC P w H h) (e : H a = some (.dT aa)) : aa.length <= sizeLine /\ (a == sysModules) = false /\
    ∃ xs,KT H aa xs/\h.DictOfH (tupleKind (aN P w)) a xs:=oI ok (.inl e)
end
def gF (H:Hp) (a:Addr) (y:V) (r:Option V):Prop :=
 (∃ aa k,Rd H a (.dK aa)/\y=kV k/\r=gX aa k)\/∃ aa k b,Rd H a (.dT aa)/\y=.ref b/\H b=some (.tup (k.map kV))/\r=gX aa k
def qI (H:Hp) (a:Addr) (y v:V) (H':Hp):Prop :=
 (∃ aa k,H a=some (.dK aa)/\y=kV k/\aa.length < sizeLine/\H'=upd H a (.dK (putK aa k v))) \/
 ∃ aa k b,H a=some (.dT aa)/\y=.ref b/\H b=some (.tup (k.map kV))/\aa.length < sizeLine/\H'=upd H a (.dT (putK aa k v))
theorem gF.k {H:Hp} {a:Addr} {aa:List (Key×V)} {k:Key} (e:H a=some (.dK aa)):gF H a (kV k) (gX aa k):=.inl ⟨aa,k,.inl e,rfl,rfl⟩
theorem qI.k {H:Hp} {a:Addr} {aa:List (Key×V)} {k:Key} {v:V} (e:H a=some (.dK aa)) (hl:aa.length < sizeLine):qI H a (kV k) v (upd H a (.dK (putK aa k v))):=.inl ⟨aa,k,e,rfl,hl,rfl⟩
theorem qI.t {H : Hp} {a b : Addr} {aa : List (List Key × V)} {k : List Key} {v : V} (e : H a = some (.dT aa)) (eb : H b = some (.tup (k.map kV))) (hl : aa.length < sizeLine) :
    qI H a (.ref b) v (upd H a (.dT (putK aa k v))):=.inr ⟨aa,k,b,e,rfl,eb,hl,rfl⟩
section
variable {X:Cx} {pins:List (Addr×Obj)} {σ:St} {H:Hp} {s:Shared} {a:Addr} {y v:V} {u r:Value} {o:Option V} {A:Around} {E:Value->Shared->Prop}
theorem Inv.big (I:Inv X pins σ H s):sysModules < s.heap.objs.size:=by
 have h:mainGlobals < s.heap.objs.size:=(I.mod.glob.keeps I.bk).lt
 exact Nat.lt_trans (by decide) h
theorem iC {Q : Value -> Shared -> Prop} (hu : A.units + 1 < cLine) (I : Inv X pins σ H s) (g : gF H a y (some v)) (ry : RelV y u) (h : ∀ w' s', Inv X pins σ H s' -> RelV v w' -> Q w' s') :
    wpAny (model X.prog X.w) A (getItem (.ref a) u) Q E s:=by
  rcases g with ⟨aa,k,e,ey,l⟩|⟨aa,k,b,e,ey,eb,l⟩
  · subst ey
    obtain ⟨z,hd,vs,rel,dd⟩:=oG I.aV e
    obtain ⟨w',hw,qJ⟩:=gB.some_of (v:=v) (o:=valueAt vs k) (by rw [l];exact rel.val k)
    exact wpAny_getItem_of (lx ry) dd.mapOf hw (h w' _ (I.tok _) qJ)
  · subst ey
    cases (show u=Value.ref b from ry)
    obtain ⟨z,hd,xs,rel,dd⟩:=oI I.aV e
    obtain ⟨w',hw,qJ⟩:=gB.some_of (v:=v) (o:=(atKey xs k).map (·.2)) (by rw [l];exact rel.val k)
    obtain ⟨p,hp,Rb⟩:=Option.map_eq_some_iff.mp hw
    refine wpAny_getItem_heap (tupleKind_room_in1 hu) (jQ I.aV eb) dd hp ?_
    rw [Rb]
    exact h w' _ (I.tok _) qJ
theorem Hl {Q : Value -> Shared -> Prop} (hu : A.units + 1 < cLine) (I : Inv X pins σ H s) (g : gF H a y o) (ry : RelV y u) (h : ∀ s', Inv X pins σ H s' -> Q (.bool o.isSome) s') :
    wpAny (model X.prog X.w) A (compareOp .In u (.ref a)) Q E s:=by
  rcases g with ⟨aa,k,e,ey,l⟩|⟨aa,k,b,e,ey,eb,l⟩
  · subst ey
    obtain ⟨z,hd,vs,rel,dd⟩:=oG I.aV e
    refine wpAny_in_of (lx ry) hd dd.mapOf ?_
    rw [<- (rel.val k).eM,<- l]
    exact h _ (I.tok _)
  · subst ey
    cases (show u=Value.ref b from ry)
    obtain ⟨z,hd,xs,rel,dd⟩:=oI I.aV e
    refine wpAny_in_heap (tupleKind_room_in1 hu) (jQ I.aV eb) hd dd ?_
    have q:=(rel.val k).eM
    rw [Option.isSome_map] at q
    rw [<- q,<- l]
    exact h _ (I.tok _)
theorem sJ {Q : Value -> Shared -> Prop} (hu : A.units + 1 < cLine) (I : Inv X pins σ H s) (g : gF H a y o) (ry : RelV y u) (h : ∀ s', Inv X pins σ H s' -> Q (.bool (!o.isSome)) s') :
    wpAny (model X.prog X.w) A (compareOp .NotIn u (.ref a)) Q E s:=by
  rcases g with ⟨aa,k,e,ey,l⟩|⟨aa,k,b,e,ey,eb,l⟩
  · subst ey
    obtain ⟨z,hd,vs,rel,dd⟩:=oG I.aV e
    refine wpAny_notIn_of (lx ry) hd dd.mapOf ?_
    rw [<- (rel.val k).eM,<- l]
    exact h _ (I.tok _)
  · subst ey
    cases (show u=Value.ref b from ry)
    obtain ⟨z,hd,xs,rel,dd⟩:=oI I.aV e
    refine wpAny_notIn_heap (tupleKind_room_in1 hu) (jQ I.aV eb) hd dd ?_
    have q:=(rel.val k).eM
    rw [Option.isSome_map] at q
    rw [<- q,<- l]
    exact h _ (I.tok _)
theorem mj {h' : Heap} {t' : Nat} {ob : HO} (I : Inv X pins σ H s) (mu : GI (H a)) (hs : Heap.SameBut a s.heap h') (he : ∃ q, h'.get? a = some q) (new : aY X.prog X.w (upd H a ob) h' a ob) :
    Inv X pins σ (upd H a ob) { s with heap:=h',toks:=t' } :=
  I.write (x:=a) (e:=a) mu (.inl rfl) (fun b q hb z=>(hs.2 b hb).trans z) he new
theorem we {P : Program} {w : World} {H' : Hp} {h' : Heap} {aa : List (Key × V)} {vs : List (Key × Value)} (z : aa.length <= sizeLine) (hd : (a == sysModules) = false) (rel : KV aa vs) (dd : h'.DictOf (aN P w) a vs) :
    aY P w H' h' a (.dK aa):=⟨z,hd,vs,rel,dd⟩
theorem lz {H' : Hp} {Q : Unit -> Shared -> Prop} (hu : A.units + 1 < cLine) (I : Inv X pins σ H s) (g : qI H a y v H') (ry : RelV y u) (rv : RelV v r) (h : ∀ s', Inv X pins σ H' s' -> Q () s') :
    wpAny (model X.prog X.w) A (setItem (.ref a) u r) Q E s:=by
  rcases g with ⟨aa,k,e,ey,l,eH⟩|⟨aa,k,b,e,ey,eb,l,eH⟩
  · subst ey eH
    obtain ⟨z,hd,vs,rel,dd⟩:=oH I.aV e
    have hz:vs.length<=sizeLine:=by rw [<- rel.length];exact z
    have hl:(putK aa k v).length<=sizeLine:=by have:=fy aa k v;omega
    refine wpAny_setItem_pairs (hsz:=hz) (lx ry) dd fun h' DC hs=>h _ ?_
    have he:∃ q,h'.get? a=some q:=let ⟨q,_,_,hq,_⟩:=DC;⟨q,hq⟩
    exact mj I (by rw [e];exact True.intro) hs he (we hl hd (rel.put k rv) DC)
  · subst ey eH
    cases (show u=Value.ref b from ry)
    obtain ⟨z,hd,xs,rel,dd⟩:=Hk I.aV e
    have hz:xs.length<=sizeLine:=by rw [<- Paired.length rel];exact z
    have hl:(putK aa k v).length<=sizeLine:=by have:=fy aa k v;omega
    refine wpAny_setItem_heap (hsz:=hz) (tupleKind_room_in1 hu) (jQ I.aV eb) dd fun h' DC hs=>h _ ?_
    obtain ⟨q,es,ep,hq,h2,h3,h4,_,h5⟩:=DC
    refine mj I (by rw [e];exact True.intro) hs ⟨q,hq⟩ ⟨hl,hd,_,(rel.put k eb rv).keeps fun c ys ec=>?_,q,es,ep,hq,h2,h3,h4,h5⟩
    rw [aj (GG ec e (fun z=>nomatch z))]
    exact ec
end
theorem fz {X:Cx} {pins:List (Addr×Obj)} {σ:St} {H:Hp} {s:Shared} {a:Addr} {y:V} {o:Option V} (I:Inv X pins σ H s) (g:gF H a y o):s.TypeIs (.ref a) "dict" := by
 rcases g with ⟨aa,k,e,_,_⟩|⟨aa,k,b,e,_,_,_⟩
 ·obtain ⟨_,_,vs,_,dd⟩:=oG I.aV e
  exact dd.typeIs
 ·obtain ⟨_,_,xs,_,dd⟩:=oI I.aV e
  exact dd.typeIs
theorem oJ {P:Program} {w:World} {H:Hp} (h:Heap) (hb:sysModules < h.objs.size):aY P w H (h.push { cls:=.type "dict",data:=.dict #[] }) h.objs.size (.dK []) :=
 ⟨Nat.zero_le _,beq_eq_false_iff_ne.mpr (Ne.symm (Nat.ne_of_lt hb)),[],.nil,Heap.DictOf.new h⟩
theorem wg {P:Program} {w:World} {H:Hp} (h:Heap) (hb:sysModules < h.objs.size):aY P w H (h.push { cls:=.type "dict",data:=.dict #[] }) h.objs.size (.dT []) :=
 ⟨Nat.zero_le _,beq_eq_false_iff_ne.mpr (Ne.symm (Nat.ne_of_lt hb)),[],.nil,_,#[],0,k_ _ rfl,⟨rfl,rfl,rfl⟩,rfl,rfl,List.nodup_nil⟩
def DD:TE:=fun _ H Q=>∀ p,H p=none->Q (.ref p) (upd H p (.dK []))
def DE:TE:=fun _ H Q=>∀ p,H p=none->Q (.ref p) (upd H p (.dT []))
section
variable {X:Cx} {pos:Pos}
theorem wj:PE X (.Dict [] [] pos) DD:=fun pins s σ H Q I h =>
 wpAny_Dict_empty ⟨.ref s.heap.objs.size,_,I.laid (a:=s.heap.objs.size) (o:=.dK []) (t':=s.toks) (fun _ _ q=>fY _ q) (ba _) (oJ s.heap I.big),rfl,h _ (I.aV.fresh (ba _))⟩
theorem wk:PE X (.Dict [] [] pos) DE:=fun pins s σ H Q I h =>
 wpAny_Dict_empty ⟨.ref s.heap.objs.size,_,I.laid (a:=s.heap.objs.size) (o:=.dT []) (t':=s.toks) (fun _ _ q=>fY _ q) (ba _) (wg s.heap I.big),rfl,h _ (I.aV.fresh (ba _))⟩
end
def eV:List (TE×TE)->St->Hp->(List (V×V)->Hp->Prop)->Prop
 | [],_,H,Q=>Q [] H
 | (tk,tv)::r,σ,H,Q=>tk σ H fun x H1=>tv σ H1 fun y H2=>eV r σ H2 fun ps H3=>Q ((x,y)::ps) H3
abbrev VV:List (V×V)->List (Value×Value)->Prop:=Paired fun p q=>RelV p.1 q.1/\RelV p.2 q.2
def F_ (X:Cx) (pos:Pos) (keys:List (Option Expr)) (values:List Expr) (jR:List (TE×TE)):Prop :=
 ∀ (pins:List (Addr×Obj)) (s:Shared) (σ:St) (H:Hp) (Q:List (V×V)->Hp->Prop),Inv X pins σ H s->eV jR σ H Q ->
  wpAny (model X.prog X.w) X.A (evalPairs (pairTrees keys values X.env pos)) (fun vs s'=>∃ ps H',Inv X pins σ H' s'/\VV ps vs/\Q ps H') X.xe s
theorem zL {X:Cx} {pos:Pos}:F_ X pos [] [] []:=fun pins s σ H Q I h=>pairTrees_nil_walk ⟨[],H,I,.nil,h⟩
theorem wm {X : Cx} {pos : Pos} {k v : Expr} {ks : List (Option Expr)} {vs : List Expr} {tk tv : TE} {jR : List (TE × TE)} (hk : PE X k tk) (hv : PE X v tv) (hr : F_ X pos ks vs jR) :
    F_ X pos (some k::ks) (v::vs) ((tk,tv)::jR):=fun pins s σ H Q I h =>
  pairTrees_cons_walk (bP (hk pins s σ H _ I h) fun u s1 ⟨x,H1,I1,rx,q1⟩=>bP (hv pins s1 σ H1 _ I1 q1) fun w2 s2 ⟨y,H2,I2,ry,q2⟩ =>
    bP (hr pins s2 σ H2 _ I2 q2) fun ws s3 ⟨ps,H3,I3,rel,q3⟩=>⟨(x,y)::ps,H3,I3,.cons ⟨rx,ry⟩ rel,q3⟩)
def eE (aa more:List (Key×V)):List (Key×V):=more.foldl (fun acc kv=>putK acc kv.1 kv.2) aa
theorem KV.merge:∀ {more:List (Key×V)} {rs:List (Key×Value)} {aa:List (Key×V)} {vs:List (Key×Value)},KV more rs->KV aa vs->KV (eE aa more) (merged vs rs):=by
 intro more rs aa vs r
 unfold KV at r
 induction r generalizing aa vs with
 | nil=>intro q;exact q
 | @cons p q ps qs h t ih =>
  intro r0
  have e:KV (putK aa p.1 p.2) (stored vs q.1 q.2):=by
   have:=r0.put p.1 h.2
   rw [<- h.1];exact this
  exact ih e
theorem gm:∀ (more aa:List (Key×V)),(eE aa more).length<=aa.length+more.length
 | [],aa=>by show aa.length<=aa.length+0;omega
 | p::r,aa=>by
  have h1:=gm r (putK aa p.1 p.2)
  have h2:=fy aa p.1 p.2
  show (eE (putK aa p.1 p.2) r).length<=_
  rw [List.length_cons];omega
theorem jS {P:Program} {w:World}:∀ {aa:List (Key×V)} {ws:List (Value×Value)},VV (aa.map fun kv=>(kV kv.1,kv.2)) ws->∃ rs,Carries (aN P w) ws rs/\KV aa rs
 | [],_,r=>by rw [List.map_nil] at r;cases r;exact ⟨[],True.intro,.nil⟩
 | p::aa,_,r=>by
  rw [List.map_cons] at r
  cases r with
  | @cons a b as bs h t =>
   obtain ⟨rs,c,q⟩:=jS (P:=P) (w:=w) t
   obtain ⟨b1,b2⟩:=b
   exact ⟨(p.1,b2)::rs,⟨lx h.1,rfl,c⟩,.cons ⟨rfl,h.2⟩ q⟩
def Hm (jR:List (TE×TE)):TE:=fun σ H Q=>∀ p,H p=none->eV jR σ (upd H p (.dK [])) fun ps H2=>H2 p=some (.dK [])/\∃ aa:List (Key×V),ps=aa.map (fun kv=>(kV kv.1,kv.2))/\aa.length<=15/\Q (.ref p) (upd H2 p (.dK (eE [] aa)))
theorem zM {X : Cx} {pos : Pos} {keys : List (Option Expr)} {values : List Expr} {jR : List (TE × TE)} (h : F_ X pos keys values jR) (qK : keys.all (·.isSome) = true) (hl : keys.length = values.length) (h0 : keys ≠ [])
    (Hn:keys.length<=15):PE X (.Dict keys values pos) (Hm jR):=by
  intro pins s σ H Q I q
  have hn:=I.aV.fresh (ba s.heap.objs.size)
  have I1:=I.laid (a:=s.heap.objs.size) (o:=.dK []) (h':=s.heap.push { cls:=.type "dict",data:=.dict #[] }) (t':=s.toks) (fun _ _ q=>fY _ q) (ba _) (oJ s.heap I.big)
  refine wpAny_Dict_walk (knd:=aN X.prog X.w) qK hl h0 Hn (bP (h pins _ σ _ _ I1 (q _ hn)) ?_)
  rintro ws s2 ⟨ps,H2,I2,rel,e,aa,rfl,lk,q2⟩
  obtain ⟨rs,c,rk⟩:=jS (P:=X.prog) (w:=X.w) rel
  obtain ⟨z,hd,Vz,r0,dd⟩:=oH I2.aV e
  cases r0
  refine ⟨rs,c,dd,fun h' DC hs=>⟨.ref s.heap.objs.size,_,?_,rfl,q2⟩⟩
  have hz:(eE [] aa).length<=sizeLine:=by
    have h1:=gm aa []
    rw [List.length_nil] at h1
    rw [sizeLine_eq];omega
  have he:∃ q,h'.get? s.heap.objs.size=some q:=let ⟨q,_,_,hq,_⟩:=DC;⟨q,hq⟩
  exact mj I2 (by rw [e];exact True.intro) hs he (we hz hd (rk.merge .nil) DC)
structure M1 (X:Cx) (o:Expr) (m:Str) (apos:Pos) (e:Expr) (dB:Pos):Prop where
 base:attributeBase o m X.env (eval o X.env)=eval o X.env
 Rc:((backTo dB (starEach [e] X.env)).all (fun x=>!x.1) && (backToKw dB (keywordEach [] X.env)).all (fun x=>x.1.isSome)
  && decide (([e]:List Expr).length+([]:List Keyword).length+(if ([]:List Keyword).isEmpty then 0 else 1) < 30))=true
 line:(apos.endLine == dB.line)=true
 trees:backTo dB (starEach [e] X.env)=[(false,eval e X.env)]
structure M2 (X:Cx) (o:Expr) (m:Str) (apos:Pos) (e f:Expr) (dB:Pos):Prop where
 base:attributeBase o m X.env (eval o X.env)=eval o X.env
 Rc:((backTo dB (starEach [e,f] X.env)).all (fun x=>!x.1) && (backToKw dB (keywordEach [] X.env)).all (fun x=>x.1.isSome)
  && decide (([e,f]:List Expr).length+([]:List Keyword).length+(if ([]:List Keyword).isEmpty then 0 else 1) < 30))=true
 line:(apos.endLine == dB.line)=true
 trees:backTo dB (starEach [e,f] X.env)=[(false,eval e X.env),(false,eval f X.env)]
end L2
namespace HT
open PySem PyProof.Rows
section
open PySem.SeqAt
open PySem.AutoSeq1 (wpAny_loadPart')
open PySem.MeetsSeq PySem.MeetsSeq2 PySem.MeetsSeq3
end
section
variable {prog:Program} {w:World} {A:Around} {E:Value->Shared->Prop} {s:Shared}
theorem zN {t b : Addr} {vs ws : List Value} {Q : Value -> Shared -> Prop} (ht : IsTup s.heap t vs.toArray) (hb : IsTup s.heap b ws.toArray) (hv : vs ≠ [])
    (h1:ws=[]->Q (.ref t) s) (h2:ws≠[]->Q (.ref s.heap.objs.size) { s with heap:=s.heap.push { cls:=.type "tuple",data:=.seq (vs++ws).toArray } })
    (hsz:vs.length+ws.length<=sizeLine):wpAny (model prog w) A (binaryOp .Add (.ref t) (.ref b)) Q E s:=by
  obtain ⟨⟨cls,dd,data,sl⟩,ho,hc,n,hd⟩:=id ht
  obtain ⟨⟨Mu,Kp,data2,Kq⟩,wq,vC,n2,hd2⟩:=id hb
  simp only at hc hd vC hd2
  subst hc hd vC hd2
  have e:vs.toArray++ws.toArray=(vs++ws).toArray:=by simp
  by_cases hw:ws=[]
  · exact concat_meets ⟨_, ho, rfl⟩ ⟨_, wq, rfl⟩ noFill_tuple_add seq_tuple_add PySem.F.slot_tuple_add PySem.F.entry_tuple_add (PySem.F.args_tuple_add_2 _ _)
      (tuple_addW1 t b vs.toArray ws.toArray n n2 dd Kp sl Kq (by simpa using hv) (by simp [hw])) ⟨ho,wq,h1 hw⟩
  · refine concat_meets ⟨_, ho, rfl⟩ ⟨_, wq, rfl⟩ noFill_tuple_add seq_tuple_add PySem.F.slot_tuple_add PySem.F.entry_tuple_add (PySem.F.args_tuple_add_2 _ _)
      (tuple_addW2 t b vs.toArray ws.toArray n n2 dd Kp sl Kq (by simpa using hv) (by simpa using hw) (by rw [gi,gi];exact hsz)) ⟨ho,wq,?_⟩
    rw [e]
    exact h2 hw
def cH (n d:Nat):Option Int->Nat
 | none=>d
 | some v=>if v < 0 then (v+(n:Int)).toNat else min v.toNat n
theorem DF (n d:Nat) (hd:d<=n) (o:Option Int):cH n d o<=n:=by
 cases o with
 | none=>exact hd
 | some v =>
  show (if v < 0 then (v+(n:Int)).toNat else min v.toNat n)<=n
  by_cases hv:v < 0
  ·rw [if_pos hv];omega
  ·rw [if_neg hv];exact Nat.min_le_right _ _
theorem sL (v:Int) (n d:Nat):(if v < 0 then max (v+(n:Int)) 0 else min v (n:Int))=((cH n d (some v):Nat):Int):=by
 show (if v < 0 then max (v+(n:Int)) 0 else min v (n:Int))=(((if v < 0 then (v+(n:Int)).toNat else min v.toNat n):Nat):Int)
 by_cases hv:v < 0
 ·simp only [if_pos hv];omega
 ·simp only [if_neg hv];omega
theorem qL (lo hi:Option Int) (n:Nat):Builtin.Slice.sliceAdjust lo hi 1 (n:Int)=(((cH n 0 lo:Nat):Int),((cH n n hi:Nat):Int)):=by
 have h1:¬ ((1:Int) < 0):=by omega
 unfold Builtin.Slice.sliceAdjust
 simp only [h1,if_false]
 refine Prod.ext ?_ ?_
 ·cases lo with
  | none=>rfl
  | some v=>exact sL v n 0
 ·cases hi with
  | none=>rfl
  | some v=>exact sL v n n
theorem qM (i j:Nat):Builtin.Slice.slicePlaces (i:Int) (j:Int) 1=j - i:=by
 unfold Builtin.Slice.slicePlaces
 have h1:(1:Int) > 0:=by omega
 simp only [h1,if_true,Int.ediv_one]
 split <;> omega
theorem jT {v:Value} {o:Option Int} {Q:Option Int->Shared->Prop} (p:IsPart v o) (h:Q o s):wpAny (model prog w) A (Builtin.Slice.slicePartIndex v) Q E s:=by
 cases p with
 | none=>exact slicePart_none h
 | int i t=>exact slicePart_int h
theorem iE {sl : Addr} {vl vu : Value} {lo hi : Option Int} {n : Nat} {Q : Int × Int × Nat -> Shared -> Prop} (hs : s.heap.IsSliceOf sl vl vu .none) (pl : IsPart vl lo) (pu : IsPart vu hi)
    (h:Q (((cH n 0 lo:Nat):Int),1,cH n n hi - cH n 0 lo) s):wpAny (model prog w) A (Builtin.Slice.sliceApplied (.ref sl) (pure (n:Int))) Q E s:=by
  obtain ⟨os,wt,Ho,zO⟩:=id hs
  unfold Builtin.Slice.sliceApplied Builtin.Slice.sliceFields
  refine wpAny_bind (wpAny_bind (wpAny_field wt zO (x:=vl) rfl (wpAny_bind (wpAny_field wt zO (x:=vu) rfl (wpAny_bind (wpAny_field wt zO (x:=.none) rfl (wpAny_pure ?_)))))))
  refine wpAny_bind (slicePart_none ?_)
  show wpAny _ _ (if ((1:Int) == 0)=true then _ else _) _ _ s
  rw [if_neg (by decide)]
  refine wpAny_bind (jT pl (wpAny_bind (jT pu (wpAny_bind (wpAny_pure ?_)))))
  show wpAny _ _ (match Builtin.Slice.sliceAdjust lo hi 1 (n:Int) with | (lo,hi)=>pure (lo,(1:Int),Builtin.Slice.slicePlaces lo hi 1)) _ _ s
  rw [qL lo hi n]
  show wpAny _ _ (pure (((cH n 0 lo:Nat):Int),(1:Int),Builtin.Slice.slicePlaces ((cH n 0 lo:Nat):Int) ((cH n n hi:Nat):Int) 1)) _ _ s
  rw [qM]
  exact wpAny_pure h
theorem wu (xs:Array Value) (i k:Nat):((List.range k).filterMap fun (m:Nat)=>xs[((i:Int)+(m:Int) * 1).toNat]?).toArray=((xs.toList.drop i).take k).toArray:=by
 have e:(fun (m:Nat)=>xs[((i:Int)+(m:Int) * 1).toNat]?)=fun m=>xs[i+m]?:=by
  funext m
  have:((i:Int)+(m:Int) * 1).toNat=i+m:=by omega
  rw [this]
 rw [e]
 have:=pick_run xs i k
 rw [List.filterMap_map] at this
 have e2:((fun x=>xs[x]?)∘fun x=>i+x)=fun m=>xs[i+m]?:=rfl
 rw [e2] at this
 rw [this]
theorem gZ {t sl : Addr} {items : Array Value} {vl vu : Value} {lo hi : Option Int} {Q : Value -> Shared -> Prop} (ht : IsTup s.heap t items) (hs : s.heap.IsSliceOf sl vl vu .none) (pl : IsPart vl lo) (pu : IsPart vu hi)
    (hw:¬ (cH items.size 0 lo=0/\cH items.size items.size hi=items.size))
    (h:Q (.ref s.heap.objs.size) { s with heap:=s.heap.push { cls:=.type "tuple",data:=.seq ((items.toList.drop (cH items.size 0 lo)).take (cH items.size items.size hi - cH items.size 0 lo)).toArray } })
    (hsz:items.size<=sizeLine):wpAny (model prog w) A (getItem (.ref t) (.ref sl)) Q E s:=by
  have sM:sizeOk (.seq ((items.toList.drop (cH items.size 0 lo)).take (cH items.size items.size hi - cH items.size 0 lo)).toArray):=by
    show ((items.toList.drop (cH items.size 0 lo)).take (cH items.size items.size hi - cH items.size 0 lo)).toArray.size<=sizeLine
    rw [gi,List.length_take,List.length_drop,Array.length_toList]
    omega
  have hj:cH items.size items.size hi<=items.size:=DF _ _ (ba _) hi
  obtain ⟨os,wt,Ho,zO⟩:=id hs
  have Mx:s.TypeIs (.ref sl) "slice" := ⟨os,wt,Ho⟩
  unfold getItem
  try with_reducible refine wpAny_holding ?_
  first | refine wpAny_bind (wpAny_pure ?_) | skip
  refine wpAny_bind (wpAny_sequenceKey ht.typeIs (by decide) ?_)
  refine wpAny_bind (wpAny_callSpecial?_slot (name:=Str.ofString "__getitem__") ht.typeIs PyProof.Rows.slot_tuple_getitem
    (wpAny_call_entry PyProof.Rows.slot_tuple_getitem ht.typeIs entry_tuple_getitem ?_ (args_tuple_getitem _ _)))
  show wpAny _ _ (Builtin.Tuple.tupleItemsOf (.ref t) >>= _) _ _ s
  refine wpAny_bind (tupleItemsOf_ ht ?_)
  refine wpAny_bind (wpAny_typeOf Mx ?_)
  rw [if_pos (by decide)]
  refine wpAny_bind (iE hs pl pu ?_)
  have Ga:¬ ((((cH items.size 0 lo:Nat):Int) == 0 && (1:Int) == 1 && (cH items.size items.size hi - cH items.size 0 lo) == items.size)=true):=by
    intro q
    rw [bH,bH] at q
    have q1:((cH items.size 0 lo:Nat):Int)=0:=eq_of_beq q.1.1
    have q2:cH items.size items.size hi - cH items.size 0 lo=items.size:=eq_of_beq q.2
    exact hw ⟨by omega,by omega⟩
  show wpAny _ _ (if (((cH items.size 0 lo:Nat):Int) == 0 && (1:Int) == 1 && (cH items.size items.size hi - cH items.size 0 lo) == items.size)=true then _ else _) _ _ s
  rw [if_neg Ga,wu]
  first
    | exact wpAny_bind (m:=Builtin.Tuple.tupleExact _) (wpAny_newObj_type (wpAny_pure ⟨_,rfl,wpAny_pure h⟩) sM)
    | exact wpAny_bind (m:=Builtin.Tuple.tupleExact _) (wpAny_newObj_type (wpAny_bind (wpAny_pure (wpAny_pure ⟨_,rfl,wpAny_pure h⟩))) sM)
    | exact wpAny_bind (wpAny_bind (m:=Builtin.Tuple.tupleExact _) (wpAny_newObj_type (wpAny_pure (wpAny_pure ⟨_,rfl,wpAny_pure h⟩)) sM))
    | exact wpAny_bind (wpAny_bind (m:=Builtin.Tuple.tupleExact _) (wpAny_newObj_type (wpAny_pure ⟨_,rfl,wpAny_pure h⟩) sM))
end
end HT
namespace L2
open PySem PySem.Spec PyProof.Rows
abbrev TO:=St->Hp->(Option Int->Hp->Prop)->Prop
def PO (X:Cx) (e:Option Expr) (t:TO):Prop :=
 ∀ (pins:List (Addr×Obj)) (s:Shared) (σ:St) (H:Hp) (Q:Option Int->Hp->Prop),Inv X pins σ H s->t σ H Q ->
  wpAny (model X.prog X.w) X.A (evalPart e X.env) (fun u s'=>∃ o H',Inv X pins σ H' s'/\IsPart u o/\Q o H') X.xe s
def zP:TO:=fun _ H Q=>Q none H
def Hq (t:TE):TO:=fun σ H Q=>t σ H fun x H1=>∃ i,x=.int i/\Q (some i) H1
section
variable {X:Cx} {e:Expr} {te:TE} {lo hi:Option Expr} {tl th:TO} {pos p2:Pos}
theorem zQ:PO X none zP:=by
 intro pins s σ H Q I h
 rw [evalPart_none]
 exact wpAny_pure ⟨none,H,I,.none,h⟩
theorem zR (h:PE X e te):PO X (some e) (Hq te):=by
 intro pins s σ H Q I hw
 rw [evalPart_some]
 refine bP (h pins s σ H _ I hw) ?_
 rintro u s1 ⟨x,H1,I1,r1,q1⟩
 obtain ⟨i,rfl,q⟩:=q1
 obtain ⟨t,rfl⟩:=r1
 exact ⟨some i,H1,I1,.int i t,q⟩
def Kr (X:Cx) (r:V->Option Int->Option Int->Hp->VK->Prop):Prop :=
 ∀ (pins:List (Addr×Obj)) (s:Shared) (σ:St) (H:Hp) (x:V) (v vl vu:Value) (lo hi:Option Int) (sl:Addr) (Q:VK),Inv X pins σ H s->RelV x v->s.heap.IsSliceOf sl vl vu .none->IsPart vl lo->IsPart vu hi->r x lo hi H Q ->
  ∃ T id,typeLookup (.type T) "__getitem__" = pure (some (.builtin id))/\s.TypeIs v T/\wpAny (model X.prog X.w) X.A (getItem v (.ref sl)) (EP X pins σ Q) X.xe s
def Rf (r:V->Option Int->Option Int->Hp->VK->Prop) (te:TE) (tl th:TO):TE:=fun σ H Q=>te σ H fun x H1=>tl σ H1 fun l H2=>th σ H2 fun u H3=>r x l u H3 Q
theorem wz {r:V->Option Int->Option Int->Hp->VK->Prop} (hr:Kr X r) (he:PE X e te) (hl:PO X lo tl) (hu:PO X hi th):PE X (.Subscript e (.Slice lo hi none p2) pos) (Rf r te tl th):=by
 intro pins s σ H Q I h
 refine Subscript_ (bP (he pins s σ H _ I h) ?_)
 rintro v s1 ⟨x,H1,I1,r1,q1⟩
 refine wpAny_Slice (bP (hl pins s1 σ H1 _ I1 q1) fun vl s2 ⟨l,H2,I2,pl,q2⟩=>bP (hu pins s2 σ H2 _ I2 q2) fun vu s3 ⟨u,H3,I3,pu,q3⟩=>?_)
 rw [evalPart_none]
 refine wpAny_pure ?_
 have I4:Inv X pins σ H3 { s3 with heap:=s3.heap.push { cls:=.type "slice",data:=.fields #[vl,vu,.none] } }:=I3.kept (t':=s3.toks) fun b ob q=>fY _ q
 obtain ⟨T,id,hT,ht,hg⟩:=hr pins { s3 with heap:=s3.heap.push { cls:=.type "slice",data:=.fields #[vl,vu,.none] } } σ H3 x v vl vu l u s3.heap.objs.size Q I4 r1 (Heap.IsSliceOf.new ..) pl pu q3
 show wpAny (model X.prog X.w) X.A (subscriptTail e (.Slice lo hi none p2) v (.ref s3.heap.objs.size)) (EP X pins σ Q) X.xe { s3 with heap:=s3.heap.push { cls:=.type "slice",data:=.fields #[vl,vu,.none] } }
 exact tail_any (ops:=[.ref s3.heap.objs.size,v]) ht hT hg (by with_unfolding_all rfl)
def oK (xs:List V) (lo hi:Option Int):List V:=(xs.drop (HT.cH xs.length 0 lo)).take (HT.cH xs.length xs.length hi - HT.cH xs.length 0 lo)
theorem iX (xs:List V) (lo hi:Option Int):(oK xs lo hi).length<=xs.length:=by
 unfold oK
 rw [List.length_take,List.length_drop]
 omega
def My (K:PySem.W.Frag):V->Option Int->Option Int->Hp->VK->Prop:=fun x lo hi H Q=>∃ a xs,x=.ref a/\eT K H a xs /\
 ¬ (HT.cH xs.length 0 lo=0/\HT.cH xs.length xs.length hi=xs.length)/\∀ p,H p=none->Q (.ref p) (upd H p (.tup (oK xs lo hi)))
theorem DG:Kr X (My X.K):=by
 intro pins s σ H x v vl vu lo hi sl Q I rx hs pl pu h
 obtain ⟨a,xs,rfl,hx,hw,q⟩:=h
 cases rx
 obtain ⟨aq,r,ht,hz⟩:=I.tuple hx
 have hlen:aq.toArray.size=xs.length:=by rw [gi];exact r.length.symm
 refine ⟨"tuple",_,PyProof.Rows.slot_tuple_getitem.lookup,ht.typeIs,?_⟩
 refine HT.gZ ht hs pl pu (by rw [hlen];exact hw) ?_ (by rw [hlen];exact hz)
 rw [hlen]
 refine ⟨.ref s.heap.objs.size,_,I.laid (t':=s.toks) (o:=.tup (oK xs lo hi)) (fun b ob q=>fY _ q) (ba _) ?_,rfl,q _ (I.aV.fresh (ba _))⟩
 exact ⟨Nat.le_trans (iX xs lo hi) hz,_,(r.drop (HT.cH xs.length 0 lo)).take (HT.cH xs.length xs.length hi - HT.cH xs.length 0 lo),IsTup.new _ _⟩
def Hr (K:PySem.W.Frag):R2:=fun x y H Q=>∃ a b xs ys,x=.ref a/\y=.ref b/\eT K H a xs/\eT K H b ys/\xs≠[]/\xs.length+ys.length<=sizeLine /\
 (ys=[]->Q (.ref a) H)/\(ys≠[]->∀ p,H p=none->Q (.ref p) (upd H p (.tup (xs++ys))))
theorem Vals.ml {xs:List V} {us:List Value} (r:Vals xs us):us=[]↔xs=[]:=by
 cases r with
 | nil=>simp
 | cons _ _=>simp
theorem zS:fZ X (binaryOp .Add) (Hr X.K):=by
 intro pins s σ H x y v u Q I rx ry h
 obtain ⟨a,b,xs,ys,rfl,rfl,ha,hb,hx,hz,q1,q2⟩:=h
 cases rx
 cases ry
 obtain ⟨aq,r1,p1,_⟩:=I.tuple ha
 obtain ⟨wA,r2,p2,_⟩:=I.tuple hb
 refine HT.zN p1 p2 (fun z=>hx (r1.ml.mp z)) (fun z=>⟨.ref a,H,I,rfl,q1 (r2.ml.mp z)⟩) (fun z=>?_) (by rw [<- r1.length,<- r2.length];exact hz)
 refine ⟨.ref s.heap.objs.size,_,I.laid (t':=s.toks) (o:=.tup (xs++ys)) (fun b ob q=>fY _ q) (ba _) ?_,rfl,q2 (fun w=>z (r2.ml.mpr w)) _ (I.aV.fresh (ba _))⟩
 exact ⟨by rw [jM];exact hz,_,r1.append r2,IsTup.new _ _⟩
end
def wB (n:Nat) (i:Int):Option Nat:=if 0<=i then (if i < n then some i.toNat else none) else if -(n:Int)<=i then some (i+n).toNat else none
def sN {α:Type} (xs:List α) (i:Int):Option α:=(wB xs.length i).bind fun j=>xs[j]?
theorem sO {n:Nat} {i:Int} {j:Nat} (h:wB n i=some j):seqIndex? i n=some j/\j < n/\-(n:Int)<=i/\i < n:=by
 unfold wB at h
 by_cases h0:0<=i
 ·rw [if_pos h0] at h
  by_cases h1:i < n
  ·rw [if_pos h1] at h
   have e:i.toNat=j:=e_ h
   exact ⟨by rw [seqIndex_of h0 h1,e],by omega,by omega,h1⟩
  ·rw [if_neg h1] at h;cases h
 ·rw [if_neg h0] at h
  by_cases h1:-(n:Int)<=i
  ·rw [if_pos h1] at h
   have e:(i+n).toNat=j:=e_ h
   exact ⟨by rw [seqIndex_neg (by omega) h1,e],by omega,h1,by omega⟩
  ·rw [if_neg h1] at h;cases h
theorem mq {α:Type} {xs:List α} {i:Int} {v:α} (h:sN xs i=some v):∃ j,seqIndex? i xs.length=some j/\xs[j]?=some v/\j < xs.length/\-(xs.length:Int)<=i/\i < xs.length:=by
 unfold sN at h
 cases e:wB xs.length i with
 | none=>rw [e] at h;cases h
 | some j =>
  rw [e] at h
  obtain ⟨h1,h2,h3,h4⟩:=sO e
  exact ⟨j,h1,h,h2,h3,h4⟩
def sP (b:Expr):Prop:=∀ o i,subscripted b false o i=operate [o,i] (getItem o i)
def Gb (X:Cx) (r:R2):Prop :=
 ∀ (value slice:Expr) (pins:List (Addr×Obj)) (s:Shared) (σ:St) (H:Hp) (x y:V) (v u:Value) (Q:VK),Inv X pins σ H s->RelV x v->RelV y u->r x y H Q ->
  subscripted slice false v u=operate [v,u] (getItem v u)->wpAny (model X.prog X.w) X.A (subscriptTail value slice v u) (EP X pins σ Q) X.xe s
def DH (X:Cx) (id:String) (r:V->List V->Hp->VK->Prop):Prop :=
 ∀ (pins:List (Addr×Obj)) (s:Shared) (σ:St) (H:Hp) (x:V) (xs:List V) (v:Value) (us:List Value) (Q:VK),Inv X pins σ H s->RelV x v->Vals xs us->r x xs H Q ->
  wpAny (model X.prog X.w) X.A (call (.builtin id) (v::us)) (EP X pins σ Q) X.xe s
section
variable {X:Cx} {a b:Expr} {ta tb:TE} {pos:Pos}
theorem B7 {r:R2} (hr:Gb X r) (ha:PE X a ta) (hb:PE X b tb) (hs:sP b):PE X (.Subscript a b pos) (y9 r ta tb):=by
 intro pins s σ H Q I h
 exact Subscript_ (Dj ha hb I h fun v u s2 x y H2 I2 rx ry q=>hr a b pins s2 σ H2 x y v u Q I2 rx ry q (hs _ _))
def Mz (K:PySem.W.Frag):R2:=fun x y H Q=>∃ p xs i v,x=.ref p/\y=.int i/\d9 K H p xs/\sN xs i=some v/\Q v H
def MB (K:PySem.W.Frag):R2:=fun x y H Q=>∃ p xs i v,x=.ref p/\y=.int i/\eT K H p xs/\sN xs i=some v/\Q v H
def MC:R2:=fun x y H Q=>∃ z i c,x=.str z/\y=.int i/\z.length<=sizeLine/\sN z.cps.toList i=some c/\Q (.str ⟨#[c]⟩) H
theorem zT:Gb X (Mz X.K):=by
 intro value slice pins s σ H x y v u Q I rx ry h hs
 obtain ⟨p,xs,i,z,rfl,rfl,hq,he,q⟩:=h
 cases rx
 obtain ⟨t,rfl⟩:=ry
 obtain ⟨aq,r,pl,hz⟩:=I.list hq
 obtain ⟨j,h1,h2,h3,h4,h5⟩:=mq he
 obtain ⟨w,ew,qJ⟩:=r.get h2
 have hl:=r.length
 have hn:=gD
 have fin:EP X pins σ Q w s:=⟨z,H,I,qJ,q⟩
 by_cases h0:0<=i
 ·have hj:i.toNat=j:=by
   rw [seqIndex_of h0 h5] at h1
   exact e_ h1
  exact item_listR pl.isList h0 (by omega) (by rw [hj];simpa using ew) fin hs
 ·have hj:(i+(aq.toArray.size:Int)).toNat=j:=by
   rw [seqIndex_neg (by omega) h4] at h1
   rw [gi,<- hl]
   exact e_ h1
  exact subscriptTail_builtinR (x:=w) pl.isList.typeIs slot_list_getitem.lookup
   (wpAny_getItem_list_neg (Q:=fun r s'=>r=w/\EP X pins σ Q r s') pl.isList (by omega) (by rw [gi] <;> omega) (by omega) (by rw [hj];simpa using ew) ⟨rfl,fin⟩) hs
theorem DI:Gb X (MB X.K):=by
 intro value slice pins s σ H x y v u Q I rx ry h hs
 obtain ⟨p,xs,i,z,rfl,rfl,hq,he,q⟩:=h
 cases rx
 obtain ⟨t,rfl⟩:=ry
 obtain ⟨aq,r,pl,hz⟩:=I.tuple hq
 obtain ⟨j,h1,h2,h3,h4,h5⟩:=mq he
 obtain ⟨w,ew,qJ⟩:=r.get h2
 have hl:=r.length
 have hn:=gD
 have fin:EP X pins σ Q w s:=⟨z,H,I,qJ,q⟩
 exact subscriptTail_builtinR (x:=w) pl.typeIs slot_tuple_getitem.lookup
  (getItem_tuple (j:=j) (Q:=fun r s'=>r=w/\EP X pins σ Q r s') pl (by omega) (by omega) (by rw [gi,<- hl];exact h1) (by simpa using ew) ⟨rfl,fin⟩) hs
theorem DJ:Gb X MC:=by
 intro value slice pins s σ H x y v u Q I rx ry h hs
 obtain ⟨z,i,c,rfl,rfl,hz,he,q⟩:=h
 obtain ⟨t,rfl⟩:=rx
 obtain ⟨t',rfl⟩:=ry
 obtain ⟨j,h1,h2,h3,h4,h5⟩:=mq he
 have hl:z.cps.toList.length=z.length:=by simp [Str.length]
 rw [hl] at h1 h4 h5
 have hn:=gD
 exact tail_any (typeIs_str s z t) slot_str_getitem.lookup (getItem_str (c:=c) (by
  have e1:decide (i < -(2 ^ 63:Int))=false:=decide_eq_false (by omega)
  have e2:decide (i ≥ 2 ^ 63)=false:=decide_eq_false (by omega)
  rw [e1,e2,Bool.or_false]) (by rw [h1];simpa using h2) ⟨.str ⟨#[c]⟩,H,I.tok _,⟨_,rfl⟩,q⟩) hs
theorem qN (aq:List Value) (n j:Nat) (u:Value):Obj.mapSeq (·.setIfInBounds j u) { cls:=.type "list",data:=.seq aq.toArray n }={ cls:=.type "list",data:=.seq (aq.set j u).toArray n }:=by
 simp [Obj.mapSeq]
theorem Inv.lst {pins : List (Addr × Obj)} {σ : St} {H : Hp} {s : Shared} {p : Addr} {xs : List V} (I : Inv X pins σ H s) (h : H p = some (.lst xs)) :
    ∃ (aq:List Value) (n:Nat),Vals xs aq/\s.heap.get? p=some { cls:=.type "list",data:=.seq aq.toArray n }/\xs.length<=sizeLine:=by
  obtain ⟨z,aq,n,r,e⟩:=I.aV p _ h
  exact ⟨aq,n,r,e,z⟩
theorem Inv.DK {pins : List (Addr × Obj)} {σ : St} {H : Hp} {s : Shared} {p : Addr} {xs ys : List V} {aq its' : List Value} {n n' : Nat} {f : Obj -> Obj} (I : Inv X pins σ H s) (h : H p = some (.lst xs))
    (ho:s.heap.get? p=some { cls:=.type "list",data:=.seq aq.toArray n }) (hf:f { cls:=.type "list",data:=.seq aq.toArray n }={ cls:=.type "list",data:=.seq its'.toArray n' }) (r:Vals ys its') (hz:ys.length<=sizeLine) (t:Nat) :
    Inv X pins σ (upd H p (.lst ys)) { s with heap:=s.heap.update p f,toks:=t }:=by
  have e:(s.heap.update p f).get? p=some { cls:=.type "list",data:=.seq its'.toArray n' }:=by
    rw [Heap.get?_update_self f ho (by rw [hf] <;> rfl),hf]
  refine I.write (x:=p) (e:=p) (by rw [h];trivial) (.inl rfl) (fun b u hb q=>(Heap.get?_update_other _ _ (Ne.symm hb)).trans q) ⟨_,e⟩ ?_
  exact ⟨hz,its',n',r,e⟩
def Hs:V->V->V->Hp->(Hp->Prop)->Prop:=fun o i v H Q=>∃ p xs k j,o=.ref p/\i=.int k/\H p=some (.lst xs)/\wB xs.length k=some j/\Q (upd H p (.lst (xs.set j v)))
theorem set_list:zA X Hs:=by
 intro pins s σ H o i v ov iv u Q I ro ri rv h
 obtain ⟨p,xs,k,j,rfl,rfl,hp,hj,q⟩:=h
 cases ro
 obtain ⟨t,rfl⟩:=ri
 obtain ⟨aq,n,r,ho,hz⟩:=I.lst hp
 obtain ⟨h1,h2,h3,h4⟩:=sO hj
 have hl:=r.length
 have hn:=gD
 have I':Inv X pins σ (upd H p (.lst (xs.set j v))) { s with heap:=s.heap.update p (Obj.mapSeq (·.setIfInBounds j u)) } :=
  I.DK hp ho (qN aq n j u) (r.set rv j) (by rw [List.length_set];exact hz) s.toks
 by_cases h0:0<=k
 ·have hk:k.toNat=j:=by
   rw [seqIndex_of h0 h4] at h1
   exact e_ h1
  exact PySem.W.ki_setAt ho h0 (by omega) (by rw [gi,<- hl];exact h4) (by rw [hk];exact ⟨_,I',q⟩)
 ·have hk:(k+(aq.toArray.size:Int)).toNat=j:=by
   rw [seqIndex_neg (by omega) h3] at h1
   rw [gi,<- hl]
   exact e_ h1
  exact PySem.W.ki_setBack ho (by omega) (by rw [gi,<- hl];exact h3) (by omega) (by rw [hk];exact ⟨_,I',q⟩)
theorem mr (lo hi:Option Int) (n:Nat):(sliceBounds lo hi none n).1=((HT.cH n 0 lo:Nat):Int)/\(sliceBounds lo hi none n).2.1=((HT.cH n n hi:Nat):Int)/\(sliceBounds lo hi none n).2.2=1:=by
 refine ⟨?_,?_,rfl⟩
 ·cases lo with
  | none=>simp [sliceBounds,HT.cH]
  | some i =>
   simp only [sliceBounds,HT.cH,Option.getD_none,show (1:Int) > 0 by decide,if_true]
   by_cases h:i < 0
   ·simp only [h,if_true] <;> omega
   ·simp only [h,if_false] <;> omega
 ·cases hi with
  | none=>simp [sliceBounds,HT.cH]
  | some i =>
   simp only [sliceBounds,HT.cH,Option.getD_none,show (1:Int) > 0 by decide,if_true]
   by_cases h:i < 0
   ·simp only [h,if_true] <;> omega
   ·simp only [h,if_false] <;> omega
theorem kR (aq:List Value) (lo hi:Option Int):slicePick aq.toArray lo hi none=((aq.drop (HT.cH aq.length 0 lo)).take (HT.cH aq.length aq.length hi - HT.cH aq.length 0 lo)).toArray:=by
 obtain ⟨h1,h2,h3⟩:=mr lo hi aq.toArray.size
 unfold slicePick
 rw [h1,h2,h3]
 simp only [sliceRange_one,pick_run,gi] <;> rfl
def MD (K:PySem.W.Frag):V->Option Int->Option Int->Hp->VK->Prop:=fun x lo hi H Q=>∃ a xs,x=.ref a/\d9 K H a xs/\∀ p,H p=none->Q (.ref p) (upd H p (.lst (oK xs lo hi)))
theorem zU:Kr X (MD X.K):=by
 intro pins s σ H x v vl vu lo hi sl Q I rx hs pl pu h
 obtain ⟨a,xs,rfl,hx,q⟩:=h
 cases rx
 obtain ⟨aq,r,ht,hz⟩:=I.list hx
 have hlen:=r.length
 refine ⟨"list",_,slot_list_getitem.lookup,ht.isList.typeIs,?_⟩
 refine wpAny_getItem_list_slice ht.isList hs pl pu .none (by simp) ?_ (by rw [gi] <;> omega)
 rw [kR,<- hlen]
 refine ⟨.ref s.heap.objs.size,_,I.laid (t':=s.toks) (o:=.lst (oK xs lo hi)) (fun b ob q=>fY _ q) (ba _) ?_,rfl,q _ (I.aV.fresh (ba _))⟩
 exact ⟨Nat.le_trans (iX xs lo hi) hz,_,0,(r.drop (HT.cH xs.length 0 lo)).take (HT.cH xs.length xs.length hi - HT.cH xs.length 0 lo),k_ _ rfl⟩
theorem mw:cI X (.builtin "len") (fun xs H Q=>∃ p ys,xs=[.ref p]/\(d9 X.K H p ys\/eT X.K H p ys)/\Q (.int ys.length) H):=by
 intro pins s σ H xs us Q I r h
 obtain ⟨p,ys,rfl,hq,q⟩:=h
 obtain ⟨u,rfl,rx⟩:=vals1 r
 cases rx
 have hn:=gD
 rcases hq with hq | hq
 ·obtain ⟨aq,r',pl,hz⟩:=I.list hq
  have hlen:=r'.length
  exact Calls.call_len_list pl.isList (by simp only [gi] <;> omega) ⟨.int ys.length,H,I.tok _,⟨s.toks+1,by rw [gi,hlen]⟩,q⟩
 ·obtain ⟨aq,r',pl,hz⟩:=I.tuple hq
  have hlen:=r'.length
  exact len_tuple pl (by simp only [gi] <;> omega) ⟨.int ys.length,H,I.tok _,⟨s.toks+1,by rw [gi,hlen]⟩,q⟩
theorem mx:cI X (.builtin "len") (fun xs H Q=>∃ z,xs=[.str z]/\z.length<=sizeLine/\Q (.int z.length) H):=by
 intro pins s σ H xs us Q I r h
 obtain ⟨z,rfl,hz,q⟩:=h
 obtain ⟨u,rfl,t,rfl⟩:=vals1 r
 have hn:=gD
 exact len_str (by omega) ⟨.int z.length,H,I.tok _,⟨_,rfl⟩,q⟩
theorem my:cI X (.type "list") (fun xs H Q=>∃ p ys,xs=[.ref p]/\(d9 X.K H p ys\/eT X.K H p ys)/\∀ l,H l=none->Q (.ref l) (upd H l (.lst ys))):=by
  intro pins s σ H xs us Q I r h
  obtain ⟨p,ys,rfl,hq,q⟩:=h
  obtain ⟨u,rfl,rx⟩:=vals1 r
  cases rx
  have fin : ∀ (aq : List Value), Vals ys aq -> ys.length <= sizeLine -> ∀ (h' : Heap) (c' : Nat), (∀ b o', s.heap.get? b = some o' -> h'.get? b = some o') ->
      h'.get? s.heap.objs.size=some { cls:=.type "list",dict:=none,data:=.seq aq.toArray c',slots:=#[] }->EP X pins σ Q (.ref s.heap.objs.size) { s with heap:=h' }:=fun aq r' hz h' c' kp e =>
    ⟨.ref s.heap.objs.size,_,I.laid (t':=s.toks) kp (ba _) (show aY X.prog X.w _ h' _ (.lst ys) from ⟨hz,aq,c',r',e⟩),rfl,q _ (I.aV.fresh (ba _))⟩
  rcases hq with hq | hq
  · obtain ⟨aq,r',pl,hz⟩:=I.list hq
    have hlen:=r'.length
    obtain ⟨o,ho,hc,n,hd⟩:=pl.isList
    exact call_list_seq p (.inl rfl) ho hc hd (fun h' c' kp e=>fin aq r' hz h' c' kp e) (by simp only [gi] <;> omega)
  · obtain ⟨aq,r',pl,hz⟩:=I.tuple hq
    have hlen:=r'.length
    obtain ⟨o,ho,hc,n,hd⟩:=pl
    exact call_list_seq p (.inr rfl) ho hc hd (fun h' c' kp e=>fin aq r' hz h' c' kp e) (by simp only [gi] <;> omega)
theorem gn:cI X (.type "tuple") (fun xs H Q=>∃ p ys,xs=[.ref p]/\((d9 X.K H p ys/\∀ l,H l=none->Q (.ref l) (upd H l (.tup ys)))\/(eT X.K H p ys/\Q (.ref p) H))):=by
 intro pins s σ H xs us Q I r h
 obtain ⟨p,ys,rfl,h⟩:=h
 obtain ⟨u,rfl,rx⟩:=vals1 r
 cases rx
 rcases h with ⟨hq,q⟩|⟨hq,q⟩
 ·obtain ⟨aq,r',pl,hz⟩:=I.list hq
  have hlen:=r'.length
  refine call_tuple_list pl.isList (fun h' kp=>?_) (by simp only [gi] <;> omega)
  have I1:Inv X pins σ H { s with heap:=h' }:=I.kept (t':=s.toks) kp
  have I2:Inv X pins σ (upd H h'.objs.size (.tup ys)) { s with heap:=h'.push { cls:=.type "tuple",data:=.seq aq.toArray } } :=
   I1.laid (t':=s.toks) (fun b o e=>fY _ e) (ba _) (show aY X.prog X.w _ _ _ (.tup ys) from ⟨hz,aq,r',IsTup.new _ _⟩)
  exact ⟨.ref h'.objs.size,_,I2,rfl,q _ (I1.aV.fresh (ba _))⟩
 ·obtain ⟨aq,r',pl,hz⟩:=I.tuple hq
  exact call_tuple_same pl ⟨.ref p,H,I,rfl,q⟩
def ME (K:PySem.W.Frag) (T:String) (x:V) (H:Hp):Prop:=match x with
  | .str _=>T = "str"
  | .int _=>T = "int"
  | .ref p => (T = "list" /\ ∃ xs, d9 K H p xs) \/ (T = "tuple" /\ ∃ o, K.lookup p = some o /\ o.cls = .type "tuple" /\ o.dict = none) \/
      (T = "dict" /\ ((∃ aa,H p=some (.dK aa))\/∃ aa,H p=some (.dT aa)))\/(T = "set" /\ ∃ S n,H p=some (.set S n))
  | _=>False
theorem wC {pins : List (Addr × Obj)} {σ : St} {H : Hp} {s : Shared} {T : String} {x : V} {v : Value} (I : Inv X pins σ H s) (r : RelV x v) (ty : ME X.K T x H) :
    s.TypeIs v T/\∀ a,v=.ref a->∃ ob,s.heap.get? a=some ob/\ob.dict=none:=by
  cases x with
  | str z =>
    obtain ⟨t,rfl⟩:=r
    cases (show T = "str" from ty)
    exact ⟨typeIs_str s z t,fun _ e=>nomatch e⟩
  | int i =>
    obtain ⟨t,rfl⟩:=r
    cases (show T = "int" from ty)
    exact ⟨typeIs_int s i t,fun _ e=>nomatch e⟩
  | ref p =>
    cases r
    rcases ty with ⟨rfl,xs,hq⟩|⟨rfl,o,hk,hc,hd⟩|⟨rfl,hk⟩|⟨rfl,S,n,hk⟩
    · obtain ⟨aq,_,pl,_⟩:=I.list hq
      refine ⟨pl.isList.typeIs,fun a e=>?_⟩
      cases e
      obtain ⟨o,n,e,c,hd,_⟩:=pl
      exact ⟨o,e,hd⟩
    · refine ⟨⟨o,I.ow p o hk,hc⟩,fun a e=>?_⟩
      cases e
      exact ⟨o,I.ow _ o hk,hd⟩
    · have z : ∃ o, s.heap.get? p = some o /\ o.ExactDict := by
        rcases hk with ⟨aa,hk⟩|⟨aa,hk⟩
        · obtain ⟨_,_,_,_,o,_,_,e,ex,_⟩:=I.aV p _ hk
          exact ⟨o,e,ex⟩
        · obtain ⟨_,_,_,_,o,_,_,e,ex,_⟩:=I.aV p _ hk
          exact ⟨o,e,ex⟩
      obtain ⟨o,e,ex⟩:=z
      refine ⟨⟨o,e,ex.1⟩,fun a e2=>?_⟩
      cases e2
      exact ⟨o,e,ex.2.1⟩
    · obtain ⟨o,_,_,_,e,ex,_⟩:=I.aV p _ hk
      refine ⟨⟨o,e,ex.1⟩,fun a e2=>?_⟩
      cases e2
      exact ⟨o,e,ex.2.1⟩
  | _=>exact False.elim ty
def Ht (K:PySem.W.Frag) (T:String) (r:V->List V->Hp->VK->Prop) (to:TE):TE:=fun σ H Q=>to σ H fun x H1=>ME K T x H1/\r x [] H1 Q
def OQ (K:PySem.W.Frag) (T:String) (r:V->List V->Hp->VK->Prop) (to:TE) (t:TA):TE:=fun σ H Q=>to σ H fun x H1=>ME K T x H1/\t σ H1 fun xs H2=>r x xs H2 Q
variable {o e:Expr} {es:List Expr} {to:TE} {t:TA} {name:Str} {apos dB:Pos} {T id:String} {r:V->List V->Hp->VK->Prop}
theorem mz (pa : PlainAttrs T) (slot : Slot T name id) (MF : typeOf (.builtin id) = pure (.type "method_descriptor")) (hm : DH X id r) (ho : PE X o to)
    (wD:attributeBase o name X.env (eval o X.env)=eval o X.env:=by rfl) (wF:(apos.endLine == dB.line)=true:=by rfl):PE X (.Call (.Attribute o name apos) [] [] dB) (Ht X.K T r to):=by
  intro pins s σ H Q I h
  refine wpAny_Call_method0_late wD wF (bP (ho pins s σ H _ I h) ?_)
  rintro v s1 ⟨x,H1,I1,r1,ty,q1⟩
  obtain ⟨h1,h2⟩:=wC I1 r1 ty
  exact ⟨T,id,pa,slot,MF,h1,h2,Calls.callWith_builtin rfl (PySem.evalArgs_none (hm pins s1 σ H1 x [] v [] Q I1 r1 .nil q1))⟩
theorem sQ (pa : PlainAttrs T) (slot : Slot T name id) (MF : typeOf (.builtin id) = pure (.type "method_descriptor")) (hm : DH X id r) (ho : PE X o to) (ha : PA X (e :: es) t)
    (wD:attributeBase o name X.env (eval o X.env)=eval o X.env:=by rfl)
    (kS:((backTo dB (starEach (e::es) X.env)).all (fun x=>!x.1) && (backToKw dB (keywordEach [] X.env)).all (fun x=>x.1.isSome)
      && decide ((e::es).length+([]:List Keyword).length+(if ([]:List Keyword).isEmpty then 0 else 1) < 30))=true:=by rfl)
    (wF:(apos.endLine == dB.line)=true:=by rfl) (hs:starEach (e::es) X.env=(false,eval e X.env)::starEach es X.env:=by rfl) (DL:(backTo dB (starEach es X.env)).any (·.1)=false:=by rfl) :
    PE X (.Call (.Attribute o name apos) (e::es) [] dB) (OQ X.K T r to t):=by
  intro pins s σ H Q I h
  refine wpAny_Call_method_late wD kS wF rfl (bP (ho pins s σ H _ I h) ?_)
  rintro v s1 ⟨x,H1,I1,r1,ty,q1⟩
  obtain ⟨h1,h2⟩:=wC I1 r1 ty
  refine ⟨T,id,pa,slot,MF,h1,h2,?_⟩
  have hA:=ha dB pins s1 σ H1 _ I1 q1
  rw [hs] at hA ⊢
  refine Calls.callWith_builtin (by show (false || (backTo dB (starEach es X.env)).any (·.1))=false;rw [DL] <;> rfl) (Calls.evalArgs_plain ?_)
  exact bP hA fun us s2 ⟨vs,H2,I2,r2,q2⟩=>hm pins s2 σ H2 x vs v us Q I2 r1 r2 q2
end
def MG (X:Cx) (id:String) (r:V->List V->Hp->VK->Prop):Prop :=
 ∀ (pins:List (Addr×Obj)) (s:Shared) (σ:St) (H:Hp) (x:V) (xs:List V) (v:Value) (us:List Value) (Q:VK),Inv X pins σ H s->RelV x v->Vals xs us->r x xs H Q ->
  wpAny (model X.prog X.w) X.A (call (.builtin id) (v::us)) (EP X pins σ Q) X.xe s
theorem Vals.one {x:V} {us:List Value} (h:Vals [x] us):∃ u,us=[u]/\RelV x u:=by
 cases h with
 | cons r t=>cases t;exact ⟨_,rfl,r⟩
theorem Vals.two {x y:V} {us:List Value} (h:Vals [x,y] us):∃ u v,us=[u,v]/\RelV x u/\RelV y v:=by
 cases h with
 | cons r t=>obtain ⟨v,rfl,q⟩:=Vals.one t;exact ⟨_,v,rfl,r,q⟩
theorem Vals.zero:∀ {us:List Value},Vals [] us->us=[]
 | _,.nil=>rfl
theorem Vals.dropLast {xs:List V} {us:List Value} (h:Vals xs us):Vals xs.dropLast us.dropLast:=by
 induction h with
 | nil=>exact .nil
 | cons r t ih =>
  cases t with
  | nil=>exact .nil
  | cons q t'=>exact .cons r ih
theorem Vals.rep {xs:List V} {us:List Value} (h:Vals xs us):∀ k:Nat,Vals (List.replicate k xs).flatten (List.replicate k us).flatten
 | 0=>.nil
 | k+1=>by
  rw [List.replicate_succ,List.replicate_succ,List.flatten_cons,List.flatten_cons]
  exact Vals.append h (Vals.rep h k)
theorem foldl_rep (aq : List Value) : ∀ (k : Nat) (acc : List Value),
    List.foldl (fun x1 x2=>x1++x2) acc.toArray (List.replicate k aq.toArray)=(acc++(List.replicate k aq).flatten).toArray
  | 0,acc=>by simp
  | k+1,acc=>by
    have e:acc.toArray++aq.toArray=(acc++aq).toArray:=by simp
    have e2:(acc++aq)++(List.replicate k aq).flatten=acc++(List.replicate (k+1) aq).flatten:=by
      rw [List.replicate_succ,List.flatten_cons,List.append_assoc]
    rw [<- e2,<- foldl_rep aq k (acc++aq),<- e,List.replicate_succ,List.foldl_cons]
section
variable {X:Cx} {pins:List (Addr×Obj)} {σ:St} {H:Hp} {s:Shared} {l b:Addr} {xs ys zs:List V}
theorem Inv.DM {aq its' : List Value} {n : Nat} {f : Array Value -> Array Value} {t' : Nat} (I : Inv X pins σ H s) (hH : H l = some (.lst xs))
    (e:s.heap.get? l=some { cls:=.type "list",data:=.seq aq.toArray n }) (hf:f aq.toArray=its'.toArray) (hv:Vals ys its') (hz:ys.length<=sizeLine) :
    Inv X pins σ (upd H l (.lst ys)) { s with heap:=s.heap.update l (Obj.mapSeq f),toks:=t' }:=by
  have q:=PySem.IsL.update e f
  rw [hf] at q
  refine I.write (x:=l) (e:=l) (by rw [hH];exact trivial) (.inl rfl) (fun b' u hb hu=>(Heap.get?_update_other s.heap (Obj.mapSeq f) (Ne.symm hb)).trans hu) ⟨_,q⟩ ?_
  exact ⟨hz,its',_,hv,q⟩
theorem Inv.Hu {aq : List Value} {t' : Nat} (I : Inv X pins σ H s) (hv : Vals ys aq) (hz : ys.length <= sizeLine) :
    Inv X pins σ (upd H s.heap.objs.size (.lst ys)) { s with heap:=s.heap.push { cls:=.type "list",data:=.seq aq.toArray },toks:=t' } :=
  I.laid (fun _ _ q=>fY _ q) (ba _) ⟨hz,aq,0,hv,k_ _ rfl⟩
theorem Inv.fresh (I:Inv X pins σ H s):H s.heap.objs.size=none:=I.aV.fresh (ba _)
theorem Inv.qO (I:Inv X pins σ H s) (hH:H l=some (.lst xs)):xs.length<=sizeLine/\∃ (aq:List Value) (n:Nat),Vals xs aq/\xs.length=aq.length/\s.heap.get? l=some { cls:=.type "list",data:=.seq aq.toArray n }:=by
 obtain ⟨z,aq,n,r,e⟩:=I.aV l _ hH
 exact ⟨z,aq,n,r,r.length,e⟩
theorem wG {n:Nat} (h:n<=sizeLine):Builtin.List.listTooLong n=false:=by
 unfold Builtin.List.listTooLong
 exact decide_eq_false (by omega)
end
section
variable {X:Cx}
def zV:V->List V->Hp->VK->Prop:=fun x vs H Q=>∃ l xs y,x=.ref l/\vs=[y]/\H l=some (.lst xs)/\xs.length < sizeLine/\Q .az (upd H l (.lst (xs++[y])))
theorem lA:MG X "list.append" zV:=by
 intro pins s σ H x vs v us Q I rx rv h
 obtain ⟨l,xs,y,rfl,rfl,hH,hz,q⟩:=h
 cases rx
 obtain ⟨u,rfl,ru⟩:=rv.one
 obtain ⟨z,aq,n,r,hl,e⟩:=I.qO hH
 refine call_meets F.slot_list_append ⟨_,e,rfl⟩ F.entry_list_append (F.args_list_append_2 _ _) (PySem.list_append l aq.toArray n u (by rw [gi];omega)) ⟨e,?_⟩
 refine ⟨.az,_,I.DM (its':=aq++[u]) hH e (by simp) (r.append (.cons ru .nil)) ?_,rfl,q⟩
 rw [jM,List.length_singleton]
 omega
def DN:V->List V->Hp->VK->Prop:=fun x vs H Q=>∃ l xs,x=.ref l/\vs=[]/\H l=some (.lst xs)/\Q .az (upd H l (.lst []))
theorem wH:MG X "list.clear" DN:=by
 intro pins s σ H x vs v us Q I rx rv h
 obtain ⟨l,xs,rfl,rfl,hH,q⟩:=h
 cases rx
 have MH:=rv.zero
 subst MH
 obtain ⟨z,aq,n,r,hl,e⟩:=I.qO hH
 refine call_meets F.slot_list_clear ⟨_,e,rfl⟩ F.entry_list_clear (F.args_list_clear_1 _) (AutoSeq1.list_clear_list_0 l aq.toArray n (by rw [gi];omega)) ⟨e,?_⟩
 exact ⟨.az,_,I.DM (its':=[]) (ys:=[]) hH e rfl .nil (Nat.zero_le _),rfl,q⟩
def MI:R2:=fun x y H Q=>∃ l b xs zs,x=.ref l/\y=.ref b/\H l=some (.lst xs)/\H b=some (.lst zs)/\xs.length+zs.length<=sizeLine/\∀ p,H p=none->Q (.ref p) (upd H p (.lst (xs++zs)))
theorem DO:fZ X (binaryOp .Add) MI:=by
 intro pins s σ H x y v u Q I rx ry h
 obtain ⟨l,b,xs,zs,rfl,rfl,hH,hB,hz,q⟩:=h
 cases rx
 cases ry
 obtain ⟨z,aq,n,r,hl,e⟩:=I.qO hH
 obtain ⟨z2,wA,n2,r2,zc,e2⟩:=I.qO hB
 refine PySem.P.add_list e e2 ?_ (by rw [gi,gi];omega)
 have ea:aq.toArray++wA.toArray=(aq++wA).toArray:=by simp
 rw [ea]
 exact ⟨.ref _,_,I.Hu (t':=s.toks) (r.append r2) (by rw [jM];omega),rfl,q _ I.fresh⟩
def MJ:R2:=fun x y H Q=>∃ l k xs,x=.ref l/\y=.int k/\H l=some (.lst xs)/\-(2 ^ 63)<=k/\k < 2 ^ 63/\xs.length * k.toNat<=sizeLine /\
 ∀ p,H p=none->Q (.ref p) (upd H p (.lst (List.replicate k.toNat xs).flatten))
theorem len_rep {α:Type} (xs:List α) (k:Nat):(List.replicate k xs).flatten.length=k * xs.length:=by
 induction k with
 | zero=>simp
 | succ k ih=>rw [List.replicate_succ,List.flatten_cons,jM,ih,Nat.succ_mul,Nat.add_comm]
theorem DP:fZ X (binaryOp .Mult) MJ:=by
 intro pins s σ H x y v u Q I rx ry h
 obtain ⟨l,k,xs,rfl,rfl,hH,h1,h2,hz,q⟩:=h
 cases rx
 obtain ⟨t,rfl⟩:=ry
 obtain ⟨z,aq,n,r,hl,e⟩:=I.qO hH
 have hlen:aq.toArray.size * k.toNat<=sizeLine:=by rw [gi,<- hl];exact hz
 have wI:¬ aq.toArray.size * k.toNat > (2 ^ 63 - 1) / 8:=by
  have:(sizeLine:Nat)<=(2 ^ 63 - 1) / 8:=by decide
  omega
 have MK:¬ (!Builtin.List.listFitsIndex k)=true:=by
  rw [fitsIndex_both h1 h2]
  exact bO
 have Hv:¬ Builtin.List.listTooLong (aq.toArray.size * k.toNat)=true:=by
  rw [wG hlen]
  exact bO
 have iF:List.foldl (fun x1 x2=>x1++x2) #[] (List.replicate (if aq.toArray.isEmpty=true then 0 else k.toNat) aq.toArray)=(List.replicate k.toNat aq).flatten.toArray:=by
  have f0:∀ m:Nat,List.foldl (fun x1 x2=>x1++x2) #[] (List.replicate m aq.toArray)=(List.replicate m aq).flatten.toArray:=fun m=>by
   have:=foldl_rep aq m []
   rw [List.nil_append] at this
   exact this
  rw [f0]
  cases aq with
  | nil=>simp
  | cons a r'=>rw [if_neg (by simp)]
 refine wpAny_binaryOp_repeat_ref (T := "list") (U := "int") (by decide) ⟨_,e,rfl⟩ (fun s'=>typeIs_int s' k t) noFill_list_mul F.fills_int_mul F.slot_int_rmul repeat_list F.slot_int_index.lookup
  (call_meets F.slot_int_rmul (typeIs_int s k t) F.entry_int_rmul (F.args_int_rmul_2 _ _) (int___rmul___int_list k t l aq.toArray n)
   ⟨e,rfl,⟨_,e,rfl⟩,call_meets F.slot_list_mul ⟨_,e,rfl⟩ F.entry_list_mul (F.args_list_mul_2 _ _) (AutoListH.list___mul___list_int_3 l aq.toArray n k t MK wI Hv) ⟨e,?_⟩⟩)
 rw [iF]
 exact ⟨.ref _,_,I.Hu (t':=s.toks) (r.rep k.toNat) (by rw [len_rep,Nat.mul_comm];exact hz),rfl,q _ I.fresh⟩
end
end L2
namespace OR
open PySem PySem.W PySem.Calls PyProof.Rows
theorem jh {P:Params} {h:Heap}:∀ (ns:List Int) (vs:List Value),WellAll P h vs (ns.map WData.int)->IntsAre vs ns:=by
 intro ns
 induction ns with
 | nil =>
  intro vs w
  rw [List.map_nil] at w
  cases w
  exact .nil
 | cons n ns ih =>
  intro vs w
  rw [List.map_cons] at w
  cases w with
  | cons a b =>
   cases a
   exact .cons _ _ (ih _ b)
theorem uL {l : OpenLaw} {n : Nat} (hn : l.most = some n) {P : Params} {h : Heap} {args : List WData} {vals : List Value}
    (zW:l.row.toRowW.claim.pre args=true) (zX:WellAll P h vals args) :
    ∃ a vs ns,vals=[Value.ref a]/\args=[WData.list (ns.map WData.int)]/\h.get? a=some { cls:=.type "list",data:=.seq vs.toArray }/\IntsAre vs ns/\ns.length<=n:=by
  have Rg:WShape.hasAll [] args [.list .int]=true:=(pre_splitW zW).1
  have hc:l.pre.holds [] { args:=args }=true:=(pre_splitW zW).2
  obtain ⟨d,r,rfl,h1,h2⟩:=hasAllW_cons Rg
  obtain rfl:=hasAllW_nil h2
  obtain ⟨xs,rfl,h3⟩:=hasW_list h1
  obtain ⟨ns,rfl⟩:=items_int h3
  have hlen:ns.length<=n:=by
    unfold OpenLaw.pre at hc
    have h4:(WTm.not (.lt (.lit (.int (n:Int))) (.len (.arg 0)))).holds [] { args:=[.list (ns.map .int)] }=true:=by
      have h4:=(holds_andW hc).1
      rw [hn] at h4
      exact h4
    have h5:=condW_of h4 (w_not (w_lt w_lit (w_len_list (w_arg rfl))))
    rw [aP] at h5
    refine Nat.le_of_not_lt fun q=>?_
    have q':(n:Int) < ((ns.length:Nat):Int):=by omega
    first
      | (rw [decide_eq_true q'] at h5;exact absurd h5 (by decide))
      | (simp at h5;omega)
  cases zX with
  | cons w1 w2 =>
    cases w2
    cases w1 with
    | list ho qK=>exact ⟨_,_,ns,rfl,rfl,ho,jh ns _ qK,hlen⟩
theorem uM (l:OpenLaw) (args:List WData):l.row.toRowW.claim.post args (.bool true) args=true :=
 postW_of (r:=l.row.toRowW) (X:=(true == true))
  (show WShape.has [] (.bool true) .bool=true by first | rfl | decide | simp [WShape.has,WShape.arms,WShape.armsAll])
  (show (WTm.eq .res (.lit (.bool true))).value [] { args:=args,res:=some (.bool true),after:=args }=some (.bool (true == true)) from w_eq_bool (w_res rfl) w_lit) rfl
theorem oM {l : OpenLaw} {n : Nat} {q : Program} {loose : List Str} {XP : (Str -> Option Value) -> Heap -> Prop} {YP : World -> Heap -> Prop} {d : DefRec}
    (hn:l.most=some n) (B8:d.params.defaults=[])
    (call:∀ (w:World) (dz bb:Shared) (mg mb:Str->Option Value) (fa:Addr) (o:Obj) (pm cd doc:Value) (a:Addr) (vs:List Value) (ns:List Int),
      Ground q loose [] XP w dz mg mb bb.heap->YP w bb.heap ->
      bb.heap.get? fa=some o->o.data=.func (docDef d.name d.params d.body d.scope pm cd doc)->bb.heap.CodeRec cd d.name->mg d.name=some (.ref fa) ->
      bb.heap.get? a=some { cls:=.type "list",data:=.seq vs.toArray }->IntsAre vs ns->ns.length<=n->bb.gens=#[] ->
      codeAny (model l.prog w) callerA (.call (.ref fa) ⟨[.ref a],[]⟩) (fun r s'=>r=.ok (.ret (.bool true))/\OldK bb.heap s'.heap/\s'.os=bb.os/\AllBare s'.gens) bb) :
    WalkO q loose XP YP l.row.toRowW d [] (fun f vs=>PySem.call f vs):=by
  intro w dz bb mg mb G Y fa o pm cd doc dV kV ho hd BX hD Hw hg args vals as zW Rh zY zX zZ
  obtain rfl:dV=.none:=Dflts.none hD B8
  obtain rfl:kV=.none:=Dflts.noKw hD
  obtain ⟨a,vs,ns,rfl,rfl,DQ,hints,hlen⟩:=uL hn zW zX
  refine enter_call (codeAny_mono (call w dz bb mg mb fa o pm cd doc a vs ns G Y ho (fd_plain hd) BX Hw DQ hints hlen hg) fun r s' hq=>?_)
  obtain ⟨rfl,h2,h3,h4⟩:=hq
  exact ⟨.inl ⟨.bool true,.bool true,[],rfl,fun _=>rfl,.bool true,uM l _,fun _=>⟨List.Pairwise.nil,fun _ hm=>(nomatch hm)⟩⟩,h2,h3,h4⟩
end OR
namespace L2
open PySem PySem.Spec PyProof.Rows
theorem lB:∀ {vs:List Value} {ns:List Int},IntsAre vs ns->Vals (ns.map V.int) vs
 | _,_,.nil=>.nil
 | _,_,.cons n t h=>.cons ⟨t,rfl⟩ (lB h)
def z0 (H:Hp):Prop:=∀ b,H b=none\/∃ o xs,H b=some (.dc o (.lst xs))
theorem wJ {P : Program} {w : World} {K : PySem.W.Frag} {mg mb : Str -> Option Value} {CX : v_} {k : Nat} {fa a : Addr} {fd : FuncData} {x : Str} {sp : Sp} {bb : Shared} {vs : List Value} {ns : List Int}
    (KX:K.In bb.heap) (iG:bb.heap.Ns mainGlobals mg) (hb:bb.heap.Ns builtinsNs mb) (ML:∀ x:Str,x ≠ "__name__" -> mb x=bootBuiltins x) (MM:bb.heap.NoLimit) (hg:bb.gens=#[])
    (ha:bb.heap.get? a=some { cls:=.type "list",data:=.seq vs.toArray }) (hi:IntsAre vs ns) (hl:ns.length<=sizeLine) (hr:fv k callerA)
    (F:∀ base:Heap,K.In base->base.Ns mainGlobals mg->fw P w K mg base CX k fa fd [x] sp) (Hx:∀ (s:Shared) (u:Value),BindsTo s fd ⟨[u],[]⟩ [(x,u)])
    (y_:∀ H:Hp,z0 H->d9 K H a (ns.map V.int)->sp [.ref a] H (fun v _=>v=.bl true) fun _ _ _=>False)
    (MN:∀ H e s',CX [] H bb (fun _ _ _=>False) e s'->False) :
    codeAny (model P w) callerA (.call (.ref fa) ⟨[.ref a],[]⟩) (fun r s'=>r=.ok (.ret (.bool true))/\OldK bb.heap s'.heap/\s'.os=bb.os/\AllBare s'.gens) bb:=by
  have rv:=lB hi
  have MP:=hi.length
  have core : ∀ H : Hp, z0 H -> d9 K H a (ns.map V.int) -> gC P w H bb.heap -> (∀ b, H b ≠ none -> b = a) -> (H a ≠ none -> K.lookup a = none) ->
      codeAny (model P w) callerA (.call (.ref fa) ⟨[.ref a],[]⟩) (fun r s'=>r=.ok (.ret (.bool true))/\OldK bb.heap s'.heap/\s'.os=bb.os/\AllBare s'.gens) bb:=by
    intro H hO hS aV hA hK
    have fN:∀ {b:Addr} {o:Obj},bb.heap.get? b=some o->H b=none->(l7 bb.heap H).get? b=some o:=fun e n=>vL e n
    have Hi:∀ {b:Addr} {o:Obj} {es:Array DictEntry} {ep:Nat},bb.heap.get? b=some o->o.data=.dict es ep->H b=none:=fun {b o es ep} e d=>by
      cases q:H b with
      | none=>rfl
      | some u =>
        have e':b=a:=hA b (by rw [q];simp)
        subst e'
        rw [ha] at e;cases e
        have d':Data.seq vs.toArray _=Data.dict es ep:=d
        cases d'
    have Ks:∀ {b:Addr} {m:Str->Option Value},bb.heap.Ns b m->(l7 bb.heap H).Ns b m:=fun {b m} ⟨o,es,ep,e,d,r⟩=>⟨o,es,ep,fN e (Hi e d),d,r⟩
    have OS:K.In (l7 bb.heap H):=fun b o e=>fN (KX b o e) (by
      cases q:H b with
      | none=>rfl
      | some u =>
        have e':b=a:=hA b (by rw [q];simp)
        subst e'
        rw [hK (by rw [q];simp)] at e;cases e)
    have hM:Mod K mg (l7 bb.heap H):=⟨OS,Ks iG,⟨mb,Ks hb,ML⟩,let ⟨mc,h1,h2⟩:=MM;⟨mc,Ks h1,h2⟩⟩
    have e0:zJ P w K mg (l7 bb.heap H) callerA [] bb H:=⟨rfl,hM,fun b o e=>zo e,Nat.le_of_eq (uu _ _),trivial,fun b hb=>absurd (show b∈([]:List Addr) from hb) (by simp),aV,.of_eq hg⟩
    refine codeAny_mono ((F _ OS (Ks iG)).run callerA [] bb H ⟨[.ref a],[]⟩ [.ref a] [.ref a] _ _ hr e0 (Hx bb (.ref a)) (.cons rfl .nil) (y_ H hO hS)) fun r s' h=>?_
    cases r with
    | error e=>exact (MN H e s' h).elim
    | ok fl =>
      cases fl with
      | next=>exact False.elim h
      | brk=>exact False.elim h
      | cont=>exact False.elim h
      | ret u =>
        obtain ⟨v,H',os,bare,un,MQ,r',q⟩:=h
        have q':v=.bl true:=q
        subst q'
        obtain rfl:u=Value.bool true:=r'
        refine ⟨rfl,OldK.of_keep fun b o e=>?_,os,bare⟩
        cases q:H b with
        | none=>exact un.keep b o e q (by intro z;exact absurd (show b∈([]:List Addr) from z) (by simp)) (by simp)
        | some u =>
          rcases hO b with z | ⟨ob,xs,z⟩
          · rw [q] at z;cases z
          · have z2:=un.l5 b ob _ z
            obtain ⟨e1,_⟩:=aV b _ z
            obtain ⟨e2,_⟩:=MQ b _ z2
            rw [e] at e1;cases e1
            exact e2
  cases hk:K.lookup a with
  | some o =>
    have e:=KX a o hk
    rw [ha] at e
    cases e
    refine core (fun _=>none) (fun _=>.inl rfl) (.inr ⟨_,vs.toArray,_,hk,rfl,rfl,rfl,by rw [gi,MP];exact hl,by simpa using rv⟩) (fun b u z=>by have z':(none:Option HO)=some u:=z;cases z') (fun b z=>absurd rfl z) fun z=>absurd rfl z
  | none =>
    refine core (fun b=>if b=a then some (.dc { cls:=.type "list",data:=.seq vs.toArray } (.lst (ns.map V.int))) else none) (fun b=>?_) (.inl (.inr ⟨{ cls:=.type "list",data:=.seq vs.toArray },if_pos rfl⟩)) (fun b u z=>?_) (fun b z=>?_) fun _=>hk
    · by_cases hb:b=a
      · exact .inr ⟨_,_,if_pos hb⟩
      · exact .inl (if_neg hb)
    · by_cases hb:b=a
      · have z':=(if_pos hb).symm.trans z
        cases z'
        subst hb
        exact ⟨ha,by rw [aP];exact hl,vs,_,rv,ha⟩
      · have z':=(if_neg hb).symm.trans z
        cases z'
    · by_cases hb:b=a
      · exact hb
      · exact absurd (if_neg hb) z
theorem z3 {l : PySem.W.OpenLaw} {n k : Nat} {q : Program} {loose : List Str} {XP : (Str -> Option Value) -> Heap -> Prop} {YP : World -> Heap -> Prop} {d : DefRec} {K : Params -> PySem.W.Frag} {CX : World -> v_} {sp : World -> Sp} {x : Str}
    (hn:l.most=some n) (qv:n<=sizeLine) (B8:d.params.defaults=[]) (hr:fv k callerA)
    (hY:∀ (w:World) (h:Heap),YP w h->(K w.params).In h)
    (F:∀ (w:World) (mg:Str->Option Value) (fa:Addr) (h:Heap),(K w.params).In h->h.Ns mainGlobals mg->mg d.name=some (.ref fa) ->
      ∃ fd:FuncData,(∀ (s:Shared) (u:Value),BindsTo s fd ⟨[u],[]⟩ [(x,u)]) /\
        ∀ base:Heap,(K w.params).In base->base.Ns mainGlobals mg->fw l.prog w (K w.params) mg base (CX w) k fa fd [x] (sp w))
    (y_:∀ (w:World) (H:Hp) (a:Addr) (ns:List Int),ns.length<=n->z0 H->d9 (K w.params) H a (ns.map V.int)->sp w [.ref a] H (fun v _=>v=.bl true) fun _ _ _=>False)
    (MN:∀ (w:World) (H:Hp) (s:Shared) (e:Value) (s':Shared),CX w [] H s (fun _ _ _=>False) e s'->False) :
    PySem.W.WalkO q loose XP YP l.row.toRowW d [] (fun f vs=>PySem.call f vs):=by
  refine OR.oM hn B8 fun w dz bb mg mb fa o pm cd doc a vs ns G Y ho hd BX Hw DQ hints hlen hg=>?_
  have KX:=hY w _ Y
  obtain ⟨fd,hb,hF⟩:=F w mg fa _ KX G.T.g Hw
  exact wJ KX G.T.g G.T.b G.T.builtins G.T.nolimit hg DQ hints (Nat.le_trans hlen qv) hr hF hb (fun H hO hS=>y_ w H a ns hlen hO hS) fun H e s'=>MN w H bb e s'
def jt (s:Stmt):Arguments:=match s with
 | .FunctionDef _ a _ _ _ _ _ _ _ _=>a
 | _=>{ posonlyargs:=[],args:=[],vararg:=none,kwonlyargs:=[],kw_defaults:=[],kwarg:=none,defaults:=[] }
def dC (s:Stmt):List Stmt:=match s with
 | .FunctionDef _ _ b _ _ _ _ _ _ _=>b
 | _=>[]
def aS (s:Stmt):Scope:=match s with
 | .FunctionDef _ _ _ _ _ _ sc _ _ _=>sc
 | _=>{ kind:=.function,names:=[],isGenerator:=false,isCoroutine:=false }
abbrev uN:v_:=fun _ _ _ _ _ _=>False
abbrev E0:XK:=fun _ _ _=>False
theorem Hy {X:Cx}:Passes uN X E0:=fun _ _ _ _ _ _ _ h=>h.elim
structure Kt (K:PySem.W.Frag) (x qual:Str) (st:Stmt) (f:Addr) (fd:FuncData):Prop where
 ex:∃ (oc:Value) (od:Option Addr) (kV doc pm:Value) (an:Option Addr) (kM ct:Value) (DA:Array (Option Value)),
  fd=PySem.W.fnOf x qual (jt st) (dC st) (aS st) .none kV doc pm an kM ct/\K.lookup f=some ⟨oc,od,.func fd,DA⟩/\PySem.W.codeIn K kM qual=true
 kp:PySem.W.keepIn K (.ref f)=true
section
variable {P:Program} {w:World} {K:PySem.W.Frag} {mg:Str->Option Value} {base:Heap}
theorem Kt.ok {x qual : Str} {st : Stmt} {f : Addr} {fd : FuncData} {N ps : List Str} {k : Nat} {sp : Sp} (F : Kt K x qual st f fd) (S : gW N ps (aS st)) (len : ∀ vs H Q E, sp vs H Q E -> vs.length = ps.length)
    (wb:∀ (kM:Value) (A:Around) (outer:List Env) (s:Shared) (H:Hp) (vs:List V) (Q:VK) (E:XK),fv k (A.deeper (envOfC qual (aS st) s.heap.objs.size f kM))->sp vs H Q E ->
      ∃ t,oz (qH uN P w K mg base N qual (aS st) f kM A outer s H E).GW (dC st) t/\t { nx:=fun _ H'=>Q .az H',rt:=Q } (start N vs) H):fw P w K mg base uN (k+1) f fd ps sp:=by
  obtain ⟨oc,od,kV,doc,pm,an,kM,ct,DA,rfl,lk,BX⟩:=F.ex
  refine Hj lk BX S len fun A outer s H vs Q E hr y_=>?_
  obtain ⟨t,h,q⟩:=wb kM A outer s H vs Q E hr y_
  exact ⟨t,h.GW,q⟩
theorem DR {x qual : Str} {st : Stmt} {f : Addr} {oc : Value} {od an : Option Addr} {DA : Array (Option Value)} {kV doc pm kM ct : Value} (l : K.lookup f = some ⟨oc, od, .func (PySem.W.fnOf x qual (jt st) (dC st) (aS st) .none kV doc pm an kM ct), DA⟩)
    (c:PySem.W.codeIn K kM qual=true) (k:PySem.W.keepIn K (.ref f)=true):Kt K x qual st f (PySem.W.fnOf x qual (jt st) (dC st) (aS st) .none kV doc pm an kM ct):=⟨⟨oc,od,kV,doc,pm,an,kM,ct,DA,rfl,l,c⟩,k⟩
end
end L2
end
section
namespace L2
open PySem PySem.Spec PyProof.Rows
section
variable {prog:Program} {w:World} {A:Around} {R:Result->Shared->Prop} {s:Shared}
theorem mB {elt target iter : Expr} {ifs : List Expr} {scope : Scope} {pos : Pos} {it acc : Value} {env : Env} (I : Nat -> Shared -> Prop)
    (turn:∀ n s,I n s->wpAny (model prog w) A (pyNext it) (fun r bb=>match r with
      | none=>R (.ok .next) bb
      | some v => wpAny (model prog w) A (letOwnedTupleGo target it v) (fun _ B9 => wpAny (model prog w) A (assign target env v) (fun _ uy =>
          wpAny (model prog w) A (forIn ifs true fun c r=>if r=true then do let ok <- isTrue c env (eval c env);pure (ForInStep.yield ok) else pure (ForInStep.yield r)) (fun ok wK =>
            if ok=true then wpAny (model prog w) A (eval elt env) (fun x uO =>
              wpAny (model prog w) A (call (.builtin "list.append") [acc,x]) (fun _ wL=>∃ m,m < n/\I m wL) (fun _ _=>False) uO) (fun _ _=>False) wK
            else ∃ m,m < n/\I m wK) (fun _ _=>False) uy) (fun _ _=>False) B9) (fun _ _=>False) bb) (fun _ _=>False) s)
    (n:Nat) (h:I n s):codeAny (model prog w) A (.compLoop (.ListComp elt [⟨target,iter,ifs,0⟩] scope pos) 0 it acc env) R s:=by
  refine codeAny_loop rfl I (fun n s hI=>?_) n h
  show wpAny _ A ((compTurn (.ListComp elt [⟨target,iter,ifs,0⟩] scope pos) 0 it acc env).onRaise (fun x=>do noteFrame x env;theTreesLotGoes x)) _ _ s
  refine wpAny_noted ?_
  rw [compTurn_list]
  refine wpAny_bind (wpAny_standAt (wpAny_bind (wpAny_mono (turn n s hI) (fun r bb z4=>?_) fun _ _ h'=>h'.elim)))
  cases r with
  | none=>exact wpAny_pure z4
  | some v =>
    refine wpAny_bind (wpAny_mono z4 (fun _ B9 Hz=>?_) fun _ _ h'=>h'.elim)
    refine wpAny_bind (wpAny_mono Hz (fun _ uy MR=>wpAny_bind (wpAny_mono MR (fun ok wK HA=>?_) fun _ _ h'=>h'.elim)) fun _ _ h'=>h'.elim)
    cases ok with
    | false=>exact wpAny_pure ⟨rfl,HA⟩
    | true =>
      exact wpAny_bind (wpAny_bind (wpAny_mono HA (fun x uO MS=>wpAny_bind (wpAny_mono MS (fun _ wL MT=>wpAny_pure (wpAny_pure ⟨rfl,MT⟩)) fun _ _ h'=>h'.elim)) fun _ _ h'=>h'.elim))
end
theorem bV {x:Str}:∀ (names:List (Str×NameKind)) (n:Nat) (acc:List (Str×Addr)),(x,NameKind.cell)∉names->(cellsFrom n names acc).lookup x=acc.lookup x
 | [],_,_,_=>rfl
 | (y,k)::r,n,acc,h=>by
  unfold cellsFrom
  split
  ·rename_i hk
   have hk:k=.cell:=eq_of_beq hk
   subst hk
   rw [bV r (n+1) _ (fun z=>h (ix _ z)),List.lookup_cons]
   have:(x == y)=false:=beq_eq_false_iff_ne.mpr fun z=>h (by subst z;exact List.mem_cons_self)
   rw [this]
  ·exact bV r n acc fun z=>h (ix _ z)
theorem eF {x:Str} {c:Addr}:∀ (names:List (Str×NameKind)) (n:Nat) (acc:List (Str×Addr)),(x,NameKind.cell)∈names->(cellsFrom n names acc).lookup x=some c->n<=c
 | [],_,_,h,_=>by cases h
 | (y,k)::r,n,acc,h,e=>by
  unfold cellsFrom at e
  split at e
  ·by_cases hr:(x,NameKind.cell)∈r
   ·exact Nat.le_of_succ_le (eF r (n+1) _ hr e)
   ·rw [bV r (n+1) _ hr,List.lookup_cons] at e
    have:x=y:=by
     rcases List.mem_cons.mp h with z | z
     ·exact (Prod.mk.inj z).1
     ·exact absurd z hr
    subst this
    simp at e
    exact Nat.le_of_eq e
  ·rename_i hk
   rcases List.mem_cons.mp h with z | z
   ·exact absurd (by rw [<- (Prod.mk.inj z).2];rfl) hk
   ·exact eF r n acc z e
theorem eG {x:Str}:∀ (names:List (Str×NameKind)) (n:Nat) (acc:List (Str×Addr)),(x,NameKind.cell)∈names->∃ c,(cellsFrom n names acc).lookup x=some c
 | [],_,_,h=>by cases h
 | (y,k)::r,n,acc,h=>by
  unfold cellsFrom
  split
  ·by_cases hr:(x,NameKind.cell)∈r
   ·exact eG r (n+1) _ hr
   ·rw [bV r (n+1) _ hr,List.lookup_cons]
    have:x=y:=by
     rcases List.mem_cons.mp h with z | z
     ·exact (Prod.mk.inj z).1
     ·exact absurd z hr
    subst this
    simp
  ·rename_i hk
   rcases List.mem_cons.mp h with z | z
   ·exact absurd (by rw [<- (Prod.mk.inj z).2];rfl) hk
   ·exact eG r n acc z
theorem eI : ∀ (names : List (Str × NameKind)) (n : Nat) (acc : List (Str × Addr)), (∀ x c, acc.lookup x = some c -> c < n) -> (∀ x y c, acc.lookup x = some c -> acc.lookup y = some c -> x = y) ->
    ∀ x y c,(cellsFrom n names acc).lookup x=some c->(cellsFrom n names acc).lookup y=some c->x=y
  | [],_,_,_,h=>h
  | (z,k)::r,n,acc,hb,h=>by
    unfold cellsFrom
    split
    · refine eI r (n+1) _ (fun x c e=>?_) (fun x y c e1 e2=>?_)
      · rw [List.lookup_cons] at e
        split at e
        · cases e;exact Nat.lt_succ_self _
        · exact Nat.lt_succ_of_lt (hb x c e)
      · rw [List.lookup_cons] at e1 e2
        split at e1
        · rename_i hx
          cases e1
          split at e2
          · rename_i hy
            rw [eq_of_beq hx,eq_of_beq hy]
          · exact absurd (hb y _ e2) (Nat.lt_irrefl _)
        · split at e2
          · cases e2
            exact absurd (hb x _ e1) (Nat.lt_irrefl _)
          · exact h x y c e1 e2
    · exact eI r n acc hb h
theorem dP {x:Str} {c:Addr}:∀ (names:List (Str×NameKind)) (h:Heap) (acc:List (Str×Addr)),(cellsFrom h.objs.size names acc).lookup x=some c->acc.lookup x=some c\/(h.objs.size<=c/\(pushCells h names).IsCell c none)
 | [],_,_,e=>.inl e
 | (z,k)::r,h,acc,e=>by
  unfold cellsFrom at e
  unfold pushCells
  split at e
  ·rename_i hk
   rw [if_pos hk]
   have e':(cellsFrom (h.push { cls:=.type "cell",data:=.cell none }).objs.size r ((z,h.objs.size)::acc)).lookup x=some c:=by rw [Heap.size_push];exact e
   rcases dP r (h.push { cls:=.type "cell",data:=.cell none }) _ e' with q | ⟨q1,q2⟩
   ·rw [List.lookup_cons] at q
    split at q
    ·cases q
     exact .inr ⟨ba _,_,pushCells_keeps _ _ _ _ (k_ _ rfl),rfl⟩
    ·exact .inl q
   ·rw [Heap.size_push] at q1
    exact .inr ⟨Nat.le_of_succ_le q1,q2⟩
  ·rename_i hk
   rw [if_neg hk]
   exact dP r h acc e
theorem mC {M : Model} {A : Around} {E : Value -> Shared -> Prop} {s : Shared} {scope : Scope} {globals : Addr} {cl : List (Str × Addr)} {qual : Str} {outer : Env} {Q : Env -> Shared -> Prop}
    (hQ:Q { scope:=scope,locals:=s.heap.objs.size,globals:=globals,cells:=cellsFrom (s.heap.objs.size+1) scope.names cl,qual:=qual,func:=none,code:=outer.code,frame:=outer.frame,builtins:=outer.builtins }
      { s with heap:=pushCells (s.heap.push { cls:=.type "dict",data:=.dict #[] }) scope.names }) :
    wpAny M A (newFunctionEnv scope globals cl [] qual none .none (some outer)) Q E s:=by
  simp only [newFunctionEnv,Option.isSome_some,if_true]
  refine wpAny_bind (wpAny_alloc ?_)
  refine wpAny_bind (wpAny_layCells _ (fun name kind cells=>by cases Ri:kind == NameKind.cell <;> simp [Ri]) _ _ _ _ ?_)
  rw [show ({ s with heap:=s.heap.push { cls:=.type "dict",data:=.dict #[] } }:Shared).heap.objs.size=s.heap.objs.size+1 from Heap.size_push ..]
  rw [List.forIn_nil]
  exact wpAny_bind (wpAny_pure (wpAny_pure hQ))
def Cx.block (X:Cx) (scope:Scope) (cl:List (Str×Addr)) (C:Addr) (N':List Str) (s:Shared) (H:Hp) (fp:List Addr) (pn:List (Addr×Obj)):Cx :=
 { X with N:=N',dz:=s,l9:=H,env:=compEnvC scope (cellsFrom (C+1) scope.names cl) C X.env,outer:=X.stack,ex:=fp,fn:=fun x=>scope.names.lookup x == some .cell,pn:=pn,xe:=fun _ _=>False }
structure DS (X:Cx) (scope:Scope) (cl:List (Str×Addr)):Prop where
 is:closureFor scope X.env=pure cl
 sub:∀ x c,cl.lookup x=some c->X.env.cells.lookup x=some c
 has:∀ x,scope.names.lookup x=some .free->∃ c,cl.lookup x=some c
theorem cJ {env : Env} : ∀ {names : List (Str × NameKind)} {x : Str} {k : NameKind}, names.lookup x = some k ->
    (names.map fun (n,k)=>if (k == NameKind.free && env.scope.kind == .function && env.kindOf n == some .cell) then (n,NameKind.cell) else (n,k)).lookup x =
      some (if (k == NameKind.free && env.scope.kind == .function && env.kindOf x == some .cell) then .cell else k)
  | [],_,_,h=>by simp at h
  | (n,k')::r,x,k,h=>by
    have ih:=@cJ env r x k
    show List.lookup x ((if (k' == NameKind.free && env.scope.kind == .function && env.kindOf n == some .cell)=true then (n,NameKind.cell) else (n,k'))::_)=_
    cases hx:x == n with
    | true =>
      simp only [List.lookup_cons,hx] at h
      cases h
      have e:x=n:=by simpa using hx
      subst e
      split <;> simp [List.lookup_cons]
    | false =>
      simp only [List.lookup_cons,hx] at h
      by_cases hc:(k' == NameKind.free && env.scope.kind == .function && env.kindOf n == some .cell)=true
      · rw [if_pos hc];simp only [List.lookup_cons,hx];exact ih h
      · rw [if_neg hc];simp only [List.lookup_cons,hx];exact ih h
theorem gG {env : Env} : ∀ {names : List (Str × NameKind)} {x : Str} {k : NameKind},
    (names.map fun (n,k)=>if (k == NameKind.free && env.scope.kind == .function && env.kindOf n == some .cell) then (n,NameKind.cell) else (n,k)).lookup x=some k ->
      ∃ k',names.lookup x=some k'/\k=(if (k' == NameKind.free && env.scope.kind == .function && env.kindOf x == some .cell) then .cell else k')
  | names,x,k,h=>by
    cases q:names.lookup x with
    | some k' =>
      have:=cJ (env:=env) q
      rw [this] at h
      exact ⟨k',rfl,(e_ h).symm⟩
    | none =>
      exfalso
      induction names with
      | nil=>simp at h
      | cons a r ih =>
        obtain ⟨n,k'⟩:=a
        cases hx:x == n with
        | true=>simp [List.lookup_cons,hx] at q
        | false =>
          simp only [List.lookup_cons,hx] at q
          have h':List.lookup x ((if (k' == NameKind.free && env.scope.kind == .function && env.kindOf n == some .cell)=true then (n,NameKind.cell) else (n,k'))::(r.map fun (n,k)=>if (k == NameKind.free && env.scope.kind == .function && env.kindOf n == some .cell) then (n,NameKind.cell) else (n,k)))=some k:=h
          by_cases hc:(k' == NameKind.free && env.scope.kind == .function && env.kindOf n == some .cell)=true
          · rw [if_pos hc] at h';simp only [List.lookup_cons,hx] at h';exact ih h' q
          · rw [if_neg hc] at h';simp only [List.lookup_cons,hx] at h';exact ih h' q
def g8 (cj:List (Option Nat)) (σ:St):St:=cj.map fun o=>o.bind fun j=>(σ[j]?).join
structure wM (X:Cx) (scope:Scope) (N':List Str) (cj:List (Option Nat)):Prop where
 len:cj.length=N'.length
 out:∀ (i j:Nat) (x:Str),cj[i]?=some (some j)->N'[i]?=some x->X.N[j]?=some x/\scope.names.lookup x=some .free/\(X.env.kindOf x=some .cell\/X.env.kindOf x=some .free)
section
variable {X:Cx} {pins:List (Addr×Obj)} {σ:St} {H:Hp} {s:Shared} {scope:Scope} {cl:List (Str×Addr)} {N':List Str} {cj:List (Option Nat)} {fp:List Addr}
theorem oN {h1 : Heap} (I : Inv X pins σ H s) (wc : scope.kind = .function) (sG : ∀ y ∈ scope.names, y.2 = .cell -> scope.names.lookup y.1 = some .cell) (cs : DS X scope cl) (co : wM X scope N' cj)
    (hf:∀ b∈fp,jg X pins H b) (ho:∀ b∈fp,b < s.heap.objs.size)
    (iG:h1.Ns s.heap.objs.size (fun _=>none)) (hk:∀ b u,s.heap.get? b=some u->h1.get? b=some u)
    (iF:∀ x c,(cellsFrom (s.heap.objs.size+1) scope.names cl).lookup x=some c->cl.lookup x=some c\/(s.heap.objs.size+1<=c/\h1.IsCell c none)) (tk:Nat) :
    Inv (X.block scope cl s.heap.objs.size N' s H fp []) [] (g8 cj σ) H { s with heap:=h1,toks:=tk }:=by
  have I1:Inv X pins σ H { s with heap:=h1,toks:=tk }:=I.kept hk
  have C1:∀ x c,cl.lookup x=some c->c < s.heap.objs.size:=fun x c e=>by
    obtain ⟨v,q⟩:=I.cell x c (cs.sub x c e);exact q.lt
  have fr:H s.heap.objs.size=none:=I.aV.fresh (ba _)
  have same:∀ x,scope.names.lookup x=some .free->(cellsFrom (s.heap.objs.size+1) scope.names cl).lookup x=cl.lookup x:=fun x hx =>
    bV _ _ _ fun z=>by have:=sG _ z rfl;rw [hx] at this;cases this
  refine ⟨⟨I.ok.mod,wc,I.ok.glob,I.ok.blt,ba _,eI _ _ _ (fun x c e=>Nat.lt_succ_of_lt (C1 x c e)) (fun x y c a b=>I.ok.inj x y c (cs.sub _ _ a) (cs.sub _ _ b)),fun x hx=>?_,fun x c z e=>?_,I.ok.hd,I.ok.frames,.inl rfl,fun b hb=>⟨?_,fun x c e=>?_⟩,fun b o e=>I.bs b o e,
    Nat.le_trans I.ok.BV I.sz,fun b o e hb=>?_,fun b hb z5=>?_,I.stack,I.sF⟩,rfl,I.bare,Un.kept hk,⟨_,iG,fun i x v e1 e2 e3=>?_⟩,fun x c e=>?_,fr,fun x c e=>?_,fun p hp=>?_,I.aV.kept hk,?_⟩
  · have hx:(relabel scope X.env).names.lookup x=some .cell\/(relabel scope X.env).names.lookup x=some .free:=hx
    have key:∃ k',scope.names.lookup x=some k'/\(k'=.free\/k'=.cell):=by
      have go:∀ k,(k=.cell\/k=.free)->(relabel scope X.env).names.lookup x=some k->∃ k',scope.names.lookup x=some k'/\(k'=.free\/k'=.cell):=by
        intro k hk hx
        obtain ⟨k',e,ek⟩:=gG hx
        refine ⟨k',e,?_⟩
        by_cases z:k'=.free
        · exact .inl z
        · rw [if_neg (by cases k' <;> first | exact absurd rfl z | simp)] at ek
          subst ek
          rcases hk with hk | hk
          · exact .inr hk
          · exact .inl hk
      rcases hx with hx | hx
      · exact go _ (.inl rfl) hx
      · exact go _ (.inr rfl) hx
    obtain ⟨k',e,z6⟩:=key
    show ∃ c,(cellsFrom (s.heap.objs.size+1) scope.names cl).lookup x=some c
    rcases z6 with z | z
    · subst z
      rw [same x e]
      exact cs.has x e
    · subst z
      exact eG _ _ _ (PySem.mem_of_lookup e)
  · have z:(scope.names.lookup x == some .cell)=true:=z
    have z:scope.names.lookup x=some .cell:=eq_of_beq z
    exact Nat.le_of_succ_le (eF _ _ _ (PySem.mem_of_lookup z) e)
  · exact Nat.ne_of_lt (ho b hb)
  · rcases iF x c e with q | ⟨q,_⟩
    · exact (hf b hb).2.2.2.2.1 x c (cs.sub x c q)
    · have Ku:=ho b hb
      intro z
      rw [z] at q
      exact absurd Ku (Nat.not_lt_of_le (Nat.le_of_succ_le q))
  · rcases (hf b hb).2.2.2.1 with z | z
    · exact I.ok.vN b o e z
    · have h1:=Heap.lt_size e
      have h2:=I.ok.BV
      exact absurd (Nat.lt_of_lt_of_le h1 (Nat.le_trans h2 z)) (Nat.lt_irrefl _)
  · rcases List.mem_cons.mp (I.qC b z5) with z | z
    · exact (hf b hb).2.1 z
    · exact (hf b hb).2.2.1 z
  · have e1:N'[i]?=some x:=e1
    unfold g8 at e2
    rw [dy] at e2
    cases q:cj[i]? with
    | none=>rw [q] at e2;cases e2
    | some oj =>
      rw [q] at e2
      cases oj with
      | none=>cases e2
      | some j =>
        have HB:(σ[j]?).join=some v:=e_ e2
        have MU:σ[j]?=some (some v):=by
          cases r:σ[j]? with
          | none=>rw [r] at HB;cases HB
          | some ov=>rw [r] at HB;cases ov with
            | none=>cases HB
            | some z=>cases HB;rfl
        obtain ⟨o1,o2,o3⟩:=co.out i j x q e1
        obtain ⟨m,hn,hl⟩:=I1.loc
        obtain ⟨u,r,l⟩:=hl j x v o1 MU (o3.elim (fun z=>.inr (.inl z)) fun z=>.inr (.inr z))
        refine ⟨u,r,.inr ⟨?_,?_⟩⟩
        · show (relabel scope X.env).names.lookup x=some .cell\/(relabel scope X.env).names.lookup x=some .free
          rw [show (relabel scope X.env).names.lookup x=_ from cJ o2]
          split
          · exact .inl rfl
          · exact .inr rfl
        · obtain ⟨c,hc⟩:=cs.has x o2
          have ux:=cs.sub x c hc
          rcases l with ⟨z6,hm⟩|⟨_,c2,vC,DT⟩
          · exfalso
            rw [z6] at o3
            rcases o3 with o3 | o3 <;> cases o3
          · rw [ux] at vC;cases vC
            exact ⟨c,(same x o2).trans hc,DT⟩
  · rcases iF x c e with q | ⟨_,q⟩
    · exact I1.cell x c (cs.sub x c q)
    · exact ⟨none,q⟩
  · rcases iF x c e with q | ⟨q,_⟩
    · exact I1.gj x c (cs.sub x c q)
    · exact I.aV.fresh (Nat.le_of_succ_le q)
  · exact absurd (show p∈([]:List (Addr×Obj)) from hp) (by simp)
  · show (g8 cj σ).length=N'.length
    unfold g8;rw [aP];exact co.len
end
def MV:Option TT->TT
 | none=>fun _ H Q=>Q true H
 | some t=>t
def qP (cj:List (Option Nat)) (g:TG) (tc:Option TT) (te:TE) (σ:St) (J:It) (H1:Hp) (Q:V->Hp->Prop):Prop :=
 ∀ D,H1 D=none->∃ W:Nat->Nat->St->Hp->List V->Prop,(∃ m,W 0 m (g8 cj σ) (upd H1 D (.lst [])) []) /\
  ∀ i m τ H ys,W i m τ H ys->H D=some (.lst ys)/\((J.stop i H/\Q (.ref D) H) \/
   (J.go i H/\ys.length < sizeLine/\∀ x H',J.F8 i H x H'->g x τ H' fun zd H2=>MV tc zd H2 fun b H3 =>
    if b=true then te zd H3 fun v H4=>H4 D=some (.lst ys)/\∃ m',m' < m/\W (i+1) m' zd (upd H4 D (.lst (ys++[v]))) (ys++[v])
    else ∃ m',m' < m/\W (i+1) m' zd H3 ys))
def sR (cj:List (Option Nat)) (wi:TI) (g:TG) (tc:Option TT) (te:TE):TE:=fun σ H Q=>wi σ H fun J H1=>qP cj g tc te σ J H1 Q
def HC (X:Cx) (scope:Scope) (N':List Str) (cl:List (Str×Addr)) (ifs:List Expr):Option TT->Prop
 | none=>ifs=[]
 | some t=>∃ c,ifs=[c]/\∀ C s H fp,PT (X.block scope cl C N' s H fp []) c t
structure iH (X:Cx) (scope:Scope) (N':List Str) (cj:List (Option Nat)) (cl:List (Str×Addr)) (tg elt:Expr) (ifs:List Expr) (g:TG) (tc:Option TT) (te:TE):Prop where
 kind:scope.kind=.function
 DU:∀ y∈scope.names,y.2=.cell->scope.names.lookup y.1=some .cell
 names:∀ y∈scope.names,y.2=.local->scope.names.lookup y.1=some .local
 DV:DS X scope cl
 MW:wM X scope N' cj
 tg:∀ C s H fp,PG (X.block scope cl C N' s H fp []) tg g
 ifs:HC X scope N' cl ifs tc
 elt:∀ C s H fp,PE (X.block scope cl C N' s H fp []) elt te
section
variable {X:Cx} {scope:Scope} {N':List Str} {cj:List (Option Nat)} {cl:List (Str×Addr)} {tg elt iter:Expr} {ifs:List Expr} {g:TG} {tc:Option TT} {te:TE} {pos:Pos}
theorem oO {pins : List (Addr × Obj)} {s2 : Shared} {σ : St} {H2 : Hp} {it : Addr} {fp : List Addr} {tn : Nat -> Heap -> Prop} {J : It} {E : Value -> Shared -> Prop} {Q : V -> Hp -> Prop} {RR : Value -> Addr -> Result -> Shared -> Prop}
    (hc:X.calm=true) (ck:iH X scope N' cj cl tg elt ifs g tc te) (I2:Inv X pins σ H2 s2) (T:Turn X.prog X.w X.K tg J fp it tn) (zC:tn 0 s2.heap) (f2:∀ b∈fp,jg X pins H2 b) (h:qP cj g tc te σ J H2 Q)
    (Rj:∀ (D C:Addr) (H':Hp) (s':Shared) (m:Str->Option Value),Inv X pins σ H' s'->s'.heap.Ns C m->H' C=none->X.dz.heap.objs.size<=C->C≠X.env.locals->C∉X.fs->(∀ x c,X.env.cells.lookup x=some c->c≠C)->(∀ p∈X.pn++pins,p.1≠C)->Q (.ref D) H'->RR (.ref D) C (.ok .next) s') :
    wpAny (model X.prog X.w) X.A (newList []) (fun acc wK=>wpAny (model X.prog X.w) X.A (newFunctionEnv scope X.env.globals cl [] X.env.qual none .none (some X.env)) (fun HD uO =>
      codeAny (model X.prog X.w) X.A (.compStart (.ListComp elt [⟨tg,iter,ifs,0⟩] scope pos) 0 (.ref it) acc { HD with scope:=relabel scope X.env }) (RR acc HD.locals) uO) E wK) E s2:=by
  refine wpAny_newObj_type ?_
  generalize hH:s2.heap.push { cls:=.type "list",dict:=none,data:=.seq ([]:List Value).toArray }=hh
  have hD:H2 s2.heap.objs.size=none:=I2.aV.fresh (ba _)
  have k3:∀ b u,s2.heap.get? b=some u->hh.get? b=some u:=fun b u e=>by rw [<- hH];exact fY _ e
  have I3:Inv X pins σ (upd H2 s2.heap.objs.size (.lst [])) { s2 with heap:=hh } :=
    I2.laid (t':=s2.toks) k3 (ba _) ⟨Nat.zero_le _,[],0,.nil,by rw [<- hH];exact k_ _ rfl⟩
  have f3:∀ b∈fp,jg X pins (upd H2 s2.heap.objs.size (.lst [])) b:=fun b hb=>by
    obtain ⟨o,e,_⟩:=T.obj _ _ zC b hb
    exact ⟨by rw [aj (Nat.ne_of_lt (Heap.lt_size e))];exact (f2 b hb).1,(f2 b hb).2⟩
  have b3:∀ b∈fp,b < hh.objs.size:=fun b hb=>by
    obtain ⟨o,e,_⟩:=T.obj _ _ zC b hb
    exact Heap.lt_size (k3 b o e)
  have Kn:tn 0 hh:=T.keep _ _ _ zC fun b hb o e=>k3 b o e
  obtain ⟨W,⟨m0,w0⟩,turn⟩:=h s2.heap.objs.size hD
  refine mC (s:={ s2 with heap:=hh }) ?_
  have k4:∀ b u,hh.get? b=some u->(pushCells (hh.push { cls:=.type "dict",data:=.dict #[] }) scope.names).get? b=some u:=fun b u e=>pushCells_keeps _ _ b u (fY _ e)
  have HE:(pushCells (hh.push { cls:=.type "dict",data:=.dict #[] }) scope.names).Ns hh.objs.size (fun _=>none):=(Heap.Ns.new hh (.type "dict")).keeps (pushCells_keeps _ _)
  have iF:∀ x c,(cellsFrom (hh.objs.size+1) scope.names cl).lookup x=some c->cl.lookup x=some c\/(hh.objs.size+1<=c/\(pushCells (hh.push { cls:=.type "dict",data:=.dict #[] }) scope.names).IsCell c none):=fun x c e=>by
    have:=dP (x:=x) (c:=c) scope.names (hh.push { cls:=.type "dict",data:=.dict #[] }) cl (by rw [Heap.size_push];exact e)
    rw [Heap.size_push] at this
    exact this
  generalize VA:pushCells (hh.push { cls:=.type "dict",data:=.dict #[] }) scope.names=z4 at k4 HE iF
  have Kw:tn 0 z4:=T.keep _ _ _ Kn fun b hb o e=>k4 b o e
  have I4:=oN (tk:=s2.toks) I3 ck.kind ck.DU ck.DV ck.MW f3 b3 HE k4 iF
  generalize hX:X.block scope cl hh.objs.size N' { s2 with heap:=hh } (upd H2 s2.heap.objs.size (.lst [])) fp []=X' at I4
  have lC:X'.prog=X.prog:=by rw [<- hX];rfl
  have xw:X'.w=X.w:=by rw [<- hX];rfl
  have xK:X'.K=X.K:=by rw [<- hX];rfl
  have xA:X'.A=X.A:=by rw [<- hX];rfl
  have xc:X'.calm=true:=by rw [<- hX];exact hc
  have z7:X'.env=compEnvC scope (cellsFrom (hh.objs.size+1) scope.names cl) hh.objs.size X.env:=by rw [<- hX];rfl
  have Kx:X'.xe=fun _ _=>False:=by rw [<- hX];rfl
  have MX:∀ {H':Hp},(∀ b∈fp,H' b=none)->∀ b∈fp,jg X' [] H' b:=fun {H'} hn b hb=>by
    have z:=I4.ok.LX b (by rw [<- hX];exact hb)
    exact ⟨hn b hb,z.1,I4.ok.vO b (by rw [<- hX];exact hb),.inl (by rw [<- hX];exact hb),z.2,fun p hp=>absurd (show p∈([]:List (Addr×Obj)) by rw [<- hX] at hp;exact hp) (by simp)⟩
  have OT:=ck.tg hh.objs.size { s2 with heap:=hh } (upd H2 s2.heap.objs.size (.lst [])) fp
  have HF:=ck.ifs
  have HG:=ck.elt hh.objs.size { s2 with heap:=hh } (upd H2 s2.heap.objs.size (.lst [])) fp
  rw [hX] at OT HG
  have loop : ∀ s4 : Shared, Inv X' [] (g8 cj σ) (upd H2 s2.heap.objs.size (.lst [])) s4 -> tn 0 s4.heap ->
      codeAny (model X.prog X.w) X.A (.compLoop (.ListComp elt [⟨tg,iter,ifs,0⟩] scope pos) 0 (.ref it) (.ref s2.heap.objs.size) (compEnvC scope (cellsFrom (hh.objs.size+1) scope.names cl) hh.objs.size X.env)) (RR (.ref s2.heap.objs.size) hh.objs.size) s4:=by
    intro s4 I4 Kw
    refine mB (fun n s'=>∃ i τ H' ys,Inv X' [] τ H' s'/\tn i s'.heap/\(∀ b∈fp,H' b=none)/\W i n τ H' ys) ?_ m0 ⟨0,_,_,[],I4,Kw,fun b hb=>(f3 b hb).1,w0⟩
    rintro n s5 ⟨i,τ,H5,ys,I5,F9,jo,w5⟩
    obtain ⟨z8,stop | ⟨go,hz,step⟩⟩:=turn i n τ H5 ys w5
    · have td:=T.done X' lC xw xK xc i [] s5 τ H5 (fun _ _=>False) I5 (MX jo) F9 stop.1
      rw [xA] at td
      refine bP td ?_
      rintro r s6 ⟨rfl,I6⟩
      have base:=I6.base
      have os:=I6.os
      have aV:=I6.aV
      have oy:=I6.free
      obtain ⟨m,hm,_⟩:=I6.loc
      rw [z7] at oy hm
      rw [<- hX] at base os aV
      refine Rj _ _ H5 s6 m (I3.GQ (ch:=fp) os base aV I6.bare fun b hb=>⟨(f3 b hb).2.2.2.1,(f3 b hb).2.1,(f3 b hb).2.2.2.2.1,(f3 b hb).2.2.2.2.2⟩) hm oy I3.sz (Nat.ne_of_gt I3.lt) (I3.GK (ba _)) (fun x c e z=>?_) (fun p hp z=>?_) stop.2
      · obtain ⟨v,q⟩:=I3.cell x c e
        exact absurd q.lt (by rw [z];exact Nat.lt_irrefl _)
      · exact absurd (Heap.lt_size (I3.pin p hp).1) (by rw [z];exact Nat.lt_irrefl _)
    · have ti:=T.item X' lC xw xK xc i [] s5 τ H5 (fun _ _=>False) I5 (MX jo) F9 go
      rw [xA] at ti
      refine bP ti ?_
      rintro r s6 ⟨u,rfl,h6⟩
      refine bP h6 ?_
      rintro _ s7 ⟨x,H7,I7,r7,y7,MY,wN⟩
      have Rk:=I7.pinned (MX wN) (T.obj _ _ MY)
      have ga:=OT _ s7 τ H7 x u _ Rk r7 (step x H7 y7)
      rw [lC,xw,xA,Kx,z7] at ga
      refine bP ga ?_
      rintro _ s8 ⟨B_,H8,I8,q8⟩
      have fin:∀ {Ky:St} {H9:Hp} {s9:Shared} {MZ:List V},Inv X' ([]++iz fp s7.heap) Ky H9 s9->(∃ m',m' < n/\W (i+1) m' Ky H9 MZ)->∃ m',m' < n/\∃ i τ H' ys,Inv X' [] τ H' s9/\tn i s9.heap/\(∀ b∈fp,H' b=none)/\W i m' τ H' ys:=fun {Ky H9 s9 MZ} I9 w9=>by
        obtain ⟨m',hm,w9⟩:=w9
        refine ⟨m',hm,i+1,Ky,H9,MZ,I9.ft,T.keep _ _ _ MY fun b hb o e=>(I9.pin (b,o) (List.mem_append_right _ (List.mem_append_right _ (eU hb e)))).1,fun b hb=>?_,w9⟩
        obtain ⟨o,e,d⟩:=T.obj _ _ MY b hb
        exact (I9.pin (b,o) (List.mem_append_right _ (List.mem_append_right _ (eU hb e)))).2.1
      have rest:∀ b s9,TP X' ([]++iz fp s7.heap) B_ (fun b H3 =>
        if b=true then te B_ H3 fun v H4=>H4 s2.heap.objs.size=some (.lst ys)/\∃ m',m' < n/\W (i+1) m' B_ (upd H4 s2.heap.objs.size (.lst (ys++[v]))) (ys++[v])
        else ∃ m', m' < n /\ W (i + 1) m' B_ H3 ys) b s9 -> (if b = true then wpAny (model X.prog X.w) X.A (eval elt (compEnvC scope (cellsFrom (hh.objs.size + 1) scope.names cl) hh.objs.size X.env)) (fun x uO =>
              wpAny (model X.prog X.w) X.A (call (.builtin "list.append") [.ref s2.heap.objs.size,x]) (fun _ wL=>∃ m,m < n/\∃ i τ H' ys,Inv X' [] τ H' wL/\tn i wL.heap/\(∀ b∈fp,H' b=none)/\W i m τ H' ys) (fun _ _=>False) uO) (fun _ _=>False) s9
            else ∃ m,m < n/\∃ i τ H' ys,Inv X' [] τ H' s9/\tn i s9.heap/\(∀ b∈fp,H' b=none)/\W i m τ H' ys):=by
        rintro b s9 ⟨H9,I9,q9⟩
        cases b with
        | false=>rw [if_neg (by simp)] at q9 ⊢;exact fin I9 q9
        | true =>
          rw [if_pos rfl] at q9 ⊢
          have ge:=HG _ s9 B_ H9 _ I9 q9
          rw [lC,xw,xA,Kx,z7] at ge
          refine bP ge ?_
          rintro v Kz ⟨y,Rl,Rm,Rn,Ro,Rp⟩
          have ap:=lA (X:=X') _ Kz B_ Rl (.ref s2.heap.objs.size) [y] (.ref s2.heap.objs.size) [v] (fun _ H'=>∃ m',m' < n/\W (i+1) m' B_ H' (ys++[y])) Rm rfl (.cons Rn .nil) ⟨_,ys,y,rfl,rfl,Ro,hz,Rp⟩
          rw [lC,xw,xA,Kx] at ap
          exact bP ap fun _ M_ ⟨_,VB,Rq,_,Rr⟩=>fin Rq Rr
      cases tc with
      | none =>
        have ei:ifs=[]:=HF
        subst ei
        exact wpAny_tests_nil (rest true s8 ⟨H8,I8,q8⟩)
      | some t =>
        obtain ⟨c,ei,pt⟩:=HF
        subst ei
        have pt:=pt hh.objs.size { s2 with heap:=hh } (upd H2 s2.heap.objs.size (.lst [])) fp
        rw [hX] at pt
        refine wpAny_tests_one ?_
        have gt:=pt _ s8 B_ H8 _ I8 q8
        rw [lC,xw,xA,Kx,z7] at gt
        exact bP gt fun b s9 q=>rest b s9 q
  have Ca:=loop _ I4 Kw
  exact codeAny_compStart_list Ca (T.self _ 0 _ _ _ Kw Ca)
end
section
variable {X:Cx} {scope:Scope} {N':List Str} {cj:List (Option Nat)} {cl:List (Str×Addr)} {tg elt iter:Expr} {ifs:List Expr} {g:TG} {tc:Option TT} {te:TE} {wi:TI} {pos:Pos}
theorem z9 (hc : X.calm = true) (hi : PI X tg iter wi) (ck : iH X scope N' cj cl tg elt ifs g tc te) (hs : ∀ x, foldedSetIterable iter X.env x = pure x := by intro _; rfl) :
    PE X (.ListComp elt [⟨tg,iter,ifs,0⟩] scope pos) (sR cj wi g tc te):=by
  intro pins s σ H Q I h
  rw [eval_ListComp]
  refine wpAny_comprehension_free (use:=none) rfl hs ck.DV.is ck.kind ck.names (bP (hi pins s σ H _ I h) fun v s1 h1=>bP h1 fun Km s2 h2=>?_)
  obtain ⟨it,fp,tn,J,H2,e,I2,T,zC,f2,hC⟩:=h2
  subst e
  refine oO (Q:=Q) (RR:=fun acc C=>compPost (model X.prog X.w) X.A X.xe none (EP X pins σ Q) acc C) hc ck I2 T zC f2 hC ?_
  intro D C H' s' m I' hm Na DW KA z_ uP DX q
  refine ⟨m,hm,fun h' Nb=>?_⟩
  exact ⟨.ref D,H',I'.turned (t':=s'.toks) (fun b o hb e=>Nb.extBut b o hb e) Na (Ne.symm (Ne.symm KA)) (.inr DW) uP DX,rfl,q⟩
theorem Aa {y : Str} {py HH : Pos} {i : Nat} (hc : X.calm = true) (hN : X.N.Nodup) (hy : X.N[i]? = some y) (hk : X.env.kindOf y = some .local)
    (HI:swapsWith (.ListComp elt [⟨tg,iter,ifs,0⟩] scope pos) (some (.Name y py)) HH.line X.env=pure true)
    (hi:PI X tg iter wi) (ck:iH X scope N' cj cl tg elt ifs g tc te) (hs:∀ x,foldedSetIterable iter X.env x=pure x:=by intro _;rfl) :
    PS X (.Assign [.Name y py] (.ListComp elt [⟨tg,iter,ifs,0⟩] scope pos) HH) (fun D σ H=>sR cj wi g tc te σ H fun v H'=>D.nx (σ.set i (some v)) H'):=by
  intro pins s σ H D I h
  rw [exec_Assign_Name_used _ _ _ _ HI]
  refine wpAny_bind (wpAny_standAt (wpAny_bind ?_))
  show wpAny _ X.A (do let _ <- comprehension (.ListComp elt [⟨tg,iter,ifs,0⟩] scope pos) scope X.env _ (newList []) false (eval iter X.env) (some (assign (.Name y py) X.env))) _ _ s
  refine wpAny_bind (wpAny_mono (wpAny_comprehension_free (use:=some (assign (.Name y py) X.env)) (Q:=fun _ s'=>SP X pins D .next s') rfl hs ck.DV.is ck.kind ck.names (bP (hi pins s σ H _ I h) fun v s1 h1=>bP h1 fun Km s2 h2=>?_)) (fun _ s' hq=>wpAny_pure (wpAny_pure hq)) fun _ _ e=>e)
  obtain ⟨it,fp,tn,J,H2,e,I2,T,zC,f2,hC⟩:=h2
  subst e
  refine oO (Q:=fun v H'=>D.nx (σ.set i (some v)) H') (RR:=fun acc C=>compPost (model X.prog X.w) X.A X.xe (some (assign (.Name y py) X.env)) (fun _ s'=>SP X pins D .next s') acc C) hc ck I2 T zC f2 hC ?_
  intro D' C H' s' m I' hm Na DW KA z_ uP DX q
  show wpAny _ X.A (assign (.Name y py) X.env (.ref D')) _ _ s'
  obtain ⟨o,es,ep,ho,hd,HJ⟩:=hm
  have Ip:Inv X (pins++[(C,o)]) σ H' s':=I'.l_ fun p hp=>(je.mp hp).elim (fun z=>I'.pin p (List.mem_append_right _ z)) fun z=>by
    have e:p=(C,o):=by simpa using z
    subst e
    exact ⟨ho,Na,KA,z_,fun v z=>by rw [hd] at z;cases z⟩
  have st:=mf (pos:=py) hN hy (.inl hk) (.inr hk) _ s' σ H' (.ref D') (.ref D') (fun cg H'=>D.nx cg H') Ip rfl q
  refine bP st ?_
  rintro _ Hh ⟨Nc,Rt,OU,Ru⟩
  have pc:=OU.pin (C,o) (by simp)
  refine ⟨m,⟨o,es,ep,pc.1,hd,HJ⟩,fun h' Nb=>?_⟩
  exact ⟨Nc,Rt,OU.ft.turned (t':=Hh.toks) (fun b o hb e=>Nb.extBut b o hb e) pc.2.1 KA (.inr DW) uP DX,Ru⟩
end
end L2
end
section
namespace L2
open PySem PySem.Spec PyProof.Rows
section
variable {prog:Program} {w:World} {A:Around} {E:Value->Shared->Prop} {s:Shared}
def sS (prog:Program) (w:World) (A:Around) (s:Shared) (it:Addr) (x:Value) (after:Heap->Prop):Prop :=
 ∀ (Q:Value->Shared->Prop) (E:Value->Shared->Prop),(∀ h',after h'->Heap.SameBut it s.heap h'->Q x { s with heap:=h' })->wpAny (model prog w) A (Builtin.SmallTypes.nextOf (.ref it)) Q E s
def wQ (prog:Program) (w:World) (A:Around) (s:Shared) (it:Addr):Prop :=
 ∀ (Q:Value->Shared->Prop) (E:Value->Shared->Prop),(∀ h' e,Heap.ExtBut it s.heap h'->(∃ o,h'.get? e=some o/\o.cls=.type "StopIteration")->E (.ref e) { s with heap:=h' }) ->
  wpAny (model prog w) A (Builtin.SmallTypes.nextOf (.ref it)) Q E s
theorem qQ {it l : Addr} {i : Nat} {items : Array Value} {x : Value} (hit : s.heap.IsListIter it l i) (hl : s.heap.IsList l items) (hx : items[i]? = some x) :
    sS prog w A s it x (fun h=>h.IsListIter it l (i+1)):=fun Q E hq=>wpAny_nextOf_list_item hit hl hx hq
theorem qR {it l : Addr} {i : Nat} {items : Array Value} (hh : A.handled = none) (hit : s.heap.IsListIter it l i) (hl : s.heap.IsList l items) (hx : items[i]? = none) :
    wQ prog w A s it:=fun Q E hq=>wpAny_nextOf_list_end hh hit hl hx hq
theorem uQ {it t : Addr} {i : Nat} {items : Array Value} {x : Value} (hit : s.heap.IsTupleIter it t i) (ht : s.heap.IsTuple t items) (hx : items[i]? = some x) :
    sS prog w A s it x (fun h=>h.IsTupleIter it t (i+1)):=by
  intro Q E hq
  obtain ⟨o,e1,e2,e3⟩:=id hit
  obtain ⟨ot,t1,_,nt,t2⟩:=ht
  unfold Builtin.SmallTypes.nextOf
  refine wpAny_bind (wpAny_callSpecial?_slot (name:=Str.ofString "__next__") hit.typeIs F.slot_tuple_iterator_next ?_)
  refine wpAny_call_entry F.slot_tuple_iterator_next hit.typeIs F.entry_tuple_iterator_next ?_ (F.args_tuple_iterator_next_1 _)
  show wpAny _ _ (field (.ref it) 0 >>= _) _ _ s
  refine wpAny_bind (wpAny_field e1 e3 (x:=.ref t) rfl ?_)
  show wpAny _ _ (if (Value.ref t == Value.none)=true then _ else _) _ _ s
  rw [if_neg (by intro z;cases z)]
  refine wpAny_bind (wpAny_field e1 e3 (x:=.int i 0) rfl (wpAny_bind (wpAny_seqItems t1 t2 ?_)))
  simp only [Int.toNat_natCast,hx]
  refine wpAny_bind (wpAny_setField e1 e3 (by simp) (wpAny_pure ⟨x,rfl,wpAny_pure (hq _ ⟨_,Heap.get?_update_self _ e1 (Obj.isFreed_of_fields (Obj.data_mapFields e3 _)),(Obj.cls_mapFields ..).trans e2,?_⟩ (Heap.SameBut.update ..))⟩))
  rw [Obj.data_mapFields e3]
  simp [rawInt]
theorem uR {it t:Addr} {i:Nat} {items:Array Value} (hh:A.handled=none) (hit:s.heap.IsTupleIter it t i) (ht:s.heap.IsTuple t items) (hx:items[i]?=none):wQ prog w A s it:=by
 intro Q E hq
 obtain ⟨o,e1,e2,e3⟩:=id hit
 obtain ⟨ot,t1,_,nt,t2⟩:=ht
 unfold Builtin.SmallTypes.nextOf
 refine wpAny_bind (wpAny_callSpecial?_slot (name:=Str.ofString "__next__") hit.typeIs F.slot_tuple_iterator_next ?_)
 refine wpAny_call_entry F.slot_tuple_iterator_next hit.typeIs F.entry_tuple_iterator_next ?_ (F.args_tuple_iterator_next_1 _)
 show wpAny _ _ (field (.ref it) 0 >>= _) _ _ s
 refine wpAny_bind (wpAny_field e1 e3 (x:=.ref t) rfl ?_)
 show wpAny _ _ (if (Value.ref t == Value.none)=true then _ else _) _ _ s
 rw [if_neg (by intro z;cases z)]
 refine wpAny_bind (wpAny_field e1 e3 (x:=.int i 0) rfl (wpAny_bind (wpAny_seqItems t1 t2 ?_)))
 simp only [Int.toNat_natCast,hx]
 refine wpAny_bind (wpAny_rule (wpAny_bind (wpAny_setField e1 e3 (by simp) ?_)))
 show wpAny _ _ (newExc (.type "StopIteration") [] >>= _) _ _ _
 refine wpAny_bind ?_
 simp only [newExc,newTuple]
 refine wpAny_bind (wpAny_newObj_type ?_ (by size_fits))
 refine wpAny_bind (m:=firstArgMember _ _) (wpAny_of_eq (a:=Value.none) (by first | rfl | (simp only [firstArgMember];rfl)) (wpAny_newObj_type ?_ (by size_fits)))
 simp only [raiseNew]
 refine wpAny_bind (wpAny_handled ?_)
 first | rw [show A.in1.handled=none from hh] | rw [hh]
 exact wpAny_bind (wpAny_pure (wpAny_throw (hq _ _ (((Heap.SameBut.update ..).extBut.push _).push _) ⟨_,k_ _ rfl,rfl⟩)))
theorem uS {e it : Addr} {i : Nat} {x old : Value} {st : Heap -> Prop} {Q : Option Value -> Shared -> Prop} (he : IsEnum s.heap e it i old) (iY : e ≠ it) (iZ : it < s.heap.objs.size) (hn : sS prog w A.in1 s it x st)
    (oP:∀ h h',st h->(∀ o,h.get? it=some o->h'.get? it=some o)->st h')
    (hQ:∀ h',IsEnumOut h' e it ((i:Int)+1) x s.heap.objs.size->st h'->h'.get? s.heap.objs.size=some { cls:=.type "tuple",data:=.seq #[.int i s.toks,x] } ->
      (∀ b o,b≠e->b≠it->s.heap.get? b=some o->h'.get? b=some o)->Q (some (.ref s.heap.objs.size)) { s with heap:=h',toks:=s.toks+1 }) :
    wpAny (model prog w) A (pyNext (.ref e)) Q E s:=by
  have hT:s.TypeIs (.ref e) "enumerate" := ⟨_,he,rfl⟩
  unfold pyNext
  refine wpAny_bind (wpAny_attempt (wpAny_callSpecial?_slot (name:=Str.ofString "__next__") hT F.slot_enumerate_next
    (wpAny_call_entry F.slot_enumerate_next hT F.entry_enumerate_next ?_ (F.args_enumerate_next_1 _))))
  obtain ⟨hp,g,d,tk,os⟩:=s
  show wpAny _ _ (field (.ref e) 2 >>= _) _ _ _
  refine wpAny_bind (wpAny_field he rfl (x:=.ref it) rfl (wpAny_bind (hn _ _ fun k1 Rv HK=>?_)))
  have HK:Heap.SameBut it hp k1:=HK
  have a1:IsEnum k1 e it i old:=(HK.2 e iY).trans he
  refine wpAny_bind (wpAny_field (s:=⟨k1,g,d,tk,os⟩) a1 rfl (x:=rawInt i) rfl ?_)
  refine wpAny_bind (wpAny_field (s:=⟨k1,g,d,tk,os⟩) a1 rfl (x:=.none) rfl ?_)
  refine wpAny_bind (wpAny_mkInt (s:=⟨k1,g,d,tk,os⟩) ?_)
  refine wpAny_bind (wpAny_setField_rec (s:=⟨k1,g,d,tk+1,os⟩) a1 (by simp) fun k2 a2 KC=>?_)
  have KC:Heap.SameBut e k1 k2:=KC
  have a2:IsEnum k2 e it ((i:Int)+1) old:=a2
  refine wpAny_bind (wpAny_setField_rec (s:=⟨k2,g,d,tk+1,os⟩) a2 (by simp) fun k3 a3 KD=>?_)
  have KD:Heap.SameBut e k2 k3:=KD
  have a3:IsEnum k3 e it ((i:Int)+1) old:=a3
  refine wpAny_bind (wpAny_newTuple (s:=⟨k3,g,d,tk+1,os⟩) ?_)
  have sz:k3.objs.size=hp.objs.size:=by rw [KD.1,KC.1,HK.1]
  have el:e < hp.objs.size:=Heap.lt_size he
  have Rw:hp.objs.size≠e:=Nat.ne_of_gt el
  generalize Gd:k3.push { cls:=.type "tuple",data:=.seq #[.int i tk,x] }=k4
  have a4:IsEnum k4 e it ((i:Int)+1) old:=by rw [<- Gd];exact fY _ a3
  have t4:k4.get? hp.objs.size=some { cls:=.type "tuple",data:=.seq #[.int i tk,x] }:=by rw [<- Gd,<- sz];exact k_ _ rfl
  have up:∀ b o,b≠e->k1.get? b=some o->k4.get? b=some o:=fun b o hb q=>by rw [<- Gd];exact fY _ (KD.extBut b o hb (KC.extBut b o hb q))
  dsimp only
  rw [sz]
  refine wpAny_bind ?_
  unfold Builtin.SmallTypes.ownedTupleIsFree
  refine wpAny_bind (wpAny_field (s:=⟨k4,g,d,tk+1,os⟩) a4 rfl (x:=.none) rfl (wpAny_pure ?_))
  simp only [if_true]
  refine wpAny_bind (wpAny_rule (wpAny_bind (wpAny_field (s:=⟨k4,g,d,tk+1,os⟩) a4 rfl (x:=old) rfl ?_)))
  refine wpAny_bind (wpAny_setField_rec (s:=⟨k4,g,d,tk+1,os⟩) a4 (by simp) fun k5 a5 Nd=>?_)
  have Nd:Heap.SameBut e k4 k5:=Nd
  have a5:IsEnum k5 e it ((i:Int)+1) x:=a5
  refine wpAny_bind ?_
  unfold Builtin.SmallTypes.ownedTupleHandOut
  refine wpAny_bind (wpAny_setField_rec (s:=⟨k5,g,d,tk+1,os⟩) a5 (by simp) fun k6 a6 Nf=>?_)
  have Nf:Heap.SameBut e k5 k6:=Nf
  have a6:IsEnumOut k6 e it ((i:Int)+1) x hp.objs.size:=a6
  refine wpAny_setField_rec (s:=⟨k6,g,d,tk+1,os⟩) a6 (by simp) fun k7 a7 Ng=>?_
  have Ng:Heap.SameBut e k6 k7:=Ng
  have a7:IsEnumOut k7 e it ((i:Int)+1) x hp.objs.size:=a7
  have Nh:∀ b o,b≠e->k4.get? b=some o->k7.get? b=some o:=fun b o hb q=>Ng.extBut b o hb (Nf.extBut b o hb (Nd.extBut b o hb q))
  refine wpAny_bind (wpAny_letGo (wpAny_pure ⟨_,rfl,wpAny_pure (hQ k7 a7 ?_ (Nh _ _ Rw t4) ?_)⟩))
  · exact oP k1 k7 Rv fun o q=>Nh _ _ (Ne.symm iY) (up _ _ (Ne.symm iY) q)
  · intro b o Ku OV q
    exact Nh b o Ku (up b o Ku (HK.extBut b o OV q))
theorem oQ {e it : Addr} {i : Nat} {old : Value} {Q : Option Value -> Shared -> Prop} (he : IsEnum s.heap e it i old) (hn : wQ prog w A.in1 s it)
    (hQ:∀ h',Heap.ExtBut it s.heap h'->Q none { s with heap:=h' }):wpAny (model prog w) A (pyNext (.ref e)) Q E s:=by
  have hT:s.TypeIs (.ref e) "enumerate" := ⟨_,he,rfl⟩
  unfold pyNext
  refine wpAny_bind (wpAny_attempt (wpAny_callSpecial?_slot (name:=Str.ofString "__next__") hT F.slot_enumerate_next
    (wpAny_call_entry F.slot_enumerate_next hT F.entry_enumerate_next ?_ (F.args_enumerate_next_1 _))))
  show wpAny _ _ (field (.ref e) 2 >>= _) _ _ _
  refine wpAny_bind (wpAny_field he rfl (x:=.ref it) rfl (wpAny_bind (hn _ _ fun k x hk hx=>?_)))
  obtain ⟨o,ho,hc⟩:=hx
  exact wpAny_bind (wpAny_isInstance (T := "StopIteration") (b:=true) ⟨o,ho,hc⟩ isSubtype_stop (wpAny_pure (hQ _ hk)))
end
theorem oR {h:Heap} {o:Obj} {b:Addr} (hb:b≠h.objs.size):(h.push o).get? b=h.get? b:=Heap.get?_push_ne h b o hb
theorem Inv.Ab {X:Cx} {pins:List (Addr×Obj)} {σ:St} {H:Hp} {s:Shared} {h':Heap} {t':Nat} {ch:List Addr} (I:Inv X pins σ H s) (k:∀ b o,b∉ch->s.heap.get? b=some o->h'.get? b=some o) (hf:∀ b∈ch,jg X pins H b):Inv X pins σ H { s with heap:=h',toks:=t' }:=by
 have GO:∀ b u,H b=some u->b∉ch:=fun b u e z=>by rw [(hf b z).1] at e;cases e
 refine I.step (g':=s.gens) (d':=s.drawn) (ch:=ch) (fun b hb=>⟨(hf b hb).2.2.2.1,(hf b hb).2.1,(hf b hb).2.2.2.2.1,(hf b hb).2.2.2.2.2⟩) (fun b o _ _ hc e _=>k b o hc e) (fun b o _ _ hc e _=>⟨o.slots,k b o hc e⟩) (fun _ _ _ _ n=>n)
  (fun b o hc e=>⟨o,k b o hc e⟩) (fun _ _ e=>e) (fun _ _ _ e=>e) (fun b ps e=>⟨#[],by rw [e];simp⟩) (fun m hm=>?_) (fun b u e=>?_) I.bare
 ·obtain ⟨o,es,ep,ho,r⟩:=hm
  exact ⟨o,es,ep,k _ o (fun z=>(hf _ z).2.1 rfl) ho,r⟩
 ·refine (I.aV b u e).ur (fun c v hc q=>k c v ?_ q) (fun _ q=>q) fun _ _ q=>q
  rcases hc with z | z
  ·rw [z];exact GO b u e
  ·exact GO c _ z
def Ge (K:PySem.W.Frag) (H:Hp) (l:Bool) (a:Addr) (xs:List V):Prop:=if l=true then d9 K H a xs else eT K H a xs
def KG (K:PySem.W.Frag) (l:Bool) (a:Addr):It :=
 ⟨fun i H=>∃ xs x,Ge K H l a xs/\xs[i]?=some x,fun i H x H'=>∃ p y,x=.ref p/\H p=none/\H'=upd H p (.tup [.int i,y])/\∀ xs,Ge K H l a xs->xs[i]?=some y,fun i H=>∃ xs,Ge K H l a xs/\xs.length<=i⟩
def mD (l:Bool) (h:Heap) (it a:Addr) (i:Nat):Prop:=if l=true then h.IsListIter it a i else h.IsTupleIter it a i
theorem mD.at {l:Bool} {h h':Heap} {it a:Addr} {i:Nat} (x:mD l h it a i) (e:∀ o,h.get? it=some o->h'.get? it=some o):mD l h' it a i:=by
 cases l with
 | true=>exact Heap.IsListIter.at (show h.IsListIter it a i from x) e
 | false=>exact Heap.IsTupleIter.at (show h.IsTupleIter it a i from x) e
theorem mD.obj {l:Bool} {h:Heap} {it a:Addr} {i:Nat} (x:mD l h it a i):∃ o,h.get? it=some o/\o.data=.fields #[.ref a,.int i 0]:=by
 cases l with
 | true=>obtain ⟨o,e,_,d⟩:=(show h.IsListIter it a i from x);exact ⟨o,e,d⟩
 | false=>obtain ⟨o,e,_,d⟩:=(show h.IsTupleIter it a i from x);exact ⟨o,e,d⟩
theorem uT {P : Program} {w : World} {K : PySem.W.Frag} {elts : List Expr} {k : Nat} {tp : Pos} (l : Bool) (a e it : Addr) (iY : e ≠ it) :
    Turn P w K (.Tuple elts k tp) (KG K l a) [e,it] e (fun i h=>(∃ old,IsEnum h e it i old)/\mD l h it a i) where
  mem:=by simp
  obj:=fun i h st b hb=>by
    obtain ⟨⟨old,h1⟩,h2⟩:=st
    have hb:b=e\/b=it:=by simpa using hb
    rcases hb with rfl | rfl
    · exact ⟨_,h1,fun v z=>by have z':Data.fields _=Data.cell v:=z;cases z'⟩
    · obtain ⟨o,q,d⟩:=h2.obj
      exact ⟨o,q,fun v z=>by rw [d] at z;cases z⟩
  keep:=fun i h h' st k=>by
    obtain ⟨⟨old,h1⟩,h2⟩:=st
    exact ⟨⟨old,k e (by simp) _ h1⟩,h2.at fun o q=>k it (by simp) o q⟩
  item:=by
    intro X hP hw hK hc i pins s σ H E I hf st hg
    subst hP hw hK
    obtain ⟨⟨old,h1⟩,h2⟩:=st
    obtain ⟨xs,x,hq,hx⟩:=hg
    have OW:=hf e (by simp)
    have Cb:=hf it (by simp)
    obtain ⟨oi,qi,di⟩:=h2.obj
    have main : ∀ (u : Value), RelV x u -> sS X.prog X.w X.A.in1 s it u (fun h => mD l h it a (i + 1)) -> (∀ ys, Ge X.K H l a ys -> ys[i]? = some x) ->
        wpAny (model X.prog X.w) X.A (pyNext (.ref e)) (fun r s1=>∃ u,r=some u /\
          wpAny (model X.prog X.w) X.A (letOwnedTupleGo (.Tuple elts k tp) (.ref e) u) (fun _ s2=>∃ x H',Inv X pins σ H' s2/\RelV x u/\(KG X.K l a).F8 i H x H'/\((∃ old,IsEnum s2.heap e it ((i+1:Nat):Int) old)/\mD l s2.heap it a (i+1))/\∀ b∈[e,it],H' b=none) E s1) E s:=by
      intro u ru hn qK
      refine uS h1 iY (Heap.lt_size qi) hn (fun h h' st hk=>st.at hk) fun h' o1 o2 o3 o4=>⟨_,rfl,?_⟩
      refine wpAny_letOwnedTupleGo_enum (s:={ s with heap:=h',toks:=s.toks+1 }) o1 fun OX p1 p2=>?_
      have p2:Heap.SameBut e h' OX:=p2
      have fr:H s.heap.objs.size=none:=I.aV.fresh (ba _)
      have I1:Inv X pins σ (upd H s.heap.objs.size (.tup [.int i,x])) { s with heap:=s.heap.push { cls:=.type "tuple",data:=.seq #[.int i s.toks,u] },toks:=s.toks+1 } :=
        I.laid (fun b o q=>fY _ q) (ba _) ⟨by show 2<=sizeLine;decide,[.int i s.toks,u],.cons ⟨_,rfl⟩ (.cons ru .nil),⟨_,k_ _ rfl,rfl,0,rfl⟩⟩
      have ne1:e≠s.heap.objs.size:=Nat.ne_of_lt (Heap.lt_size h1)
      have ne2:it≠s.heap.objs.size:=Nat.ne_of_lt (Heap.lt_size qi)
      have OY:∀ b∈[e,it],jg X pins (upd H s.heap.objs.size (.tup [.int i,x])) b:=fun b hb=>by
        have z5:b=e\/b=it:=by simpa using hb
        rcases z5 with z | z
        · subst z;exact ⟨by rw [aj ne1];exact OW.1,OW.2⟩
        · subst z;exact ⟨by rw [aj ne2];exact Cb.1,Cb.2⟩
      have I2:=I1.Ab (h':=OX) (t':=s.toks+1) (ch:=[e,it]) (fun b o hb q=>by
        have z5:b≠e/\b≠it:=by simpa using hb
        refine p2.extBut b o z5.1 ?_
        by_cases hz:b=s.heap.objs.size
        · subst hz
          have q':(s.heap.push { cls:=.type "tuple",data:=.seq #[.int i s.toks,u] }).get? s.heap.objs.size=some _:=k_ _ rfl
          rw [q'] at q
          cases q
          exact o3
        · have q2 : s.heap.get? b = some o := by
            have iZ:=Heap.lt_size q
            rw [Heap.size_push] at iZ
            cases hs:s.heap.get? b with
            | some o'=>rw [fY _ hs] at q;exact q
            | none=>exact absurd q (by rw [oR hz,hs];intro z;cases z)
          exact o4 b o z5.1 z5.2 q2) OY
      refine ⟨.ref s.heap.objs.size,_,I2,rfl,⟨s.heap.objs.size,x,rfl,fr,rfl,qK⟩,⟨⟨_,p1⟩,o2.at fun o q=>p2.extBut _ _ (Ne.symm iY) q⟩,fun b hb=>(OY b hb).1⟩
    cases l with
    | true =>
      have hq:d9 X.K H a xs:=hq
      obtain ⟨aq,rv,p,hz⟩:=I.list hq
      obtain ⟨u,hu,ru⟩:=rv.get hx
      exact main u ru (qQ (show s.heap.IsListIter it a i from h2) p.isList (by simpa using hu)) fun ys hy=>by rw [I.oA (show d9 X.K H a ys from hy) hq];exact hx
    | false =>
      have hq:eT X.K H a xs:=hq
      obtain ⟨aq,rv,p,hz⟩:=I.tuple hq
      obtain ⟨u,hu,ru⟩:=rv.get hx
      exact main u ru (uQ (show s.heap.IsTupleIter it a i from h2) (show s.heap.IsTuple a aq.toArray from p) (by simpa using hu)) fun ys hy=>by rw [I.lh (show eT X.K H a ys from hy) hq];exact hx
  done:=by
    intro X hP hw hK hc i pins s σ H E I hf st hg
    subst hP hw hK
    obtain ⟨⟨old,h1⟩,h2⟩:=st
    obtain ⟨xs,hq,hx⟩:=hg
    have Cb:=hf it (by simp)
    have hh:X.A.in1.handled=none:=I.ok.hd hc
    have fin:∀ h',Heap.ExtBut it s.heap h'->(none:Option Value)=none/\Inv X pins σ H { s with heap:=h' }:=fun h' eb=>⟨rfl,I.turned (t':=s.toks) (fun b o hb q=>eb b o hb q) Cb.1 Cb.2.1 Cb.2.2.2.1 Cb.2.2.2.2.1 Cb.2.2.2.2.2⟩
    cases l with
    | true =>
      obtain ⟨aq,rv,p,hz⟩:=I.list (show d9 X.K H a xs from hq)
      have hl:=rv.length
      exact oQ h1 (qR hh (show s.heap.IsListIter it a i from h2) p.isList (by simp;omega)) fun h' eb=>fin h' eb
    | false =>
      obtain ⟨aq,rv,p,hz⟩:=I.tuple (show eT X.K H a xs from hq)
      have hl:=rv.length
      exact oQ h1 (uR hh (show s.heap.IsTupleIter it a i from h2) (show s.heap.IsTuple a aq.toArray from p) (by simp;omega)) fun h' eb=>fin h' eb
  self:=fun A i s Q E st h=>by
    obtain ⟨⟨old,h1⟩,_⟩:=st
    exact wpAny_pyIter_enum h1 h
theorem jU (t : Addr) (items : Array Value) :
    Meets (Builtin.«enumerate.__new__» ⟨[.type "enumerate",.ref t],[]⟩) (fun _ R s=>s.heap.IsTuple t items /\
      R (.ok (.ret (.ref (s.heap.push { cls:=.type "tuple_iterator",data:=.fields #[.ref t,.int 0 0] }).objs.size)))
        { s with heap:=(s.heap.push { cls:=.type "tuple_iterator",data:=.fields #[.ref t,.int 0 0] }).push { cls:=.type "enumerate",data:=.fields #[.none,.bool false,.ref s.heap.objs.size,rawInt 0,.none,.none] } }) :=
  .of_wp fun prog w A R s h=>by
    obtain ⟨hp,g,d,tk,os⟩:=s
    obtain ⟨hT,h⟩:=h
    have Rx:=sub_enumerate
    have hT:Heap.IsTuple (Shared.heap ⟨hp,g,d,tk,os⟩) t items:=hT
    wp_walk
    refine wpAny_stack_any fun st=>wpAny_pure ?_
    split
    · rename_i c _ _ _ _ _
      cases (c == Value.type "enumerate") <;> (wp_walk using wpAny_pyIter_tuple hT;exact ⟨_,rfl,h⟩)
    · wp_walk using wpAny_pyIter_tuple hT
      exact ⟨_,rfl,h⟩
section
variable {prog:Program} {w:World} {A:Around} {E:Value->Shared->Prop} {s:Shared}
theorem uU {l : Bool} {a : Addr} {items : Array Value} {Q : Value -> Shared -> Prop} (hs : if l = true then s.heap.IsList a items else s.heap.IsTuple a items)
    (h:∀ h',IsEnum h' (s.heap.objs.size+1) s.heap.objs.size 0 .none->mD l h' s.heap.objs.size a 0->(∀ b o,s.heap.get? b=some o->h'.get? b=some o)->Q (.ref (s.heap.objs.size+1)) { s with heap:=h' }) :
    wpAny (model prog w) A (call (.type "enumerate") [.ref a]) Q E s:=by
  cases l with
  | true=>exact call_enumerate_list (show s.heap.IsList a items from hs) fun h' h1 h2 _ h4=>h h' h1 h2 h4
  | false =>
    have hs:s.heap.IsTuple a items:=hs
    refine callType_new F.called_enumerate (by decide) (F.typeCall_enumerate_1 _) (F.newCall_enumerate_1 _) (fun obj=>F.args_object_init_2 obj _) F.entry_enumerate_new (jU a items) ⟨hs,?_⟩
    have hz:(s.heap.push { cls:=.type "tuple_iterator",data:=.fields #[.ref a,.int 0 0] }).objs.size=s.heap.objs.size+1:=Heap.size_push ..
    show _/\_
    have he:=k_ (s.heap.push { cls:=.type "tuple_iterator",data:=.fields #[.ref a,.int 0 0] }) (o:={ cls:=.type "enumerate",data:=.fields #[.none,.bool false,.ref s.heap.objs.size,rawInt 0,.none,.none] }) rfl
    rw [hz] at he ⊢
    exact ⟨⟨_,he,rfl⟩,h _ he ⟨_,fY _ (k_ _ rfl),rfl,rfl⟩ fun b o x=>fY _ (fY _ x)⟩
end
section
variable {X:Cx}
def HL (K:PySem.W.Frag) (ta:TA):TI:=fun σ H R=>ta σ H fun vs H1=>∃ (l:Bool) (a:Addr),vs=[.ref a]/\(∃ xs,Ge K H1 l a xs)/\R (KG K l a) H1
theorem Ac {a : Expr} {ta : TA} {p pos tp : Pos} {elts : List Expr} {k : Nat} (hg : Gl X "enumerate") (hm : X.mg "enumerate" = none) (ha : PA X [a] ta) (hs : starEach [a] X.env = [(false, eval a X.env)]) :
    PI X (.Tuple elts k tp) (.Call (.Name "enumerate" p) [a] [] pos) (HL X.K ta):=by
  intro pins s σ H R I h
  refine Call_ (iy I hg hm boot_enumerate (PyProof.Rows.callWith_type1 (bP (ha pos pins s σ H _ I h) ?_) hs rfl))
  rintro us s1 ⟨vs,H1,I1,r1,q1⟩
  obtain ⟨l,b,rfl,⟨xs,hq⟩,q⟩:=q1
  obtain ⟨u,rfl,ru⟩:=vals1 r1
  cases ru
  have hit:∃ aq:Array Value,if l=true then s1.heap.IsList b aq else s1.heap.IsTuple b aq:=by
    cases l with
    | true=>obtain ⟨aq,_,p,_⟩:=I1.list (show d9 X.K H1 b xs from hq);exact ⟨aq.toArray,p.isList⟩
    | false=>obtain ⟨aq,_,p,_⟩:=I1.tuple (show eT X.K H1 b xs from hq);exact ⟨aq.toArray,p⟩
  obtain ⟨aq,hit⟩:=hit
  refine uU hit fun h' e1 e2 e3=>?_
  refine wpAny_pyIter_enum (s:={ s1 with heap:=h' }) e1 ?_
  have I2:Inv X pins σ H1 { s1 with heap:=h' }:=I1.kept (t':=s1.toks) e3
  refine ⟨s1.heap.objs.size+1,[s1.heap.objs.size+1,s1.heap.objs.size],_,_,H1,rfl,I2,uT l b _ _ (Nat.succ_ne_self _),⟨⟨_,e1⟩,e2⟩,fun c hc=>?_,q⟩
  have ux:c=s1.heap.objs.size+1\/c=s1.heap.objs.size:=by simpa using hc
  rcases ux with z | z
  · subst z;exact I1.uA (Nat.le_succ _) (I1.aV.fresh (Nat.le_succ _))
  · subst z;exact I1.uA (ba _) (I1.aV.fresh (ba _))
end
end L2
end
section
namespace L2
open PySem PySem.Spec PyProof.Rows
end L2
end
section
namespace L2
open PySem PySem.Spec PyProof.Rows
section
variable {X:Cx}
theorem Ni {n c:Nat} (h:c∈[n+4,n+2,n+3,n,n+1]):n<=c:=by
 simp only [List.mem_cons,List.mem_nil_iff,or_false] at h
 omega
end
end L2
end
section
namespace L2
open PySem PySem.Spec PyProof.Rows
open AutoSeq1 (wpAny_loadPart')
end L2
end
section
namespace L2
open PySem PySem.Spec PyProof.Rows
theorem gp:entryFor table "dict.update.loop" = some Builtin.«dict.update.loop»:=entryFor_of_tree (nofun)
theorem cZ:plainId "dict.update.loop" = true:=⋯
theorem mE:typeLookup (.type "list") "keys" = pure none:=by rw [typeLookup_type,builtinLookup_eq_fast];kernel_rfl
section
variable {prog:Program} {w:World} {A:Around} {E:Value->Shared->Prop} {s:Shared}
theorem gH {a : Addr} {o : Obj} {xs : Array Value} {k : Nat} {Q : Option Value -> Shared -> Prop}
    (hx:s.heap.get? a=some o) (hc:o.cls=.type "list") (oS:o.data=.seq xs k) (hd:o.dict=none) (hA:A.handled=none)
    (h:∀ h' tk,(∀ b o,s.heap.get? b=some o->h'.get? b=some o)->Q none { s with heap:=h',toks:=tk }) :
    wpAny (model prog w) A (getAttr? (.ref a) "keys") Q E s:=by
  obtain ⟨c,vD,dat,sl⟩:=o
  simp only at hc oS hd
  subst hc oS hd
  obtain ⟨hp,g,d,tk,os⟩:=s
  have hT:∀ KH,(⟨hp,g,d,KH,os⟩:Shared).TypeIs (.ref a) "list" := fun _=>⟨_,hx,rfl⟩
  have f1:=sub_AttributeError
  have f3:=F.slot_list_getattribute.lookup
  have f4:=F.slot_list_getattribute.bind (.ref a)
  have f5:=am_list_getattr_none
  unfold getAttr? getAttrBy? getAttrBy
  repeat (any_goals (first | assumption | exact hT _ | ((with_reducible show wpAny _ _ (call (Value.builtin "list.__getattribute__") _ _) _ _ _);refine call_meets F.slot_list_getattribute (hT _) am_entry_list_getattribute (F.args_list_getattribute_2 _ _) (meets_getattribute_miss_list a xs k sl "keys" _ mE (⋯) (⋯)) ⟨hx,hA,fun h' KH e OZ=>?_⟩) | wp_step))
  obtain ⟨t',u',he⟩:=OZ.there
  show wpAny _ _ (getattributeRaised _ _ _ _ _ _ _) _ _ _
  unfold getattributeRaised
  repeat (any_goals (first | assumption | wp_step))
  exact h _ _ OZ.of.keeps
def i4 (kv:Nat->Key×Value):Nat->List (Key×Value)
 | 0=>[]
 | n+1=>stored (i4 kv n) (kv n).1 (kv n).2
theorem iI (kv:Nat->Key×Value):∀ n,(i4 kv n).length<=n
 | 0=>ba _
 | n+1=>Nat.le_trans (stored_length_le _ _ _) (Nat.succ_le_succ (iI kv n))
theorem Ad {R : Result -> Shared -> Prop} {I : Addr} {fp wr : List Addr} {n : Nat} {P : Nat -> Value -> Prop} {St : Nat -> Heap -> Prop} (W : Walks prog w A.in1 I fp wr n P St) (d : Addr) (B8 : d ∉ fp) (hn : n <= sizeLine)
    (kv:Nat->Key×Value) (h0:Heap) (DY:∀ i v,P i v->∃ a uk,v=.ref a/\a∉wr/\a≠d/\fk (kv i).1 uk=true/\IsTup h0 a #[uk,(kv i).2]) :
    ∀ (k i:Nat) (s:Shared) (j:Int) (t:Tok),n - i=k->i<=n->St i s.heap->(∀ b o,b∉wr->b≠d->h0.get? b=some o->s.heap.get? b=some o)->s.heap.DictOf (aN prog w) d (i4 kv i) ->
      (∀ h' tk,(∀ b o,b∉wr->b≠d->s.heap.get? b=some o->h'.get? b=some o)->h'.DictOf (aN prog w) d (i4 kv n)->R (.ok (.ret .none)) { s with heap:=h',toks:=tk }) ->
      codeAny (model prog w) A (.builtin "dict.update.loop" ⟨[.ref d,.ref I,.int j t,.none],[]⟩) R s:=by
  have O0:d∉wr:=fun h=>B8 (W.sub _ h)
  intro k
  induction k with
  | zero =>
    intro i s j t hk hi eK oP hd hR
    have qS:i=n:=by omega
    subst qS
    refine codeAny_builtin gp ?_
    rw [Around.under_plainId cZ _]
    show wpAny _ A.in1 (pyNext (.ref I) >>= _) _ _ s
    refine wpAny_bind (W.done s _ _ eK fun h' tk hm=>?_)
    show wpAny _ A.in1 (Builtin.Dict.addKeywords d [] >>= _) _ _ _
    refine wpAny_bind (wpAny_pure (wpAny_pure (hR h' tk (fun b o hb _ e=>hm b o hb e) ?_)))
    obtain ⟨o,es,ep,ho,rest⟩:=hd
    exact ⟨o,es,ep,hm d _ O0 ho,rest⟩
  | succ k ih =>
    intro i s j t hk hi eK oP hd hR
    have iZ:i < n:=by omega
    refine codeAny_builtin gp ?_
    rw [Around.under_plainId cZ _]
    show wpAny _ A.in1 (pyNext (.ref I) >>= _) _ _ s
    refine wpAny_bind (W.item i s _ _ iZ eK fun v h' tk hP Nj hm=>?_)
    obtain ⟨a,uk,rfl,O1,Nk,Dv,o,ho,hc,q,oS⟩:=DY i v hP
    have sE:h'.get? a=some o:=hm _ _ O1 (oP _ _ O1 Nk ho)
    have GL:h'.DictOf (aN prog w) d (i4 kv i):=by
      obtain ⟨o,es,ep,ho,rest⟩:=hd
      exact ⟨o,es,ep,hm d _ O0 ho,rest⟩
    have hT:∀ KH,Shared.TypeIs { s with heap:=h',toks:=KH } (.ref a) "tuple" := fun _=>⟨o,sE,hc⟩
    refine wpAny_bind (wpAny_holding (wpAny_bind (wpAny_tryCatch ?_)))
    unfold Builtin.Dict.pairItems
    refine wpAny_bind (wpAny_typeOf (hT _) ?_)
    have hz:(Value.type "tuple" == Value.type "list" || Value.type "tuple" == Value.type "tuple")=true:=⋯
    rw [if_pos hz]
    refine wpAny_bind (wpAny_seqItems (s:={ s with heap:=h',toks:=tk }) sE oS (wpAny_pure ?_))
    show wpAny _ A.in1 (holding [uk,(kv i).2] (dictSet d uk (kv i).2)) _ _ _
    refine wpAny_holding (wpAny_dictSet_pairs (knd:=aN prog w) (k:=(kv i).1) Dv GL (fun h2 hd2 y8=>?_) (Nat.le_trans (iI kv i) (by omega)))
    refine wpAny_pure ⟨plainId_quiet cZ _,ih (i+1) _ _ _ (by omega) iZ (W.frame _ _ _ Nj fun b hb o e=>?_) (fun b o hb Ae e=>?_) hd2 fun h3 Ry HM Nl=>?_⟩
    · show h2.get? b=some o
      rw [y8.2 b (fun z=>B8 (by rw [<- z];exact hb))];exact e
    · show h2.get? b=some o
      rw [y8.2 b Ae];exact hm _ _ hb (oP _ _ hb Ae e)
    · refine hR h3 Ry (fun b o hb Ae e=>HM b o hb Ae ?_) Nl
      show h2.get? b=some o
      rw [y8.2 b Ae];exact hm _ _ hb e
theorem Af {l : Addr} {aq : List Value} {Q : Value -> Shared -> Prop} (hA : A.handled = none) (hl : PlainL s.heap l aq.toArray) (hn : aq.length <= sizeLine) (kv : Nat -> Key × Value)
    (DY:∀ i v,aq[i]?=some v->∃ a uk,v=.ref a/\fk (kv i).1 uk=true/\IsTup s.heap a #[uk,(kv i).2])
    (h:∀ h' tk,(∀ b o,s.heap.get? b=some o->h'.get? b=some o)->h'.DictOf (aN prog w) s.heap.objs.size (i4 kv aq.length)->Q (.ref s.heap.objs.size) { s with heap:=h',toks:=tk }) :
    wpAny (model prog w) A (call (.type "dict") [.ref l]) Q E s:=by
  refine callType_codes (Q₁:=fun obj bb=>obj=.ref s.heap.objs.size/\bb={ s with heap:=s.heap.push { cls:=.type "dict",data:=.dict #[] } }) F.kt_called_dict (F.kt_typeCall_dict_1 _) F.entry_dict_init (kt_code_dict_new _ ⟨rfl,rfl⟩) ?_
  rintro obj bb ⟨rfl,rfl⟩
  have iF:(s.heap.push { cls:=.type "dict",data:=.dict #[] }).DictOf (aN prog w) s.heap.objs.size []:=Heap.DictOf.new s.heap
  obtain ⟨o,m,ho,hc,Rz,oS⟩:=hl
  have Nm:(s.heap.push { cls:=.type "dict",data:=.dict #[] }).get? l=some o:=fY _ ho
  have hT:Shared.TypeIs { s with heap:=s.heap.push { cls:=.type "dict",data:=.dict #[] } } (.ref l) "list" := ⟨o,Nm,hc⟩
  have iZ:=Heap.lt_size ho
  refine ⟨iF.typeIs,F.args_dict_init_2 _ _,?_⟩
  unfold Builtin.«dict.__init__»
  refine wpAny_bind ?_
  unfold Builtin.Dict.selfAndRest
  refine wpAny_bind (wpAny_notOrdered_dict iF.typeIs ?_)
  show wpAny _ _ (pure (s.heap.objs.size,[Value.ref l])) _ _ _
  refine wpAny_pure ?_
  show wpAny _ _ (Builtin.Dict.updateFrom "dict.__init__" s.heap.objs.size (.ref l) [] .none) _ _ _
  unfold Builtin.Dict.updateFrom
  refine wpAny_bind (wpAny_typeOf hT ?_)
  rw [if_pos (⋯)]
  refine wpAny_bind (gH (s:={ s with heap:=s.heap.push { cls:=.type "dict",data:=.dict #[] } }) Nm hc oS Rz (by simp [hA]) fun h1 RA k1=>?_)
  rw [if_pos (show (none:Option Value).isNone=true from rfl)]
  have wq:h1.get? l=some o:=k1 _ _ Nm
  have hle:s.heap.objs.size < h1.objs.size:=by
    obtain ⟨o',es,ep,he,_⟩:=iF
    exact Heap.lt_size (k1 _ _ he)
  refine wpAny_bind (wpAny_rule (wpAny_bind (wpAny_pyIter_list (s:={ s with heap:=h1,toks:=RA }) ⟨o,wq,hc,m,oS⟩ ?_)))
  have Nn:=Heap.lt_size wq
  have qS:l≠h1.objs.size:=Nat.ne_of_lt Nn
  have WW:=Walks.list (prog:=prog) (w:=w) (A:=A.in1.in1) (by simp [hA]) h1.objs.size l qS aq.toArray
  simp only [gi,List.getElem?_toArray] at WW
  refine wpAny_pure ⟨plainId_quiet cZ _,?_⟩
  have kp:∀ b u,s.heap.get? b=some u->(h1.push { cls:=.type "list_iterator",data:=.fields #[.ref l,.int 0 0] }).get? b=some u:=fun b u e=>fY _ (k1 _ _ (fY _ e))
  refine Ad WW s.heap.objs.size ?_ hn kv s.heap ?_ (aq.length - 0) 0 _ _ _ rfl (Nat.zero_le _) ⟨⟨_,k_ _ rfl,rfl,rfl⟩,⟨o,fY _ wq,hc,m,oS⟩⟩ (fun b o' _ _ e=>kp b o' e) ?_ ?_
  · simp only [List.mem_cons,List.not_mem_nil,or_false,not_or]
    exact ⟨Nat.ne_of_lt hle,fun z=>absurd iZ (by rw [z];exact Nat.lt_irrefl _)⟩
  · intro i v hv
    obtain ⟨a,uk,e,hk,ht⟩:=DY i v hv
    have Gf:=ht.lt
    refine ⟨a,uk,e,?_,Nat.ne_of_lt Gf,hk,ht⟩
    simp only [List.mem_cons,List.not_mem_nil,or_false]
    exact Nat.ne_of_lt (Nat.lt_trans Gf hle)
  · obtain ⟨o',es,ep,he,rest⟩:=iF
    exact ⟨o',es,ep,fY _ (k1 _ _ he),rest⟩
  · intro h' tk hk hd
    refine ⟨rfl,h h' tk (fun b u e=>?_) hd⟩
    have hb:=Heap.lt_size e
    exact hk b u (by simp only [List.mem_cons,List.not_mem_nil,or_false];exact Nat.ne_of_lt (Nat.lt_trans hb hle)) (Nat.ne_of_lt hb) (kp b u e)
end
end L2
end
section
namespace L2
open PySem PySem.Spec PyProof.Rows
end L2
end
section
namespace L2
open PySem PySem.Spec PyProof.Rows
theorem uV (a b:Int):Builtin.Range.rangeSize a b (-1)=if b < a then a - b else 0:=by
 unfold Builtin.Range.rangeSize
 rw [if_neg (by decide),show -(-1:Int)=1 from rfl,Int.ediv_one]
 by_cases h:b < a
 ·rw [if_pos h,if_pos h];omega
 ·rw [if_neg h,if_neg h]
theorem small_down {a b:Int} (h1:-(2 ^ 62)<=a) (h2:a < 2 ^ 62) (h3:-(2 ^ 62)<=b) (h4:b < 2 ^ 62):Builtin.Range.small a b (-1)=true:=by
 unfold Builtin.Range.small
 rw [uV]
 simp only [Builtin.Range.rangeFitsLong,bH,Bool.or_eq_true,decide_eq_true_eq,beq_iff_eq,show ¬ (-1:Int) > 0 by decide,if_false]
 split <;> omega
end L2
end
section
namespace L2
open PySem PySem.Spec PyProof.Rows
section
variable {X:Cx}
theorem wR:fZ X (compareOp .Is) (fun x y H Q=>∃ b c,x=.bl b/\y=.bl c/\Q (.bl (b == c)) H):=by
 intro pins s σ H x y v u Q I rx ry h
 obtain ⟨b,c,rfl,rfl,q⟩:=h
 cases rx
 cases ry
 refine wpAny_is_plain rfl (jO I q ?_)
 cases b <;> cases c <;> rfl
theorem sT:fZ X (compareOp .IsNot) (fun x y H Q=>∃ b c,x=.bl b/\y=.bl c/\Q (.bl (!(b == c))) H):=by
 intro pins s σ H x y v u Q I rx ry h
 obtain ⟨b,c,rfl,rfl,q⟩:=h
 cases rx
 cases ry
 refine wpAny_isNot_plain rfl (jO I q ?_)
 cases b <;> cases c <;> rfl
theorem sU:∀ {is:List Int} {aq:List Value},Vals (is.map V.int) aq->PySem.W.kf_ints aq=true
 | [],_,.nil=>rfl
 | i::is,_,.cons r t=>by
  obtain ⟨_,rfl⟩:=r
  exact (sU (is:=is) t:PySem.W.kf_ints _=true)
end
end L2
end
section
namespace L2
open PySem PySem.Spec PyProof.Rows
section
variable {prog:Program} {w:World} {A:Around} {E:Value->Shared->Prop} {s:Shared} {it d:Addr} {i ep:Nat} {od:Obj} {es:Array DictEntry}
theorem wU {Q : Value -> Shared -> Prop} (nm : (d == sysModules) = false) (g : s.heap.get? d = some od) (x : od.ExactDict) (dt : od.data = .dict es ep)
    (q:Q (.ref s.heap.objs.size) { s with heap:=s.heap.push { cls:=.type "dict_keyiterator",data:=.fields #[.ref d,.int 0 0,.int es.size 0,.int ep 0] } }):wpAny (model prog w) A (pyIter (.ref d)) Q E s:=by
  have T:s.TypeIs (.ref d) "dict" := ⟨od,g,x.1⟩
  refine wpAny_pyIter_slot T F.slot_dict_iter (wpAny_call_entry F.slot_dict_iter T F.entry_dict_iter ?_ (F.args_dict_iter_1 _))
  unfold Builtin.«dict.__iter__»
  refine wpAny_bind ?_
  unfold Builtin.Dict.dictSlotNone
  refine wpAny_bind (wpAny_notOrdered_dict T (wpAny_pure ?_))
  unfold Builtin.Dict.showsAll
  refine wpAny_bind (wpAny_pure ?_)
  rw [if_neg (by rw [nm];exact bO)]
  refine wpAny_bind (wpAny_pure (wpAny_bind (wpAny_dictEntries g dt (wpAny_bind (wpAny_dictEpoch g dt ?_)))))
  exact wpAny_bind (wpAny_newObj_type (wpAny_pure ⟨_,rfl,"dict_keyiterator",_,⟨_,k_ _ rfl,rfl⟩,F.slot_dict_keyiterator_next.lookup,by simpa [rawInt] using q⟩))
theorem wV {e : DictEntry} {Q : Option Value -> Shared -> Prop} (hi : s.heap.IsKeyIter it d i es.size ep) (g : s.heap.get? d = some od) (dt : od.data = .dict es ep) (he : es[i]? = some e)
    (q:∀ h,h.IsKeyIter it d (i+1) es.size ep->Heap.SameBut it s.heap h->Q (some e.key) { s with heap:=h }):wpAny (model prog w) A (pyNext (.ref it)) Q E s:=by
  obtain ⟨o,ho,hc,hd⟩:=id hi
  unfold pyNext
  refine wpAny_bind (wpAny_attempt (wpAny_callSpecial?_slot (name:=Str.ofString "__next__") hi.typeIs F.slot_dict_keyiterator_next (wpAny_call_entry F.slot_dict_keyiterator_next hi.typeIs F.entry_dict_keyiterator_next ?_ (F.args_dict_keyiterator_next_1 _))))
  refine wpAny_bind (wpAny_pure (wpAny_bind (wpAny_bind ?_)))
  first | refine wpAny_bind (wpAny_typeNameOfWhole_keyiter hi.typeIs (wpAny_pure ?_)) | refine wpAny_bind (wpAny_typeNameOf_keyiter hi.typeIs (wpAny_pure ?_))
  refine wpAny_bind (wpAny_fieldsOf ho hd ?_)
  simp only [show Builtin.Dict_items.ownsTuple "dict_keyiterator" = false by decide,Bool.false_eq_true,if_false]
  show wpAny _ _ (if (Value.ref d == Value.none)=true then _ else _) _ _ s
  rw [if_neg (show ¬ ((Value.ref d == Value.none)=true) from bO)]
  refine wpAny_bind (wpAny_pure (wpAny_bind (wpAny_dictEntries g dt ?_)))
  rw [if_neg (by simp)]
  refine wpAny_bind (wpAny_pure (wpAny_bind (wpAny_dictEpoch g dt ?_)))
  rw [if_neg (by simp)]
  refine wpAny_pure ?_
  simp only [show ¬ ((i:Int) < 0) from by omega,if_false,Int.toNat_natCast,he]
  refine wpAny_bind ?_
  first | refine wpAny_bind (wpAny_typeNameOfWhole_keyiter hi.typeIs (wpAny_pure ?_)) | refine wpAny_bind (wpAny_typeNameOf_keyiter hi.typeIs (wpAny_pure ?_))
  refine wpAny_bind (wpAny_isOneOf_keyiter hi.typeIs ?_)
  refine wpAny_bind (wpAny_setField (i:=1) ho hd (by simp) ?_)
  have O2:(s.heap.update it (Obj.mapFields (·.setIfInBounds 1 (rawInt ((i:Int)+1))))).IsKeyIter it d (i+1) es.size ep :=
    ⟨_,Heap.get?_update_self _ ho (Obj.isFreed_of_fields (Obj.data_mapFields hd _)),(Obj.cls_mapFields ..).trans hc,by rw [Obj.data_mapFields hd];simp [rawInt]⟩
  refine wpAny_bind (wpAny_holding (wpAny_bind (wpAny_isOneOf_keyiter (s:={ s with heap:=s.heap.update it (Obj.mapFields (·.setIfInBounds 1 (rawInt ((i:Int)+1)))) }) O2.typeIs ?_)))
  exact wpAny_pure (wpAny_pure ⟨_,rfl,wpAny_pure (q _ O2 (Heap.SameBut.update ..))⟩)
theorem Ag {Q : Option Value -> Shared -> Prop} (hh : A.handled = none) (hi : s.heap.IsKeyIter it d i es.size ep) (g : s.heap.get? d = some od) (dt : od.data = .dict es ep) (he : es.size <= i)
    (q:∀ h,Heap.ExtBut it s.heap h->Q none { s with heap:=h }):wpAny (model prog w) A (pyNext (.ref it)) Q E s:=by
  obtain ⟨o,ho,hc,hd⟩:=id hi
  unfold pyNext
  refine wpAny_bind (wpAny_attempt (wpAny_callSpecial?_slot (name:=Str.ofString "__next__") hi.typeIs F.slot_dict_keyiterator_next (wpAny_call_entry F.slot_dict_keyiterator_next hi.typeIs F.entry_dict_keyiterator_next ?_ (F.args_dict_keyiterator_next_1 _))))
  refine wpAny_bind (wpAny_pure (wpAny_bind (wpAny_bind ?_)))
  first | refine wpAny_bind (wpAny_typeNameOfWhole_keyiter hi.typeIs (wpAny_pure ?_)) | refine wpAny_bind (wpAny_typeNameOf_keyiter hi.typeIs (wpAny_pure ?_))
  refine wpAny_bind (wpAny_fieldsOf ho hd ?_)
  simp only [show Builtin.Dict_items.ownsTuple "dict_keyiterator" = false by decide,Bool.false_eq_true,if_false]
  show wpAny _ _ (if (Value.ref d == Value.none)=true then _ else _) _ _ s
  rw [if_neg (show ¬ ((Value.ref d == Value.none)=true) from bO)]
  refine wpAny_bind (wpAny_pure (wpAny_bind (wpAny_dictEntries g dt ?_)))
  rw [if_neg (by simp)]
  refine wpAny_bind (wpAny_pure (wpAny_bind (wpAny_dictEpoch g dt ?_)))
  rw [if_neg (by simp)]
  refine wpAny_pure ?_
  simp only [show ¬ ((i:Int) < 0) from by omega,if_false,Int.toNat_natCast,Array.getElem?_eq_none he]
  refine wpAny_bind ?_
  first | refine wpAny_bind (wpAny_typeNameOfWhole_keyiter hi.typeIs (wpAny_pure ?_)) | refine wpAny_bind (wpAny_typeNameOf_keyiter hi.typeIs (wpAny_pure ?_))
  refine wpAny_bind (wpAny_setField (i:=0) ho hd (by simp) (wpAny_bind ?_))
  simp only [newExc,newTuple]
  refine wpAny_bind (wpAny_newObj_type ?_ (by size_fits))
  refine wpAny_bind (m:=firstArgMember _ _) (wpAny_of_eq (a:=Value.none) (by first | rfl | (simp only [firstArgMember];rfl)) (wpAny_newObj_type ?_ (by size_fits)))
  simp only [raiseNew]
  refine wpAny_bind (wpAny_handled ?_)
  rw [show A.in1.handled=none from hh]
  refine wpAny_bind (wpAny_pure (wpAny_throw (wpAny_bind ?_)))
  refine wpAny_isInstance (T := "StopIteration") (b:=true) ⟨_,k_ _ rfl,rfl⟩ isSubtype_stop ?_
  exact wpAny_pure (q _ (((Heap.SameBut.update ..).extBut.push _).push _))
end
def HN (a:Addr) (o:Obj) (aa:List (List Key×V)):It:=⟨fun i H=>H a=some (.dc o (.dT aa))/\i < aa.length,fun i H x H'=>H'=H/\∃ k v b,aa[i]?=some (k,v)/\x=.ref b/\H b=some (.tup (k.map kV)),fun i H=>H a=some (.dc o (.dT aa))/\aa.length<=i⟩
theorem sV {α β:Type} {R:α->β->Prop}:∀ {l:List α} {m:List β} {i:Nat} {x:α},Paired R l m->l[i]?=some x->∃ y,m[i]?=some y/\R x y
 | _,_,0,_,.cons r _,e=>by cases e;exact ⟨_,rfl,r⟩
 | _,_,i+1,_,.cons _ t,e=>sV (i:=i) t e
theorem oT {α β:Type} {R S:α->β->Prop} (f:∀ a b,R a b->S a b):∀ {l:List α} {m:List β},Paired R l m->Paired S l m
 | _,_,.nil=>.nil
 | _,_,.cons r t=>.cons (f _ _ r) (oT f t)
theorem g9 {α β:Type} {R:α->β->Prop}:∀ {l:List α} {m:List β},Paired R l m->l.length=m.length
 | _,_,.nil=>rfl
 | _,_,.cons _ t=>by simp [g9 t]
theorem uW {P : Program} {w : World} {K : PySem.W.Frag} {tg : Expr} (it a : Addr) (o : Obj) (aa : List (List Key × V)) (es : Array DictEntry) (ep : Nat) (dt : o.data = .dict es ep) (hl : es.size = aa.length) :
    Turn P w K tg (HN a o aa) [it] it (fun i h=>h.IsKeyIter it a i es.size ep) where
  mem:=by simp
  obj:=fun i h st b hb=>by
    obtain rfl:b=it:=by simpa using hb
    obtain ⟨ob,e,_,d⟩:=st
    exact ⟨ob,e,fun v z=>by rw [d] at z;cases z⟩
  keep:=fun i h h' st k=>by
    obtain ⟨ob,e,r⟩:=st
    exact ⟨ob,k it (by simp) _ e,r⟩
  item:=by
    intro X hP hw hK hc i pins s σ H E I hf st hg
    subst hP hw hK
    obtain ⟨f0,f1,f2,f3,f4,f5⟩:=hf it (by simp)
    obtain ⟨g1,g2⟩:=hg
    obtain ⟨ho,hz,hs,xs,pr,o2,VC,VD,h1,h2,h3,h4,h5⟩:=(show aY X.prog X.w H s.heap a (.dc o (.dT aa)) from I.aV a _ g1)
    obtain rfl:o2=o:=e_ (h1.symm.trans ho)
    rw [dt] at h3
    cases h3
    obtain ⟨p,hp⟩:∃ p,aa[i]?=some p:=⟨_,eD g2⟩
    obtain ⟨y,hy,r1,r2,r3⟩:=sV pr hp
    have RB:es[i]?=some (entryOfKey (tupleKind (aN X.prog X.w)) y):=by rw [<- Array.getElem?_toList,h4,dy,hy];rfl
    refine wV st ho dt RB fun h' vY sb=>?_
    have I1:Inv X pins σ H { s with heap:=h' }:=I.turned (t':=s.toks) (fun b ob hb e=>(sb.2 b hb).trans e) f0 f1 f3 f4 f5
    obtain ⟨ob,e,c,d⟩:=id vY
    exact ⟨_,rfl,sI (s:={ s with heap:=h' }) e c d (by decide) ⟨.ref y.2.1,H,I1,rfl,⟨rfl,p.1,p.2,y.2.1,hp,rfl,r2⟩,vY,fun b hb=>(hf b hb).1⟩⟩
  done:=by
    intro X hP hw hK hc i pins s σ H E I hf st hg
    subst hP hw hK
    obtain ⟨f0,f1,f2,f3,f4,f5⟩:=hf it (by simp)
    obtain ⟨g1,g2⟩:=hg
    obtain ⟨ho,_⟩:=(show aY X.prog X.w H s.heap a (.dc o (.dT aa)) from I.aV a _ g1)
    exact Ag (I.ok.hd hc) st ho dt (by omega) fun h' eb=>⟨rfl,I.turned (t':=s.toks) (fun b o hb e=>eb b o hb e) f0 f1 f3 f4 f5⟩
  self:=fun _ _ _ _ _ st h=>wpAny_pyIter_keyiter st h
section
variable {X:Cx} {tg:Expr}
theorem Inv.freeze {pins:List (Addr×Obj)} {σ:St} {H:Hp} {s:Shared} {a:Addr} {aa:List (List Key×V)} (I:Inv X pins σ H s) (e:H a=some (.dT aa)):∃ o,Inv X pins σ (upd H a (.dc o (.dT aa))) s:=by
 obtain ⟨hz,hs,xs,pr,o,es,ep,h1,h2,h3,h4,h5⟩:=(show aY X.prog X.w H s.heap a (.dT aa) from I.aV a _ e)
 refine ⟨o,I.write (x:=a) (e:=a) (h':=s.heap) (t':=s.toks) (by rw [e];exact trivial) (.inl rfl) (fun b u _ q=>q) ⟨o,h1⟩ ?_⟩
 refine ⟨h1,hz,hs,xs,?_,o,es,ep,h1,h2,h3,h4,h5⟩
 have nt:∀ {b:Addr} {ys:List V},H b=some (.tup ys)->b≠a:=fun q z=>by subst z;rw [e] at q;cases q
 exact oT (fun p q r=>⟨r.1,by rw [aj (nt r.2.1)];exact r.2.1,r.2.2⟩) pr
def HP (te:TE):TI:=fun σ H R=>te σ H fun v H1=>∃ a aa,v=.ref a/\((H1 a=some (.dT aa)/\∀ o,R (HN a o aa) (upd H1 a (.dc o (.dT aa))))\/∃ o,H1 a=some (.dc o (.dT aa))/\R (HN a o aa) H1)
theorem sW {pins : List (Addr × Obj)} {σ : St} {H : Hp} {s : Shared} {R : It -> Hp -> Prop} {E : Value -> Shared -> Prop} {a : Addr} {o : Obj} {aa : List (List Key × V)} (I : Inv X pins σ H s) (e : H a = some (.dc o (.dT aa))) (q : R (HN a o aa) H) :
    wpAny (model X.prog X.w) X.A (pyIter (.ref a)) (Mf X pins σ tg R) E s:=by
  obtain ⟨ho,hz,hs,xs,pr,o2,es,ep,h1,h2,h3,h4,h5⟩:=(show aY X.prog X.w H s.heap a (.dc o (.dT aa)) from I.aV a _ e)
  obtain rfl:o2=o:=e_ (h1.symm.trans ho)
  have hl:es.size=aa.length:=by rw [g9 pr,<- Array.length_toList,h4,aP]
  refine wU hs ho h2 h3 ?_
  refine ⟨s.heap.objs.size,[s.heap.objs.size],_,_,H,rfl,I.kept (t':=s.toks) fun b o e=>fY _ e,uW _ a o2 aa es ep h3 hl,⟨_,k_ _ rfl,rfl,rfl⟩,fun b hb=>?_,q⟩
  obtain rfl:=List.mem_singleton.mp hb
  exact I.uA (ba _) (I.aV.fresh (ba _))
theorem Ah {e:Expr} {te:TE} (he:PE X e te):PI X tg e (HP te):=by
 intro pins s σ H R I h
 refine bP (he pins s σ H _ I h) ?_
 rintro v s1 ⟨x,H1,I1,r1,a,aa,rfl,q⟩
 cases r1
 rcases q with ⟨e,q⟩|⟨o,e,q⟩
 ·obtain ⟨o,I2⟩:=I1.freeze e
  exact sW I2 aJ (q o)
 ·exact sW I1 e q
end
end L2
end
section
namespace L2
open PySem PySem.Spec PyProof.Rows
section
variable {prog:Program} {w:World} {A:Around} {E:Value->Shared->Prop} {s:Shared} {d:Addr} {ep:Nat} {od:Obj} {es:Array DictEntry}
theorem wW (nm:(d == sysModules)=false):MeetsIn prog w (Builtin.«dict.__len__» ⟨[.ref d],[]⟩) (fun _ R s=>∃ od es ep,s.heap.get? d=some od/\od.data=.dict es ep/\R (.ok (.ret (.int (es.size:Nat) s.toks))) { s with toks:=s.toks+1 }) :=
 .of_wp <| by
  rintro A R s ⟨od,es,ep,g,dt,h⟩
  show wpAny _ _ (dictSize d >>= _) _ _ s
  unfold dictSize
  refine wpAny_bind (wpAny_bind (wpAny_dictEntries g dt (wpAny_pure (wpAny_bind (wpAny_pendingCount_other nm (wpAny_ret_mkInt ?_))))))
  rw [Nat.add_zero];exact h
theorem Ai {Q : Value -> Shared -> Prop} (nm : (d == sysModules) = false) (g : s.heap.get? d = some od) (x : od.ExactDict) (dt : od.data = .dict es ep) (hf : (es.size : Int) < 2 ^ 63)
    (h:Q (.int (es.size:Nat) (s.toks+1)) { s with toks:=s.toks+1+1 }):wpAny (model prog w) A (call (.builtin "len") [.ref d]) Q E s:=by
  have T:s.TypeIs (.ref d) "dict" := ⟨od,g,x.1⟩
  refine Calls.call_function_entry kind_len plain_len entry_len (args_len1 _) ?_
  unfold Builtin.«len»
  refine wpAny_bind (m:=oneArg "len" _) (wpAny_pure ?_)
  refine wpAny_bind (m:=callSpecial? (.ref d) (Str.ofString "__len__")) (wpAny_callSpecial?_slot (name:=Str.ofString "__len__") T F.slot_dict_len (call_meetsIn F.slot_dict_len T F.entry_dict_len (F.args_dict_len_1 _) (wW nm) ⟨od,es,ep,g,dt,?_⟩))
  refine wpAny_bind (wpAny_holding (wpAny_pure (wpAny_bind (wpAny_letGo ?_))))
  show wpAny _ _ (if ((es.size:Nat):Int) < 0 then _ else _) _ _ _
  rw [if_neg (by omega)]
  show wpAny _ _ (if ((es.size:Nat):Int) ≥ 2 ^ 63 then _ else _) _ _ _
  rw [if_neg (by omega)]
  exact wpAny_bind (wpAny_mkInt (wpAny_pure ⟨_,rfl,h⟩))
theorem uX : MeetsIn prog w (Builtin.«dict.clear» ⟨[.ref d], []⟩) (fun _ R s => ∃ od es ep, s.heap.get? d = some od /\ od.ExactDict /\ od.data = .dict es ep /\ es.size <= sizeLine /\
      ∀ h o,h.get? d=some o->o.ExactDict->o.data=.dict #[] (ep+1)->Heap.SameBut d s.heap h->R (.ok (.ret .none)) { s with heap:=h }) :=
  .of_wp <| by
    rintro A R s ⟨od,es,ep,g,x,dt,hz,h⟩
    have T:s.TypeIs (.ref d) "dict" := ⟨od,g,x.1⟩
    unfold Builtin.«dict.clear»
    refine wpAny_bind ?_
    unfold Builtin.Dict.noArgs
    refine wpAny_bind (wpAny_notOrdered_dict T (wpAny_pure (wpAny_bind (wpAny_dictEntries g dt (wpAny_bind ?_)))))
    unfold bearsInstanceDictMark
    refine wpAny_bind (wpAny_load g (wpAny_pure (wpAny_bind (wpAny_updateDictKeys (hz:=hz) g dt ?_))))
    have fin:=h (s.heap.update d (Obj.mapDictKeys fun _=>#[])) _ (Heap.get?_update_self _ g (Obj.isFreed_of_dict (Obj.data_mapDictKeys dt _))) (x.mapDictKeys _) (Obj.data_mapDictKeys dt _) (Heap.SameBut.update ..)
    split
    · exact wpAny_bind (wpAny_letGo (wpAny_pure ⟨.none,rfl,fin⟩))
    · exact wpAny_bind (wpAny_pure (wpAny_pure ⟨.none,rfl,fin⟩))
end
section
variable {X:Cx}
theorem uY:cI X (.builtin "len") (fun xs H Q=>∃ a aa,xs=[V.ref a]/\Rd H a (.dT aa)/\Q (.int aa.length) H):=by
 intro pins s σ H xs us Q I r h
 obtain ⟨a,aa,rfl,ha,q⟩:=h
 obtain ⟨u,rfl,ru⟩:=vals1 r
 cases ru
 obtain ⟨hz,hs,ys,pr,o,es,ep,h1,h2,h3,h4,h5⟩:=(show aY X.prog X.w H s.heap a (.dT aa) from ha.ok I.aV)
 have hl:es.size=aa.length:=by rw [g9 pr,<- Array.length_toList,h4,aP]
 refine Ai hs h1 h2 h3 (by rw [hl];rw [sizeLine_eq] at hz;omega) ?_
 rw [hl]
 exact ⟨.int aa.length,H,I.tok _,⟨_,rfl⟩,q⟩
def Aj:V->List V->Hp->VK->Prop:=fun x vs H Q=>∃ l aa,x=.ref l/\vs=[]/\H l=some (.dT aa)/\Q .az (upd H l (.dT []))
theorem uZ:MG X "dict.clear" Aj:=by
 intro pins s σ H x vs v us Q I rx rv h
 obtain ⟨l,aa,rfl,rfl,hH,q⟩:=h
 cases rx
 have MH:=rv.zero
 subst MH
 obtain ⟨hz,hs,ys,pr,o,es,ep,h1,h2,h3,h4,h5⟩:=(show aY X.prog X.w H s.heap l (.dT aa) from I.aV l _ hH)
 have hl:es.size=aa.length:=by rw [g9 pr,<- Array.length_toList,h4,aP]
 refine call_meetsIn F.slot_dict_clear ⟨o,h1,h2.1⟩ F.entry_dict_clear (F.args_dict_clear_1 _) uX ⟨o,es,ep,h1,h2,h3,by omega,fun h' o' g x' dt sb=>?_⟩
 refine ⟨.az,_,I.write (x:=l) (e:=l) (t':=s.toks) (by rw [hH];exact trivial) (.inl rfl) (fun b u nb e=>(sb.2 b nb).trans e) ⟨o',g⟩ ?_,rfl,q⟩
 exact ⟨Nat.zero_le _,hs,[],.nil,o',#[],ep+1,g,x',dt,rfl,List.nodup_nil⟩
def DZ:V->List V->Hp->VK->Prop:=fun x vs H Q=>∃ (l:Addr) (is:List Int) (i:Int),x=.ref l/\vs=[.int i]/\H l=some (.lst (is.map V.int))/\Q (.int (is.count i:Nat)) H
theorem jV {i:Int}:∀ {is:List Int} {aq:List Value},Vals (is.map V.int) aq->aq.countP (isInt i)=is.count i
 | [],_,.nil=>rfl
 | j::is,_,.cons r t=>by
  obtain ⟨_,rfl⟩:=r
  rw [List.countP_cons,List.count_cons,jV (is:=is) t]
  rfl
theorem wX:DH X "list.count" DZ:=by
 intro pins s σ H x vs v us Q I rx rv h
 obtain ⟨l,is,i,rfl,rfl,hH,q⟩:=h
 cases rx
 obtain ⟨u,rfl,ru⟩:=vals1 rv
 obtain ⟨t,rfl⟩:=ru
 obtain ⟨z,aq,n,r,hl,e⟩:=I.qO hH
 have hk:=sU r
 refine call_meets PySem.F.slot_list_count ⟨_,e,rfl⟩ PySem.F.entry_list_count (PySem.F.args_list_count_2 _ _) (MeetsSeq.list_count l aq.toArray n (.int i t) (isInt i) (fun y hy=>PySem.W.kf_eq hk y (by simpa using hy))) ⟨e,?_⟩
 rw [show aq.toArray.toList=aq by simp,jV r]
 exact ⟨.int _,H,I.tok _,⟨_,rfl⟩,q⟩
end
end L2
end
section
namespace Ev
open L2
open PySem PySem.Spec PyProof.Rows
inductive D where
 | az | bl (b:Bool) | int (i:Int) | str (s:Str) | tup (ds:List D) | adr (n:Nat) | ls (ds:List D)
 deriving Inhabited
inductive MO where
 | lst (ds:List D) | gV (ds:List D) | dK (aa:List (Key×D)) | dT (aa:List (List Key×D)) | dF (aa:List (List Key×D))
 deriving Inhabited
abbrev Mem:=List MO
abbrev En:=List (Option D)
inductive W where
 | d (x:D) | lv (ds:List D)
 deriving Inhabited
structure O3 where
 cls:Nat
 fs:List D
inductive Out (α:Type) where
 | ok (a:α) (M:Mem) | err (x:O3) (M:Mem) | stuck
def Out.bind {α β:Type} (o:Out α) (f:α->Mem->Out β):Out β:=match o with
 | .ok a M=>f a M
 | .err x M=>.err x M
 | .stuck=>.stuck
def oU (K:PySem.W.Frag) (H:Hp) (a:Addr) (xs:List V):Prop :=
 (∃ o,H a=some (.dc o (.lst xs)))\/∃ (o:Obj) (aq:Array Value) (n:Nat),K.lookup a=some o/\o.cls=.type "list" /\ o.dict=none/\o.data=.seq aq n/\aq.size<=sizeLine/\Vals xs aq.toList
theorem oU.sq {K:PySem.W.Frag} {H:Hp} {a:Addr} {xs:List V} (h:oU K H a xs):d9 K H a xs:=by
 rcases h with ⟨o,h⟩ | h
 ·exact .inl (.inr ⟨o,h⟩)
 ·exact .inr h
mutual
def RD (K:PySem.W.Frag) (ads:List Addr) (H:Hp):D->V->Prop
 | .az,v=>v=.az
 | .bl b,v=>v=.bl b
 | .int i,v=>v=.int i
 | .str s,v=>v=.str s
 | .tup ds,v=>∃ a xs,v=.ref a/\H a=some (.tup xs)/\aA K ads H ds xs
 | .adr n,v=>∃ a,v=.ref a/\ads[n]?=some a
 | .ls ds,v=>∃ a xs,v=.ref a/\oU K H a xs/\aA K ads H ds xs
def aA (K:PySem.W.Frag) (ads:List Addr) (H:Hp):List D->List V->Prop
 | [],xs=>xs=[]
 | d::ds,xs=>∃ x r,xs=x::r/\RD K ads H d x/\aA K ads H ds r
end
section
variable (K:PySem.W.Frag) (ads:List Addr) (H:Hp)
def bx {κ:Type}:List (κ×D)->List (κ×V)->Prop
 | [],xs=>xs=[]
 | p::ps,xs=>∃ x r,xs=x::r/\p.1=x.1/\RD K ads H p.2 x.2/\bx ps r
def Gg (a:Addr):MO->Prop
 | .lst ds=>∃ xs,H a=some (.lst xs)/\aA K ads H ds xs
 | .gV ds=>∃ o xs,H a=some (.dc o (.lst xs))/\aA K ads H ds xs
 | .dK aa=>∃ ks,H a=some (.dK ks)/\bx K ads H aa ks
 | .dT aa=>∃ ks,H a=some (.dT ks)/\bx K ads H aa ks
 | .dF aa=>∃ o ks,H a=some (.dc o (.dT ks))/\bx K ads H aa ks
structure aB (M:Mem):Prop where
 nd:ads.Nodup
 len:ads.length=M.length
 obj:∀ (n:Nat) (o:MO) (a:Addr),M[n]?=some o->ads[n]?=some a->Gg K ads H a o
def HQ (ρ:En) (σ:L2.St):Prop:=∀ (i:Nat) (d:D),ρ[i]?=some (some d)->∃ v,σ[i]?=some (some v)/\RD K ads H d v
def RW:W->V->Prop
 | .d x,v=>RD K ads H x v
 | .lv ds,v=>∃ a xs,v=.ref a/\H a=some (.lst xs)/\a∉ads/\aA K ads H ds xs
end
def Kept (ads:List Addr) (H H':Hp):Prop:=∀ b o,b∉ads->H b=some o->H' b=some o
def HR (H H':Hp):Prop:=∀ b xs,H b=some (.tup xs)->H' b=some (.tup xs)
structure au (ads ao:List Addr) (H H':Hp):Prop where
 pre:∃ r,ao=ads++r
 new:∀ b∈ao,b∉ads->H b=none
 kept:Kept ads H H'
 fg:HR H H'
 dc:∀ b o u,H b=some (.dc o u)->H' b=some (.dc o u)
theorem au.refl (ads:List Addr) (H:Hp):au ads ads H H:=⟨⟨[],by simp⟩,fun b h n=>absurd h n,fun _ _ _ h=>h,fun _ _ h=>h,fun _ _ _ h=>h⟩
theorem au.trans {a b c:List Addr} {H H1 H2:Hp} (g:au a b H H1) (k:au b c H1 H2):au a c H H2:=by
 obtain ⟨r,e⟩:=g.pre
 obtain ⟨r',e'⟩:=k.pre
 refine ⟨⟨r++r',by rw [e',e,List.append_assoc]⟩,fun x h n=>?_,fun x o n h=>?_,fun x xs h=>k.fg x xs (g.fg x xs h),fun x o u h=>k.dc x o u (g.dc x o u h)⟩
 ·by_cases hb:x∈b
  ·exact g.new x hb n
  ·have:=k.new x h hb
   cases q:H x with
   | none=>rfl
   | some o=>rw [g.kept x o n q] at this;cases this
 ·refine k.kept x o (fun hb=>?_) (g.kept x o n h)
  rw [g.new x hb n] at h;cases h
section
variable {K:PySem.W.Frag} {ads ao:List Addr} {H H':Hp}
theorem au.get (g:au ads ao H H') {n:Nat} {a:Addr} (h:ads[n]?=some a):ao[n]?=some a:=by
 obtain ⟨r,e⟩:=g.pre
 rw [e,uq (by have:=(dh.mp h).1;exact this)]
 exact h
theorem au.gV (g:au ads ao H H') {a:Addr} {xs:List V} (h:oU K H a xs):oU K H' a xs:=by
 rcases h with ⟨o,h⟩ | h
 ·exact .inl ⟨o,g.dc _ _ _ h⟩
 ·exact .inr h
mutual
theorem au.rd (g:au ads ao H H'):∀ (d:D) (v:V),RD K ads H d v->RD K ao H' d v
 | .az,_,h=>by unfold RD at *;exact h
 | .bl _,_,h=>by unfold RD at *;exact h
 | .int _,_,h=>by unfold RD at *;exact h
 | .str _,_,h=>by unfold RD at *;exact h
 | .adr n,v,h=>by unfold RD at *;obtain ⟨a,e,h⟩:=h;exact ⟨a,e,g.get h⟩
 | .tup ds,v,h=>by unfold RD at *;obtain ⟨a,xs,e,h,r⟩:=h;exact ⟨a,xs,e,g.fg _ _ h,au.lD g ds xs r⟩
 | .ls ds,v,h=>by unfold RD at *;obtain ⟨a,xs,e,h,r⟩:=h;exact ⟨a,xs,e,g.gV h,au.lD g ds xs r⟩
theorem au.lD (g:au ads ao H H'):∀ (ds:List D) (vs:List V),aA K ads H ds vs->aA K ao H' ds vs
 | [],_,h=>by unfold aA at *;exact h
 | d::ds,vs,h=>by unfold aA at *;obtain ⟨x,r,e,h1,h2⟩:=h;exact ⟨x,r,e,au.rd g d x h1,au.lD g ds r h2⟩
end
theorem au.vE {κ:Type} (g:au ads ao H H'):∀ (ds:List (κ×D)) (vs:List (κ×V)),bx K ads H ds vs->bx K ao H' ds vs
 | [],_,h=>by unfold bx at *;exact h
 | d::ds,vs,h=>by unfold bx at *;obtain ⟨x,r,e,h0,h1,h2⟩:=h;exact ⟨x,r,e,h0,g.rd d.2 x.2 h1,au.vE g ds r h2⟩
theorem au.O4 (g:au ads ao H H') {ρ:En} {σ:L2.St} (h:HQ K ads H ρ σ):HQ K ao H' ρ σ:=fun i d e=>by
 obtain ⟨v,e1,r⟩:=h i d e
 exact ⟨v,e1,g.rd d v r⟩
theorem au.d_ (g:au ads ao H H') {a:Addr} {o:HO} (n:a∉ads) (e:H a=some o):a∉ao:=fun h=>by
 rw [g.new a h n] at e;cases e
theorem au.rw (g:au ads ao H H') {w:W} {v:V} (h:RW K ads H w v):RW K ao H' w v:=by
 cases w with
 | d x=>exact g.rd x v h
 | lv ds =>
  obtain ⟨a,xs,e,h,n,r⟩:=h
  exact ⟨a,xs,e,g.kept a _ n h,g.d_ n h,g.lD ds xs r⟩
theorem aA.len:∀ {ds:List D} {vs:List V},aA K ads H ds vs->ds.length=vs.length
 | [],_,h=>by unfold aA at h;subst h;rfl
 | d::ds,vs,h=>by unfold aA at h;obtain ⟨x,r,e,h1,h2⟩:=h;subst e;simp [aA.len h2]
theorem aA.get:∀ {ds:List D} {vs:List V} {i:Nat} {d:D},aA K ads H ds vs->ds[i]?=some d->∃ v,vs[i]?=some v/\RD K ads H d v
 | [],_,_,_,h,e=>by simp at e
 | d::ds,vs,0,d',h,e=>by unfold aA at h;obtain ⟨x,r,rfl,h1,h2⟩:=h;simp at e;subst e;exact ⟨x,rfl,h1⟩
 | d::ds,vs,i+1,d',h,e=>by
  unfold aA at h;obtain ⟨x,r,rfl,h1,h2⟩:=h
  obtain ⟨v,e',r'⟩:=aA.get (i:=i) h2 (by simpa using e)
  exact ⟨v,by simpa using e',r'⟩
theorem aA.app:∀ {ds es:List D} {vs ws:List V},aA K ads H ds vs->aA K ads H es ws->aA K ads H (ds++es) (vs++ws)
 | [],_,vs,_,h,k=>by unfold aA at h;subst h;exact k
 | d::ds,es,vs,ws,h,k=>by
  unfold aA at h;obtain ⟨x,r,rfl,h1,h2⟩:=h
  show aA K ads H (d::(ds++es)) (x::(r++ws))
  unfold aA;exact ⟨x,_,rfl,h1,aA.app h2 k⟩
theorem aA.one {d:D} {v:V} (h:RD K ads H d v):aA K ads H [d] [v]:=by
 unfold aA;exact ⟨v,[],rfl,h,by unfold aA;rfl⟩
theorem aA.take:∀ {ds:List D} {vs:List V} (n:Nat),aA K ads H ds vs->aA K ads H (ds.take n) (vs.take n)
 | _,_,0,_=>by simp;unfold aA;rfl
 | [],vs,n+1,h=>by unfold aA at h;subst h;simp;unfold aA;rfl
 | d::ds,vs,n+1,h=>by unfold aA at h;obtain ⟨x,r,rfl,h1,h2⟩:=h;simp only [List.take_succ_cons];unfold aA;exact ⟨x,_,rfl,h1,aA.take n h2⟩
theorem aA.drop:∀ {ds:List D} {vs:List V} (n:Nat),aA K ads H ds vs->aA K ads H (ds.drop n) (vs.drop n)
 | _,_,0,h=>by simpa using h
 | [],vs,n+1,h=>by unfold aA at h;subst h;simp;unfold aA;rfl
 | d::ds,vs,n+1,h=>by unfold aA at h;obtain ⟨x,r,rfl,h1,h2⟩:=h;simp only [List.drop_succ_cons];exact aA.drop n h2
theorem aA.setAt:∀ {ds:List D} {vs:List V} (n:Nat) {d:D} {v:V},aA K ads H ds vs->RD K ads H d v->aA K ads H (ds.set n d) (vs.set n v)
 | [],vs,n,_,_,h,_=>by unfold aA at h;subst h;simp;unfold aA;rfl
 | d::ds,vs,0,_,_,h,k=>by unfold aA at h;obtain ⟨x,r,rfl,h1,h2⟩:=h;simp only [List.set_cons_zero];unfold aA;exact ⟨_,_,rfl,k,h2⟩
 | d::ds,vs,n+1,_,_,h,k=>by unfold aA at h;obtain ⟨x,r,rfl,h1,h2⟩:=h;simp only [List.set_cons_succ];unfold aA;exact ⟨_,_,rfl,h1,aA.setAt n h2 k⟩
theorem aB.grow {M:Mem} (m:aB K ads H M) (g:au ads ads H H') (k:∀ a∈ads,H' a=H a):aB K ads H' M:=⟨m.nd,m.len,fun n o a e1 e2=>by
 have h:=m.obj n o a e1 e2
 have ha:=k a (jL e2)
 cases o with
 | lst ds=>obtain ⟨xs,h,r⟩:=h;exact ⟨xs,ha.trans h,g.lD _ _ r⟩
 | gV ds=>obtain ⟨o,xs,h,r⟩:=h;exact ⟨o,xs,ha.trans h,g.lD _ _ r⟩
 | dK ds=>obtain ⟨xs,h,r⟩:=h;exact ⟨xs,ha.trans h,g.vE _ _ r⟩
 | dT ds=>obtain ⟨xs,h,r⟩:=h;exact ⟨xs,ha.trans h,g.vE _ _ r⟩
 | dF ds=>obtain ⟨o,xs,h,r⟩:=h;exact ⟨o,xs,ha.trans h,g.vE _ _ r⟩⟩
theorem aB.there {M:Mem} (m:aB K ads H M) {a:Addr} (h:a∈ads):∃ o,H a=some o/\∀ xs,o≠.tup xs:=by
 obtain ⟨n,hn,e⟩:=List.mem_iff_getElem.mp h
 have e2:ads[n]?=some a:=by rw [eD hn,e]
 have hM:n < M.length:=by rw [<- m.len];exact hn
 have h:=m.obj n M[n] a (eD hM) e2
 cases q:M[n] with
 | lst ds=>rw [q] at h;obtain ⟨xs,h,r⟩:=h;exact ⟨_,h,fun _ z=>by cases z⟩
 | gV ds=>rw [q] at h;obtain ⟨o,xs,h,r⟩:=h;exact ⟨_,h,fun _ z=>by cases z⟩
 | dK ds=>rw [q] at h;obtain ⟨xs,h,r⟩:=h;exact ⟨_,h,fun _ z=>by cases z⟩
 | dT ds=>rw [q] at h;obtain ⟨xs,h,r⟩:=h;exact ⟨_,h,fun _ z=>by cases z⟩
 | dF ds=>rw [q] at h;obtain ⟨o,xs,h,r⟩:=h;exact ⟨_,h,fun _ z=>by cases z⟩
theorem aB.fresh {M:Mem} (m:aB K ads H M) {p:Addr} (h:H p=none):p∉ads:=fun z=>by
 obtain ⟨o,e,_⟩:=m.there z;rw [h] at e;cases e
theorem au.fh {M:Mem} (m:aB K ads H M) {p:Addr} {o:HO} (h:H p=none):au ads ads H (upd H p o) :=
 ⟨⟨[],by simp⟩,fun b h n=>absurd h n,fun b u n e=>by rw [aj (fun z=>by subst z;rw [h] at e;cases e)];exact e,fun b xs e=>by rw [aj (fun z=>by subst z;rw [h] at e;cases e)];exact e,fun b u x e=>by rw [aj (fun z=>by subst z;rw [h] at e;cases e)];exact e⟩
theorem aB.fh {M:Mem} (m:aB K ads H M) {p:Addr} {o:HO} (h:H p=none):aB K ads (upd H p o) M :=
 m.grow (au.fh m h) fun a ha=>aj (fun z=>by subst z;exact m.fresh h ha)
theorem wY {α:Type} {l:List α} (h:l.Nodup) {i j:Nat} {x:α} (a:l[i]?=some x) (b:l[j]?=some x):i=j:=by
 obtain ⟨h1,e1⟩:=dh.mp a
 obtain ⟨h2,e2⟩:=dh.mp b
 rcases Nat.lt_trichotomy i j with q | q | q
 ·exact absurd (e1.trans e2.symm) (List.pairwise_iff_getElem.mp h i j h1 h2 q)
 ·exact q
 ·exact absurd (e2.trans e1.symm) (List.pairwise_iff_getElem.mp h j i h2 h1 q)
mutual
theorem RD.wide {a:Addr}:∀ (d:D) (v:V),RD K ads H d v->RD K (ads++[a]) H d v
 | .az,_,h=>by unfold RD at *;exact h
 | .bl _,_,h=>by unfold RD at *;exact h
 | .int _,_,h=>by unfold RD at *;exact h
 | .str _,_,h=>by unfold RD at *;exact h
 | .adr n,v,h=>by
  unfold RD at *;obtain ⟨b,e,h⟩:=h
  exact ⟨b,e,by rw [uq (dh.mp h).1];exact h⟩
 | .tup ds,v,h=>by unfold RD at *;obtain ⟨b,xs,e,h,r⟩:=h;exact ⟨b,xs,e,h,aA.wide ds xs r⟩
 | .ls ds,v,h=>by unfold RD at *;obtain ⟨b,xs,e,h,r⟩:=h;exact ⟨b,xs,e,h,aA.wide ds xs r⟩
theorem aA.wide {a:Addr}:∀ (ds:List D) (vs:List V),aA K ads H ds vs->aA K (ads++[a]) H ds vs
 | [],_,h=>by unfold aA at *;exact h
 | d::ds,vs,h=>by unfold aA at *;obtain ⟨x,r,e,h1,h2⟩:=h;exact ⟨x,r,e,RD.wide d x h1,aA.wide ds r h2⟩
end
theorem bx.wide {κ:Type} {a:Addr}:∀ (ds:List (κ×D)) (vs:List (κ×V)),bx K ads H ds vs->bx K (ads++[a]) H ds vs
 | [],_,h=>by unfold bx at *;exact h
 | d::ds,vs,h=>by unfold bx at *;obtain ⟨x,r,e,h0,h1,h2⟩:=h;exact ⟨x,r,e,h0,RD.wide d.2 x.2 h1,bx.wide ds r h2⟩
theorem Gg.wide {a b:Addr} {o:MO} (h:Gg K ads H b o):Gg K (ads++[a]) H b o:=by
 cases o with
 | lst ds=>obtain ⟨xs,h,r⟩:=h;exact ⟨xs,h,r.wide⟩
 | gV ds=>obtain ⟨o,xs,h,r⟩:=h;exact ⟨o,xs,h,r.wide⟩
 | dK ds=>obtain ⟨xs,h,r⟩:=h;exact ⟨xs,h,r.wide⟩
 | dT ds=>obtain ⟨xs,h,r⟩:=h;exact ⟨xs,h,r.wide⟩
 | dF ds=>obtain ⟨o,xs,h,r⟩:=h;exact ⟨o,xs,h,r.wide⟩
theorem aB.push {M:Mem} {o:MO} {a:Addr} (m:aB K ads H M) (n:a∉ads) (h:Gg K ads H a o):aB K (ads++[a]) H (M++[o]) where
  nd:=by
    rw [List.nodup_append]
    exact ⟨m.nd, by simp, fun x hx y hy => by have : y = a := by simpa using hy
                                              subst this;exact fun z=>n (z ▸ hx)⟩
  len:=by simp [m.len]
  obj:=fun i o' b e1 e2=>by
    by_cases hi:i < M.length
    · rw [uq hi] at e1
      rw [uq (by rw [m.len];exact hi)] at e2
      exact (m.obj i o' b e1 e2).wide
    · have RC : i = M.length := by
        have:=(dh.mp e1).1
        simp at this;omega
      subst RC
      rw [List.getElem?_append_right (ba _)] at e1
      rw [List.getElem?_append_right (by rw [m.len];exact ba _)] at e2
      simp [m.len] at e1 e2
      subst e1 e2
      exact h.wide
theorem aB.write {M : Mem} {n : Nat} {a : Addr} {u o : MO} {ho : HO} (m : aB K ads H M) (e : M[n]? = some u) (ea : ads[n]? = some a) (nf : ∀ o x, H a ≠ some (.dc o x)) (hn : Gg K ads (upd H a ho) a o) :
    au ads ads H (upd H a ho)/\aB K ads (upd H a ho) (M.set n o):=by
  have qS:a∈ads:=jL ea
  obtain ⟨o1,e1,nt⟩:=m.there qS
  have g : au ads ads H (upd H a ho) := ⟨⟨[], by simp⟩, fun b h n => absurd h n, fun b x nb h => by rw [aj (by intro z; subst z; exact nb qS)]; exact h, fun b xs h => by
      rw [aj (fun z=>by subst z;rw [e1] at h;exact nt xs (e_ h))];exact h,fun b o u h=>by rw [aj (fun z=>by subst z;exact nf _ _ h)];exact h⟩
  refine ⟨g,m.nd,by rw [List.length_set];exact m.len,fun i o' b x1 x2=>?_⟩
  by_cases hi:i=n
  · subst hi
    rw [ea] at x2;cases x2
    rw [List.getElem?_set_self (dh.mp e).1] at x1
    cases x1;exact hn
  · rw [List.getElem?_set_ne (Ne.symm hi)] at x1
    have hb:b≠a:=fun z=>by
      subst z
      exact hi (wY m.nd x2 ea)
    have h:=m.obj i o' b x1 x2
    cases o' with
    | lst ds=>obtain ⟨xs,h,r⟩:=h;exact ⟨xs,by rw [aj hb];exact h,g.lD _ _ r⟩
    | gV ds=>obtain ⟨o,xs,h,r⟩:=h;exact ⟨o,xs,by rw [aj hb];exact h,g.lD _ _ r⟩
    | dK ds=>obtain ⟨xs,h,r⟩:=h;exact ⟨xs,by rw [aj hb];exact h,g.vE _ _ r⟩
    | dT ds=>obtain ⟨xs,h,r⟩:=h;exact ⟨xs,by rw [aj hb];exact h,g.vE _ _ r⟩
    | dF ds=>obtain ⟨o,xs,h,r⟩:=h;exact ⟨o,xs,by rw [aj hb];exact h,g.vE _ _ r⟩
end
mutual
def cq (M:Mem):Nat->D->Option PyData
 | _,.az=>some .none
 | _,.bl b=>some (.bool b)
 | _,.int i=>some (.int i)
 | _,.str s=>some (.str s)
 | 0,.tup _=>none
 | 0,.adr _=>none
 | 0,.ls _=>none
 | n+1,.ls ds=>(a8 M n ds).map .list
 | n+1,.tup ds=>(a8 M n ds).map .tuple
 | n+1,.adr k=>match M[k]? with
  | some (.lst ds)=>(a8 M n ds).map .list
  | some (.gV ds)=>(a8 M n ds).map .list
  | _=>none
def a8 (M:Mem):Nat->List D->Option (List PyData)
 | _,[]=>some []
 | n,d::ds=>match cq M n d,a8 M n ds with
  | some p,some ps=>some (p::ps)
  | _,_=>none
end
def f_ (M:Mem):W->Option PyData
 | .d x=>cq M 30 x
 | .lv ds=>(a8 M 30 ds).map .list
inductive ze where
 | add | sub | mul | fdiv | mod | pow
 deriving DecidableEq
inductive u0 where
 | eq | ne | lt | le | gt | ge | oV | eW | isin | d_
 deriving DecidableEq
inductive Ty where
 | int | bool | str | tuple | list | dict | none
 deriving DecidableEq
inductive Bi where
 | len | max2 | min2 | oW | list1 | tuple1 | ee | mF (t:Ty) | all1 | Ak | lE | min1 | Al
 deriving DecidableEq
inductive Me where
 | append | insert | reverse | extend | remove | clear
 deriving DecidableEq
inductive SK where
 | seq | cB | kT | enum | zip | Am | keys
 deriving DecidableEq
mutual
inductive C where
 | var (i:Nat)
 | cst (d:D)
 | bin (op:ze) (a b:C)
 | cmp (op:u0) (a b:C)
 | chain (o1 o2:u0) (a b c:C)
 | dj (cs:List C) | d7 (cs:List C) | neg (a:C)
 | ite (c:dQ) (a b:C)
 | tup (cs:List C) | lst (cs:List C)
 | sub (a b:C)
 | kU (a:C) (lo hi:Option C)
 | zf (a:C) (k:Int)
 | jW (a b:C)
 | call (f:Nat) (cs:List C)
 | bi (b:Bi) (cs:List C)
 | me (m:Me) (o:C) (cs:List C)
 | vD (ks:List Str) (cs:List C)
 | jf (tp:Bool) (cs:List C)
 | qT (a:C)
 | Cc (x:Str) (v:Int)
 | ji
 | gc (a b:C)
 | fB (ng:Bool) (a b:C)
 | jk (a:C)
 | kW (a:C)
 | cnt (a b:C)
 | fC (ng:Bool) (a:C)
 | minD (a b:C)
 | comp (k:SK) (src:List C) (tg:List Nat) (cond:Option dQ) (elt:C) (cj:List (Option Nat))
inductive dQ where
 | val (c:C) | dj (ts:List dQ) | d7 (ts:List dQ) | neg (a:dQ)
end
def bc (M:Mem):W->Option (Bool×List D)
 | .lv ds=>some (true,ds)
 | .d (.tup ds)=>some (false,ds)
 | .d (.ls ds)=>some (true,ds)
 | .d (.adr n)=>match M[n]? with
  | some (.lst ds)=>some (true,ds)
  | some (.gV ds)=>some (true,ds)
  | _=>none
 | _=>none
def de (M:Mem):W->Option (List D)
 | .lv ds=>some ds
 | .d (.adr n)=>match M[n]? with
  | some (.lst ds)=>some ds
  | _=>none
 | _=>none
def own:W->Mem->Out D
 | .d x,M=>.ok x M
 | .lv ds,M=>.ok (.adr M.length) (M++[.lst ds])
def KI (ds:List D) (i:Int):Option D:=sN ds i
def cutD (ds:List D) (lo hi:Option Int):List D:=(ds.drop (HT.cH ds.length 0 lo)).take (HT.cH ds.length ds.length hi - HT.cH ds.length 0 lo)
def oX (op:ze) (a b:W) (M:Mem):Out W :=
 match op,a,b with
 | .add,.d (.int i),.d (.int j)=>.ok (.d (.int (i+j))) M
 | .sub,.d (.int i),.d (.int j)=>.ok (.d (.int (i - j))) M
 | .mul,.d (.int i),.d (.int j)=>if (-(2 ^ 64) < i/\i < 2 ^ 64)\/(-(2 ^ 64) < j/\j < 2 ^ 64) then .ok (.d (.int (i * j))) M else .stuck
 | .fdiv,.d (.int i),.d (.int j)=>if 0 < j/\j < 1073741824 then .ok (.d (.int (i / j))) M else .stuck
 | .mod,.d (.int i),.d (.int j)=>if 0 < j then .ok (.d (.int (i % j))) M else .stuck
 | .pow,.d (.int i),.d (.int j)=>if 0<=j/\j<=1000000/\i.natAbs < 2 ^ 64 then .ok (.d (.int (i ^ j.toNat))) M else .stuck
 | .add,.d (.tup xs),.d (.tup ys)=>if xs.length+ys.length<=sizeLine then .ok (.d (.tup (xs++ys))) M else .stuck
 | .add,a,b=>match de M a,de M b with
  | some xs,some ys=>if xs.length+ys.length<=sizeLine then .ok (.lv (xs++ys)) M else .stuck
  | _,_=>.stuck
 | .mul,a,.d (.int k)=>match de M a with
  | some xs=>if -(2 ^ 63)<=k/\k < 2 ^ 63/\xs.length * k.toNat<=sizeLine then .ok (.lv (List.replicate k.toNat xs).flatten) M else .stuck
  | none=>.stuck
 | _,_,_=>.stuck
def iJ (p:PyData):List PyData->Bool
 | []=>false
 | q::qs=>PyData.eqv q p || iJ p qs
def gf (M:Mem):W->Option (List (Key×D))
 | .d (.adr n)=>match M[n]? with
  | some (.dK aa)=>some aa
  | _=>none
 | _=>none
def qU:W->Option Key
 | .d (.int i)=>some (Sum.inl i)
 | .d (.str s)=>some (Sum.inr s)
 | _=>none
def bX {κ:Type} [DecidableEq κ] (aa:List (κ×D)) (k:κ):Option D:=(aa.find? fun p=>decide (p.1=k)).map (·.2)
def qV (M:Mem) (kb:List (Key×D)):List (Key×D)->Option Bool
 | []=>some true
 | (k,v)::r=>match bX kb k with
  | none=>some false
  | some y=>match cq M 30 v,cq M 30 y with
   | some p,some q=>if SeqAt.shaped p=true/\SeqAt.shaped q=true then (qV M kb r).map (PyData.eqv p q && ·) else none
   | _,_=>none
def aO (op:u0) (a b:W) (M:Mem):Out Bool :=
 match op with
 | .eq=>match f_ M a,f_ M b with
  | some p,some q=>if SeqAt.shaped p=true/\SeqAt.shaped q=true then .ok (PyData.eqv p q) M else .stuck
  | _,_=>match gf M a,gf M b with
   | some ka,some kb=>match qV M kb ka with
    | some r=>.ok (ka.length == kb.length && r) M
    | none=>.stuck
   | _,_=>.stuck
 | .ne=>match f_ M a,f_ M b with
  | some p,some q=>if SeqAt.shaped p=true/\SeqAt.shaped q=true then .ok (!PyData.eqv p q) M else .stuck
  | _,_=>.stuck
 | .lt=>match a,b with
  | .d (.int i),.d (.int j)=>.ok (decide (i < j)) M
  | .d (.str x),.d (.str y)=>.ok (decide (x.cps.toList < y.cps.toList)) M
  | _,_=>.stuck
 | .le=>match a,b with
  | .d (.int i),.d (.int j)=>.ok (decide (i<=j)) M
  | .d (.str x),.d (.str y)=>.ok (!decide (y.cps.toList < x.cps.toList)) M
  | _,_=>.stuck
 | .gt=>match a,b with
  | .d (.int i),.d (.int j)=>.ok (decide (j < i)) M
  | _,_=>.stuck
 | .ge=>match a,b with
  | .d (.int i),.d (.int j)=>.ok (decide (j<=i)) M
  | _,_=>.stuck
 | .oV=>match a with
  | .d .az=>.ok true M
  | _=>.ok false M
 | .eW=>match a with
  | .d .az=>.ok false M
  | _=>.ok true M
 | .isin=>match f_ M a,bc M b with
  | some p,some (_,ds)=>match a8 M 30 ds with
   | some qs=>if SeqAt.shaped p=true/\qs.all SeqAt.shaped=true then .ok (iJ p qs) M else .stuck
   | none=>.stuck
  | _,none=>match qU a,gf M b with
   | some k,some aa=>.ok (bX aa k).isSome M
   | _,_=>.stuck
  | _,_=>.stuck
 | .d_=>match f_ M a,bc M b with
  | some p,some (_,ds)=>match a8 M 30 ds with
   | some qs=>if SeqAt.shaped p=true/\qs.all SeqAt.shaped=true then .ok (!iJ p qs) M else .stuck
   | none=>.stuck
  | _,none=>match qU a,gf M b with
   | some k,some aa=>.ok (!(bX aa k).isSome) M
   | _,_=>.stuck
  | _,_=>.stuck
def oY (M:Mem):W->Option Bool
 | .d .az=>some false
 | .d (.bl b)=>some b
 | .d (.int i)=>some (i != 0)
 | w=>(bc M w).map fun p=>!p.2.isEmpty
def cR (a b:W) (M:Mem):Out W :=
  match b with
  | .d (.int i)=>match bc M a with
    | some (_,ds)=>match KI ds i with
      | some d=>.ok (.d d) M
      | none=>.stuck
    | none=>match a with
      | .d (.str s) => if s.length <= sizeLine then match sN s.cps.toList i with
          | some c=>.ok (.d (.str ⟨#[c]⟩)) M
          | none=>.stuck
        else .stuck
      | .d (.adr n)=>match M[n]? with
        | some (.dK aa)=>match bX aa (Sum.inl i:Key) with
          | some d=>.ok (.d d) M
          | none=>.stuck
        | _=>.stuck
      | _=>.stuck
  | .d (.str k)=>match a with
    | .d (.adr n)=>match M[n]? with
      | some (.dK aa)=>match (aa.find? fun p=>decide (p.1=(Sum.inr k:Key))).map (·.2) with
        | some d=>.ok (.d d) M
        | none=>.stuck
      | _=>.stuck
    | _=>.stuck
  | _=>.stuck
def jX (a:W) (lo hi:Option Int) (M:Mem):Out W :=
 match bc M a with
 | some (true,ds)=>.ok (.lv (cutD ds lo hi)) M
 | some (false,ds)=>if HT.cH ds.length 0 lo=0/\HT.cH ds.length ds.length hi=ds.length then .stuck else .ok (.d (.tup (cutD ds lo hi))) M
 | none=>.stuck
def RE:W->Option Int
 | .d (.int i)=>some i
 | _=>none
def wZ (M:Mem):W->Option Ty
 | .lv _=>some .list
 | .d .az=>some .none
 | .d (.bl _)=>some .bool
 | .d (.int _)=>some .int
 | .d (.str _)=>some .str
 | .d (.tup _)=>some .tuple
 | .d (.ls _)=>none
 | .d (.adr n)=>match M[n]? with
  | some (.lst _)=>some .list
  | some (.gV _)=>some .list
  | some (.dK _)=>some .dict
  | some (.dT _)=>some .dict
  | some (.dF _)=>none
  | none=>none
def D0:List D->Option (List Bool)
 | []=>some []
 | .bl b::ds=>(D0 ds).map (b::·)
 | _::_=>none
def fb:List D->Option (List Int)
 | []=>some []
 | .int b::ds=>(fb ds).map (b::·)
 | _::_=>none
def cC {α:Type} (xs:List α) (k:Int):List α:=(List.range (Builtin.Slice.slicePlaces (Builtin.Slice.sliceAdjust none none k (xs.length:Int)).1 (Builtin.Slice.sliceAdjust none none k (xs.length:Int)).2 k)).filterMap fun (j:Nat)=>xs[((Builtin.Slice.sliceAdjust none none k (xs.length:Int)).1+(j:Int) * k).toNat]?
def jY (a:W) (k:Int) (M:Mem):Out W :=
 match a with
 | .d (.tup ds)=>if (k=2\/k=-1)/\(cC ds k).length<=sizeLine then .ok (.d (.tup (cC ds k))) M else .stuck
 | _=>.stuck
def Cd (a b:W) (M:Mem):Out W :=
 match a,b with
 | .d (.str x),.d (.str y)=>.ok (.d (.int (Txt.find x y))) M
 | _,_=>.stuck
def putD {κ:Type} [DecidableEq κ] (aa:List (κ×D)) (k:κ) (v:D):List (κ×D) :=
 if (aa.any fun kv=>decide (kv.1=k))=true then aa.map (fun kv=>if kv.1=k then (kv.1,v) else kv) else aa++[(k,v)]
def pairD:D->Option (Key×D)
 | .tup [.int i,d]=>some (Sum.inl i,d)
 | .tup [.str x,d]=>some (Sum.inr x,d)
 | _=>none
def u1 (acc:List (Key×D)):List D->Option (List (Key×D))
 | []=>some acc
 | d::ds=>match pairD d with
  | some (k,x)=>u1 (putD acc k x) ds
  | none=>none
def iw (b:Bi) (ws:List W) (M:Mem):Out W :=
 match b,ws with
 | .len,[w]=>match bc M w with
  | some (_,ds)=>.ok (.d (.int ds.length)) M
  | none=>match w with
   | .d (.str x)=>if x.length<=sizeLine then .ok (.d (.int x.length)) M else .stuck
   | _=>.stuck
 | .all1,[w]=>match bc M w with
  | some (_,ds)=>match D0 ds with
   | some bs=>.ok (.d (.bl (bs.all id))) M
   | none=>.stuck
  | none=>.stuck
 | .Ak,[w]=>match bc M w with
  | some (_,ds)=>match D0 ds with
   | some bs=>.ok (.d (.bl (bs.any id))) M
   | none=>.stuck
  | none=>.stuck
 | .min1,[w]=>match bc M w with
  | some (_,ds)=>match fb ds with
   | some (i::is)=>.ok (.d (.int (is.foldl (fun a b=>if b < a then b else a) i))) M
   | _=>.stuck
  | none=>.stuck
 | .Al,[w]=>match bc M w with
  | some (_,ds)=>match fb ds with
   | some (i::is)=>.ok (.d (.int (is.foldl (fun a b=>if a < b then b else a) i))) M
   | _=>.stuck
  | none=>.stuck
 | .max2,[.d (.int i),.d (.int j)]=>.ok (.d (.int (if j > i then j else i))) M
 | .min2,[.d (.int i),.d (.int j)]=>.ok (.d (.int (if j < i then j else i))) M
 | .oW,[.d (.int i)]=>.ok (.d (.int i)) M
 | .oW,[.d (.bl k)]=>.ok (.d (.int (if k then 1 else 0))) M
 | .list1,[w]=>match bc M w with
  | some (_,ds)=>.ok (.lv ds) M
  | none=>.stuck
 | .tuple1,[w]=>match bc M w with
  | some (_,ds)=>.ok (.d (.tup ds)) M
  | none=>.stuck
 | .ee,[w]=>match f_ M w with
  | some p=>if p.showable=true/\p.depth<=40/\p.shown.length<=sizeLine then .ok (.d (.str p.shown)) M else .stuck
  | none=>.stuck
 | .lE,[w]=>match gf M w with
  | some aa=>.ok (.d (.adr M.length)) (M++[.dK aa])
  | none=>match bc M w with
   | some (true,ds)=>match u1 [] ds with
    | some aa=>.ok (.d (.adr M.length)) (M++[.dK aa])
    | none=>.stuck
   | _=>.stuck
 | .mF t,[w]=>match wZ M w with
  | some g=>.ok (.d (.bl (decide (g=t) || (decide (g=.bool) && decide (t=.int))))) M
  | none=>.stuck
 | _,_=>.stuck
def qW:List W->Option (Int×Int)
 | [.d (.int i),.d (.int j)]=>some (i,j)
 | [.d (.int j)]=>some (0,j)
 | _=>none
def HS (i:Int) (n:Nat):List D:=(List.range n).map fun k=>D.int (i+((k:Nat):Int))
def w4 (tp:Bool) (ds:List D):W:=if tp=true then .d (.tup ds) else .lv ds
def D1 (tp:Bool) (ws:List W) (M:Mem):Out W:=match qW ws with
 | some (i,j)=>if (-(2 ^ 62)<=i/\i < 2 ^ 62/\-(2 ^ 62)<=j/\j < 2 ^ 62)/\(j - i).toNat<=2 ^ 24 then .ok (w4 tp (HS i (j - i).toNat)) M else .stuck
 | none=>.stuck
def qw (m:Me) (o:W) (ws:List D) (M:Mem):Out W :=
 match o with
 | .d (.adr n)=>match M[n]? with
  | some (.lst ds)=>match m,ws with
   | .append,[x]=>if ds.length < sizeLine then .ok (.d .az) (M.set n (.lst (ds++[x]))) else .stuck
   | .insert,[.int i,x]=>if ds.length < sizeLine/\0<=i/\i<=ds.length then .ok (.d .az) (M.set n (.lst (ds.take i.toNat++x::ds.drop i.toNat))) else .stuck
   | .reverse,[]=>.ok (.d .az) (M.set n (.lst ds.reverse))
   | .clear,[]=>.ok (.d .az) (M.set n (.lst []))
   | .extend,[.adr k]=>match M[k]? with
    | some (.lst es)=>if ds.length+es.length<=sizeLine then .ok (.d .az) (M.set n (.lst (ds++es))) else .stuck
    | _=>.stuck
   | .remove,[.int i]=>match fb ds with
    | some is=>if i∈is then .ok (.d .az) (M.set n (.lst ((is.erase i).map D.int))) else .stuck
    | none=>.stuck
   | _,_=>.stuck
  | _=>.stuck
 | _=>.stuck
inductive Z1 where
 | items (ds:List D) | at (n:Nat)
def An (M:Mem):Z1->Option (List D)
 | .items ds=>some ds
 | .at n=>match M[n]? with
  | some (.lst ds)=>some ds
  | some (.gV ds)=>some ds
  | _=>none
def O5 (M:Mem):W->Option Z1
 | .lv ds=>some (.items ds)
 | .d (.tup ds)=>some (.items ds)
 | .d (.ls ds)=>some (.items ds)
 | .d (.adr n)=>if (bc M (.d (.adr n))).isSome then some (.at n) else none
 | _=>none
def HU (xs ys:List D) (i:Nat):Option D:=match xs[i]?,ys[i]? with
 | some x,some y=>some (.tup [x,y])
 | _,_=>none
inductive It where
 | at (n:Nat) | items (ds:List D) | jf (lo:Int) (n:Nat) | gI (n:Nat) | fD (ds:List D) | zip (a b:Z1)
def itemAt (M:Mem) (i:Nat):It->Option (Option D)
 | .at n=>match M[n]? with
  | some (.lst ds)=>some ds[i]?
  | some (.gV ds)=>some ds[i]?
  | _=>none
 | .items ds=>some ds[i]?
 | .jf lo n=>some (if i < n then some (.int (lo+i)) else none)
 | .gI n=>match M[n]? with
  | some (.lst ds)=>some (ds[i]?.map fun d=>.tup [.int i,d])
  | some (.gV ds)=>some (ds[i]?.map fun d=>.tup [.int i,d])
  | _=>none
 | .fD ds=>some (ds[i]?.map fun d=>.tup [.int i,d])
 | .zip a b=>match An M a,An M b with
  | some xs,some ys=>some (HU xs ys i)
  | _,_=>none
def df (M:Mem):It->Nat
 | .at n=>match M[n]? with
  | some (.lst ds)=>ds.length
  | some (.gV ds)=>ds.length
  | _=>0
 | .items ds=>ds.length
 | .jf _ n=>n
 | .gI n=>match M[n]? with
  | some (.lst ds)=>ds.length
  | some (.gV ds)=>ds.length
  | _=>0
 | .fD ds=>ds.length
 | .zip a b=>match An M a,An M b with
  | some xs,some ys=>min xs.length ys.length
  | _,_=>0
def kD:Key->D
 | .inl i=>.int i
 | .inr x=>.str x
def iK (p:List Key×D):D:=.tup (p.1.map kD)
def jZ:List D->Option (List Key)
 | []=>some []
 | .int i::ds=>(jZ ds).map (Sum.inl i::·)
 | .str x::ds=>(jZ ds).map (Sum.inr x::·)
 | _::_=>none
def qX:W->Option (List Key)
 | .d (.tup ds)=>jZ ds
 | _=>none
def sX (M:Mem):W->Option (List (List Key×D))
 | .d (.adr n)=>match M[n]? with
  | some (.dT aa)=>some aa
  | some (.dF aa)=>some aa
  | _=>none
 | _=>none
def lF (a b:W) (M:Mem):Out W:=match sX M a,qX b with
 | some aa,some k=>match bX aa k with
  | some d=>.ok (.d d) M
  | none=>.stuck
 | _,_=>.stuck
def i_ (ng:Bool) (a b:W) (M:Mem):Out W:=match qX a,sX M b with
 | some k,some aa=>.ok (.d (.bl (ng != (bX aa k).isSome))) M
 | _,_=>.stuck
def lG (a:W) (M:Mem):Out W:=match sX M a with
 | some aa=>.ok (.d (.int aa.length)) M
 | none=>.stuck
def oZ (a:W) (M:Mem):Out W:=match a with
 | .d (.adr n)=>match M[n]? with
  | some (.dT _)=>.ok (.d .az) (M.set n (.dT []))
  | _=>.stuck
 | _=>.stuck
def mG (a b:W) (M:Mem):Out W:=match de M a,b with
 | some ds,.d (.int i)=>match fb ds with
  | some is=>.ok (.d (.int (is.count i:Nat))) M
  | none=>.stuck
 | _,_=>.stuck
def gq (a b:W) (d:D) (M:Mem):Out Unit:=match a with
 | .d (.adr n)=>match M[n]?,qX b with
  | some (.dT aa),some k=>if aa.length < sizeLine then .ok () (M.set n (.dT (putD aa k d))) else .stuck
  | _,_=>.stuck
 | _=>.stuck
def Np (i:Int) (n:Nat):List D:=(List.range n).map fun k=>.int (i - (k:Nat))
def fi (k:SK) (ws:List W) (M:Mem):Out It :=
 match k,ws with
 | .seq,[.lv ds]=>.ok (.items ds) M
 | .seq,[.d (.tup ds)]=>.ok (.items ds) M
 | .seq,[.d (.ls ds)]=>.ok (.items ds) M
 | .seq,[.d (.adr n)]=>if (bc M (.d (.adr n))).isSome then .ok (.at n) M else .stuck
 | .cB,[.d (.int j)]=>if -(2 ^ 62)<=j/\j < 2 ^ 62 then .ok (.jf 0 j.toNat) M else .stuck
 | .kT,[.d (.int i),.d (.int j)]=>if -(2 ^ 62)<=i/\i < 2 ^ 62/\-(2 ^ 62)<=j/\j < 2 ^ 62 then .ok (.jf i (j - i).toNat) M else .stuck
 | .enum,[.lv ds]=>.ok (.fD ds) M
 | .enum,[.d (.tup ds)]=>.ok (.fD ds) M
 | .enum,[.d (.ls ds)]=>.ok (.fD ds) M
 | .enum,[.d (.adr n)]=>if (bc M (.d (.adr n))).isSome then .ok (.gI n) M else .stuck
 | .Am,[.d (.int i),.d (.int j),.d (.int k)]=>if k=-1/\-(2 ^ 62)<=i/\i < 2 ^ 62/\-(2 ^ 62)<=j/\j < 2 ^ 62 then .ok (.items (Np i (i - j).toNat)) M else .stuck
 | .keys,[.d (.adr n)]=>match M[n]? with
  | some (.dT aa)=>.ok (.items (aa.map iK)) (M.set n (.dF aa))
  | some (.dF aa)=>.ok (.items (aa.map iK)) M
  | _=>.stuck
 | .zip,[u,v]=>match O5 M u,O5 M v with
  | some a,some b=>.ok (.zip a b) M
  | _,_=>.stuck
 | _,_=>.stuck
def cK (tg:List Nat) (ds:List D) (ρ:En):Option En :=
 match tg,ds with
 | [],[]=>some ρ
 | i::tg,d::ds=>cK tg ds (ρ.set i (some d))
 | _,_=>none
def bt (tg:List Nat) (d:D) (ρ:En):Option En :=
 match tg with
 | [i]=>some (ρ.set i (some d))
 | _=>match d with
  | .tup ds=>cK tg ds ρ
  | _=>none
abbrev aL:=Nat->List D->Mem->Out W
def ef (cj:List (Option Nat)) (ρ:En):En:=cj.map fun o=>o.bind fun j=>(ρ[j]?).join
def aK (cond:En->Mem->Out Bool) (elt:En->Mem->Out D) (it:It) (tg:List Nat):Nat->Nat->En->Mem->List D->Out W
  | 0,i,_,M,acc=>match itemAt M i it with
    | some none=>.ok (.lv acc) M
    | _=>.stuck
  | f+1,i,τ,M,acc=>match itemAt M i it with
    | some none=>.ok (.lv acc) M
    | some (some d)=>match bt tg d τ with
      | none=>.stuck
      | some τ => if acc.length < sizeLine then
          (cond τ M).bind fun b M=>if b then (elt τ M).bind fun x M=>aK cond elt it tg f (i+1) τ M (acc++[x]) else aK cond elt it tg f (i+1) τ M acc
        else .stuck
    | none=>.stuck
def HV (x:W) (M:Mem):Out W:=match x with
 | .d (.int i)=>.ok (.d (.int (-i))) M
 | _=>.stuck
def Ce (ng:Bool) (x:W) (M:Mem):Out W:=match x with
 | .d (.bl b)=>.ok (.d (.bl (ng != b))) M
 | _=>.stuck
def RF (d:Int):List Int->Int
 | []=>d
 | i::is=>is.foldl (fun a b=>if b < a then b else a) i
def Cf (x y:W) (M:Mem):Out W:=match bc M x,y with
 | some (_,ds),.d (.int d)=>match fb ds with
  | some is=>.ok (.d (.int (RF d is))) M
  | none=>.stuck
 | _,_=>.stuck
mutual
def ev (G:aL):C->En->Mem->Out W
  | .var i,ρ,M=>match ρ[i]? with
    | some (some d)=>.ok (.d d) M
    | _=>.stuck
  | .cst d,_,M=>.ok (.d d) M
  | .bin op a b,ρ,M=>(ev G a ρ M).bind fun x M=>(ev G b ρ M).bind fun y M=>oX op x y M
  | .cmp op a b,ρ,M=>(ev G a ρ M).bind fun x M=>(ev G b ρ M).bind fun y M=>(aO op x y M).bind fun r M=>.ok (.d (.bl r)) M
  | .chain o1 o2 a b c, ρ, M => (ev G a ρ M).bind fun x M => (ev G b ρ M).bind fun y M => (aO o1 x y M).bind fun r M =>
      if r then (ev G c ρ M).bind fun z M=>(aO o2 y z M).bind fun r M=>.ok (.d (.bl r)) M else .ok (.d (.bl false)) M
  | .dj cs,ρ,M=>gr G cs ρ M
  | .d7 cs,ρ,M=>kX G cs ρ M
  | .neg a,ρ,M=>(ev G a ρ M).bind fun x M=>match x with
    | .d (.bl r)=>.ok (.d (.bl (!r))) M
    | _=>.stuck
  | .ite c a b,ρ,M=>(dk G c ρ M).bind fun r M=>if r then ev G a ρ M else ev G b ρ M
  | .tup cs,ρ,M=>(bg G cs ρ M).bind fun ds M=>if ds.length<=sizeLine then .ok (.d (.tup ds)) M else .stuck
  | .lst cs,ρ,M=>(bg G cs ρ M).bind fun ds M=>if ds.length<=sizeLine then .ok (.lv ds) M else .stuck
  | .sub a b,ρ,M=>(ev G a ρ M).bind fun x M=>(ev G b ρ M).bind fun y M=>cR x y M
  | .kU a lo hi,ρ,M=>(ev G a ρ M).bind fun x M=>(o_ G lo ρ M).bind fun l M=>(o_ G hi ρ M).bind fun h M=>jX x l h M
  | .zf a k,ρ,M=>(ev G a ρ M).bind fun x M=>jY x k M
  | .jW a b,ρ,M=>(ev G a ρ M).bind fun x M=>match x with
    | .d (.str z)=>(ev G b ρ M).bind fun y M=>Cd (.d (.str z)) y M
    | _=>.stuck
  | .call f cs,ρ,M=>(bg G cs ρ M).bind fun ds M=>G f ds M
  | .bi b cs,ρ,M=>(cw G cs ρ M).bind fun ws M=>iw b ws M
  | .me m o cs,ρ,M=>(ev G o ρ M).bind fun x M=>if (de M x).isSome then (bg G cs ρ M).bind fun ds M=>qw m x ds M else .stuck
  | .vD ks cs,ρ,M=>(bg G cs ρ M).bind fun ds M=>if ks.length=ds.length then .ok (.d (.adr M.length)) (M++[.dK ((ks.map Sum.inr).zip ds)]) else .stuck
  | .jf tp cs,ρ,M=>(cw G cs ρ M).bind fun ws M=>D1 tp ws M
  | .qT a,ρ,M=>(ev G a ρ M).bind fun x M=>HV x M
  | .Cc _ v,_,M=>.ok (.d (.int v)) M
  | .ji,_,M=>.ok (.d (.adr M.length)) (M++[.dT []])
  | .gc a b,ρ,M=>(ev G a ρ M).bind fun x M=>(ev G b ρ M).bind fun y M=>lF x y M
  | .fB ng a b,ρ,M=>(ev G a ρ M).bind fun x M=>(ev G b ρ M).bind fun y M=>i_ ng x y M
  | .jk a,ρ,M=>(ev G a ρ M).bind fun x M=>lG x M
  | .kW a,ρ,M=>(ev G a ρ M).bind fun x M=>oZ x M
  | .cnt a b,ρ,M=>(ev G a ρ M).bind fun x M=>if (de M x).isSome then (ev G b ρ M).bind fun y M=>mG x y M else .stuck
  | .fC ng a,ρ,M=>(ev G a ρ M).bind fun x M=>Ce ng x M
  | .minD a b,ρ,M=>(ev G a ρ M).bind fun x M=>(ev G b ρ M).bind fun y M=>Cf x y M
  | .comp k src tg cond elt cj, ρ, M => (cw G src ρ M).bind fun ws M => (fi k ws M).bind fun it M =>
      aK (fun τ M=>bh G cond τ M) (fun τ M=>(ev G elt τ M).bind own) it tg (df M it) 0 (ef cj ρ) M []
def dk (G:aL):dQ->En->Mem->Out Bool
 | .dj ts,ρ,M=>eg G ts ρ M
 | .d7 ts,ρ,M=>eh G ts ρ M
 | .neg a,ρ,M=>(dk G a ρ M).bind fun r M=>.ok (!r) M
 | .val c,ρ,M=>(ev G c ρ M).bind fun w M=>match oY M w with
  | some r=>.ok r M
  | none=>.stuck
def gr (G:aL):List C->En->Mem->Out W
 | [],_,_=>.stuck
 | c::cs,ρ,M=>(ev G c ρ M).bind fun x M=>match cs,x with
  | [],x=>.ok x M
  | _,.d (.bl true)=>gr G cs ρ M
  | _,.d (.bl false)=>.ok (.d (.bl false)) M
  | _,_=>.stuck
def kX (G:aL):List C->En->Mem->Out W
 | [],_,_=>.stuck
 | c::cs,ρ,M=>(ev G c ρ M).bind fun x M=>match cs,x with
  | [],x=>.ok x M
  | _,.d (.bl false)=>kX G cs ρ M
  | _,.d (.bl true)=>.ok (.d (.bl true)) M
  | _,_=>.stuck
def eg (G:aL):List dQ->En->Mem->Out Bool
 | [],_,_=>.stuck
 | c::cs,ρ,M=>(dk G c ρ M).bind fun x M=>match cs,x with
  | [],x=>.ok x M
  | _,true=>eg G cs ρ M
  | _,false=>.ok false M
def eh (G:aL):List dQ->En->Mem->Out Bool
 | [],_,_=>.stuck
 | c::cs,ρ,M=>(dk G c ρ M).bind fun x M=>match cs,x with
  | [],x=>.ok x M
  | _,false=>eh G cs ρ M
  | _,true=>.ok true M
def bg (G:aL):List C->En->Mem->Out (List D)
 | [],_,M=>.ok [] M
 | c::cs,ρ,M=>((ev G c ρ M).bind own).bind fun d M=>(bg G cs ρ M).bind fun ds M=>.ok (d::ds) M
def cw (G:aL):List C->En->Mem->Out (List W)
 | [],_,M=>.ok [] M
 | c::cs,ρ,M=>(ev G c ρ M).bind fun d M=>(cw G cs ρ M).bind fun ds M=>.ok (d::ds) M
def o_ (G:aL):Option C->En->Mem->Out (Option Int)
 | none,_,M=>.ok none M
 | some c,ρ,M=>(ev G c ρ M).bind fun w M=>match w with
  | .d (.int i)=>.ok (some i) M
  | _=>.stuck
def bh (G:aL):Option dQ->En->Mem->Out Bool
 | none,_,M=>.ok true M
 | some c,ρ,M=>dk G c ρ M
end
def D2 (K:PySem.W.Frag) (ads:List Addr) (l9 H:Hp):W->V->Prop
 | .d x,v=>RD K ads H x v
 | .lv ds,v=>∃ a xs,v=.ref a/\l9 a=none/\H a=some (.lst xs)/\a∉ads/\aA K ads H ds xs
def ja (K:PySem.W.Frag) (ads:List Addr) (H:Hp) (w:W) (M':Mem) (Q:VK):Prop :=
 ∀ v H' ao,au ads ao H H'->aB K ao H' M'->D2 K ao H H' w v->Q v H'
def D3 (K:PySem.W.Frag) (ads:List Addr) (H:Hp) (ds:List D) (M':Mem) (Q:List V->Hp->Prop):Prop :=
 ∀ vs H' ao,au ads ao H H'->aB K ao H' M'->aA K ao H' ds vs->Q vs H'
def HW (K:PySem.W.Frag) (ads:List Addr) (H:Hp) (b:Bool) (M':Mem) (Q:Bool->Hp->Prop):Prop :=
 ∀ H' ao,au ads ao H H'->aB K ao H' M'->Q b H'
def bF (K:PySem.W.Frag) (ads:List Addr) (H:Hp) (Q:VK):Out W->Prop
 | .ok w M=>ja K ads H w M Q
 | _=>False
def pb (K:PySem.W.Frag) (ads:List Addr) (H:Hp) (Q:List V->Hp->Prop):Out (List D)->Prop
 | .ok w M=>D3 K ads H w M Q
 | _=>False
def zg (K:PySem.W.Frag) (ads:List Addr) (H:Hp) (Q:Bool->Hp->Prop):Out Bool->Prop
 | .ok w M=>HW K ads H w M Q
 | _=>False
structure SR (K:PySem.W.Frag) (ads:List Addr) (M:Mem) (ρ:En) (σ:L2.St) (H:Hp):Prop where
 mem:aB K ads H M
 en:HQ K ads H ρ σ
 ln:ρ.length=σ.length
def tE (K:PySem.W.Frag) (o:En->Mem->Out W):TE:=fun σ H Q=>∃ ads M ρ,SR K ads M ρ σ H/\bF K ads H Q (o ρ M)
def Ao (K:PySem.W.Frag) (o:En->Mem->Out (List D)):TA:=fun σ H Q=>∃ ads M ρ,SR K ads M ρ σ H/\pb K ads H Q (o ρ M)
def kN (K:PySem.W.Frag) (o:En->Mem->Out Bool):TT:=fun σ H Q=>∃ ads M ρ,SR K ads M ρ σ H/\zg K ads H Q (o ρ M)
section
variable {K:PySem.W.Frag} {ads ao bj:List Addr} {H H' H2:Hp} {M M2:Mem} {ρ:En} {σ:L2.St}
theorem D2.rw {l9:Hp} {w:W} {v:V} (h:D2 K ads l9 H w v):RW K ads H w v:=by
 cases w with
 | d x=>exact h
 | lv ds=>obtain ⟨a,xs,e,_,h1,n,r⟩:=h;exact ⟨a,xs,e,h1,n,r⟩
theorem SR.grow (s:SR K ads M ρ σ H) (g:au ads ao H H') (m:aB K ao H' M2):SR K ao M2 ρ σ H':=⟨m,g.O4 s.en,s.ln⟩
theorem u3 (g:au ads ao H H') (m:aB K ads H M) (m':aB K ao H' M2) {a:Addr} (h:H' a=none):H a=none:=by
 by_cases hb:a∈ads
 ·have:a∈ao:=by obtain ⟨r,e⟩:=g.pre;rw [e];exact List.mem_append_left _ hb
  exact absurd this (m'.fresh h)
 ·cases q:H a with
  | none=>rfl
  | some o=>rw [g.kept a o hb q] at h;cases h
theorem D2.back {w:W} {v:V} (g:au ads ao H H') (m:aB K ads H M) (m':aB K ao H' M2) (h:D2 K bj H' H2 w v):D2 K bj H H2 w v:=by
 cases w with
 | d x=>exact h
 | lv ds=>obtain ⟨a,xs,e,h0,h1,n,r⟩:=h;exact ⟨a,xs,e,u3 g m m' h0,h1,n,r⟩
theorem ja.shift {w:W} {Mw:Mem} {Q:VK} (p:ja K ads H w Mw Q) (g:au ads ao H H') (m:aB K ads H M) (m':aB K ao H' M2):ja K ao H' w Mw Q :=
 fun v H1 ae g1 m1 r=>p v H1 ae (g.trans g1) m1 (r.back g m m')
theorem bF.shift {o:Out W} {Q:VK} (p:bF K ads H Q o) (g:au ads ao H H') (m:aB K ads H M) (m':aB K ao H' M2):bF K ao H' Q o:=by
 cases o with
 | ok w Mw=>exact ja.shift p g m m'
 | err _ _=>exact p
 | stuck=>exact p
theorem zg.shift {o:Out Bool} {Q:Bool->Hp->Prop} (p:zg K ads H Q o) (g:au ads ao H H'):zg K ao H' Q o:=by
 cases o with
 | ok w Mw=>exact fun H1 ae g1 m1=>p H1 ae (g.trans g1) m1
 | err _ _=>exact p
 | stuck=>exact p
theorem bZ {o : En -> Mem -> Out W} {k : W -> Mem -> Out W} {Q : VK} {R : V -> Hp -> Prop} (s : SR K ads M ρ σ H) (h : bF K ads H Q ((o ρ M).bind k))
    (hk:∀ w M1 v H1 ae,SR K ae M1 ρ σ H1->RW K ae H1 w v->bF K ae H1 Q (k w M1)->R v H1):tE K o σ H R:=by
  refine ⟨ads,M,ρ,s,?_⟩
  cases q:o ρ M with
  | ok w M1 =>
    rw [q] at h
    have h:bF K ads H Q (k w M1):=h
    exact fun v H1 ae g1 m1 r=>hk w M1 v H1 ae (s.grow g1 m1) r.rw (h.shift g1 s.mem m1)
  | err _ _=>rw [q] at h;exact h
  | stuck=>rw [q] at h;exact h
theorem two {oa ob : En -> Mem -> Out W} {f : W -> W -> Mem -> Out W} {r : R2} {Q : VK}
    (hr:∀ {ads M H x y vx vy Q},aB K ads H M->RW K ads H x vx->RW K ads H y vy->bF K ads H Q (f x y M)->r vx vy H Q)
    (h:tE K (fun ρ M=>(oa ρ M).bind fun x M=>(ob ρ M).bind fun y M=>f x y M) σ H Q):y9 r (tE K oa) (tE K ob) σ H Q:=by
  obtain ⟨ads,M,ρ,s,h⟩:=h
  refine bZ s h fun w M1 v H1 ae s1 gh h1=>?_
  refine ⟨ae,M1,ρ,s1,?_⟩
  cases q:ob ρ M1 with
  | ok y M2 =>
    rw [q] at h1
    have h1:bF K ae H1 Q (f w y M2):=h1
    exact fun vy H2 bj g2 m2 ry=>hr m2 (g2.rw gh) ry.rw (h1.shift g2 s1.mem m2)
  | err _ _=>rw [q] at h1;exact h1
  | stuck=>rw [q] at h1;exact h1
theorem bF.plain {Q:VK} {x:D} {v:V} (h:bF K ads H Q (.ok (.d x) M)) (m:aB K ads H M) (r:RD K ads H x v):Q v H:=h v H ads (au.refl _ _) m r
theorem bF.list {Q:VK} {ds:List D} {xs:List V} (h:bF K ads H Q (.ok (.lv ds) M)) (m:aB K ads H M) (r:aA K ads H ds xs) {p:Addr} (hp:H p=none):Q (.ref p) (upd H p (.lst xs)) :=
 h _ _ ads (au.fh m hp) (m.fh hp) ⟨p,xs,rfl,hp,aJ,m.fresh hp,(au.fh m hp).lD _ _ r⟩
theorem bF.tuple {Q:VK} {ds:List D} {xs:List V} (h:bF K ads H Q (.ok (.d (.tup ds)) M)) (m:aB K ads H M) (r:aA K ads H ds xs) {p:Addr} (hp:H p=none):Q (.ref p) (upd H p (.tup xs)):=by
 refine h _ _ ads (au.fh m hp) (m.fh hp) ?_
 show RD _ _ _ (.tup ds) _
 unfold RD
 exact ⟨p,xs,rfl,aJ,(au.fh m hp).lD _ _ r⟩
theorem dR {w : W} {v : V} {l : Bool} {ds : List D} (m : aB K ads H M) (r : RW K ads H w v) (e : bc M w = some (l, ds)) :
    ∃ a xs,v=.ref a/\aA K ads H ds xs/\((l=true/\d9 K H a xs)\/(l=false/\eT K H a xs)):=by
  cases w with
  | lv es =>
    simp only [bc,Option.some.injEq,Prod.mk.injEq] at e
    obtain ⟨rfl,rfl⟩:=e
    obtain ⟨a,xs,e,h,n,r⟩:=r
    exact ⟨a,xs,e,r,.inl ⟨rfl,d9.of h⟩⟩
  | d x =>
    cases x with
    | tup es =>
      simp only [bc,Option.some.injEq,Prod.mk.injEq] at e
      obtain ⟨rfl,rfl⟩:=e
      have r:RD K ads H (.tup es) v:=r
      unfold RD at r
      obtain ⟨a,xs,e,h,r⟩:=r
      exact ⟨a,xs,e,r,.inr ⟨rfl,eT.of h⟩⟩
    | ls es =>
      simp only [bc,Option.some.injEq,Prod.mk.injEq] at e
      obtain ⟨rfl,rfl⟩:=e
      have r:RD K ads H (.ls es) v:=r
      unfold RD at r
      obtain ⟨a,xs,e,h,r⟩:=r
      exact ⟨a,xs,e,r,.inl ⟨rfl,h.sq⟩⟩
    | adr n =>
      have r:RD K ads H (.adr n) v:=r
      unfold RD at r
      obtain ⟨a,ev,ea⟩:=r
      simp only [bc] at e
      cases q:M[n]? with
      | none=>rw [q] at e;cases e
      | some o =>
        rw [q] at e
        have ho:=m.obj n o a q ea
        cases o with
        | lst es=>cases e;obtain ⟨xs,h,r⟩:=ho;exact ⟨a,xs,ev,r,.inl ⟨rfl,d9.of h⟩⟩
        | gV es=>cases e;obtain ⟨o,xs,h,r⟩:=ho;exact ⟨a,xs,ev,r,.inl ⟨rfl,.inl (.inr ⟨o,h⟩)⟩⟩
        | dK _=>cases e
        | dT _=>cases e
        | dF _=>cases e
    | az=>cases e
    | bl _=>cases e
    | int _=>cases e
    | str _=>cases e
theorem gJ {w:W} {v:V} {ds:List D} (m:aB K ads H M) (r:RW K ads H w v) (e:de M w=some ds):∃ a xs,v=.ref a/\aA K ads H ds xs/\H a=some (.lst xs):=by
 cases w with
 | lv es =>
  simp only [de,Option.some.injEq] at e
  subst e
  obtain ⟨a,xs,e,h,n,r⟩:=r
  exact ⟨a,xs,e,r,h⟩
 | d x =>
  cases x with
  | adr n =>
   have r:RD K ads H (.adr n) v:=r
   unfold RD at r
   obtain ⟨a,ev,ea⟩:=r
   simp only [de] at e
   cases q:M[n]? with
   | none=>rw [q] at e;cases e
   | some o =>
    rw [q] at e
    have ho:=m.obj n o a q ea
    cases o with
    | lst es=>cases e;obtain ⟨xs,h,r⟩:=ho;exact ⟨a,xs,ev,r,h⟩
    | gV es=>cases e
    | dK _=>cases e
    | dT _=>cases e
    | dF _=>cases e
  | tup _=>cases e
  | ls _=>cases e
  | az=>cases e
  | bl _=>cases e
  | int _=>cases e
  | str _=>cases e
theorem aE {i:Int} {v:V} (r:RW K ads H (.d (.int i)) v):v=.int i:=by
 have r:RD K ads H (.int i) v:=r
 unfold RD at r;exact r
theorem dm {i:Str} {v:V} (r:RW K ads H (.d (.str i)) v):v=.str i:=by
 have r:RD K ads H (.str i) v:=r
 unfold RD at r;exact r
theorem gu {i:Bool} {v:V} (r:RW K ads H (.d (.bl i)) v):v=.bl i:=by
 have r:RD K ads H (.bl i) v:=r
 unfold RD at r;exact r
theorem j2 {v:V} (r:RW K ads H (.d .az) v):v=.az:=by
 have r:RD K ads H .az v:=r
 unfold RD at r;exact r
theorem bC (i:Int):RD K ads H (.int i) (.int i):=by unfold RD;rfl
theorem gv (i:Bool):RD K ads H (.bl i) (.bl i):=by unfold RD;rfl
theorem mH (i:Str):RD K ads H (.str i) (.str i):=by unfold RD;rfl
theorem fE:RD K ads H .az .az:=by unfold RD;rfl
end
section
variable {X:Cx}
def Nq (K:PySem.W.Frag) (op:ze):R2:=fun x y H Q=>∃ ads M wx wy,aB K ads H M/\RW K ads H wx x/\RW K ads H wy y/\bF K ads H Q (oX op wx wy M)
def Ap:ze->Operator
 | .add=>.Add | .sub=>.Sub | .mul=>.Mult | .fdiv=>.FloorDiv | .mod=>.Mod | .pow=>.Pow
theorem Aq:fZ X (binaryOp .Add) (fun x y H Q=>∃ a b ys,x=.ref a/\y=.ref b/\eT X.K H a []/\eT X.K H b ys/\Q (.ref b) H):=by
 intro pins s σ H x y v u Q I rx ry h
 obtain ⟨a,b,ys,rfl,rfl,ha,hb,q⟩:=h
 cases rx
 cases ry
 obtain ⟨aq,r1,p1,_⟩:=I.tuple ha
 obtain ⟨wA,r2,p2,_⟩:=I.tuple hb
 cases r1
 obtain ⟨⟨cls,dd,data,sl⟩,ho,hc,n,hd⟩:=id p1
 obtain ⟨⟨Mu,Kp,data2,Kq⟩,wq,vC,n2,hd2⟩:=id p2
 simp only at hc hd vC hd2
 subst hc hd vC hd2
 exact concat_meets ⟨_,ho,rfl⟩ ⟨_,wq,rfl⟩ noFill_tuple_add seq_tuple_add PySem.F.slot_tuple_add PySem.F.entry_tuple_add (PySem.F.args_tuple_add_2 _ _)
  (tuple_addW0 a b _ wA.toArray n n2 dd Kp sl Kq rfl) ⟨ho,wq,⟨.ref b,H,I,rfl,q⟩⟩
theorem aA.rep {K:PySem.W.Frag} {ads:List Addr} {H:Hp} {ds:List D} {vs:List V} (r:aA K ads H ds vs):∀ k:Nat,aA K ads H (List.replicate k ds).flatten (List.replicate k vs).flatten
 | 0=>by simp;unfold aA;rfl
 | k+1=>by simp only [List.replicate_succ,List.flatten_cons];exact r.app (aA.rep r k)
theorem D4 (op:ze):fZ X (binaryOp (Ap op)) (Nq X.K op):=by
 intro pins s σ H x y v u Q I rx ry h
 obtain ⟨ads,M,wx,wy,m,r1,r2,h⟩:=h
 have HX:∀ {op},op=ze.add->bF X.K ads H Q (match de M wx,de M wy with
  | some xs,some ys=>if xs.length+ys.length<=sizeLine then .ok (.lv (xs++ys)) M else .stuck
  | _,_=>.stuck)->wpAny (model X.prog X.w) X.A (binaryOp (Ap op) v u) (EP X pins σ Q) X.xe s:=by
  intro op e h
  subst e
  cases q1:de M wx with
  | none=>rw [q1] at h;exact h.elim
  | some xs =>
   cases q2:de M wy with
   | none=>rw [q1,q2] at h;exact h.elim
   | some ys =>
    rw [q1,q2] at h
    dsimp only at h
    split at h
    ·rename_i hz
     obtain ⟨a,vs,e1,ra,ha⟩:=gJ m r1 q1
     obtain ⟨b,ws,e2,rb,hb⟩:=gJ m r2 q2
     subst e1 e2
     refine DO pins s σ H _ _ v u Q I rx ry ⟨a,b,vs,ws,rfl,rfl,ha,hb,by rw [<- ra.len,<- rb.len];exact hz,fun p hp=>h.list m (ra.app rb) hp⟩
    ·exact h.elim
 unfold oX at h
 split at h
 ·rw [aE r1] at rx;rw [aE r2] at ry
  exact Dl pins s σ H _ _ v u Q I rx ry ⟨_,_,rfl,rfl,h.plain m (bC _)⟩
 ·rw [aE r1] at rx;rw [aE r2] at ry
  exact Dm pins s σ H _ _ v u Q I rx ry ⟨_,_,rfl,rfl,h.plain m (bC _)⟩
 ·rw [aE r1] at rx;rw [aE r2] at ry
  split at h
  ·rename_i hc
   exact Dp pins s σ H _ _ v u Q I rx ry ⟨_,_,rfl,rfl,hc,h.plain m (bC _)⟩
  ·exact h.elim
 ·rw [aE r1] at rx;rw [aE r2] at ry
  split at h
  ·rename_i hc
   exact zF pins s σ H _ _ v u Q I rx ry ⟨_,_,rfl,rfl,hc,h.plain m (bC _)⟩
  ·exact h.elim
 ·rw [aE r1] at rx;rw [aE r2] at ry
  split at h
  ·rename_i hc
   exact Dq pins s σ H _ _ v u Q I rx ry ⟨_,_,rfl,rfl,hc,h.plain m (bC _)⟩
  ·exact h.elim
 ·rw [aE r1] at rx;rw [aE r2] at ry
  split at h
  ·rename_i hc
   exact Dr pins s σ H _ _ v u Q I rx ry ⟨_,_,rfl,rfl,hc,h.plain m (bC _)⟩
  ·exact h.elim
 ·rename_i xs ys
  split at h
  ·rename_i hc
   have r1:RD X.K ads H (.tup xs) x:=r1
   have r2:RD X.K ads H (.tup ys) y:=r2
   unfold RD at r1 r2
   obtain ⟨a,vs,e1,ha,ra⟩:=r1
   obtain ⟨b,ws,e2,hb,rb⟩:=r2
   subst e1 e2
   by_cases Nr:vs=[]
   ·have ex:xs=[]:=List.eq_nil_of_length_eq_zero (by rw [ra.len,Nr];rfl)
    subst ex Nr
    refine Aq pins s σ H _ _ v u Q I rx ry ⟨a,b,ws,rfl,rfl,eT.of ha,eT.of hb,bF.plain (x:=.tup ys) h m ?_⟩
    unfold RD
    exact ⟨b,ws,rfl,hb,rb⟩
   refine zS pins s σ H _ _ v u Q I rx ry ⟨a,b,vs,ws,rfl,rfl,eT.of ha,eT.of hb,Nr,by rw [<- ra.len,<- rb.len];exact hc,fun z=>?_,fun _ p hp=>h.tuple m (ra.app rb) hp⟩
   have ey:ys=[]:=List.eq_nil_of_length_eq_zero (by rw [rb.len,z];rfl)
   subst ey
   rw [List.append_nil] at h
   refine h.plain m ?_
   unfold RD
   exact ⟨a,vs,rfl,ha,ra⟩
  ·exact h.elim
 ·exact HX rfl h
 ·rename_i k _
  cases q1:de M wx with
  | none=>rw [q1] at h;exact h.elim
  | some xs =>
   rw [q1] at h
   dsimp only at h
   split at h
   ·rename_i hz
    obtain ⟨a,vs,e1,ra,ha⟩:=gJ m r1 q1
    subst e1
    rw [aE r2] at ry
    refine DP pins s σ H _ _ v u Q I rx ry ⟨a,k,vs,rfl,rfl,ha,hz.1,hz.2.1,by rw [<- ra.len];exact hz.2.2,fun p hp=>h.list m (aA.rep ra k.toNat) hp⟩
   ·exact h.elim
 ·exact h.elim
end
section
variable {X:Cx} {pins:List (Addr×Obj)} {σ:L2.St} {H:Hp} {s:Shared} {ads:List Addr} {M:Mem}
theorem cu (I : Inv X pins σ H s) (n : Nat) (hA : ∀ d v u p, RD X.K ads H d v -> RelV v u -> cq M n d = some p -> ∃ as, Reads s.heap u p as) :
    ∀ (ds:List D) (vs:List V) (us:List Value) (ps:List PyData),aA X.K ads H ds vs->Vals vs us->a8 M n ds=some ps->∃ as,ReadsAll s.heap us ps as
  | [],vs,us,ps,r,rv,e=>by
    unfold aA at r
    subst r
    cases rv
    unfold a8 at e
    cases e
    exact ⟨[],.nil⟩
  | d::ds,vs,us,ps,r,rv,e=>by
    unfold aA at r
    obtain ⟨x,r',rfl,h1,h2⟩:=r
    cases rv with
    | cons rx rr =>
      unfold a8 at e
      cases q1:cq M n d with
      | none=>rw [q1] at e;cases e
      | some p =>
        cases q2:a8 M n ds with
        | none=>rw [q1,q2] at e;cases e
        | some qs =>
          rw [q1,q2] at e
          cases e
          obtain ⟨as,k1⟩:=hA d x _ p h1 rx q1
          obtain ⟨bs,k2⟩:=cu I n hA ds r' _ qs h2 rr q2
          exact ⟨as++bs,.cons k1 k2⟩
theorem ej (I:Inv X pins σ H s) (m:aB X.K ads H M):∀ (n:Nat) (d:D) (v:V) (u:Value) (p:PyData),RD X.K ads H d v->RelV v u->cq M n d=some p->∃ as,Reads s.heap u p as:=by
 intro n
 induction n with
 | zero =>
  intro d v u p r rv e
  cases d with
  | az=>unfold RD at r;subst r;cases rv;unfold cq at e;cases e;exact ⟨_,.none⟩
  | bl b=>unfold RD at r;subst r;cases rv;unfold cq at e;cases e;exact ⟨_,.bool _⟩
  | int b=>unfold RD at r;subst r;obtain ⟨t,rfl⟩:=rv;unfold cq at e;cases e;exact ⟨_,.int _ _⟩
  | str b=>unfold RD at r;subst r;obtain ⟨t,rfl⟩:=rv;unfold cq at e;cases e;exact ⟨_,.str _ _⟩
  | tup _=>unfold cq at e;cases e
  | adr _=>unfold cq at e;cases e
  | ls _=>unfold cq at e;cases e
 | succ n ih =>
  intro d v u p r rv e
  cases d with
  | az=>unfold RD at r;subst r;cases rv;unfold cq at e;cases e;exact ⟨_,.none⟩
  | bl b=>unfold RD at r;subst r;cases rv;unfold cq at e;cases e;exact ⟨_,.bool _⟩
  | int b=>unfold RD at r;subst r;obtain ⟨t,rfl⟩:=rv;unfold cq at e;cases e;exact ⟨_,.int _ _⟩
  | str b=>unfold RD at r;subst r;obtain ⟨t,rfl⟩:=rv;unfold cq at e;cases e;exact ⟨_,.str _ _⟩
  | tup ds =>
   unfold RD at r
   obtain ⟨a,xs,rfl,hs,r⟩:=r
   cases rv
   unfold cq at e
   cases q:a8 M n ds with
   | none=>rw [q] at e;cases e
   | some ps =>
    rw [q] at e;cases e
    obtain ⟨aq,rv,⟨o,h1,h2,k,h3⟩,_⟩:=I.tuple (eT.of (K:=X.K) hs)
    obtain ⟨as,ra⟩:=cu I n ih ds xs aq ps r rv q
    exact ⟨as,.tuple h1 h2 h3 (by simpa using ra)⟩
  | ls ds =>
   unfold RD at r
   obtain ⟨a,xs,rfl,hs,r⟩:=r
   cases rv
   unfold cq at e
   cases q:a8 M n ds with
   | none=>rw [q] at e;cases e
   | some ps =>
    rw [q] at e;cases e
    obtain ⟨aq,rv,⟨o,kk,h1,h2,h3,h4⟩,_⟩:=I.list hs.sq
    obtain ⟨as,ra⟩:=cu I n ih ds xs aq ps r rv q
    exact ⟨a::as,.list h1 h2 h4 (by simpa using ra)⟩
  | adr k =>
   unfold RD at r
   obtain ⟨a,rfl,ea⟩:=r
   cases rv
   unfold cq at e
   have lst:∀ ds,d9 X.K H a ds->∀ es,aA X.K ads H es ds->(a8 M n es).map PyData.list=some p->∃ as,Reads s.heap (.ref a) p as:=by
    intro xs hs es r e
    cases q:a8 M n es with
    | none=>rw [q] at e;cases e
    | some ps =>
     rw [q] at e;cases e
     obtain ⟨aq,rv,⟨o,kk,h1,h2,h3,h4⟩,_⟩:=I.list hs
     obtain ⟨as,ra⟩:=cu I n ih es xs aq ps r rv q
     exact ⟨a::as,.list h1 h2 h4 (by simpa using ra)⟩
   cases q:M[k]? with
   | none=>rw [q] at e;cases e
   | some o =>
    rw [q] at e
    have ho:=m.obj k o a q ea
    cases o with
    | lst es=>obtain ⟨xs,h,r⟩:=ho;exact lst xs (d9.of h) es r e
    | gV es=>obtain ⟨o,xs,h,r⟩:=ho;exact lst xs (.inl (.inr ⟨o,h⟩)) es r e
    | dK _=>cases e
    | dT _=>cases e
    | dF _=>cases e
theorem eX (I:Inv X pins σ H s) (m:aB X.K ads H M) {w:W} {v:V} {u:Value} {p:PyData} (r:RW X.K ads H w v) (rv:RelV v u) (e:f_ M w=some p):∃ as,Reads s.heap u p as:=by
 cases w with
 | d x=>exact ej I m 30 x v u p r rv e
 | lv ds =>
  obtain ⟨a,xs,rfl,h,n,r⟩:=r
  cases rv
  have e:(a8 M 30 ds).map PyData.list=some p:=e
  cases q:a8 M 30 ds with
  | none=>rw [q] at e;cases e
  | some ps =>
   rw [q] at e;cases e
   obtain ⟨aq,rv,⟨o,kk,h1,h2,h3,h4⟩,_⟩:=I.list (d9.of (K:=X.K) h)
   obtain ⟨as,ra⟩:=cu I 30 (ej I m 30) ds xs aq ps r rv q
   exact ⟨a::as,.list h1 h2 h4 (by simpa using ra)⟩
end
section
variable {K:PySem.W.Frag} {ads:List Addr} {H:Hp}
theorem bx.find {κ:Type} [DecidableEq κ] {k:κ}:∀ {aa:List (κ×D)} {ks:List (κ×V)} {d:D},bx K ads H aa ks->(aa.find? fun p=>decide (p.1=k)).map (·.2)=some d->∃ v,gX ks k=some v/\RD K ads H d v
 | [],_,_,_,e=>by cases e
 | p::ps,ks,d,r,e=>by
  unfold bx at r
  obtain ⟨x,r',rfl,h0,h1,h2⟩:=r
  by_cases hk:p.1=k
  ·have e':p.2=d:=by simpa [List.find?_cons,hk] using e
   subst e'
   exact ⟨x.2,gY (h0 ▸ hk),h1⟩
  ·obtain ⟨v,e1,rv⟩:=bx.find h2 (by simpa [List.find?_cons,hk] using e)
   exact ⟨v,(fx (h0 ▸ hk)).trans e1,rv⟩
theorem bx.len {κ:Type}:∀ {aa:List (κ×D)} {ks:List (κ×V)},bx K ads H aa ks->aa.length=ks.length
 | [],_,r=>by unfold bx at r;subst r;rfl
 | p::ps,ks,r=>by unfold bx at r;obtain ⟨x,r',rfl,h0,h1,h2⟩:=r;simp [bx.len h2]
theorem bx.sY {κ:Type} [DecidableEq κ] {k:κ}:∀ {aa:List (κ×D)} {ks:List (κ×V)},bx K ads H aa ks->bX aa k=none->gX ks k=none
 | [],_,r,_=>by unfold bx at r;subst r;rfl
 | p::ps,ks,r,e=>by
  unfold bx at r
  obtain ⟨x,r',rfl,h0,h1,h2⟩:=r
  by_cases hk:p.1=k
  ·unfold bX at e
   simp [List.find?_cons,hk] at e
  ·exact (fx (h0 ▸ hk)).trans (bx.sY h2 (by unfold bX at e ⊢;simpa [List.find?_cons,hk] using e))
end
section
variable {X:Cx} {pins:List (Addr×Obj)} {σ:L2.St} {H:Hp} {s:Shared} {ads:List Addr} {M:Mem}
theorem j3 {w:W} {v:V} {aa:List (Key×D)} {K:PySem.W.Frag} (m:aB K ads H M) (r:RW K ads H w v) (e:gf M w=some aa):∃ a ks,v=.ref a/\H a=some (.dK ks)/\bx K ads H aa ks:=by
 cases w with
 | lv es=>cases e
 | d x =>
  cases x with
  | adr n =>
   have r:RD K ads H (.adr n) v:=r
   unfold RD at r
   obtain ⟨a,ev,ea⟩:=r
   simp only [gf] at e
   cases q:M[n]? with
   | none=>rw [q] at e;cases e
   | some o =>
    rw [q] at e
    have ho:=m.obj n o a q ea
    cases o with
    | lst es=>cases e
    | gV es=>cases e
    | dK _=>cases e;obtain ⟨ks,h,r⟩:=ho;exact ⟨a,ks,ev,h,r⟩
    | dT _=>cases e
    | dF _=>cases e
  | tup _=>cases e
  | ls _=>cases e
  | az=>cases e
  | bl _=>cases e
  | int _=>cases e
  | str _=>cases e
theorem w6 {w:W} {v:V} {k:Key} {K:PySem.W.Frag} (r:RW K ads H w v) (e:qU w=some k):v=kV k:=by
 cases w with
 | lv es=>cases e
 | d x =>
  cases x with
  | int i=>cases e;exact aE r
  | str i=>cases e;exact dm r
  | adr _=>cases e
  | tup _=>cases e
  | ls _=>cases e
  | az=>cases e
  | bl _=>cases e
theorem sZ {K:PySem.W.Frag} {aa:List (Key×D)} {ks:List (Key×V)} {a:Addr} {k:Key} (ha:H a=some (.dK ks)) (r:bx K ads H aa ks):∃ o,gF H a (kV k) o/\o.isSome=(bX aa k).isSome:=by
 refine ⟨_,gF.k (k:=k) ha,?_⟩
 cases q:bX aa k with
 | none=>rw [r.sY q];rfl
 | some d=>obtain ⟨v,e,_⟩:=r.find q;rw [e];rfl
theorem s_ (I : Inv X pins σ H s) (m : aB X.K ads H M) (hu : X.A.units + 100 < cLine) {kb : List (Key × D)} {Nt : List (Key × V)} {KJ : List (Key × Value)} (rb : bx X.K ads H kb Nt) (vb : KV Nt KJ) :
    ∀ {ka:List (Key×D)} {HY:List (Key×V)} {Gh:List (Key×Value)} {r:Bool},bx X.K ads H ka HY->KV HY Gh->qV M kb ka=some r->PySem.W.KeqHits X.A.in1 s KJ Gh r
  | [],HY,Gh,r,ra,va,e=>by
    unfold bx at ra
    subst ra
    cases va
    cases e
    exact .nil
  | (k,d)::ka,HY,Gh,r,ra,va,e=>by
    unfold bx at ra
    obtain ⟨x,r',rfl,h0,h1,h2⟩:=ra
    obtain ⟨x1,x2⟩:=x
    have h0:k=x1:=h0
    subst h0
    have h1:RD X.K ads H d x2:=h1
    cases va with
    | cons hp hr =>
      rename_i q vr
      obtain ⟨q1,q2⟩:=q
      obtain ⟨e1,e2⟩:=hp
      have e1:k=q1:=e1
      subst e1
      have e2:RelV x2 q2:=e2
      have hv:=vb.val k
      simp only [qV] at e
      cases hg:bX kb k with
      | none =>
        rw [hg] at e
        cases e
        rw [rb.sY hg] at hv
        exact .miss (gB.none_of hv)
      | some y =>
        rw [hg] at e
        dsimp only at e
        obtain ⟨v',Nu,KL⟩:=rb.find hg
        rw [Nu] at hv
        obtain ⟨u',eu,ru⟩:=gB.some_of hv
        cases p1:cq M 30 d with
        | none=>rw [p1] at e;cases e
        | some p =>
          cases p2:cq M 30 y with
          | none=>rw [p1,p2] at e;cases e
          | some p' =>
            rw [p1,p2] at e
            dsimp only at e
            split at e
            · rename_i hs
              cases zh:qV M kb ka with
              | none=>rw [zh] at e;cases e
              | some b =>
                rw [zh] at e
                have e:(PyData.eqv p p' && b)=r:=e_ e
                subst e
                obtain ⟨as,RG⟩:=ej I m 30 d x2 q2 p h1 e2 p1
                obtain ⟨bs,RH⟩:=ej I m 30 y v' u' p' KL ru p2
                exact .hit eu (PySem.W.keq_at RG RH hs.1 hs.2 (by show X.A.units+1+64 < cLine;omega)) (s_ I m hu rb vb h2 hr zh)
            · cases e
end
def D5:u0->CmpOp
 | .eq=>.Eq | .ne=>.NotEq | .lt=>.Lt | .le=>.LtE | .gt=>.Gt | .ge=>.GtE | .oV=>.Is | .eW=>.IsNot | .isin=>.In | .d_=>.NotIn
def Ar (K:PySem.W.Frag) (ads:List Addr) (H:Hp) (Q:VK):Out Bool->Prop
 | .ok b M=>∀ H' ao,au ads ao H H'->aB K ao H' M->Q (.bl b) H'
 | _=>False
def As (K:PySem.W.Frag) (op:u0):R2:=fun x y H Q=>∃ ads M wx wy,aB K ads H M/\RW K ads H wx x/\RW K ads H wy y/\((op=.oV\/op=.eW)->y=.az)/\Ar K ads H Q (aO op wx wy M)
theorem Ar.now {K:PySem.W.Frag} {ads:List Addr} {H:Hp} {Q:VK} {b:Bool} {M:Mem} (h:Ar K ads H Q (.ok b M)) (m:aB K ads H M):Q (.bl b) H:=h H ads (au.refl _ _) m
section
variable {X:Cx}
open Classical in
noncomputable def pd (h:Heap) (p:PyData) (y:Value):Bool:=decide (∃ q' O6,Reads h y q' O6/\PyData.eqv q' p=true)
open Classical in
theorem pe {h:Heap} {p q:PyData} {y:Value} {cs:List Addr} (ry:Reads h y q cs):pd h p y=PyData.eqv q p:=by
 unfold pd
 cases hb:PyData.eqv q p with
 | true=>exact decide_eq_true ⟨q,cs,ry,hb⟩
 | false =>
  refine decide_eq_false ?_
  rintro ⟨q',O6,RI,HZ⟩
  obtain ⟨e,_⟩:=PyProof.Rows.reads_det (fun _ _ e _=>e) ry RI
  rw [<- e,HZ] at hb
  cases hb
theorem w8 {s : Shared} {A : Around} {x : Value} {p : PyData} {as : List Addr} (rx : Reads s.heap x p as) (hx : SeqAt.shaped p = true) (hu : A.units + 65 < cLine) :
    ∀ {us:List Value} {qs:List PyData} {bs:List Addr},ReadsAll s.heap us qs bs->qs.all SeqAt.shaped=true->(∀ y∈us,SeqAt.EqAt A.in1 s y x (pd s.heap p y))/\us.any (pd s.heap p)=iJ p qs
  | _,_,_,.nil,_=>⟨(fun y hy=>by cases hy),rfl⟩
  | _,_,_,.cons (v:=v) (d:=q) ry rr,hq=>by
    rw [List.all_cons,bH] at hq
    have HZ:=hq
    obtain ⟨k1,k2⟩:=w8 rx hx hu rr HZ.2
    have e0:=SeqAt.eqAt_reads q p A.in1 s v x _ _ ry rx (SeqAt.canLay_of_shaped HZ.1) (SeqAt.canLay_of_shaped hx) (SeqAt.room_of_shaped HZ.1 (by show A.units+1+64 < cLine;omega))
    rw [<- pe ry] at e0
    refine ⟨fun y hy=>?_,?_⟩
    · rcases List.mem_cons.mp hy with z | z
      · subst z;exact e0
      · exact k1 y z
    · rw [List.any_cons,k2,pe ry];rfl
theorem ju {s : Shared} {A : Around} {x : Value} {p : PyData} {as : List Addr} (rx : Reads s.heap x p as) (hx : SeqAt.shaped p = true) (hu : A.units + 65 < cLine)
    {us:List Value} {qs:List PyData} {bs:List Addr} (r:ReadsAll s.heap us qs bs) (hq:qs.all SeqAt.shaped=true):∃ e:Value->Bool,(∀ y∈us,SeqAt.EqAt A.in1 s y x (e y))/\us.any e=iJ p qs :=
  ⟨pd s.heap p,w8 rx hx hu r hq⟩
theorem u4:fZ X (compareOp .LtE) (fun x y H Q=>∃ i j,x=.str i/\y=.str j/\Q (.bl (!decide (j.cps.toList < i.cps.toList))) H):=by
 intro pins s σ H x y v u Q I rx ry h
 obtain ⟨i,j,rfl,rfl,q⟩:=h
 obtain ⟨t,rfl⟩:=rx
 obtain ⟨t',rfl⟩:=ry
 exact PySem.P.le_str ⟨.bl _,H,I,rfl,q⟩
theorem iL (hu:X.A.units+100 < cLine) (op:u0):fZ X (compareOp (D5 op)) (As X.K op):=by
 intro pins s σ H x y v u Q I rx ry h
 obtain ⟨ads,M,wx,wy,m,r1,r2,hn,h⟩:=h
 unfold aO at h
 cases op with
 | eq =>
  dsimp only at h
  have Cg:Ar X.K ads H Q (match gf M wx,gf M wy with
   | some ka,some kb=>match qV M kb ka with
    | some r=>.ok (ka.length == kb.length && r) M
    | none=>.stuck
   | _,_=>.stuck)->wpAny (model X.prog X.w) X.A (compareOp .Eq v u) (EP X pins σ Q) X.xe s:=by
   intro h
   cases q1:gf M wx with
   | none=>rw [q1] at h;exact h.elim
   | some ka =>
    cases q2:gf M wy with
    | none=>rw [q1,q2] at h;exact h.elim
    | some kb =>
     rw [q1,q2] at h
     dsimp only at h
     cases q3:qV M kb ka with
     | none=>rw [q3] at h;exact h.elim
     | some r =>
      rw [q3] at h
      dsimp only at h
      obtain ⟨a,HY,rfl,ha,ra⟩:=j3 m r1 q1
      obtain ⟨b,Nt,rfl,hb,rb⟩:=j3 m r2 q2
      cases rx
      cases ry
      obtain ⟨za,vF,Gh,va,RJ⟩:=oH I.aV ha
      obtain ⟨zb,Dz,KJ,vb,RK⟩:=oH I.aV hb
      refine PySem.W.keq_eq vF Dz RJ RK (by omega) (fun _=>s_ I m hu rb vb ra va q3) ⟨.bl _,H,I,rfl,?_⟩
      have e1:Gh.length=ka.length:=by rw [<- va.length,ra.len]
      have e2:KJ.length=kb.length:=by rw [<- vb.length,rb.len]
      rw [e1,e2]
      exact h.now m
  cases q1:f_ M wx with
  | none=>rw [q1] at h;exact Cg h
  | some p =>
   cases q2:f_ M wy with
   | none=>rw [q1,q2] at h;exact Cg h
   | some q =>
    rw [q1,q2] at h
    dsimp only at h
    split at h
    ·rename_i hs
     obtain ⟨as,ra⟩:=eX I m r1 rx q1
     obtain ⟨bs,rb⟩:=eX I m r2 ry q2
     exact SeqAt.compareEq_shaped ra rb hs.1 hs.2 (by omega) ⟨.bl _,H,I,rfl,h.now m⟩
    ·exact h.elim
 | ne =>
  dsimp only at h
  cases q1:f_ M wx with
  | none=>rw [q1] at h;exact h.elim
  | some p =>
   cases q2:f_ M wy with
   | none=>rw [q1,q2] at h;exact h.elim
   | some q =>
    rw [q1,q2] at h
    dsimp only at h
    split at h
    ·rename_i hs
     obtain ⟨as,ra⟩:=eX I m r1 rx q1
     obtain ⟨bs,rb⟩:=eX I m r2 ry q2
     exact SeqAt.compareNe_shaped ra rb hs.1 hs.2 (by omega) ⟨.bl _,H,I,rfl,h.now m⟩
    ·exact h.elim
 | lt =>
  dsimp only at h
  split at h
  ·rw [aE r1] at rx;rw [aE r2] at ry
   exact G_ pins s σ H _ _ v u Q I rx ry ⟨_,_,rfl,rfl,h.now m⟩
  ·rw [dm r1] at rx;rw [dm r2] at ry
   exact uF pins s σ H _ _ v u Q I rx ry ⟨_,_,rfl,rfl,h.now m⟩
  ·exact h.elim
 | le =>
  dsimp only at h
  split at h
  ·rw [aE r1] at rx;rw [aE r2] at ry
   exact Ha pins s σ H _ _ v u Q I rx ry ⟨_,_,rfl,rfl,h.now m⟩
  ·rw [dm r1] at rx;rw [dm r2] at ry
   exact u4 pins s σ H _ _ v u Q I rx ry ⟨_,_,rfl,rfl,h.now m⟩
  ·exact h.elim
 | gt =>
  dsimp only at h
  split at h
  ·rw [aE r1] at rx;rw [aE r2] at ry
   exact Hb pins s σ H _ _ v u Q I rx ry ⟨_,_,rfl,rfl,h.now m⟩
  ·exact h.elim
 | ge =>
  dsimp only at h
  split at h
  ·rw [aE r1] at rx;rw [aE r2] at ry
   exact Hc pins s σ H _ _ v u Q I rx ry ⟨_,_,rfl,rfl,h.now m⟩
  ·exact h.elim
 | oV =>
  have e:=hn (.inl rfl)
  have hx:∀ b,aO .oV wx wy M=.ok b M->b=decide (x=.az):=by
   intro b e
   unfold aO at e
   dsimp only at e
   split at e
   ·cases e;rw [j2 r1];rfl
   ·rename_i iY
    cases e
    refine (decide_eq_false ?_).symm
    intro z
    subst z
    cases wx with
    | lv ds=>obtain ⟨a,xs,e,_⟩:=r1;cases e
    | d z=>cases z with
     | az=>exact iY rfl
     | bl b=>have:=gu r1;cases this
     | int b=>have:=aE r1;cases this
     | str b=>have:=dm r1;cases this
     | tup b=>have r1:RD X.K ads H (.tup b) .az:=r1;unfold RD at r1;obtain ⟨a,xs,e,_⟩:=r1;cases e
     | adr b=>have r1:RD X.K ads H (.adr b) .az:=r1;unfold RD at r1;obtain ⟨a,e,_⟩:=r1;cases e
     | ls b=>have r1:RD X.K ads H (.ls b) .az:=r1;unfold RD at r1;obtain ⟨a,xs,e,_⟩:=r1;cases e
  subst e
  have:∃ b,aO .oV wx wy M=.ok b M:=by unfold aO;dsimp only;split <;> exact ⟨_,rfl⟩
  obtain ⟨b,hb⟩:=this
  have h:Ar X.K ads H Q (aO .oV wx wy M):=h
  rw [hb] at h
  refine Ds pins s σ H _ _ v u Q I rx ry ⟨rfl,?_⟩
  rw [<- hx b hb]
  exact h.now m
 | eW =>
  have e:=hn (.inr rfl)
  have hx:∀ b,aO .eW wx wy M=.ok b M->b=!decide (x=.az):=by
   intro b e
   unfold aO at e
   dsimp only at e
   split at e
   ·cases e;rw [j2 r1];rfl
   ·rename_i iY
    cases e
    have:decide (x=.az)=false:=by
     refine decide_eq_false ?_
     intro z
     subst z
     cases wx with
     | lv ds=>obtain ⟨a,xs,e,_⟩:=r1;cases e
     | d z=>cases z with
      | az=>exact iY rfl
      | bl b=>have:=gu r1;cases this
      | int b=>have:=aE r1;cases this
      | str b=>have:=dm r1;cases this
      | tup b=>have r1:RD X.K ads H (.tup b) .az:=r1;unfold RD at r1;obtain ⟨a,xs,e,_⟩:=r1;cases e
      | adr b=>have r1:RD X.K ads H (.adr b) .az:=r1;unfold RD at r1;obtain ⟨a,e,_⟩:=r1;cases e
      | ls b=>have r1:RD X.K ads H (.ls b) .az:=r1;unfold RD at r1;obtain ⟨a,xs,e,_⟩:=r1;cases e
    rw [this];rfl
  subst e
  have:∃ b,aO .eW wx wy M=.ok b M:=by unfold aO;dsimp only;split <;> exact ⟨_,rfl⟩
  obtain ⟨b,hb⟩:=this
  have h:Ar X.K ads H Q (aO .eW wx wy M):=h
  rw [hb] at h
  refine zG pins s σ H _ _ v u Q I rx ry ⟨rfl,?_⟩
  rw [<- hx b hb]
  exact h.now m
 | isin =>
  dsimp only at h
  cases q2:bc M wy with
  | none =>
   rw [q2] at h
   have h:Ar X.K ads H Q (match qU wx,gf M wy with
    | some k,some aa=>.ok ((bX aa k).isSome) M
    | _,_=>.stuck):=by cases hp:f_ M wx <;> rw [hp] at h <;> exact h
   cases q3:qU wx with
   | none=>rw [q3] at h;exact h.elim
   | some k =>
    cases q4:gf M wy with
    | none=>rw [q3,q4] at h;exact h.elim
    | some aa =>
     rw [q3,q4] at h
     have ek:=w6 r1 q3
     subst ek
     obtain ⟨a,ks,rfl,ha,ra⟩:=j3 m r2 q4
     cases ry
     obtain ⟨o,g,eo⟩:=sZ (k:=k) ha ra
     refine Hl (by omega) I g rx fun s' I'=>⟨.bl _,H,I',rfl,?_⟩
     rw [eo]
     exact h.now m
  | some Nv =>
   cases q1:f_ M wx with
   | none=>rw [q1,q2] at h;exact h.elim
   | some p =>
    obtain ⟨l,ds⟩:=Nv
    rw [q1,q2] at h
    dsimp only at h
    cases q3:a8 M 30 ds with
    | none=>rw [q3] at h;exact h.elim
    | some qs =>
     rw [q3] at h
     dsimp only at h
     split at h
     ·rename_i hs
      obtain ⟨as,ra⟩:=eX I m r1 rx q1
      obtain ⟨a,xs,ea,rd,sq⟩:=dR m r2 q2
      subst ea
      cases ry
      rcases sq with ⟨_,sq⟩|⟨_,sq⟩
      ·obtain ⟨aq,rv,pl,_⟩:=I.list sq
       obtain ⟨bs,rb⟩:=cu I 30 (ej I m 30) ds xs aq qs rd rv q3
       obtain ⟨e,he,qY⟩:=ju (A:=X.A) ra hs.1 (by omega) rb hs.2
       refine SeqAt.in_listAt e pl.isList (fun y hy=>he y (by simpa using hy)) ⟨.bl _,H,I,rfl,?_⟩
       have:aq.toArray.any e=iJ p qs:=by rw [<- qY];simp
       rw [this];exact h.now m
      ·obtain ⟨aq,rv,pl,_⟩:=I.tuple sq
       obtain ⟨bs,rb⟩:=cu I 30 (ej I m 30) ds xs aq qs rd rv q3
       obtain ⟨e,he,qY⟩:=ju (A:=X.A) ra hs.1 (by omega) rb hs.2
       refine SeqAt.in_tupleAt e (show s.heap.IsTuple a aq.toArray from pl) (fun y hy=>he y (by simpa using hy)) ⟨.bl _,H,I,rfl,?_⟩
       have:aq.toArray.any e=iJ p qs:=by rw [<- qY];simp
       rw [this];exact h.now m
     ·exact h.elim
 | d_ =>
  dsimp only at h
  cases q2:bc M wy with
  | none =>
   rw [q2] at h
   have h:Ar X.K ads H Q (match qU wx,gf M wy with
    | some k,some aa=>.ok (!(bX aa k).isSome) M
    | _,_=>.stuck):=by cases hp:f_ M wx <;> rw [hp] at h <;> exact h
   cases q3:qU wx with
   | none=>rw [q3] at h;exact h.elim
   | some k =>
    cases q4:gf M wy with
    | none=>rw [q3,q4] at h;exact h.elim
    | some aa =>
     rw [q3,q4] at h
     have ek:=w6 r1 q3
     subst ek
     obtain ⟨a,ks,rfl,ha,ra⟩:=j3 m r2 q4
     cases ry
     obtain ⟨o,g,eo⟩:=sZ (k:=k) ha ra
     refine sJ (by omega) I g rx fun s' I'=>⟨.bl _,H,I',rfl,?_⟩
     rw [eo]
     exact h.now m
  | some Nv =>
   cases q1:f_ M wx with
   | none=>rw [q1,q2] at h;exact h.elim
   | some p =>
    obtain ⟨l,ds⟩:=Nv
    rw [q1,q2] at h
    dsimp only at h
    cases q3:a8 M 30 ds with
    | none=>rw [q3] at h;exact h.elim
    | some qs =>
     rw [q3] at h
     dsimp only at h
     split at h
     ·rename_i hs
      obtain ⟨as,ra⟩:=eX I m r1 rx q1
      obtain ⟨a,xs,ea,rd,sq⟩:=dR m r2 q2
      subst ea
      cases ry
      rcases sq with ⟨_,sq⟩|⟨_,sq⟩
      ·obtain ⟨aq,rv,pl,_⟩:=I.list sq
       obtain ⟨bs,rb⟩:=cu I 30 (ej I m 30) ds xs aq qs rd rv q3
       obtain ⟨e,he,qY⟩:=ju (A:=X.A) ra hs.1 (by omega) rb hs.2
       refine SeqAt.notIn_listAt e pl.isList (fun y hy=>he y (by simpa using hy)) ⟨.bl _,H,I,rfl,?_⟩
       have:aq.toArray.any e=iJ p qs:=by rw [<- qY];simp
       rw [this];exact h.now m
      ·obtain ⟨aq,rv,pl,_⟩:=I.tuple sq
       obtain ⟨bs,rb⟩:=cu I 30 (ej I m 30) ds xs aq qs rd rv q3
       obtain ⟨e,he,qY⟩:=ju (A:=X.A) ra hs.1 (by omega) rb hs.2
       refine SeqAt.notIn_tupleAt e (show s.heap.IsTuple a aq.toArray from pl) (fun y hy=>he y (by simpa using hy)) ⟨.bl _,H,I,rfl,?_⟩
       have:aq.toArray.any e=iJ p qs:=by rw [<- qY];simp
       rw [this];exact h.now m
     ·exact h.elim
end
section
variable {K:PySem.W.Frag} {ads:List Addr} {H:Hp} {M:Mem}
theorem H_ {w:W} {v:V} {k:Bool} (m:aB K ads H M) (r:RW K ads H w v) (e:oY M w=some k):v8 K v H k:=by
 have seq:∀ w,RW K ads H w v->((bc M w).map fun p=>!p.2.isEmpty)=some k->v8 K v H k:=by
  intro w r e
  cases q:bc M w with
  | none=>rw [q] at e;cases e
  | some p =>
   obtain ⟨l,ds⟩:=p
   rw [q] at e
   have e:(!ds.isEmpty)=k:=e_ e
   obtain ⟨a,xs,rfl,rd,sq⟩:=dR m r q
   have hl:=rd.len
   have ex:k=!xs.isEmpty:=by
    rw [<- e]
    cases ds <;> cases xs <;> simp_all
   rcases sq with ⟨_,sq⟩|⟨_,sq⟩
   ·exact .inl ⟨xs,sq,ex⟩
   ·exact .inr (.inl ⟨xs,sq,ex⟩)
 cases w with
 | lv ds=>exact seq _ r e
 | d x =>
  cases x with
  | az=>rw [j2 r];exact (e_ e).symm
  | bl b=>rw [gu r];exact (e_ e).symm
  | int i=>rw [aE r];exact (e_ e).symm
  | str s=>exact seq _ r e
  | tup ds=>exact seq _ r e
  | adr n=>exact seq _ r e
  | ls n=>exact seq _ r e
theorem aA.sN {ds:List D} {xs:List V} {i:Int} {d:D} (r:aA K ads H ds xs) (e:L2.sN ds i=some d):∃ v,L2.sN xs i=some v/\RD K ads H d v:=by
 unfold L2.sN at e ⊢
 rw [<- r.len]
 cases q:wB ds.length i with
 | none=>rw [q] at e;cases e
 | some j=>rw [q] at e;exact r.get e
theorem aA.cut {ds:List D} {xs:List V} {lo hi:Option Int} (r:aA K ads H ds xs):aA K ads H (cutD ds lo hi) (oK xs lo hi):=by
 unfold cutD oK
 rw [<- r.len]
 exact (r.drop _).take _
theorem bx.any {κ:Type} [DecidableEq κ] {k:κ}:∀ {aa:List (κ×D)} {ks:List (κ×V)},bx K ads H aa ks->(aa.any fun kv=>decide (kv.1=k))=(ks.any fun kv=>decide (kv.1=k))
 | [],_,r=>by unfold bx at r;subst r;rfl
 | p::ps,ks,r=>by unfold bx at r;obtain ⟨x,r',rfl,h0,h1,h2⟩:=r;simp [bx.any h2,h0]
theorem bx.map {κ : Type} [DecidableEq κ] {k : κ} {d : D} {v : V} (rd : RD K ads H d v) : ∀ {aa : List (κ × D)} {ks : List (κ × V)}, bx K ads H aa ks ->
    bx K ads H (aa.map fun kv=>if kv.1=k then (kv.1,d) else kv) (ks.map fun kv=>if kv.1=k then (kv.1,v) else kv)
  | [],_,r=>by unfold bx at r;subst r;simp;unfold bx;rfl
  | p::ps,ks,r=>by
    unfold bx at r
    obtain ⟨x,r',rfl,h0,h1,h2⟩:=r
    simp only [List.map_cons]
    unfold bx
    refine ⟨_,_,rfl,?_,?_,bx.map rd h2⟩
    · rw [h0];split <;> first | rfl | exact h0
    · rw [h0];split <;> first | exact rd | exact h1
theorem bx.app {κ:Type}:∀ {aa es:List (κ×D)} {ks fs:List (κ×V)},bx K ads H aa ks->bx K ads H es fs->bx K ads H (aa++es) (ks++fs)
 | [],_,_,_,r,q=>by unfold bx at r;subst r;exact q
 | p::ps,es,ks,fs,r,q=>by
  unfold bx at r
  obtain ⟨x,r',rfl,h0,h1,h2⟩:=r
  show bx K ads H (p::(ps++es)) (x::(r'++fs))
  unfold bx;exact ⟨x,_,rfl,h0,h1,bx.app h2 q⟩
theorem bx.put {κ:Type} [DecidableEq κ] {k:κ} {d:D} {v:V} {aa:List (κ×D)} {ks:List (κ×V)} (r:bx K ads H aa ks) (rd:RD K ads H d v):bx K ads H (putD aa k d) (putK ks k v):=by
 unfold putD putK
 rw [r.any (k:=k)]
 split
 ·exact bx.map rd r
 ·refine r.app ?_
  unfold bx
  exact ⟨_,[],rfl,rfl,rd,by unfold bx;rfl⟩
end
section
variable {X:Cx} {M':Mem}
def He (K:PySem.W.Frag):R2:=fun x y H Q=>∃ ads M wx wy,aB K ads H M/\RW K ads H wx x/\RW K ads H wy y/\bF K ads H Q (cR wx wy M)
theorem D6 (hu:X.A.units+1 < cLine):Gb X (He X.K):=by
 intro value slice pins s σ H x y v u Q I rx ry h hs
 obtain ⟨ads,M,wx,wy,m,r1,r2,h⟩:=h
 unfold cR at h
 split at h
 ·rename_i i
  have ey:=aE r2
  subst ey
  cases q:bc M wx with
  | some p =>
   obtain ⟨l,ds⟩:=p
   rw [q] at h
   dsimp only at h
   cases q2:KI ds i with
   | none=>rw [q2] at h;exact h.elim
   | some d =>
    rw [q2] at h
    obtain ⟨a,xs,rfl,rd,sq⟩:=dR m r1 q
    obtain ⟨z,e2,rz⟩:=rd.sN q2
    rcases sq with ⟨_,sq⟩|⟨_,sq⟩
    ·exact zT value slice pins s σ H _ _ v u Q I rx ry ⟨a,xs,i,z,rfl,rfl,sq,e2,h.plain m rz⟩ hs
    ·exact DI value slice pins s σ H _ _ v u Q I rx ry ⟨a,xs,i,z,rfl,rfl,sq,e2,h.plain m rz⟩ hs
  | none =>
   rw [q] at h
   dsimp only at h
   split at h
   ·split at h
    ·rename_i z hz
     have ex:=dm r1
     subst ex
     cases q2:L2.sN z.cps.toList i with
     | none=>rw [q2] at h;exact h.elim
     | some c =>
      rw [q2] at h
      exact DJ value slice pins s σ H _ _ v u Q I rx ry ⟨_,i,c,rfl,rfl,hz,q2,h.plain m (mH _)⟩ hs
    ·exact h.elim
   ·rename_i n
    have r1:RD X.K ads H (.adr n) x:=r1
    unfold RD at r1
    obtain ⟨a,rfl,ea⟩:=r1
    split at h
    ·rename_i aa q
     obtain ⟨ks,hk,rk⟩:=m.obj n _ a q ea
     split at h
     ·rename_i d q2
      obtain ⟨z,e2,rz⟩:=rk.find (k:=Sum.inl i) q2
      cases rx
      have g:gF H a (kV (Sum.inl i)) (some z):=by have:=gF.k (k:=Sum.inl i) hk;rw [e2] at this;exact this
      exact tail_any (fz I g) F.slot_dict_getitem.lookup (iC hu I g ry fun w' s' I' qJ=>⟨z,H,I',qJ,h.plain m rz⟩) hs
     ·exact h.elim
    ·exact h.elim
   ·exact h.elim
 ·rename_i k
  have ey:=dm r2
  subst ey
  split at h
  ·rename_i n
   have r1:RD X.K ads H (.adr n) x:=r1
   unfold RD at r1
   obtain ⟨a,rfl,ea⟩:=r1
   split at h
   ·rename_i aa q
    obtain ⟨ks,hk,rk⟩:=m.obj n _ a q ea
    split at h
    ·rename_i d q2
     obtain ⟨z,e2,rz⟩:=rk.find (k:=Sum.inr k) q2
     cases rx
     have g:gF H a (kV (Sum.inr k)) (some z):=by have:=gF.k (k:=Sum.inr k) hk;rw [e2] at this;exact this
     exact tail_any (fz I g) F.slot_dict_getitem.lookup (iC hu I g ry fun w' s' I' qJ=>⟨z,H,I',qJ,h.plain m rz⟩) hs
    ·exact h.elim
   ·exact h.elim
  ·exact h.elim
 ·exact h.elim
def Nw (K:PySem.W.Frag):V->Option Int->Option Int->Hp->VK->Prop:=fun x lo hi H Q=>∃ ads M wx,aB K ads H M/\RW K ads H wx x/\bF K ads H Q (jX wx lo hi M)
theorem D7:Kr X (Nw X.K):=by
 intro pins s σ H x v vl vu lo hi sl Q I rx hs pl pu h
 obtain ⟨ads,M,wx,m,r1,h⟩:=h
 unfold jX at h
 split at h
 ·rename_i ds q
  obtain ⟨a,xs,rfl,rd,sq⟩:=dR m r1 q
  rcases sq with ⟨_,sq⟩|⟨e,_⟩
  ·exact zU pins s σ H _ v vl vu lo hi sl Q I rx hs pl pu ⟨a,xs,rfl,sq,fun p hp=>h.list m rd.cut hp⟩
  ·cases e
 ·rename_i ds q
  obtain ⟨a,xs,rfl,rd,sq⟩:=dR m r1 q
  rcases sq with ⟨e,_⟩|⟨_,sq⟩
  ·cases e
  ·split at h
   ·exact h.elim
   ·rename_i hw
    refine DG pins s σ H _ v vl vu lo hi sl Q I rx hs pl pu ⟨a,xs,rfl,sq,by rw [<- rd.len];exact hw,fun p hp=>h.tuple m rd.cut hp⟩
 ·exact h.elim
theorem bF.D8 {K:PySem.W.Frag} {ads:List Addr} {H:Hp} {Q:VK} {M:Mem} {aa:List (Key×D)} {ks:List (Key×V)} {p:Addr} (q:bF K ads H Q (.ok (.d (.adr M.length)) (M++[.dK aa]))) (m:aB K ads H M) (hp:H p=none) (r:bx K ads H aa ks):Q (.ref p) (upd H p (.dK ks)):=by
 have pn:=m.fresh hp
 have g0:au ads ads H (upd H p (.dK ks)):=au.fh m hp
 have m1:aB K ads (upd H p (.dK ks)) M:=m.fh hp
 have m2:=m1.push (o:=.dK aa) pn ⟨_,aJ,g0.vE _ _ r⟩
 refine q (.ref p) _ (ads++[p]) ⟨⟨[p],rfl⟩,fun b hb nb=>?_,g0.kept,g0.fg,g0.dc⟩ m2 ?_
 ·rcases je.mp hb with z | z
  ·exact absurd z nb
  ·have:b=p:=by simpa using z
   subst this;exact hp
 ·show RD K (ads++[p]) (upd H p (.dK ks)) (.adr M.length) (.ref p)
  unfold RD
  exact ⟨p,rfl,by rw [List.getElem?_append_right (by rw [m.len];exact ba _)];simp [m.len]⟩
def Au (K:PySem.W.Frag) (ads:List Addr) (H:Hp):List W->List V->Prop
 | [],vs=>vs=[]
 | w::ws,vs=>∃ v r,vs=v::r/\RW K ads H w v/\Au K ads H ws r
def zi (K:PySem.W.Frag) (b:Bi):List V->Hp->VK->Prop:=fun vs H Q=>∃ ads M ws,aB K ads H M/\Au K ads H ws vs/\bF K ads H Q (iw b ws M)
theorem Au.one {K:PySem.W.Frag} {ads:List Addr} {H:Hp} {w:W} {vs:List V} (r:Au K ads H [w] vs):∃ v,vs=[v]/\RW K ads H w v:=by
 obtain ⟨v,r,rfl,h,h2⟩:=r
 have h2:r=[]:=h2
 subst h2
 exact ⟨v,rfl,h⟩
theorem Au.two {K:PySem.W.Frag} {ads:List Addr} {H:Hp} {w w2:W} {vs:List V} (r:Au K ads H [w,w2] vs):∃ v v2,vs=[v,v2]/\RW K ads H w v/\RW K ads H w2 v2:=by
 obtain ⟨v,r,rfl,h,h2⟩:=r
 obtain ⟨v2,rfl,h3⟩:=Au.one h2
 exact ⟨v,v2,rfl,h,h3⟩
theorem gK (ps:List (Key×Value)):∀ n,n<=ps.length->i4 (fun i=>ps.getD i (Sum.inl 0,.none)) n=(ps.take n).foldl (fun acc p=>stored acc p.1 p.2) []
 | 0,_=>by simp [i4]
 | n+1,h=>by
  have hn:n < ps.length:=h
  rw [List.take_add_one,eD hn,Option.toList_some,List.foldl_append,<- gK ps n (Nat.le_of_lt hn)]
  show stored _ _ _=stored _ _ _
  try simp only [qt,eD hn,Option.getD_some]
theorem tf:∀ {qs:List (Key×V)} {ps:List (Key×Value)} {a:List (Key×V)} {b:List (Key×Value)},KV qs ps->KV a b->KV (qs.foldl (fun acc p=>putK acc p.1 p.2) a) (ps.foldl (fun acc p=>stored acc p.1 p.2) b)
 | [],_,a,b,r,k=>by cases r;exact k
 | q::qs,_,a,b,r,k=>by
  cases r with
  | cons h r =>
   rename_i p ps
   obtain ⟨h1,h2⟩:=h
   have k2:KV (putK a q.1 q.2) (stored b p.1 p.2):=by rw [<- h1];exact k.put q.1 h2
   exact tf (qs:=qs) (ps:=ps) r k2
theorem D9 {i:Int} {u:Value} (r:RelV (.int i) u):∃ t,u=.int i t:=r
theorem D_ {x:Str} {u:Value} (r:RelV (.str x) u):∃ t,u=.str x t:=r
theorem w_ {H0 : Hp} {h : Heap} (ok : gC X.prog X.w H0 h) {K : PySem.W.Frag} {ads : List Addr} : ∀ {ds : List D} {acc aa : List (Key × D)} {va : List (Key × V)} {ys : List V} {aq : List Value}, u1 acc ds = some aa -> bx K ads H0 acc va -> aA K ads H0 ds ys -> Vals ys aq ->
    ∃ (ps:List (Key×Value)) (qs:List (Key×V)),ps.length=aq.length/\KV qs ps/\bx K ads H0 aa (qs.foldl (fun acc p=>putK acc p.1 p.2) va)/\∀ i v,aq[i]?=some v->∃ a uk,v=.ref a/\fk (ps.getD i (Sum.inl 0,.none)).1 uk=true/\IsTup h a #[uk,(ps.getD i (Sum.inl 0,.none)).2]
  | [],acc,aa,va,ys,aq,e,ra,rd,rv=>by
    cases e
    unfold aA at rd
    subst rd
    cases rv
    exact ⟨[],[],rfl,.nil,ra,fun i v h=>by simp at h⟩
  | d::ds,acc,aa,va,ys,aq,e,ra,rd,rv=>by
    unfold aA at rd
    obtain ⟨y,yr,rfl,r1,r2⟩:=rd
    cases rv with
    | cons hv rv =>
      rename_i u us
      unfold u1 at e
      cases hp:pairD d with
      | none=>rw [hp] at e;cases e
      | some kx =>
        obtain ⟨k,x⟩:=kx
        rw [hp] at e
        have main:∀ kd:D,d=.tup [kd,x]->(∀ z uz,RD K ads H0 kd z->RelV z uz->fk k uz=true)->∃ (ps:List (Key×Value)) (qs:List (Key×V)),ps.length=(u::us).length/\KV qs ps/\bx K ads H0 aa (qs.foldl (fun acc p=>putK acc p.1 p.2) va)/\∀ i v,(u::us)[i]?=some v->∃ a uk,v=.ref a/\fk (ps.getD i (Sum.inl 0,.none)).1 uk=true/\IsTup h a #[uk,(ps.getD i (Sum.inl 0,.none)).2]:=by
          intro kd ed hk
          subst ed
          unfold RD at r1
          obtain ⟨a,xs,rfl,ha,rx⟩:=r1
          unfold aA at rx
          obtain ⟨z,zr,rfl,rz,rx⟩:=rx
          unfold aA at rx
          obtain ⟨z2,VE,rfl,RL,rx⟩:=rx
          unfold aA at rx
          subst rx
          obtain ⟨_,RM,tv,tt⟩:=ok a _ ha
          cases tv with
          | cons t1 tv =>
            cases tv with
            | cons t2 tv =>
              cases tv
              rename_i uk uv
              obtain ⟨ps,qs,l,kk,rr,hh⟩:=w_ ok e (ra.put (k:=k) RL) r2 rv
              refine ⟨(k,uv)::ps,(k,z2)::qs,by simp [l],.cons ⟨rfl,t2⟩ kk,rr,fun i v hi=>?_⟩
              cases i with
              | zero =>
                have hi:u=v:=by simpa using hi
                subst hi
                have hu:u=.ref a:=hv
                exact ⟨a,uk,hu,hk z uk rz t1,tt⟩
              | succ i =>
                obtain ⟨a',RN,q1,q2,q3⟩:=hh i v (by simpa using hi)
                exact ⟨a',RN,q1,by simpa using q2,by simpa using q3⟩
        unfold pairD at hp
        split at hp
        · rename_i i dd
          cases hp
          refine main _ rfl fun z uz rz hz=>?_
          unfold RD at rz
          subst rz
          obtain ⟨t,rfl⟩:=D9 hz
          exact lb i t
        · rename_i i dd
          cases hp
          refine main _ rfl fun z uz rz hz=>?_
          unfold RD at rz
          subst rz
          obtain ⟨t,rfl⟩:=D_ hz
          exact lg i t
        · cases hp
theorem Av (hc:X.calm=true):cI X (.type "dict") (zi X.K .lE):=by
 intro pins s σ H xs us Q I r h
 obtain ⟨ads,M,ws,m,rw,h⟩:=h
 rcases ws with _|⟨w,_|⟨w2,ws⟩⟩
 ·exact h.elim
 ·obtain ⟨v,rfl,rv⟩:=rw.one
  unfold iw at h
  dsimp only at h
  split at h
  ·rename_i aa q
   obtain ⟨a,ks,rfl,ha,ra⟩:=j3 m rv q
   obtain ⟨u,rfl,ru⟩:=vals1 r
   cases ru
   obtain ⟨z,hd,vs,va,dd⟩:=oH I.aV ha
   refine kt_call_dict hd dd (by rw [<- va.length];exact z) fun h' GL hs=>?_
   have kp:∀ b o',s.heap.get? b=some o'->h'.get? b=some o':=fun b o' e=>by
    have hb:b≠s.heap.objs.size:=fun z=>by subst z;exact absurd (Heap.lt_size e) (Nat.lt_irrefl _)
    rw [hs.2 b hb]
    exact fY _ e
   refine ⟨.ref s.heap.objs.size,_,I.laid (t':=s.toks) (o:=.dK ks) kp (ba _) ?_,rfl,h.D8 m (I.aV.fresh (ba _)) ra⟩
   exact ⟨z,beq_eq_false_iff_ne.mpr (Ne.symm (Nat.ne_of_lt I.big)),vs,va,GL⟩
  ·split at h
   ·rename_i ds q
    split at h
    ·rename_i aa qp
     obtain ⟨a,ys,rfl,rd,sq⟩:=dR m rv q
     rcases sq with ⟨_,sq⟩|⟨e,_⟩
     ·obtain ⟨u,rfl,ru⟩:=vals1 r
      cases ru
      obtain ⟨aq,vy,pl,hz⟩:=I.list sq
      obtain ⟨ps,qs,l,kk,rr,hh⟩:=w_ I.aV qp (va:=[]) (show bx X.K ads H [] [] by unfold bx;rfl) rd vy
      refine Af (I.ok.hd hc) pl (by rw [<- vy.length];exact hz) (fun i=>ps.getD i (Sum.inl 0,.none)) hh fun h' tk kp hd=>?_
      rw [<- l,gK ps _ (ba _),List.take_length] at hd
      refine ⟨.ref s.heap.objs.size,_,I.laid (t':=tk) (o:=.dK (qs.foldl (fun acc p=>putK acc p.1 p.2) [])) kp (ba _) ?_,rfl,h.D8 m (I.aV.fresh (ba _)) rr⟩
      have kf:=tf kk (a:=[]) (b:=[]) .nil
      refine ⟨?_,beq_eq_false_iff_ne.mpr (Ne.symm (Nat.ne_of_lt I.big)),_,kf,hd⟩
      have l1:=Paired.length kf
      have l2:=iI (fun i=>ps.getD i (Sum.inl 0,.none)) ps.length
      rw [gK ps _ (ba _),List.take_length] at l2
      rw [l1]
      exact Nat.le_trans l2 (by rw [l,<- vy.length];exact hz)
     ·cases e
    ·exact h.elim
   ·exact h.elim
 ·exact h.elim
theorem Ea:cI X (.builtin "len") (zi X.K .len):=by
 intro pins s σ H xs us Q I r h
 obtain ⟨ads,M,ws,m,rw,h⟩:=h
 rcases ws with _|⟨w,_|⟨w2,ws⟩⟩
 ·exact h.elim
 ·obtain ⟨v,rfl,rv⟩:=rw.one
  unfold iw at h
  dsimp only at h
  split at h
  ·rename_i l ds q
   obtain ⟨a,ys,rfl,rd,sq⟩:=dR m rv q
   refine mw pins s σ H _ us Q I r ⟨a,ys,rfl,?_,by rw [<- rd.len];exact h.plain m (bC _)⟩
   rcases sq with ⟨_,sq⟩|⟨_,sq⟩
   ·exact .inl sq
   ·exact .inr sq
  ·split at h
   ·split at h
    ·rename_i hz
     have e1:=dm rv
     subst e1
     exact mx pins s σ H _ us Q I r ⟨_,rfl,hz,h.plain m (bC _)⟩
    ·exact h.elim
   ·exact h.elim
 ·exact h.elim
theorem Aw:cI X (.type "list") (zi X.K .list1):=by
 intro pins s σ H xs us Q I r h
 obtain ⟨ads,M,ws,m,rw,h⟩:=h
 rcases ws with _|⟨w,_|⟨w2,ws⟩⟩
 ·exact h.elim
 ·obtain ⟨v,rfl,rv⟩:=rw.one
  unfold iw at h
  dsimp only at h
  split at h
  ·rename_i l ds q
   obtain ⟨a,ys,rfl,rd,sq⟩:=dR m rv q
   refine my pins s σ H _ us Q I r ⟨a,ys,rfl,?_,fun p hp=>h.list m rd hp⟩
   rcases sq with ⟨_,sq⟩|⟨_,sq⟩
   ·exact .inl sq
   ·exact .inr sq
  ·exact h.elim
 ·exact h.elim
theorem xa:cI X (.type "tuple") (zi X.K .tuple1):=by
 intro pins s σ H xs us Q I r h
 obtain ⟨ads,M,ws,m,rw,h⟩:=h
 rcases ws with _|⟨w,_|⟨w2,ws⟩⟩
 ·exact h.elim
 ·obtain ⟨v,rfl,rv⟩:=rw.one
  unfold iw at h
  dsimp only at h
  split at h
  ·rename_i l ds q
   have hq:=q
   obtain ⟨a,ys,rfl,rd,sq⟩:=dR m rv q
   rcases sq with ⟨_,sq⟩|⟨el,sq⟩
   ·exact gn pins s σ H _ us Q I r ⟨a,ys,rfl,.inl ⟨sq,fun p hp=>h.tuple m rd hp⟩⟩
   ·refine gn pins s σ H _ us Q I r ⟨a,ys,rfl,.inr ⟨sq,h.plain m ?_⟩⟩
    subst el
    cases w with
    | lv es=>cases hq
    | d x =>
     cases x with
     | tup es =>
      have e:es=ds:=by simpa [bc] using hq
      subst e
      exact rv
     | adr n =>
      simp only [bc] at hq
      split at hq <;> cases hq
     | ls _=>cases hq
     | az=>cases hq
     | bl _=>cases hq
     | int _=>cases hq
     | str _=>cases hq
  ·exact h.elim
 ·exact h.elim
theorem Eb (hc:X.calm=true):cI X (.builtin "max") (zi X.K .max2):=by
 intro pins s σ H xs us Q I r h
 obtain ⟨ads,M,ws,m,rw,h⟩:=h
 rcases ws with _|⟨w,_|⟨w2,_|⟨w3,ws⟩⟩⟩
 ·exact h.elim
 ·rcases w with ⟨_|_|_|_|_|_⟩|_ <;> exact h.elim
 ·rcases w with ⟨_|_ | i | _|_|_⟩|_ <;> first | exact h.elim | skip
  rcases w2 with ⟨_|_ | j | _|_|_⟩|_ <;> first | exact h.elim | skip
  obtain ⟨v,v2,rfl,r1,r2⟩:=rw.two
  have e1:=aE r1
  have e2:=aE r2
  subst e1 e2
  exact uG hc pins s σ H _ us Q I r ⟨i,j,rfl,bF.plain h m (bC _)⟩
 ·rcases w with ⟨_|_ | i | _|_|_⟩|_ <;> first | exact h.elim | skip
  rcases w2 with ⟨_|_ | j | _|_|_⟩|_ <;> exact h.elim
theorem Ec (hc:X.calm=true):cI X (.builtin "min") (zi X.K .min2):=by
 intro pins s σ H xs us Q I r h
 obtain ⟨ads,M,ws,m,rw,h⟩:=h
 rcases ws with _|⟨w,_|⟨w2,_|⟨w3,ws⟩⟩⟩
 ·exact h.elim
 ·rcases w with ⟨_|_|_|_|_|_⟩|_ <;> exact h.elim
 ·rcases w with ⟨_|_ | i | _|_|_⟩|_ <;> first | exact h.elim | skip
  rcases w2 with ⟨_|_ | j | _|_|_⟩|_ <;> first | exact h.elim | skip
  obtain ⟨v,v2,rfl,r1,r2⟩:=rw.two
  have e1:=aE r1
  have e2:=aE r2
  subst e1 e2
  exact uH hc pins s σ H _ us Q I r ⟨i,j,rfl,bF.plain h m (bC _)⟩
 ·rcases w with ⟨_|_ | i | _|_|_⟩|_ <;> first | exact h.elim | skip
  rcases w2 with ⟨_|_ | j | _|_|_⟩|_ <;> exact h.elim
theorem cV (n:Nat) (hA:∀ d p,cq M' n d=some p->p.hasDict=false):∀ (ds:List D) (ps:List PyData),a8 M' n ds=some ps->PyData.hasDictAll ps=false
 | [],ps,e=>by unfold a8 at e;cases e;rfl
 | d::ds,ps,e=>by
  unfold a8 at e
  cases q1:cq M' n d with
  | none=>rw [q1] at e;cases e
  | some p =>
   cases q2:a8 M' n ds with
   | none=>rw [q1,q2] at e;cases e
   | some qs =>
    rw [q1,q2] at e
    cases e
    rw [PyData.hasDictAll,hA d p q1,cV n hA ds qs q2]
    rfl
theorem pf:∀ (n:Nat) (d:D) (p:PyData),cq M' n d=some p->p.hasDict=false:=by
 intro n
 induction n with
 | zero=>intro d p e;cases d <;> (unfold cq at e;cases e) <;> simp [PyData.hasDict]
 | succ n ih =>
  intro d p e
  cases d with
  | tup ds =>
   unfold cq at e
   cases q:a8 M' n ds with
   | none=>rw [q] at e;cases e
   | some ps=>rw [q] at e;cases e;rw [PyData.hasDict];exact cV n ih ds ps q
  | adr k =>
   unfold cq at e
   split at e
   ·cases q:a8 M' n _ with
    | none=>rw [q] at e;cases e
    | some ps=>rw [q] at e;cases e;rw [PyData.hasDict];exact cV n ih _ ps q
   ·cases q:a8 M' n _ with
    | none=>rw [q] at e;cases e
    | some ps=>rw [q] at e;cases e;rw [PyData.hasDict];exact cV n ih _ ps q
   ·cases e
  | ls ds =>
   unfold cq at e
   cases q:a8 M' n ds with
   | none=>rw [q] at e;cases e
   | some ps=>rw [q] at e;cases e;rw [PyData.hasDict];exact cV n ih ds ps q
  | az=>unfold cq at e;cases e;simp [PyData.hasDict]
  | bl _=>unfold cq at e;cases e;simp [PyData.hasDict]
  | int _=>unfold cq at e;cases e;simp [PyData.hasDict]
  | str _=>unfold cq at e;cases e;simp [PyData.hasDict]
theorem Ed:cI X (.type "int") (zi X.K .oW):=by
 intro pins s σ H xs us Q I r h
 obtain ⟨ads,M,ws,m,rw,h⟩:=h
 rcases ws with _|⟨w,_|⟨w2,ws⟩⟩
 ·exact h.elim
 ·obtain ⟨v,rfl,rv⟩:=rw.one
  cases w with
  | lv ds=>exact h.elim
  | d x =>
   cases x with
   | int i =>
    have e:=aE rv
    subst e
    exact lj pins s σ H _ us Q I r (.inl ⟨i,rfl,bF.plain h m (bC _)⟩)
   | bl i =>
    have e:=gu rv
    subst e
    exact lj pins s σ H _ us Q I r (.inr ⟨i,rfl,bF.plain h m (bC _)⟩)
   | az=>exact h.elim
   | str _=>exact h.elim
   | tup _=>exact h.elim
   | adr _=>exact h.elim
   | ls _=>exact h.elim
 ·rcases w with ⟨_|_|_|_|_|_⟩|_ <;> exact h.elim
theorem Ax {k:Nat} (hr:fv k X.A):cI X (.builtin "repr") (zi X.K .ee):=by
 intro pins s σ H xs us Q I r h
 obtain ⟨ads,M,ws,m,rw,h⟩:=h
 rcases ws with _|⟨w,_|⟨w2,ws⟩⟩
 ·exact h.elim
 ·obtain ⟨v,rfl,rv⟩:=rw.one
  unfold iw at h
  dsimp only at h
  split at h
  ·rename_i p q
   split at h
   ·rename_i hs
    obtain ⟨u,rfl,ru⟩:=vals1 r
    obtain ⟨as,ra⟩:=eX I m rv ru q
    have Ee:=hr.un
    have fin:∀ (h':Heap) (t:Tok) (tk:Nat),(∀ b o,s.heap.get? b=some o->h'.get? b=some o)->EP X pins σ Q (.str p.shown t) { s with heap:=h',toks:=tk }:=fun h' t tk hk =>
     ⟨.str p.shown,H,I.kept hk,⟨t,rfl⟩,h.plain m (mH _)⟩
    have Ay:∀ (t:Tok) (tk:Nat),EP X pins σ Q (.str p.shown t) { s with toks:=tk }:=fun t tk=>fin s.heap t tk fun _ _ e=>e
    have nd:p.hasDict=false:=by
     cases w with
     | d x=>exact pf 30 x p q
     | lv ds =>
      have e:(a8 M 30 ds).map PyData.list=some p:=q
      cases q2:a8 M 30 ds with
      | none=>rw [q2] at e;cases e
      | some ps=>rw [q2] at e;cases e;rw [PyData.hasDict];exact cV 30 (pf 30) ds ps q2
    cases ra with
    | none=>exact PySem.P.repr_of_none (Ay _ _)
    | bool b=>exact PySem.P.repr_of_bool (Ay _ _)
    | int i t=>exact PySem.P.repr_of_int (of_decide_eq_true hs.1) (Ay _ _)
    | str x t=>exact PySem.P.repr_of_str (Ay _ _) hs.2.2
    | list h1 h2 h3 h4=>exact repr_of_reads' (.list h1 h2 h3 h4) hs.1 (PyData.noDict_hsm nd) hr.gd (by have:=hs.2.1;omega) (fun _ _ e=>e) (fun h' t tk hk=>fin h' t tk hk) hs.2.2
    | tuple h1 h2 h3 h4=>exact repr_of_reads' (.tuple h1 h2 h3 h4) hs.1 (PyData.noDict_hsm nd) hr.gd (by have:=hs.2.1;omega) (fun _ _ e=>e) (fun h' t tk hk=>fin h' t tk hk) hs.2.2
    | dict h1 h2 h3 h4 h5=>rw [PyData.hasDict] at nd;cases nd
   ·exact h.elim
  ·exact h.elim
 ·exact h.elim
def ph:Ty->String
 | .int => "int" | .bool => "bool" | .str => "str" | .tuple => "tuple" | .list => "list" | .dict => "dict" | .none => "NoneType"
theorem Az (K:PySem.W.Frag):∀ g t:Ty,PySem.W.kitOne K (.type (ph g)) (.type (ph t))=some (decide (g=t) || (decide (g=.bool) && decide (t=.int))):=by
 intro g t
 cases g <;> cases t <;> kernel_rfl
theorem Ef {K:PySem.W.Frag} {ads:List Addr} {H:Hp} {M:Mem} {w:W} {v:V} {g:Ty} (m:aB K ads H M) (r:RW K ads H w v) (e:wZ M w=some g):iB K H v (.type (ph g)):=by
 cases w with
 | lv ds=>cases e;obtain ⟨a,xs,rfl,h,_⟩:=r;exact .lst h
 | d x =>
  cases x with
  | az=>cases e;rw [j2 r];exact .az
  | bl b=>cases e;rw [gu r];exact .bl b
  | int b=>cases e;rw [aE r];exact .int b
  | str b=>cases e;rw [dm r];exact .str b
  | ls b=>cases e
  | tup b=>cases e;have r:RD K ads H (.tup b) v:=r;unfold RD at r;obtain ⟨a,xs,rfl,h,_⟩:=r;exact .tup h
  | adr n =>
   have r:RD K ads H (.adr n) v:=r
   unfold RD at r
   obtain ⟨a,rfl,ea⟩:=r
   simp only [wZ] at e
   cases q:M[n]? with
   | none=>rw [q] at e;cases e
   | some o =>
    rw [q] at e
    have ho:=m.obj n o a q ea
    cases o with
    | lst es=>cases e;obtain ⟨xs,h,_⟩:=ho;exact .lst h
    | gV es=>cases e;obtain ⟨o,xs,h,_⟩:=ho;exact .dc h
    | dK es=>cases e;obtain ⟨xs,h,_⟩:=ho;exact .dK h
    | dT es=>cases e;obtain ⟨xs,h,_⟩:=ho;exact .dT h
    | dF es=>cases e
theorem Eg (t:Ty):cI X (.builtin "isinstance") (fun vs H Q=>∃ v,vs=[v,.ty (ph t)]/\zi X.K (.mF t) [v] H Q):=by
 intro pins s σ H xs us Q I r h
 obtain ⟨v,rfl,ads,M,ws,m,rw,h⟩:=h
 obtain ⟨u,u2,rfl,r1,r2⟩:=vals2 r
 rcases ws with _|⟨w,_|⟨w2,ws⟩⟩
 ·exact h.elim
 ·obtain ⟨v',e,rv⟩:=rw.one
  cases e
  unfold iw at h
  dsimp only at h
  split at h
  ·rename_i g q
   have e2:u2=Value.type (ph t):=r2
   subst e2
   exact uJ I r1 (Ef m rv q) (Az X.K g t) fun tk=>⟨.bl _,H,I.tok tk,rfl,h.plain m (gv _)⟩
  ·exact h.elim
 ·obtain ⟨_,_,e,_,_,_,e2,_⟩:=rw
  cases e
  cases e2
end
section
variable {X:Cx}
def Ia (K:PySem.W.Frag) (me:Me):V->List V->Hp->VK->Prop:=fun x vs H Q=>∃ ads M wx ds,aB K ads H M/\RW K ads H wx x/\aA K ads H ds vs/\bF K ads H Q (qw me wx ds M)
theorem aA.Ib {K:PySem.W.Frag} {ads:List Addr} {H:Hp} {d:D} {vs:List V} (r:aA K ads H [d] vs):∃ v,vs=[v]/\RD K ads H d v:=by
 unfold aA at r
 obtain ⟨v,r',rfl,h,h2⟩:=r
 unfold aA at h2
 subst h2
 exact ⟨v,rfl,h⟩
theorem aA.Nx {K:PySem.W.Frag} {ads:List Addr} {H:Hp} {vs:List V} (r:aA K ads H [] vs):vs=[]:=by
 unfold aA at r;exact r
theorem aA.Ny {K:PySem.W.Frag} {ads:List Addr} {H:Hp} {d e:D} {vs:List V} (r:aA K ads H [d,e] vs):∃ v w,vs=[v,w]/\RD K ads H d v/\RD K ads H e w:=by
 unfold aA at r
 obtain ⟨v,r',rfl,h,h2⟩:=r
 obtain ⟨w,rfl,h3⟩:=h2.Ib
 exact ⟨v,w,rfl,h,h3⟩
theorem bF.wrote {K : PySem.W.Frag} {ads : List Addr} {H : Hp} {M : Mem} {n : Nat} {a : Addr} {ds es : List D} {ys : List V} {x : D} {Q : VK} {v : V} (h : bF K ads H Q (.ok (.d x) (M.set n (.lst es)))) (m : aB K ads H M) (q : M[n]? = some (.lst ds)) (ea : ads[n]? = some a)
    (ha:∃ xs,H a=some (.lst xs)) (ry:aA K ads H es ys) (rx:RD K ads (upd H a (.lst ys)) x v):Q v (upd H a (.lst ys)):=by
  obtain ⟨xs,ha⟩:=ha
  have nf:∀ o x,H a≠some (.dc o x):=fun o x z=>by rw [ha] at z;cases z
  have g:au ads ads H (upd H a (.lst ys)):=by
    have qS:a∈ads:=jL ea
    exact ⟨⟨[],by simp⟩,fun b h n=>absurd h n,fun b x nb h=>by rw [aj (by intro z;subst z;exact nb qS)];exact h,fun b xs h=>by
      rw [aj (fun z=>by subst z;rw [ha] at h;cases h)];exact h,fun b o u h=>by rw [aj (fun z=>by subst z;exact nf _ _ h)];exact h⟩
  obtain ⟨g',m'⟩:=m.write (o:=.lst es) (ho:=.lst ys) q ea nf ⟨ys,aJ,g.lD _ _ ry⟩
  exact h v _ ads g m' rx
theorem lH:DH X "list.append" (Ia X.K .append):=by
 intro pins s σ H x vs v us Q I rx rv h
 obtain ⟨ads,M,wx,ds,m,r1,r2,h⟩:=h
 rcases wx with ⟨_|_|_|_|_ | n⟩|_ <;> first | exact h.elim | skip
 have r1:RD X.K ads H (.adr n) x:=r1
 unfold RD at r1
 obtain ⟨a,rfl,ea⟩:=r1
 simp only [qw] at h
 cases q:M[n]? with
 | none=>rw [q] at h;exact h.elim
 | some o =>
  rw [q] at h
  cases o with
  | lst es =>
   rcases ds with _|⟨d,_|⟨d2,ds⟩⟩
   ·exact h.elim
   ·dsimp only at h
    split at h
    ·rename_i hz
     obtain ⟨y,rfl,ry⟩:=r2.Ib
     obtain ⟨xs,ha,rd⟩:=m.obj n _ a q ea
     exact lA pins s σ H _ _ v us Q I rx rv ⟨a,xs,y,rfl,rfl,ha,by rw [<- rd.len];exact hz,bF.wrote h m q ea ⟨xs,ha⟩ (rd.app (.one ry)) fE⟩
    ·exact h.elim
   ·exact h.elim
  | gV _=>exact h.elim
  | dK _=>exact h.elim
  | dT _=>exact h.elim
  | dF _=>exact h.elim
theorem AA {K:PySem.W.Frag} {ads:List Addr} {H:Hp}:∀ (is:List Int),aA K ads H (is.map D.int) (is.map V.int)
 | []=>by unfold aA;rfl
 | i::is=>by
  show aA K ads H (D.int i::is.map D.int) (V.int i::is.map V.int)
  unfold aA
  exact ⟨_,_,rfl,bC _,AA is⟩
theorem ints_of {K:PySem.W.Frag} {ads:List Addr} {H:Hp}:∀ {ds:List D} {is:List Int} {xs:List V},fb ds=some is->aA K ads H ds xs->xs=is.map V.int
 | [],_,_,e,r=>by cases e;unfold aA at r;exact r
 | d::ds,_,_,e,r=>by
  unfold aA at r
  obtain ⟨y,r',rfl,h1,h2⟩:=r
  cases d <;> first | cases e | skip
  rename_i b
  have e:(fb ds).map (b::·)=some _:=e
  cases q:fb ds with
  | none=>rw [q] at e;cases e
  | some bs =>
   rw [q] at e
   cases e
   unfold RD at h1
   rw [h1,ints_of q h2]
   rfl
theorem pj:DH X "list.clear" (Ia X.K .clear):=by
 intro pins s σ H x vs v us Q I rx rv h
 obtain ⟨ads,M,wx,ds,m,r1,r2,h⟩:=h
 rcases wx with ⟨_|_|_|_|_ | n⟩|_ <;> first | exact h.elim | skip
 have r1:RD X.K ads H (.adr n) x:=r1
 unfold RD at r1
 obtain ⟨a,rfl,ea⟩:=r1
 simp only [qw] at h
 cases q:M[n]? with
 | none=>rw [q] at h;exact h.elim
 | some o =>
  rw [q] at h
  cases o with
  | lst es =>
   rcases ds with _|⟨d,ds⟩
   ·have e0:=r2.Nx
    subst e0
    obtain ⟨xs,ha,rd⟩:=m.obj n _ a q ea
    exact wH pins s σ H _ _ v us Q I rx rv ⟨a,xs,rfl,rfl,ha,bF.wrote h m q ea ⟨xs,ha⟩ (by unfold aA;rfl) fE⟩
   ·exact h.elim
  | gV _=>exact h.elim
  | dK _=>exact h.elim
  | dT _=>exact h.elim
  | dF _=>exact h.elim
theorem xb {K:PySem.W.Frag} {ads:List Addr} {H:Hp}:∀ {ds:List D} {ks:List Key} {xs:List V},jZ ds=some ks->aA K ads H ds xs->xs=ks.map kV
 | [],_,_,e,r=>by cases e;unfold aA at r;exact r
 | d::ds,_,_,e,r=>by
  unfold aA at r
  obtain ⟨y,r',rfl,h1,h2⟩:=r
  cases d <;> first | cases e | skip
  all_goals
   rename_i b
   have e:(jZ ds).map (_::·)=some _:=e
   cases q:jZ ds with
   | none=>rw [q] at e;cases e
   | some bs =>
    rw [q] at e
    cases e
    unfold RD at h1
    rw [h1,xb q h2]
    rfl
theorem Ci {K:PySem.W.Frag} {ads:List Addr} {H:Hp}:∀ (ks:List Key),aA K ads H (ks.map kD) (ks.map kV)
 | []=>by unfold aA;rfl
 | k::ks=>by
  show aA K ads H (kD k::ks.map kD) (kV k::ks.map kV)
  unfold aA
  refine ⟨_,_,rfl,?_,Ci ks⟩
  cases k with
  | inl i=>exact bC _
  | inr x=>exact mH _
theorem mJ {K:PySem.W.Frag} {ads:List Addr} {H:Hp} {w:W} {v:V} {k:List Key} (r:RW K ads H w v) (e:qX w=some k):∃ b,v=.ref b/\H b=some (.tup (k.map kV)):=by
 rcases w with ⟨_|_|_|_ | ds | _|_⟩|_ <;> first | cases e | skip
 have r:RD K ads H (.tup ds) v:=r
 unfold RD at r
 obtain ⟨b,xs,rfl,hb,rd⟩:=r
 have e:jZ ds=some k:=e
 exact ⟨b,rfl,by rw [<- xb e rd];exact hb⟩
theorem xf {K:PySem.W.Frag} {ads:List Addr} {H:Hp} {M:Mem} {w:W} {v:V} {aa:List (List Key×D)} (m:aB K ads H M) (r:RW K ads H w v) (e:sX M w=some aa):∃ a ks,v=.ref a/\Rd H a (.dT ks)/\bx K ads H aa ks:=by
 rcases w with ⟨_|_|_|_|_ | n | _⟩|_ <;> first | cases e | skip
 have r:RD K ads H (.adr n) v:=r
 unfold RD at r
 obtain ⟨a,rfl,ea⟩:=r
 unfold sX at e
 dsimp only at e
 split at e
 ·rename_i q
  cases e
  obtain ⟨ks,h,rk⟩:=m.obj n _ a q ea
  exact ⟨a,ks,rfl,.inl h,rk⟩
 ·rename_i q
  cases e
  obtain ⟨o,ks,h,rk⟩:=m.obj n _ a q ea
  exact ⟨a,ks,rfl,.inr ⟨o,h⟩,rk⟩
 ·cases e
theorem xg {H:Hp} {a b:Addr} {k:List Key} {ks:List (List Key×V)} (h:Rd H a (.dT ks)) (hb:H b=some (.tup (k.map kV))):gF H a (.ref b) (gX ks k):=.inr ⟨ks,k,b,h,rfl,hb,rfl⟩
theorem Eh {K:PySem.W.Frag} {ads:List Addr} {H:Hp} {a b:Addr} {k:List Key} {aa:List (List Key×D)} {ks:List (List Key×V)} (h:Rd H a (.dT ks)) (hb:H b=some (.tup (k.map kV))) (r:bx K ads H aa ks):∃ o,gF H a (.ref b) o/\o.isSome=(bX aa k).isSome:=by
 refine ⟨_,xg h hb,?_⟩
 cases q:bX aa k with
 | none=>rw [r.sY q];rfl
 | some d =>
  obtain ⟨v,e,_⟩:=r.find (k:=k) q
  rw [e];rfl
def AB:V->List V->Hp->VK->Prop:=fun x vs H Q=>∃ l xs i y,x=.ref l/\vs=[.int i,y]/\H l=some (.lst xs)/\xs.length < sizeLine/\0<=i/\i<=xs.length/\Q .az (upd H l (.lst (xs.take i.toNat++y::xs.drop i.toNat)))
theorem u5:DH X "list.insert" AB:=by
 intro pins s σ H x vs v us Q I rx rv h
 obtain ⟨l,xs,i,y,rfl,rfl,hH,hz,h0,h1,q⟩:=h
 cases rx
 obtain ⟨u,w,rfl,ru,qJ⟩:=rv.two
 obtain ⟨t,rfl⟩:=ru
 obtain ⟨z,aq,n,r,hl,e⟩:=I.qO hH
 have hs:sizeLine=16777216:=sizeLine_eq
 refine call_meets F.slot_list_insert ⟨_,e,rfl⟩ F.entry_list_insert (F.args_list_insert_3 _ _ _) (AutoSeq1.list_insert_list_int_val_1 l aq.toArray n i t w ?_ (by rw [gi];omega)) ⟨e,?_⟩
 ·simp only [Builtin.List.listFitsIndex,Bool.not_eq_true',Bool.not_eq_false]
  have:(i:Int)<=16777216:=by omega
  simp
  omega
 ·refine ⟨.az,_,I.DM (its':=aq.take i.toNat++w::aq.drop i.toNat) hH e ?_ ((r.take _).append (.cons qJ (r.drop _))) ?_,rfl,q⟩
  ·dsimp only
   rw [if_neg (by omega)]
   have hk:min i.toNat aq.toArray.size=i.toNat:=by rw [gi];omega
   rw [hk]
   apply Array.ext'
   simp only [Array.toList_append,Array.toList_push,Array.toList_extract,List.extract_eq_take_drop,gi,List.drop_zero,Nat.sub_zero]
   rw [List.take_of_length_le (l:=List.drop i.toNat aq) (by simp)]
   simp
  ·simp;omega
theorem lI:DH X "list.insert" (Ia X.K .insert):=by
 intro pins s σ H x vs v us Q I rx rv h
 obtain ⟨ads,M,wx,ds,m,r1,r2,h⟩:=h
 rcases wx with ⟨_|_|_|_|_ | n⟩|_ <;> first | exact h.elim | skip
 have r1:RD X.K ads H (.adr n) x:=r1
 unfold RD at r1
 obtain ⟨a,rfl,ea⟩:=r1
 simp only [qw] at h
 cases q:M[n]? with
 | none=>rw [q] at h;exact h.elim
 | some o =>
  rw [q] at h
  cases o with
  | lst es =>
   rcases ds with _|⟨d,_|⟨d2,_|⟨d3,ds⟩⟩⟩
   ·exact h.elim
   ·rcases d with _|_|_|_|_|_ <;> exact h.elim
   ·rcases d with _|_ | i | _|_|_ <;> first | exact h.elim | skip
    dsimp only at h
    split at h
    ·rename_i hz
     obtain ⟨vi,y,rfl,ri,ry⟩:=r2.Ny
     unfold RD at ri
     subst ri
     obtain ⟨xs,ha,rd⟩:=m.obj n _ a q ea
     refine u5 pins s σ H _ _ v us Q I rx rv ⟨a,xs,i,y,rfl,rfl,ha,by rw [<- rd.len];exact hz.1,hz.2.1,by rw [<- rd.len];exact hz.2.2,bF.wrote h m q ea ⟨xs,ha⟩ ((rd.take _).app ?_) fE⟩
     show aA X.K ads H (d2::es.drop i.toNat) (y::xs.drop i.toNat)
     unfold aA
     exact ⟨y,_,rfl,ry,rd.drop _⟩
    ·exact h.elim
   ·rcases d with _|_ | i | _|_|_ <;> exact h.elim
  | gV _=>exact h.elim
  | dK _=>exact h.elim
  | dT _=>exact h.elim
  | dF _=>exact h.elim
def gL (o i:W) (d:D) (M:Mem):Out Unit :=
 match o with
 | .d (.adr n)=>match M[n]? with
  | some (.lst ds)=>match i with
   | .d (.int k)=>match wB ds.length k with
    | some j=>.ok () (M.set n (.lst (ds.set j d)))
    | none=>.stuck
   | _=>.stuck
  | some (.dK aa)=>match i with
   | .d (.str k)=>if aa.length < sizeLine then .ok () (M.set n (.dK (putD aa (Sum.inr k) d))) else .stuck
   | .d (.int k)=>if aa.length < sizeLine then .ok () (M.set n (.dK (putD aa (Sum.inl k) d))) else .stuck
   | _=>.stuck
  | _=>.stuck
 | _=>.stuck
def Nz (K:PySem.W.Frag) (ads:List Addr) (H:Hp) (Q:Hp->Prop):Out Unit->Prop
 | .ok _ M=>∀ H' ao,au ads ao H H'->aB K ao H' M->Q H'
 | _=>False
def NA (K:PySem.W.Frag):zz:=fun o i v H Q=>∃ ads M wo wi d,aB K ads H M/\RW K ads H wo o/\RW K ads H wi i/\RD K ads H d v/\Nz K ads H Q (gL wo wi d M)
theorem Ei (hu:X.A.units+1 < cLine):zA X (NA X.K):=by
 intro pins s σ H o i v ov iv u Q I ro ri rv h
 obtain ⟨ads,M,wo,wi,d,m,r1,r2,r3,h⟩:=h
 rcases wo with ⟨_|_|_|_|_ | n⟩|_ <;> first | exact h.elim | skip
 have r1:RD X.K ads H (.adr n) o:=r1
 unfold RD at r1
 obtain ⟨a,rfl,ea⟩:=r1
 simp only [gL] at h
 cases q:M[n]? with
 | none=>rw [q] at h;exact h.elim
 | some ob =>
  rw [q] at h
  have qS:a∈ads:=jL ea
  cases ob with
  | lst ds =>
   rcases wi with ⟨_|_ | k | _|_|_⟩|_ <;> first | exact h.elim | skip
   have ei:=aE r2
   subst ei
   dsimp only at h
   cases q2:wB ds.length k with
   | none=>rw [q2] at h;exact h.elim
   | some j =>
    rw [q2] at h
    obtain ⟨xs,ha,rd⟩:=m.obj n _ a q ea
    refine set_list pins s σ H _ _ v ov iv u Q I ro ri rv ⟨a,xs,k,j,rfl,rfl,ha,by rw [<- rd.len];exact q2,?_⟩
    have nf:∀ o x,H a≠some (.dc o x):=fun o x z=>by rw [ha] at z;cases z
    have hg:au ads ads H (upd H a (.lst (xs.set j v))):=⟨⟨[],by simp⟩,fun b h n=>absurd h n,fun b x nb h=>by rw [aj (by intro z;subst z;exact nb qS)];exact h,fun b xs h=>by
     rw [aj (fun z=>by subst z;rw [ha] at h;cases h)];exact h,fun b o u h=>by rw [aj (fun z=>by subst z;exact nf _ _ h)];exact h⟩
    obtain ⟨g',m'⟩:=m.write (o:=.lst (ds.set j d)) (ho:=.lst (xs.set j v)) q ea nf ⟨_,aJ,hg.lD _ _ (rd.setAt j r3)⟩
    exact h _ ads hg m'
  | dK aa =>
   obtain ⟨ks,ha,rk⟩:=m.obj n _ a q ea
   have nf:∀ o x,H a≠some (.dc o x):=fun o x z=>by rw [ha] at z;cases z
   have put:∀ (k:Key),i=kV k->aa.length < sizeLine->Nz X.K ads H Q (.ok () (M.set n (.dK (putD aa k d))))->wpAny (model X.prog X.w) X.A (setItem ov iv u) (fun _ s'=>∃ H',Inv X pins σ H' s'/\Q H') X.xe s:=by
    intro k ek hz h
    subst ek
    cases ro
    refine lz hu I (qI.k (k:=k) ha (by rw [<- rk.len];exact hz)) ri rv fun s' I'=>⟨_,I',?_⟩
    have hg:au ads ads H (upd H a (.dK (putK ks k v))):=⟨⟨[],by simp⟩,fun b h n=>absurd h n,fun b x nb h=>by rw [aj (by intro z;subst z;exact nb qS)];exact h,fun b xs h=>by
     rw [aj (fun z=>by subst z;rw [ha] at h;cases h)];exact h,fun b o u h=>by rw [aj (fun z=>by subst z;exact nf _ _ h)];exact h⟩
    obtain ⟨g',m'⟩:=m.write (o:=.dK (putD aa k d)) (ho:=.dK (putK ks k v)) q ea nf ⟨_,aJ,hg.vE _ _ (rk.put r3)⟩
    exact h _ ads hg m'
   rcases wi with ⟨_|_ | k | k | _|_⟩|_ <;> first | exact h.elim | skip
   ·have ei:=aE r2
    subst ei
    dsimp only at h
    split at h
    ·rename_i hz
     exact put (Sum.inl k) rfl hz h
    ·exact h.elim
   ·have ei:=dm r2
    subst ei
    dsimp only at h
    split at h
    ·rename_i hz
     exact put (Sum.inr k) rfl hz h
    ·exact h.elim
  | gV _=>exact h.elim
  | dT _=>exact h.elim
  | dF _=>exact h.elim
def Ic (K:PySem.W.Frag):V->V->V->Hp->(Hp->Prop)->Prop:=fun o i v H Q=>∃ ads M wo wi d,aB K ads H M/\RW K ads H wo o/\RW K ads H wi i/\RD K ads H d v/\Nz K ads H Q (gq wo wi d M)
theorem AD (hu:X.A.units+1 < cLine):zA X (Ic X.K):=by
 intro pins s σ H o i v ov iv u Q I ro ri rv h
 obtain ⟨ads,M,wo,wi,d,m,r1,r2,r3,h⟩:=h
 rcases wo with ⟨_|_|_|_|_ | n⟩|_ <;> first | exact h.elim | skip
 have r1:RD X.K ads H (.adr n) o:=r1
 unfold RD at r1
 obtain ⟨a,rfl,ea⟩:=r1
 have qS:a∈ads:=jL ea
 unfold gq at h
 dsimp only at h
 split at h
 ·rename_i aa k q qk
  split at h
  ·rename_i hz
   obtain ⟨ks,ha,rk⟩:=m.obj n _ a q ea
   have nf:∀ o x,H a≠some (.dc o x):=fun o x z=>by rw [ha] at z;cases z
   obtain ⟨b,rfl,hb⟩:=mJ r2 qk
   cases ro
   refine lz hu I (qI.t (k:=k) ha hb (by rw [<- rk.len];exact hz)) ri rv fun s' I'=>⟨_,I',?_⟩
   have hg:au ads ads H (upd H a (.dT (putK ks k v))):=⟨⟨[],by simp⟩,fun b h n=>absurd h n,fun b x nb h=>by rw [aj (by intro z;subst z;exact nb qS)];exact h,fun b xs h=>by
    rw [aj (fun z=>by subst z;rw [ha] at h;cases h)];exact h,fun b o u h=>by rw [aj (fun z=>by subst z;exact nf _ _ h)];exact h⟩
   obtain ⟨g',m'⟩:=m.write (o:=.dT (putD aa k d)) (ho:=.dT (putK ks k v)) q ea nf ⟨_,aJ,hg.vE _ _ (rk.put r3)⟩
   exact h _ ads hg m'
  ·exact h.elim
 ·exact h.elim
end
structure CC where
 N:List Str
 names:List (Str×NameKind)
 fs:List (Str×Nat)
 gs:List (Str×Int)
def Gi (cc:CC) (x:Str):Bool:=match cc.names.lookup x with
 | some .local=>true
 | some .cell=>true
 | some .free=>true
 | _=>false
def glob (cc:CC) (x:Str):Bool:=match cc.names.lookup x with
 | some .globalImplicit=>true
 | _=>false
def cD (x:Str):Bool:=!(x == ("__debug__" : Str)) && !(x == ("__classdict__" : Str)) && !(x == ("__name__" : Str))
theorem bu {p:Prop} [d:Decidable p] {f:p->Bool} (h:(if h:p then f h else false)=true):p:=by
 cases d with
 | isTrue q=>exact q
 | isFalse q=>rw [dif_neg q] at h;exact absurd h bO
def eN (e:Expr) (f:BoolOp->List Expr->Pos->Bool):Bool:=if h:e.ctorIdx=0 then Expr.BoolOp.elim (motive_1:=fun _=>Bool) e h f else false
theorem ez {P:Expr->Prop} {e:Expr} {f:BoolOp->List Expr->Pos->Bool} (h:eN e f=true) (k:∀ a b c,f a b c=true->P (.BoolOp a b c)):P e :=
 Expr.BoolOp.elim (motive_1:=fun e=>eN e f=true->P e) e (bu h) (fun a b c h=>k a b c h) h
def mK (e:Expr) (f:Expr->Operator->Expr->Pos->Bool):Bool:=if h:e.ctorIdx=2 then Expr.BinOp.elim (motive_1:=fun _=>Bool) e h f else false
theorem qZ {P:Expr->Prop} {e:Expr} {f:Expr->Operator->Expr->Pos->Bool} (h:mK e f=true) (k:∀ a b c d,f a b c d=true->P (.BinOp a b c d)):P e :=
 Expr.BinOp.elim (motive_1:=fun e=>mK e f=true->P e) e (bu h) (fun a b c d h=>k a b c d h) h
def dM (e:Expr) (f:UnaryOp->Expr->Pos->Bool):Bool:=if h:e.ctorIdx=3 then Expr.UnaryOp.elim (motive_1:=fun _=>Bool) e h f else false
theorem dD {P:Expr->Prop} {e:Expr} {f:UnaryOp->Expr->Pos->Bool} (h:dM e f=true) (k:∀ a b c,f a b c=true->P (.UnaryOp a b c)):P e :=
 Expr.UnaryOp.elim (motive_1:=fun e=>dM e f=true->P e) e (bu h) (fun a b c h=>k a b c h) h
def mL (e:Expr) (f:Expr->Expr->Expr->Pos->Bool):Bool:=if h:e.ctorIdx=5 then Expr.IfExp.elim (motive_1:=fun _=>Bool) e h f else false
theorem q_ {P:Expr->Prop} {e:Expr} {f:Expr->Expr->Expr->Pos->Bool} (h:mL e f=true) (k:∀ a b c d,f a b c d=true->P (.IfExp a b c d)):P e :=
 Expr.IfExp.elim (motive_1:=fun e=>mL e f=true->P e) e (bu h) (fun a b c d h=>k a b c d h) h
def mM (e:Expr) (f:List (Option Expr)->List Expr->Pos->Bool):Bool:=if h:e.ctorIdx=6 then Expr.Dict.elim (motive_1:=fun _=>Bool) e h f else false
theorem lJ {P:Expr->Prop} {e:Expr} {f:List (Option Expr)->List Expr->Pos->Bool} (h:mM e f=true) (k:∀ a b c,f a b c=true->P (.Dict a b c)):P e :=
 Expr.Dict.elim (motive_1:=fun e=>mM e f=true->P e) e (bu h) (fun a b c h=>k a b c h) h
def eY (e:Expr) (f:Expr->List Comprehension->Scope->Pos->Bool):Bool:=if h:e.ctorIdx=8 then Expr.ListComp.elim (motive_1:=fun _=>Bool) e h f else false
theorem gw {P:Expr->Prop} {e:Expr} {f:Expr->List Comprehension->Scope->Pos->Bool} (h:eY e f=true) (k:∀ a b c d,f a b c d=true->P (.ListComp a b c d)):P e :=
 Expr.ListComp.elim (motive_1:=fun e=>eY e f=true->P e) e (bu h) (fun a b c d h=>k a b c d h) h
def dN (e:Expr) (f:Expr->List CmpOp->List Expr->Pos->Bool):Bool:=if h:e.ctorIdx=15 then Expr.Compare.elim (motive_1:=fun _=>Bool) e h f else false
theorem dE {P:Expr->Prop} {e:Expr} {f:Expr->List CmpOp->List Expr->Pos->Bool} (h:dN e f=true) (k:∀ a b c d,f a b c d=true->P (.Compare a b c d)):P e :=
 Expr.Compare.elim (motive_1:=fun e=>dN e f=true->P e) e (bu h) (fun a b c d h=>k a b c d h) h
def dq (e:Expr) (f:Expr->List Expr->List Keyword->Pos->Bool):Bool:=if h:e.ctorIdx=16 then Expr.Call.elim (motive_1:=fun _=>Bool) e h f else false
theorem cv {P:Expr->Prop} {e:Expr} {f:Expr->List Expr->List Keyword->Pos->Bool} (h:dq e f=true) (k:∀ a b c d,f a b c d=true->P (.Call a b c d)):P e :=
 Expr.Call.elim (motive_1:=fun e=>dq e f=true->P e) e (bu h) (fun a b c d h=>k a b c d h) h
def bU (e:Expr) (f:Const->Nat->Pos->Bool):Bool:=if h:e.ctorIdx=19 then Expr.Constant.elim (motive_1:=fun _=>Bool) e h f else false
theorem bD {P:Expr->Prop} {e:Expr} {f:Const->Nat->Pos->Bool} (h:bU e f=true) (k:∀ a b c,f a b c=true->P (.Constant a b c)):P e :=
 Expr.Constant.elim (motive_1:=fun e=>bU e f=true->P e) e (bu h) (fun a b c h=>k a b c h) h
def dg (e:Expr) (f:Expr->Str->Pos->Bool):Bool:=if h:e.ctorIdx=20 then Expr.Attribute.elim (motive_1:=fun _=>Bool) e h f else false
theorem dS {P:Expr->Prop} {e:Expr} {f:Expr->Str->Pos->Bool} (h:dg e f=true) (k:∀ a b c,f a b c=true->P (.Attribute a b c)):P e :=
 Expr.Attribute.elim (motive_1:=fun e=>dg e f=true->P e) e (bu h) (fun a b c h=>k a b c h) h
def bS (e:Expr) (f:Expr->Expr->Pos->Bool):Bool:=if h:e.ctorIdx=21 then Expr.Subscript.elim (motive_1:=fun _=>Bool) e h f else false
theorem bI {P:Expr->Prop} {e:Expr} {f:Expr->Expr->Pos->Bool} (h:bS e f=true) (k:∀ a b c,f a b c=true->P (.Subscript a b c)):P e :=
 Expr.Subscript.elim (motive_1:=fun e=>bS e f=true->P e) e (bu h) (fun a b c h=>k a b c h) h
def cL (e:Expr) (f:Str->Pos->Bool):Bool:=if h:e.ctorIdx=23 then Expr.Name.elim (motive_1:=fun _=>Bool) e h f else false
theorem bq {P:Expr->Prop} {e:Expr} {f:Str->Pos->Bool} (h:cL e f=true) (k:∀ a b,f a b=true->P (.Name a b)):P e :=
 Expr.Name.elim (motive_1:=fun e=>cL e f=true->P e) e (bu h) (fun a b h=>k a b h) h
def rf (e:Expr) (f:List Expr->Pos->Bool):Bool:=if h:e.ctorIdx=24 then Expr.List.elim (motive_1:=fun _=>Bool) e h f else false
theorem u6 {P:Expr->Prop} {e:Expr} {f:List Expr->Pos->Bool} (h:rf e f=true) (k:∀ a b,f a b=true->P (.List a b)):P e :=
 Expr.List.elim (motive_1:=fun e=>rf e f=true->P e) e (bu h) (fun a b h=>k a b h) h
def jv (e:Expr) (f:List Expr->Nat->Pos->Bool):Bool:=if h:e.ctorIdx=25 then Expr.Tuple.elim (motive_1:=fun _=>Bool) e h f else false
theorem gM {P:Expr->Prop} {e:Expr} {f:List Expr->Nat->Pos->Bool} (h:jv e f=true) (k:∀ a b c,f a b c=true->P (.Tuple a b c)):P e :=
 Expr.Tuple.elim (motive_1:=fun e=>jv e f=true->P e) e (bu h) (fun a b c h=>k a b c h) h
def jw (e:Expr) (f:Option Expr->Option Expr->Option Expr->Pos->Bool):Bool:=if h:e.ctorIdx=26 then Expr.Slice.elim (motive_1:=fun _=>Bool) e h f else false
theorem j4 {P:Expr->Prop} {e:Expr} {f:Option Expr->Option Expr->Option Expr->Pos->Bool} (h:jw e f=true) (k:∀ a b c d,f a b c d=true->P (.Slice a b c d)):P e :=
 Expr.Slice.elim (motive_1:=fun e=>jw e f=true->P e) e (bu h) (fun a b c d h=>k a b c d h) h
def g_ (e:Stmt) (f:Option Expr->Pos->Bool):Bool:=if h:e.ctorIdx=3 then Stmt.Return.elim (motive_2:=fun _=>Bool) e h f else false
theorem jb {P:Stmt->Prop} {e:Stmt} {f:Option Expr->Pos->Bool} (h:g_ e f=true) (k:∀ a b,f a b=true->P (.Return a b)):P e :=
 Stmt.Return.elim (motive_2:=fun e=>g_ e f=true->P e) e (bu h) (fun a b h=>k a b h) h
def eO (e:Stmt) (f:List Expr->Expr->Pos->Bool):Bool:=if h:e.ctorIdx=5 then Stmt.Assign.elim (motive_2:=fun _=>Bool) e h f else false
theorem eA {P:Stmt->Prop} {e:Stmt} {f:List Expr->Expr->Pos->Bool} (h:eO e f=true) (k:∀ a b c,f a b c=true->P (.Assign a b c)):P e :=
 Stmt.Assign.elim (motive_2:=fun e=>eO e f=true->P e) e (bu h) (fun a b c h=>k a b c h) h
def xh (e:Stmt) (f:Expr->Expr->List Stmt->List Stmt->Pos->Bool):Bool:=if h:e.ctorIdx=9 then Stmt.For.elim (motive_2:=fun _=>Bool) e h f else false
theorem xi {P:Stmt->Prop} {e:Stmt} {f:Expr->Expr->List Stmt->List Stmt->Pos->Bool} (h:xh e f=true) (k:∀ a b c d e,f a b c d e=true->P (.For a b c d e)):P e :=
 Stmt.For.elim (motive_2:=fun e=>xh e f=true->P e) e (bu h) (fun a b c d e h=>k a b c d e h) h
def Ej (e:Stmt) (f:Expr->List Stmt->List Stmt->Pos->Bool):Bool:=if h:e.ctorIdx=12 then Stmt.If.elim (motive_2:=fun _=>Bool) e h f else false
theorem AE {P:Stmt->Prop} {e:Stmt} {f:Expr->List Stmt->List Stmt->Pos->Bool} (h:Ej e f=true) (k:∀ a b c d,f a b c d=true->P (.If a b c d)):P e :=
 Stmt.If.elim (motive_2:=fun e=>Ej e f=true->P e) e (bu h) (fun a b c d h=>k a b c d h) h
def rg (e:Stmt) (f:Expr->Pos->Bool):Bool:=if h:e.ctorIdx=24 then Stmt.Expr.elim (motive_2:=fun _=>Bool) e h f else false
theorem u7 {P:Stmt->Prop} {e:Stmt} {f:Expr->Pos->Bool} (h:rg e f=true) (k:∀ a b,f a b=true->P (.Expr a b)):P e :=
 Stmt.Expr.elim (motive_2:=fun e=>rg e f=true->P e) e (bu h) (fun a b h=>k a b h) h
def rh (e:Stmt) (f:Pos->Bool):Bool:=if h:e.ctorIdx=25 then Stmt.Pass.elim (motive_2:=fun _=>Bool) e h f else false
theorem u9 {P:Stmt->Prop} {e:Stmt} {f:Pos->Bool} (h:rh e f=true) (k:∀ a,f a=true->P (.Pass a)):P e :=
 Stmt.Pass.elim (motive_2:=fun e=>rh e f=true->P e) e (bu h) (fun a h=>k a h) h
def mN (e:Stmt) (f:Pos->Bool):Bool:=if h:e.ctorIdx=26 then Stmt.Break.elim (motive_2:=fun _=>Bool) e h f else false
theorem rl {P:Stmt->Prop} {e:Stmt} {f:Pos->Bool} (h:mN e f=true) (k:∀ a,f a=true->P (.Break a)):P e :=
 Stmt.Break.elim (motive_2:=fun e=>mN e f=true->P e) e (bu h) (fun a h=>k a h) h
def gO (e:Stmt) (f:Pos->Bool):Bool:=if h:e.ctorIdx=27 then Stmt.Continue.elim (motive_2:=fun _=>Bool) e h f else false
theorem kY {P:Stmt->Prop} {e:Stmt} {f:Pos->Bool} (h:gO e f=true) (k:∀ a,f a=true->P (.Continue a)):P e :=
 Stmt.Continue.elim (motive_2:=fun e=>gO e f=true->P e) e (bu h) (fun a h=>k a h) h
def isInt (k:Int):Const->Bool
 | .int j=>k == j
 | _=>false
def AF:Const->Bool
 | .none=>true
 | _=>false
def isNone (e:Expr):Bool:=bU e fun c _ _=>AF c
def AG:Const->Bool
 | .bool true=>true
 | _=>false
def mO (e:Expr):Bool:=bU e fun c _ _=>AG c
def tj:BoolOp->Bool
 | .And=>true
 | .Or=>false
def xj:UnaryOp->Bool
 | .USub=>true
 | _=>false
def Cj:UnaryOp->Bool
 | .Not=>true
 | _=>false
def dG (e:Expr):Bool:=!Nat.beq e.ctorIdx 26
def fO (e:Expr):Bool:=[23,16,21,24,25,19,2].contains e.ctorIdx
def dU (e:Expr):Bool:=!(dq e fun f as ks _=>Nat.beq f.ctorIdx 23 && as.isEmpty && ks.isEmpty)
def notStar (e:Expr):Bool:=!Nat.beq e.ctorIdx 22
def xk:Bi->Str
 | .len => "len" | .max2 => "max" | .min2 => "min" | .oW => "int" | .list1 => "list" | .tuple1 => "tuple" | .ee => "repr" | .mF _ => "isinstance" | .all1 => "all" | .Ak => "any" | .lE => "dict" | .min1 => "min" | .Al => "max"
def xl:Me->Str
 | .append => "append" | .insert => "insert" | .reverse => "reverse" | .extend => "extend" | .remove => "remove" | .clear => "clear"
def bW:List Str:=["len","max","min","int","list","tuple","repr","isinstance","all","any","bool","str","dict","range","enumerate","zip"]
def Ie:Me->Bool
 | .append=>true | .insert=>true | .reverse=>false | .extend=>false | .remove=>false | .clear=>true
def Ek:Bi->Bool
 | .all1=>false
 | .Ak=>false
 | .min1=>false
 | .Al=>false
 | .mF _=>false
 | _=>true
def isStr (k:Str):Const->Bool
 | .str s=>k == s
 | _=>false
def strKeys:List Str->List (Option Expr)->Bool
 | [],[]=>true
 | k::ks,some e::es=>(bU e fun c _ _=>isStr k c) && strKeys ks es
 | _,_=>false
def dW (sc:Scope):List Str:=(sc.names.filter fun y=>y.2 == .local || y.2 == .free || y.2 == .cell).map (·.1)
def j5 (cc:CC) (sc:Scope):List (Option Nat):=(dW sc).map fun x=>if sc.names.lookup x == some .free then cc.N.findIdx? (· == x) else none
def mP (cc:CC) (sc:Scope):CC:=⟨dW sc,sc.names,cc.fs,cc.gs⟩
def pk (cc:CC) (sc:Scope):Bool:=sc.kind == .function && sc.names.all (fun y=>y.2 != .cell || sc.names.lookup y.1 == some .cell) && sc.names.all (fun y=>y.2 != .local || sc.names.lookup y.1 == some .local) && decide (dW sc).Nodup &&
 sc.names.all (fun y=>y.2 != .free || (sc.names.lookup y.1 == some .free && (cc.names.lookup y.1 == some .cell || cc.names.lookup y.1 == some .free)))
def hG (cc:CC):List Nat->List Expr->Bool
 | [],[]=>true
 | i::tg,e::es=>(cL e fun x _=>cc.N[i]? == some x && (cc.names.lookup x == some .local || cc.names.lookup x == some .cell)) && hG cc tg es
 | _,_=>false
def gx (cc:CC) (tg:List Nat) (e:Expr):Bool:=match tg with
 | []=>false
 | [i]=>hG cc [i] [e]
 | i::j::r=>jv e fun es _ _=>hG cc (i::j::r) es && decide ((i::j::r).length < 20)
def fP (e:Expr):Bool:=Nat.beq e.ctorIdx 25
def cM (e:Expr):Bool:=!Nat.beq e.ctorIdx 7
def NB:D->Const->Bool
 | .int i,.int j=>i == j
 | .bl i,.bool j=>i == j
 | .str i,.str j=>i == j
 | .az,.none=>true
 | _,_=>false
def El:D->Const->Bool
 | .int i,.int j=>i == -j
 | _,_=>false
def xm (d:D) (e:Expr):Bool:=(bU e fun c _ _=>NB d c) || dM e fun op x _=>xj op && bU x fun c _ _=>El d c
def xn:Bi->Option Ty
 | .mF t=>some t
 | _=>none
theorem rm {b:Bi} {t:Ty} (h:xn b=some t):b=.mF t:=by
 cases b <;> first | (cases h;rfl) | cases h
mutual
def aW (cc:CC):C->Expr->Bool
 | .var i,e=>cL e fun x _=>cc.N[i]? == some x && Gi cc x && cD x
 | .cst d,e=>xm d e
 | .bin op a b,e=>mK e fun l o r _=>o == Ap op && aW cc a l && aW cc b r
 | .cmp op a b,e=>dN e fun l os rs _=>match os,rs with
  | [o],[r]=>o == D5 op && !behindInMarks o r && (if op=.oV\/op=.eW then isNone r else true) && aW cc a l && aW cc b r
  | _,_=>false
 | .chain o1 o2 a b c,e=>dN e fun l os rs _=>match os,rs with
  | [p,q],[m,r]=>p == D5 o1 && q == D5 o2 && !lastMarks [p,q] [m,r] && !(decide (o1=.oV) || decide (o1=.eW) || decide (o2=.oV) || decide (o2=.eW)) && aW cc a l && aW cc b m && aW cc c r
  | _,_=>false
 | .dj cs,e=>eN e fun op es _=>tj op && bQ cc cs es && !es.isEmpty
 | .d7 cs,e=>eN e fun op es _=>!tj op && bQ cc cs es && !es.isEmpty
 | .neg a,e=>dM e fun op x _=>Cj op && aW cc a x
 | .ite t a b,e=>mL e fun c x y _=>iM cc t c && aW cc a x && aW cc b y
 | .tup cs,e=>jv e fun es _ _=>bQ cc cs es
 | .lst cs,e=>rf e fun es _=>bQ cc cs es
 | .sub a b,e=>bS e fun e i _=>dG i && aW cc a e && aW cc b i
 | .kU a lo hi,e=>bS e fun e i _=>jw i fun l h st _=>st.isNone && aW cc a e && Em cc lo l && Em cc hi h
 | .zf a k,e=>bS e fun e i _=>jw i fun l h st _=>match l,h,st with
  | none,none,some ke=>((bU ke fun c _ _=>isInt k c) || dM ke fun op x _=>xj op && bU x fun c _ _=>isInt (-k) c) && aW cc a e
  | _,_,_=>false
 | .jW a b,e=>false
 | .call f cs,e=>dq e fun fe args dX _=>cL fe fun x _=>match args,dX with
  | e::es,[]=>cc.fs[f]? == some (x,cs.length) && glob cc x && cD x && bQ cc cs (e::es)
  | _,_=>false
 | .bi b cs,e=>dq e fun fe args dX _=>cL fe fun x _=>dX.isEmpty && x == xk b && glob cc x && match xn b,args with
  | some t,[e,f]=>(cL f fun y _=>y == Str.ofString (ph t) && glob cc y && decide (t≠.none)) && bQ cc cs [e]
  | none,e::es=>Ek b && bQ cc cs (e::es)
  | _,_=>false
 | .me m o cs,e=>dq e fun fe es dX cp=>dg fe fun e n ap=>dX.isEmpty && n == xl m && Ie m && ap.endLine == cp.line && dU e && aW cc o e && bQ cc cs es && decide (es.length < 20)
 | .vD ks cs,e=>mM e fun keys vs _=>(strKeys ks keys && decide ks.Nodup && !keys.isEmpty && decide (keys.length<=15) && bQ cc cs vs && decide (ks.length=cs.length)) || (ks.isEmpty && cs.isEmpty && keys.isEmpty && vs.isEmpty)
 | .jf tp cs,e=>false
 | .Cc x v,e=>cL e fun y _=>y == x && glob cc x && cD x && cc.gs.lookup x == some v
 | .fC ng a,e=>dN e fun l os rs _=>match os,rs with
  | [o],[r]=>o == (if ng=true then CmpOp.IsNot else CmpOp.Is) && !behindInMarks o r && mO r && aW cc a l
  | _,_=>false
 | .ji,e=>mM e fun keys vs _=>keys.isEmpty && vs.isEmpty
 | .gc a b,e=>bS e fun e i _=>dG i && aW cc a e && aW cc b i
 | .fB ng a b,e=>dN e fun l os rs _=>match os,rs with
  | [o],[r]=>o == (if ng=true then CmpOp.NotIn else CmpOp.In) && !behindInMarks o r && aW cc a l && aW cc b r
  | _,_=>false
 | .jk a,e=>dq e fun fe args dX _=>cL fe fun x _=>match args,dX with
  | [e],[]=>x == "len" && glob cc x && notStar e && aW cc a e
  | _,_=>false
 | .kW a,e=>dq e fun fe args dX cp=>dg fe fun e n ap=>match args,dX with
  | [],[]=>n == "clear" && ap.endLine == cp.line && dU e && aW cc a e
  | _,_=>false
 | .cnt a b,e=>dq e fun fe args dX cp=>dg fe fun e n ap=>match args,dX with
  | [x],[]=>n == "count" && ap.endLine == cp.line && dU e && notStar x && aW cc a e && aW cc b x
  | _,_=>false
 | .qT a,e=>false
 | .minD a b,e=>false
 | .comp k src tg cond elt cj,e=>eY e fun el gens sc _=>match gens with
  | [⟨t,iter,ifs,as⟩]=>as == 0 && pk cc sc && decide (cj=j5 cc sc) && mQ cc k src t iter && gx (mP cc sc) tg t && AH (mP cc sc) cond ifs && aW (mP cc sc) elt el
  | _=>false
def AH (cc:CC):Option dQ->List Expr->Bool
 | none,[]=>true
 | some t,[e]=>iM cc t e
 | _,_=>false
def mQ (cc:CC):SK->List C->Expr->Expr->Bool
 | .seq,[c],_,e=>cM e && aW cc c e
 | .cB,[c],_,e=>dq e fun fe args dX _=>cL fe fun x _=>match args,dX with
  | [a],[]=>x == "range" && glob cc x && notStar a && aW cc c a
  | _,_=>false
 | .kT,[c,d],_,e=>dq e fun fe args dX _=>cL fe fun x _=>match args,dX with
  | [a,b],[]=>x == "range" && glob cc x && notStar a && notStar b && aW cc c a && aW cc d b
  | _,_=>false
 | .enum,[c],t,e=>dq e fun fe args dX _=>cL fe fun x _=>match args,dX with
  | [a],[]=>x == "enumerate" && fP t && glob cc x && notStar a && aW cc c a
  | _,_=>false
 | .keys,[c],_,e=>cM e && aW cc c e
 | _,_,_,_=>false
def iM (cc:CC):dQ->Expr->Bool
 | .dj ts,e=>eN e fun op es _=>tj op && j6 cc ts es && !es.isEmpty
 | .d7 ts,e=>eN e fun op es _=>!tj op && j6 cc ts es && !es.isEmpty
 | .neg a,e=>dM e fun op x _=>Cj op && iM cc a x
 | .val (.cmp op a b),e=>aW cc (.cmp op a b) e
 | .val (.chain o1 o2 a b c),e=>aW cc (.chain o1 o2 a b c) e
 | .val (.fC ng a),e=>aW cc (.fC ng a) e
 | .val (.fB ng a b),e=>aW cc (.fB ng a b) e
 | .val c,e=>fO e && aW cc c e
def j6 (cc:CC):List dQ->List Expr->Bool
 | [],[]=>true
 | c::cs,e::es=>iM cc c e && j6 cc cs es
 | _,_=>false
def bQ (cc:CC):List C->List Expr->Bool
 | [],[]=>true
 | c::cs,e::es=>notStar e && aW cc c e && bQ cc cs es
 | _,_=>false
def Em (cc:CC):Option C->Option Expr->Bool
 | none,none=>true
 | some c,some e=>aW cc c e
 | _,_=>false
end
def Eo (X:Cx) (x:Str):NameKind->Prop
 | .local=>X.env.kindOf x=some .local
 | .cell=>X.env.kindOf x=some .cell
 | .free=>X.env.kindOf x=some .cell\/X.env.kindOf x=some .free
 | .globalImplicit=>X.env.kindOf x=some .globalImplicit
 | _=>True
def AI (K:PySem.W.Frag) (n:Nat) (F:List D->Mem->Out W):Sp:=fun vs H Q _=>∃ ads M ds,aB K ads H M/\aA K ads H ds vs/\ds.length=n/\bF K ads H Q (F ds M)
structure Good (kk:Nat) (X:Cx) (cc:CC) (G:aL):Prop where
 calm:X.calm=true
 room:fv kk X.A
 N:X.N=cc.N
 nd:cc.N.Nodup
 kinds:∀ x k,cc.names.lookup x=some k->Eo X x k
 RO:∀ x,cc.names.lookup x=some .cell->X.fn x=true
 blt:∀ b∈bW,X.mg b=none
 O7:∀ (x:Str) (v:Int),cc.gs.lookup x=some v->∃ t,X.mg x=some (.int v t)
 fns:∀ (i:Nat) (x:Str) (n:Nat),cc.fs[i]?=some (x,n)->∃ f fd ps,fw X.prog X.w X.K X.mg X.base uN kk f fd ps (AI X.K n (G i))/\X.mg x=some (.ref f)/\PySem.W.keepIn X.K (.ref f)=true/\Binds X.K fd ps []
section
variable {kk:Nat} {X:Cx} {cc:CC} {G:aL}
theorem Good.Gi (g:Good kk X cc G) {x:Str} (h:Gi cc x=true):LW X.env.scope x:=by
 unfold Ev.Gi at h
 split at h
 ·rename_i q;exact .inl (g.kinds x _ q)
 ·rename_i q;exact .inr (.inl (g.kinds x _ q))
 ·rename_i q
  rcases g.kinds x _ q with z | z
  ·exact .inr (.inl z)
  ·exact .inr (.inr z)
 ·cases h
theorem Good.gl (g:Good kk X cc G) {x:Str} (h:glob cc x=true):Gl X x:=by
 unfold glob at h
 split at h
 ·rename_i q;exact g.kinds x _ q
 ·cases h
theorem iN {x:Str} (h:cD x=true):(x == ("__debug__" : Str))=false/\(x == ("__classdict__" : Str))=false/\x≠("__name__" : Str):=by
 unfold cD at h
 simp only [bH,Bool.not_eq_true'] at h
 exact ⟨h.1.1,h.1.2,fun z=>by rw [z] at h;simp at h⟩
theorem dH {e:Expr} {t u:TE} (h:PE X e t) (f:∀ σ H Q,u σ H Q->t σ H Q):PE X e u:=fun pins s σ H Q I q=>h pins s σ H Q I (f σ H Q q)
theorem zj {e:Expr} {t u:TT} (h:PT X e t) (f:∀ σ H Q,u σ H Q->t σ H Q):PT X e u:=fun pins s σ H Q I q=>h pins s σ H Q I (f σ H Q q)
theorem KN {e:Expr} {t u:TT} (h:PW X e t) (f:∀ σ H Q,u σ H Q->t σ H Q):PW X e u:=fun wh pins s σ H Q I q=>h wh pins s σ H Q I (f σ H Q q)
theorem KO {e:List Expr} {t u:TA} (h:PA X e t) (f:∀ σ H Q,u σ H Q->t σ H Q):PA X e u:=fun p pins s σ H Q I q=>h p pins s σ H Q I (f σ H Q q)
theorem aR {e:Expr} (h:notStar e=true) (es:List Expr) (env:Env):starEach (e::es) env=(false,eval e env)::starEach es env:=by
 cases e <;> first | rfl | exact absurd (show false=true from h) bO
theorem Ig {i:Nat} {e:Expr} (g:Good kk X cc G) (h:aW cc (.var i) e=true):PE X e (tE X.K (ev G (.var i))):=by
 refine bq (P:=fun e=>PE X e _) h fun x pos h=>?_
 have h:(cc.N[i]? == some x && Gi cc x && cD x)=true:=h
 simp only [bH,beq_iff_eq] at h
 obtain ⟨⟨h1,h2⟩,h3⟩:=h
 obtain ⟨d1,d2,_⟩:=iN h3
 refine dH (C3 (i:=i) (by rw [g.N];exact h1) (g.Gi h2) d1 d2) fun σ H Q q=>?_
 obtain ⟨ads,M,ρ,s,q⟩:=q
 simp only [ev] at q
 split at q
 ·rename_i d e
  obtain ⟨v,Nu,r⟩:=s.en i d e
  exact ⟨v,Nu,q.plain s.mem r⟩
 ·exact q.elim
theorem pq {d:D} {v:V} (hd:∀ ads H,RD X.K ads H d v) (σ:L2.St) (H:Hp) (Q:VK) (h:tE X.K (ev G (.cst d)) σ H Q):tC v σ H Q:=by
 obtain ⟨ads,M,ρ,s,q⟩:=h
 exact bF.plain q s.mem (hd _ _)
theorem Ih {d:D} {e:Expr} (h:aW cc (.cst d) e=true):PE X e (tE X.K (ev G (.cst d))):=by
 replace h:xm d e=true:=h
 rcases (Bool.or_eq_true _ _).mp h with h | h
 case inr =>
  refine dD (P:=fun e=>PE X e _) h fun op x pos h=>?_
  replace h:=(bH _ _).mp h
  have h0:=h.1
  replace h:=h.2
  cases op <;> first | exact absurd (show false=true from h0) bO | skip
  refine bD (P:=fun x=>PE X (.UnaryOp .USub x pos) _) h fun c j p h=>?_
  clear h0
  rcases d with _|_ | i | _|_|_|_ <;> first | exact absurd (show false=true from h) bO | skip
  rcases c with _|_ | k | _|_|_|_|_ <;> first | exact absurd (show false=true from h) bO | skip
  have h:i=-k:=eq_of_beq h
  subst h
  exact dH (B4 v3 ma) fun σ H Q q=>⟨k,rfl,pq (fun _ _=>bC _) σ H Q q⟩
 refine bD (P:=fun e=>PE X e _) h fun c j pos h=>?_
 cases d with
 | int i =>
  cases c <;> first | exact absurd (show false=true from h) bO | skip
  have h:=eq_of_beq (show (i == _)=true from h)
  subst h
  exact dH ma (pq fun _ _=>bC _)
 | bl i =>
  cases c <;> first | exact absurd (show false=true from h) bO | skip
  have h:=eq_of_beq (show (i == _)=true from h)
  subst h
  exact dH BY (pq fun _ _=>gv _)
 | str i =>
  cases c <;> first | exact absurd (show false=true from h) bO | skip
  have h:=eq_of_beq (show (i == _)=true from h)
  subst h
  exact dH vQ (pq fun _ _=>mH _)
 | az =>
  cases c <;> first | exact absurd (show false=true from h) bO | skip
  exact dH C4 (pq fun _ _=>fE)
 | tup _=>cases h
 | adr _=>cases h
 | ls _=>cases h
theorem Ii {op:ze} {a b:C} {e:Expr} (pv:∀ e,aW cc a e=true->PE X e (tE X.K (ev G a))) (zk:∀ e,aW cc b e=true->PE X e (tE X.K (ev G b))) (h:aW cc (.bin op a b) e=true):PE X e (tE X.K (ev G (.bin op a b))):=by
 refine qZ (P:=fun e=>PE X e _) h fun l o r pos h=>?_
 have h:(o == Ap op && aW cc a l && aW cc b r)=true:=h
 simp only [bH,beq_iff_eq] at h
 obtain ⟨⟨rfl,h1⟩,h2⟩:=h
 refine dH (G8 (D4 op) (pv l h1) (zk r h2)) fun σ H Q q=>?_
 exact two (fun m r1 r2 h=>⟨_,_,_,_,m,r1,r2,h⟩) q
theorem rn {K:PySem.W.Frag} {ads:List Addr} {H:Hp} {Q:VK} {o:Out Bool} (h:bF K ads H Q (o.bind fun r M=>.ok (.d (.bl r)) M)):Ar K ads H Q o:=by
 cases o with
 | ok b M=>exact fun H' ao g m=>h (.bl b) H' ao g m (show RD K ao H' (.bl b) _ from gv _)
 | err _ _=>exact h
 | stuck=>exact h
theorem xo {b:C} {e:Expr} (hn:isNone e=true) (hb:aW cc b e=true):b=.cst .az:=by
 revert hb
 refine bD (P:=fun e=>aW cc b e=true->b=.cst .az) hn fun c j pos hn hb=>?_
 cases c <;> first | cases hn | skip
 cases b <;> first | exact absurd (show false=true from hb) bO | skip
 rename_i d
 cases d <;> first | rfl | exact absurd (show false=true from hb) bO
theorem Ck {op : u0} {a b : C} {e : Expr} (g : Good kk X cc G) (pv : ∀ e, aW cc a e = true -> PE X e (tE X.K (ev G a))) (zk : ∀ e, aW cc b e = true -> PE X e (tE X.K (ev G b))) (h : aW cc (.cmp op a b) e = true) :
    PE X e (tE X.K (ev G (.cmp op a b)))/\PT X e (fu (tE X.K (ev G (.cmp op a b)))):=by
  refine dE (P:=fun e=>PE X e (tE X.K (ev G (.cmp op a b)))/\PT X e (fu (tE X.K (ev G (.cmp op a b))))) h fun l ops rs pos h=>?_
  rcases ops with _|⟨o,_|⟨o2,ops⟩⟩ <;> rcases rs with _|⟨r,_|⟨r2,rs⟩⟩ <;> first | exact absurd (show false=true from h) bO | skip
  have h:(o == D5 op && !behindInMarks o r && (if op=.oV\/op=.eW then isNone r else true) && aW cc a l && aW cc b r)=true:=h
  simp only [bH,beq_iff_eq,Bool.not_eq_true'] at h
  obtain ⟨⟨⟨⟨rfl,hm⟩,hn⟩,h1⟩,h2⟩:=h
  have Ee:=g.room.un
  have key:∀ σ H Q,tE X.K (ev G (.cmp op a b)) σ H Q->y9 (As X.K op) (tE X.K (ev G a)) (tE X.K (ev G b)) σ H Q:=by
    intro σ H Q q
    by_cases O8:op=.oV\/op=.eW
    · rw [if_pos O8] at hn
      have eb:=xo hn h2
      subst eb
      obtain ⟨ads,M,ρ,s,q⟩:=q
      refine bZ s q fun w M1 v H1 ae s1 gh q1=>⟨ae,M1,ρ,s1,?_⟩
      intro vy H2 bj g2 m2 ry
      have ey:=j2 ry
      refine ⟨bj,M1,w,.d .az,m2,g2.rw gh,(show RD X.K bj H2 .az vy by rw [ey];exact fE),fun _=>ey,?_⟩
      have q1:bF X.K ae H1 Q ((aO op w (.d .az) M1).bind fun r M=>.ok (.d (.bl r)) M):=q1
      exact rn (q1.shift g2 s1.mem m2)
    · exact two (fun m r1 r2 h=>⟨_,_,_,_,m,r1,r2,fun z=>absurd z O8,rn h⟩) q
  exact ⟨dH (jq (iL (by omega) op) (pv l h1) (zk r h2) hm) key,zj (jr (iL (by omega) op) (pv l h1) (zk r h2) hm) fun σ H Q q=>key σ H _ q⟩
theorem Ij {a:C} {e:Expr} (pv:∀ e,aW cc a e=true->PE X e (tE X.K (ev G a))) (h:aW cc (.neg a) e=true):PE X e (tE X.K (ev G (.neg a))):=by
 refine dD (P:=fun e=>PE X e _) h fun op x pos h=>?_
 obtain ⟨h0,h⟩:=(bH _ _).mp h
 cases op <;> first | exact absurd (show false=true from h0) bO | skip
 refine dH (C9 (pv x h)) fun σ H Q q=>?_
 obtain ⟨ads,M,ρ,s,q⟩:=q
 refine bZ s q fun w M1 v H1 ae s1 gh q1=>?_
 rcases w with ⟨_ | b | _|_|_|_⟩|_ <;> first | exact q1.elim | skip
 exact ⟨b,gu gh,bF.plain q1 s1.mem (gv _)⟩
theorem Ik {cs:List C} {e:Expr} (ih:∀ es,bQ cc cs es=true->PA X es (Ao X.K (bg G cs))) (h:aW cc (.tup cs) e=true):PE X e (tE X.K (ev G (.tup cs))):=by
 refine gM (P:=fun e=>PE X e _) h fun es k pos h=>?_
 refine dH (Dw (ih es h)) fun σ H Q q=>?_
 obtain ⟨ads,M,ρ,s,q⟩:=q
 refine ⟨ads,M,ρ,s,?_⟩
 simp only [ev] at q
 cases hq:bg G cs ρ M with
 | ok ds M1 =>
  rw [hq] at q
  have q:bF X.K ads H Q (if ds.length<=sizeLine then .ok (.d (.tup ds)) M1 else .stuck):=q
  intro vs H1 ae g1 m1 r1
  split at q
  ·rename_i hz
   exact ⟨by rw [<- r1.len];exact hz,fun p hp=>(q.shift g1 s.mem m1).tuple m1 r1 hp⟩
  ·exact q.elim
 | err _ _=>rw [hq] at q;exact q
 | stuck=>rw [hq] at q;exact q
theorem Il {cs:List C} {e:Expr} (ih:∀ es,bQ cc cs es=true->PA X es (Ao X.K (bg G cs))) (h:aW cc (.lst cs) e=true):PE X e (tE X.K (ev G (.lst cs))):=by
 refine u6 (P:=fun e=>PE X e _) h fun es pos h=>?_
 refine dH (Dx (ih es h)) fun σ H Q q=>?_
 obtain ⟨ads,M,ρ,s,q⟩:=q
 refine ⟨ads,M,ρ,s,?_⟩
 simp only [ev] at q
 cases hq:bg G cs ρ M with
 | ok ds M1 =>
  rw [hq] at q
  have q:bF X.K ads H Q (if ds.length<=sizeLine then .ok (.lv ds) M1 else .stuck):=q
  intro vs H1 ae g1 m1 r1
  split at q
  ·rename_i hz
   exact ⟨by rw [<- r1.len];exact hz,fun p hp=>(q.shift g1 s.mem m1).list m1 r1 hp⟩
  ·exact q.elim
 | err _ _=>rw [hq] at q;exact q
 | stuck=>rw [hq] at q;exact q
theorem mR {K : PySem.W.Frag} {ads ao : List Addr} {H H' : Hp} {w : W} {v : V} {M1 : Mem} {d : D} {M2 : Mem} (m : aB K ads H M) (g : au ads ao H H') (m1 : aB K ao H' M1) (r : D2 K ao H H' w v) (e : own w M1 = .ok d M2) :
    ∃ bj,au ads bj H H'/\aB K bj H' M2/\RD K bj H' d v:=by
  cases w with
  | d x=>cases e;exact ⟨ao,g,m1,r⟩
  | lv ds =>
    cases e
    obtain ⟨a,xs,rfl,h0,h1,n,r⟩:=r
    refine ⟨ao++[a],⟨?_,fun b hb nb=>?_,g.kept,g.fg,g.dc⟩,m1.push n ⟨xs,h1,r⟩,?_⟩
    · obtain ⟨t,e⟩:=g.pre
      exact ⟨t++[a],by rw [e,List.append_assoc]⟩
    · rcases je.mp hb with z | z
      · exact g.new b z nb
      · have:b=a:=by simpa using z
        subst this
        exact h0
    · unfold RD
      exact ⟨a,rfl,by rw [List.getElem?_append_right (by rw [m1.len];exact ba _)];simp [m1.len]⟩
theorem Im:PA X [] (Ao X.K (bg G [])):=KO gE fun σ H Q q=>by
 obtain ⟨ads,M,ρ,s,q⟩:=q
 exact q [] H ads (au.refl _ _) s.mem (by unfold aA;rfl)
theorem Ep {c:C} {cs:List C} {e:Expr} {es:List Expr} (hs:notStar e=true) (ha:PE X e (tE X.K (ev G c))) (hr:PA X es (Ao X.K (bg G cs))):PA X (e::es) (Ao X.K (bg G (c::cs))):=by
 refine KO (dA ha hr (aR hs es X.env)) fun σ H Q q=>?_
 obtain ⟨ads,M,ρ,s,q⟩:=q
 refine ⟨ads,M,ρ,s,?_⟩
 simp only [bg] at q
 cases hq:ev G c ρ M with
 | ok w M1 =>
  rw [hq] at q
  intro v H1 ae g1 m1 r1
  cases ho:own w M1 with
  | ok d M2 =>
   have q:pb X.K ads H Q ((own w M1).bind fun d M=>(bg G cs ρ M).bind fun ds M=>.ok (d::ds) M):=q
   rw [ho] at q
   obtain ⟨bj,g2,m2,rd⟩:=mR s.mem g1 m1 r1 ho
   refine ⟨bj,M2,ρ,s.grow g2 m2,?_⟩
   have q:pb X.K ads H Q ((bg G cs ρ M2).bind fun ds M=>.ok (d::ds) M):=q
   cases xp:bg G cs ρ M2 with
   | ok ds M3 =>
    rw [xp] at q
    intro vs H3 cN g3 m3 r3
    refine q (v::vs) H3 cN (g2.trans g3) m3 ?_
    unfold aA
    exact ⟨v,vs,rfl,g3.rd _ _ rd,r3⟩
   | err _ _=>rw [xp] at q;exact q
   | stuck=>rw [xp] at q;exact q
  | err _ _=>cases w <;> cases ho
  | stuck=>cases w <;> cases ho
 | err _ _=>rw [hq] at q;exact q
 | stuck=>rw [hq] at q;exact q
end
section
variable {kk:Nat} {X:Cx} {cc:CC} {G:aL}
theorem tm {o1 o2 : u0} {a b c : C} {e : Expr} (g : Good kk X cc G) (pv : ∀ e, aW cc a e = true -> PE X e (tE X.K (ev G a))) (zk : ∀ e, aW cc b e = true -> PE X e (tE X.K (ev G b))) (KP : ∀ e, aW cc c e = true -> PE X e (tE X.K (ev G c)))
    (h:aW cc (.chain o1 o2 a b c) e=true):PE X e (tE X.K (ev G (.chain o1 o2 a b c)))/\PT X e (fu (tE X.K (ev G (.chain o1 o2 a b c)))):=by
  refine dE (P:=fun e=>PE X e (tE X.K (ev G (.chain o1 o2 a b c)))/\PT X e (fu (tE X.K (ev G (.chain o1 o2 a b c))))) h fun l ops rs pos h=>?_
  rcases ops with _|⟨p,_|⟨q,_|⟨_,ops⟩⟩⟩ <;> rcases rs with _|⟨m,_|⟨r,_|⟨_,rs⟩⟩⟩ <;> first | exact absurd (show false=true from h) bO | skip
  have h:(p == D5 o1 && q == D5 o2 && !lastMarks [p,q] [m,r] && !(decide (o1=.oV) || decide (o1=.eW) || decide (o2=.oV) || decide (o2=.eW)) && aW cc a l && aW cc b m && aW cc c r)=true:=h
  simp only [bH,beq_iff_eq,Bool.not_eq_true',Bool.or_eq_false_iff,decide_eq_false_iff_not] at h
  obtain ⟨⟨⟨⟨⟨⟨rfl,rfl⟩,hm⟩,⟨⟨⟨n1,n2⟩,n3⟩,n4⟩⟩,h1⟩,h2⟩,h3⟩:=h
  have Ee:=g.room.un
  have key:∀ σ H Q,tE X.K (ev G (.chain o1 o2 a b c)) σ H Q->qF (As X.K o1) (As X.K o2) (tE X.K (ev G a)) (tE X.K (ev G b)) (tE X.K (ev G c)) σ H Q:=by
    intro σ H Q q
    obtain ⟨ads,M,ρ,s,q⟩:=q
    refine bZ s q fun x M1 v H1 ae s1 rx q1=>?_
    refine ⟨ae,M1,ρ,s1,?_⟩
    cases hq:ev G b ρ M1 with
    | ok y M2 =>
      rw [hq] at q1
      intro vy H2 bj g2 m2 ry
      have q2:bF X.K ae H1 Q ((aO o1 x y M2).bind fun r M=>if r then (ev G c ρ M).bind fun z M=>(aO o2 y z M).bind fun r M=>.ok (.d (.bl r)) M else .ok (.d (.bl false)) M):=q1
      have s2:=s1.grow g2 m2
      refine ⟨bj,M2,x,y,m2,g2.rw rx,ry.rw,fun z=>absurd z (by simp [n1,n2]),?_⟩
      cases hc:aO o1 x y M2 with
      | ok k M3 =>
        rw [hc] at q2
        intro H3 cN g3 m3
        have s3:=s2.grow g3 m3
        have RP:=g3.rw ry.rw
        refine ⟨k,rfl,?_⟩
        have q3:bF X.K cN H3 Q (if k then (ev G c ρ M3).bind fun z M=>(aO o2 y z M).bind fun r M=>.ok (.d (.bl r)) M else .ok (.d (.bl false)) M3):=bF.shift q2 (g2.trans g3) s1.mem m3
        cases k with
        | false=>rw [if_neg (by simp)] at q3 ⊢;exact bF.plain q3 m3 (gv _)
        | true =>
          rw [if_pos rfl] at q3 ⊢
          refine ⟨cN,M3,ρ,s3,?_⟩
          cases hz:ev G c ρ M3 with
          | ok z M4 =>
            rw [hz] at q3
            intro vz H4 u_ g4 m4 rz
            exact ⟨u_,M4,y,z,m4,g4.rw RP,rz.rw,fun w=>absurd w (by simp [n3,n4]),rn (bF.shift (o:=(aO o2 y z M4).bind fun r M=>.ok (.d (.bl r)) M) q3 g4 m3 m4)⟩
          | err _ _=>rw [hz] at q3;exact q3
          | stuck=>rw [hz] at q3;exact q3
      | err _ _=>rw [hc] at q2;exact q2
      | stuck=>rw [hc] at q2;exact q2
    | err _ _=>rw [hq] at q1;exact q1
    | stuck=>rw [hq] at q1;exact q1
  exact ⟨dH (v5 (iL (by omega) o1) (iL (by omega) o2) (pv l h1) (zk m h2) (KP r h3) hm) key,zj (v7 (iL (by omega) o1) (iL (by omega) o2) (pv l h1) (zk m h2) (KP r h3) hm) fun σ H Q q=>key σ H _ q⟩
theorem vc {P:Expr->Prop} {e:Expr} (h:mO e=true) (k:∀ j p,P (.Constant (.bool true) j p)):P e:=bD (P:=P) h fun c j p h=>by
 rcases c with _ | b | _|_|_|_|_|_ <;> first | exact absurd (show false=true from h) bO | skip
 cases b with
 | true=>exact k j p
 | false=>exact absurd (show false=true from h) bO
theorem pw {ng:Bool} {a:C} {σ:L2.St} {H:Hp} {Q:VK} (q:tE X.K (ev G (.fC ng a)) σ H Q):y9 (fun x y H Q=>∃ b c,x=.bl b/\y=.bl c/\Q (.bl (ng != (b == c))) H) (tE X.K (ev G a)) (tC (.bl true)) σ H Q:=by
 obtain ⟨ads,M,ρ,s,q⟩:=q
 refine bZ s q fun w M1 v H1 ae s1 gh q1=>?_
 rcases w with ⟨_ | b | _|_|_|_|_⟩|_ <;> first | exact q1.elim | skip
 refine ⟨b,true,gu gh,rfl,?_⟩
 rw [show (b == true)=b from by cases b <;> rfl]
 exact bF.plain q1 s1.mem (gv _)
theorem xq {ng : Bool} {a : C} {e : Expr} (pv : ∀ e, aW cc a e = true -> PE X e (tE X.K (ev G a))) (h : aW cc (.fC ng a) e = true) :
    PE X e (tE X.K (ev G (.fC ng a)))/\PT X e (fu (tE X.K (ev G (.fC ng a)))):=by
  refine dE (P:=fun e=>PE X e (tE X.K (ev G (.fC ng a)))/\PT X e (fu (tE X.K (ev G (.fC ng a))))) h fun l ops rs pos h=>?_
  rcases ops with _|⟨o,_|⟨o2,ops⟩⟩ <;> rcases rs with _|⟨r,_|⟨r2,rs⟩⟩ <;> first | exact absurd (show false=true from h) bO | skip
  have h:(o == (if ng=true then CmpOp.IsNot else CmpOp.Is) && !behindInMarks o r && mO r && aW cc a l)=true:=h
  simp only [bH,beq_iff_eq,Bool.not_eq_true'] at h
  obtain ⟨⟨⟨ho,hm⟩,hr⟩,h1⟩:=h
  have pc:PE X r (tC (.bl true)):=vc (P:=fun r=>PE X r (tC (.bl true))) hr fun j p=>BY
  cases ng with
  | true =>
    have ho:o=.IsNot:=ho
    subst ho
    have key:∀ σ H Q,tE X.K (ev G (.fC true a)) σ H Q->y9 (fun x y H Q=>∃ b c,x=.bl b/\y=.bl c/\Q (.bl (!(b == c))) H) (tE X.K (ev G a)) (tC (.bl true)) σ H Q:=fun σ H Q q=>by
      have:=pw q
      simp only [Bool.true_bne] at this
      exact this
    exact ⟨dH (jq sT (pv l h1) pc hm) key,zj (jr sT (pv l h1) pc hm) fun σ H Q q=>key σ H _ q⟩
  | false =>
    have ho:o=.Is:=ho
    subst ho
    have key:∀ σ H Q,tE X.K (ev G (.fC false a)) σ H Q->y9 (fun x y H Q=>∃ b c,x=.bl b/\y=.bl c/\Q (.bl (b == c)) H) (tE X.K (ev G a)) (tC (.bl true)) σ H Q:=fun σ H Q q=>by
      have:=pw q
      simp only [Bool.false_bne] at this
      exact this
    exact ⟨dH (jq wR (pv l h1) pc hm) key,zj (jr wR (pv l h1) pc hm) fun σ H Q q=>key σ H _ q⟩
theorem AJ {ng:Bool} {a:C} (ρ:En) (M:Mem) (w:W) (M':Mem) (h:ev G (.fC ng a) ρ M=.ok w M'):∃ k,w=.d (.bl k):=by
 simp only [ev] at h
 cases h1:ev G a ρ M with
 | ok x M1 =>
  rw [h1] at h
  rcases x with ⟨_ | b | _|_|_|_|_⟩|_ <;> first | cases h | skip
  exact ⟨_,rfl⟩
 | err _ _=>rw [h1] at h;cases h
 | stuck=>rw [h1] at h;cases h
def Io (K:PySem.W.Frag) (ng:Bool):R2:=fun x y H Q=>∃ ads M wx wy,aB K ads H M/\RW K ads H wx x/\RW K ads H wy y/\bF K ads H Q (i_ ng wx wy M)
theorem xr (hu:X.A.units+1 < cLine) (ng:Bool):fZ X (compareOp (if ng=true then CmpOp.NotIn else CmpOp.In)) (Io X.K ng):=by
 intro pins s σ H x y v u Q I rx ry h
 obtain ⟨ads,M,wx,wy,m,r1,r2,h⟩:=h
 unfold i_ at h
 split at h
 ·rename_i k aa qk qd
  obtain ⟨b,rfl,hb⟩:=mJ r1 qk
  obtain ⟨a,ks,rfl,ha,rk⟩:=xf m r2 qd
  cases rx
  cases ry
  obtain ⟨o,g,eo⟩:=Eh ha hb rk
  cases ng with
  | true =>
   rw [Bool.true_bne] at h
   refine sJ hu I g rfl fun s' I'=>⟨.bl _,H,I',rfl,?_⟩
   rw [eo]
   exact bF.plain h m (gv _)
  | false =>
   rw [Bool.false_bne] at h
   refine Hl hu I g rfl fun s' I'=>⟨.bl _,H,I',rfl,?_⟩
   rw [eo]
   exact bF.plain h m (gv _)
 ·exact h.elim
theorem Cm {ng : Bool} {a b : C} {e : Expr} (g : Good kk X cc G) (pv : ∀ e, aW cc a e = true -> PE X e (tE X.K (ev G a))) (zk : ∀ e, aW cc b e = true -> PE X e (tE X.K (ev G b))) (h : aW cc (.fB ng a b) e = true) :
    PE X e (tE X.K (ev G (.fB ng a b)))/\PT X e (fu (tE X.K (ev G (.fB ng a b)))):=by
  refine dE (P:=fun e=>PE X e (tE X.K (ev G (.fB ng a b)))/\PT X e (fu (tE X.K (ev G (.fB ng a b))))) h fun l ops rs pos h=>?_
  rcases ops with _|⟨o,_|⟨o2,ops⟩⟩ <;> rcases rs with _|⟨r,_|⟨r2,rs⟩⟩ <;> first | exact absurd (show false=true from h) bO | skip
  have h:(o == (if ng=true then CmpOp.NotIn else CmpOp.In) && !behindInMarks o r && aW cc a l && aW cc b r)=true:=h
  simp only [bH,beq_iff_eq,Bool.not_eq_true'] at h
  obtain ⟨⟨⟨rfl,hm⟩,h1⟩,h2⟩:=h
  have Ee:=g.room.un
  have key:∀ σ H Q,tE X.K (ev G (.fB ng a b)) σ H Q->y9 (Io X.K ng) (tE X.K (ev G a)) (tE X.K (ev G b)) σ H Q:=fun σ H Q q=>two (fun m r1 r2 h=>⟨_,_,_,_,m,r1,r2,h⟩) q
  exact ⟨dH (jq (xr (by omega) ng) (pv l h1) (zk r h2) hm) key,zj (jr (xr (by omega) ng) (pv l h1) (zk r h2) hm) fun σ H Q q=>key σ H _ q⟩
theorem Er {ng:Bool} {a b:C} (ρ:En) (M:Mem) (w:W) (M':Mem) (h:ev G (.fB ng a b) ρ M=.ok w M'):∃ k,w=.d (.bl k):=by
 simp only [ev] at h
 cases h1:ev G a ρ M with
 | ok x M1 =>
  rw [h1] at h
  simp only [Out.bind] at h
  cases h2:ev G b ρ M1 with
  | ok y M2 =>
   rw [h2] at h
   have h:i_ ng x y M2=.ok w M':=h
   unfold i_ at h
   split at h
   ·cases h;exact ⟨_,rfl⟩
   ·cases h
  | err _ _=>rw [h2] at h;cases h
  | stuck=>rw [h2] at h;cases h
 | err _ _=>rw [h1] at h;cases h
 | stuck=>rw [h1] at h;cases h
theorem Cn {op:BoolOp}:∀ (cs:List C) (es:List Expr) (pos:Pos),(∀ c∈cs,∀ e,aW cc c e=true->PE X e (tE X.K (ev G c)))->bQ cc cs es=true->es≠[]->PE X (.BoolOp .And es pos) (tE X.K (gr G cs))
 | [],[],_,_,_,h=>absurd rfl h
 | [],_::_,_,_,h,_=>by cases h
 | _::_,[],_,_,h,_=>by cases h
 | c::cs,e::es,pos,ih,h,_=>by
  have h':(notStar e && aW cc c e && bQ cc cs es)=true:=h
  simp only [bH] at h'
  have he:=ih c List.mem_cons_self e h'.1.2
  cases es with
  | nil =>
   cases cs with
   | cons _ _=>cases h'.2
   | nil =>
    refine dH (vR he) fun σ H Q q=>?_
    obtain ⟨ads,M,ρ,s,q⟩:=q
    refine ⟨ads,M,ρ,s,?_⟩
    simp only [gr] at q
    cases hq:ev G c ρ M with
    | ok w M1=>rw [hq] at q;exact q
    | err _ _=>rw [hq] at q;exact q
    | stuck=>rw [hq] at q;exact q
  | cons e2 es =>
   cases cs with
   | nil=>cases h'.2
   | cons c2 cs =>
    have hr:=Cn (op:=op) (c2::cs) (e2::es) pos (fun c hc=>ih c (ix _ hc)) h'.2 (by simp)
    refine dH (C8 he hr) fun σ H Q q=>?_
    obtain ⟨ads,M,ρ,s,q⟩:=q
    have q:bF X.K ads H Q ((ev G c ρ M).bind fun x M=>match c2::cs,x with
     | [],x=>.ok x M
     | _,.d (.bl true)=>gr G (c2::cs) ρ M
     | _,.d (.bl false)=>.ok (.d (.bl false)) M
     | _,_=>.stuck):=by unfold gr at q;exact q
    refine bZ s q fun w M1 v H1 ae s1 gh q1=>?_
    rcases w with ⟨_ | b | _|_|_|_⟩|_ <;> first | exact q1.elim | skip
    refine ⟨b,gu gh,?_⟩
    cases b with
    | false=>rw [if_neg (by simp)];exact bF.plain q1 s1.mem (gv _)
    | true=>rw [if_pos rfl];exact ⟨ae,M1,ρ,s1,q1⟩
theorem Iq:∀ (cs:List C) (es:List Expr) (pos:Pos),(∀ c∈cs,∀ e,aW cc c e=true->PE X e (tE X.K (ev G c)))->bQ cc cs es=true->es≠[]->PE X (.BoolOp .Or es pos) (tE X.K (kX G cs))
 | [],[],_,_,_,h=>absurd rfl h
 | [],_::_,_,_,h,_=>by cases h
 | _::_,[],_,_,h,_=>by cases h
 | c::cs,e::es,pos,ih,h,_=>by
  have h':(notStar e && aW cc c e && bQ cc cs es)=true:=h
  simp only [bH] at h'
  have he:=ih c List.mem_cons_self e h'.1.2
  cases es with
  | nil =>
   cases cs with
   | cons _ _=>cases h'.2
   | nil =>
    refine dH (vR he) fun σ H Q q=>?_
    obtain ⟨ads,M,ρ,s,q⟩:=q
    refine ⟨ads,M,ρ,s,?_⟩
    simp only [kX] at q
    cases hq:ev G c ρ M with
    | ok w M1=>rw [hq] at q;exact q
    | err _ _=>rw [hq] at q;exact q
    | stuck=>rw [hq] at q;exact q
  | cons e2 es =>
   cases cs with
   | nil=>cases h'.2
   | cons c2 cs =>
    have hr:=Iq (c2::cs) (e2::es) pos (fun c hc=>ih c (ix _ hc)) h'.2 (by simp)
    refine dH (GV he hr) fun σ H Q q=>?_
    obtain ⟨ads,M,ρ,s,q⟩:=q
    have q:bF X.K ads H Q ((ev G c ρ M).bind fun x M=>match c2::cs,x with
     | [],x=>.ok x M
     | _,.d (.bl false)=>kX G (c2::cs) ρ M
     | _,.d (.bl true)=>.ok (.d (.bl true)) M
     | _,_=>.stuck):=by unfold kX at q;exact q
    refine bZ s q fun w M1 v H1 ae s1 gh q1=>?_
    rcases w with ⟨_ | b | _|_|_|_⟩|_ <;> first | exact q1.elim | skip
    refine ⟨b,gu gh,?_⟩
    cases b with
    | true=>rw [if_pos rfl];exact bF.plain q1 s1.mem (gv _)
    | false=>rw [if_neg (by simp)];exact ⟨ae,M1,ρ,s1,q1⟩
theorem mS {K : PySem.W.Frag} {ads : List Addr} {H : Hp} {M : Mem} {ρ : En} {σ : L2.St} {o : En -> Mem -> Out Bool} {k : Bool -> Mem -> Out Bool} {Q : Bool -> Hp -> Prop} {R : Bool -> Hp -> Prop} (s : SR K ads M ρ σ H) (h : zg K ads H Q ((o ρ M).bind k))
    (hk:∀ w M1 H1 ae,SR K ae M1 ρ σ H1->zg K ae H1 Q (k w M1)->R w H1):kN K o σ H R:=by
  refine ⟨ads,M,ρ,s,?_⟩
  cases q:o ρ M with
  | ok w M1 =>
    rw [q] at h
    have h:zg K ads H Q (k w M1):=h
    exact fun H1 ae g1 m1=>hk w M1 H1 ae (s.grow g1 m1) (h.shift g1)
  | err _ _=>rw [q] at h;exact h
  | stuck=>rw [q] at h;exact h
theorem Ir {c:C} {σ:L2.St} {H:Hp} {Q:Bool->Hp->Prop} (h:kN X.K (dk G (.val c)) σ H Q):tE X.K (ev G c) σ H fun x H'=>∃ k,v8 X.K x H' k/\Q k H':=by
 obtain ⟨ads,M,ρ,s,q⟩:=h
 refine ⟨ads,M,ρ,s,?_⟩
 simp only [dk] at q
 cases hq:ev G c ρ M with
 | ok w M1 =>
  rw [hq] at q
  intro v H1 ae g1 m1 r1
  have q:zg X.K ads H Q (match oY M1 w with | some r=>.ok r M1 | none=>.stuck):=q
  cases ht:oY M1 w with
  | none=>rw [ht] at q;exact q.elim
  | some k=>rw [ht] at q;exact ⟨k,H_ m1 r1.rw ht,q H1 ae g1 m1⟩
 | err _ _=>rw [hq] at q;exact q
 | stuck=>rw [hq] at q;exact q
theorem AK {e:Expr} (h:fO e=true) (env:Env):∀ whole,isTrue e env whole=(do let v <- whole;standAt e.pos;holding [v] (truthy v)):=by
 cases e <;> first | (intro _;rfl) | exact absurd (show false=true from h) bO
theorem AM {c:C} {e:Expr} (hp:fO e=true) (he:PE X e (tE X.K (ev G c))):PT X e (kN X.K (dk G (.val c))) :=
 zj (v9 he (AK hp X.env)) fun σ H Q q=>Ir q
theorem mT {c:C} {e:Expr} (hb:∀ ρ M w M',ev G c ρ M=.ok w M'->∃ k,w=.d (.bl k)) (he:PT X e (fu (tE X.K (ev G c)))):PT X e (kN X.K (dk G (.val c))):=by
 refine zj he fun σ H Q q=>?_
 obtain ⟨ads,M,ρ,s,q⟩:=q
 refine ⟨ads,M,ρ,s,?_⟩
 simp only [dk] at q
 cases hq:ev G c ρ M with
 | ok w M1 =>
  rw [hq] at q
  obtain ⟨k,rfl⟩:=hb _ _ _ _ hq
  intro v H1 ae g1 m1 r1
  exact ⟨k,gu r1,q H1 ae g1 m1⟩
 | err _ _=>rw [hq] at q;exact q
 | stuck=>rw [hq] at q;exact q
theorem Es {op:u0} {a b:C} (ρ:En) (M:Mem) (w:W) (M':Mem) (h:ev G (.cmp op a b) ρ M=.ok w M'):∃ k,w=.d (.bl k):=by
 simp only [ev] at h
 cases h1:ev G a ρ M with
 | ok x M1 =>
  rw [h1] at h
  simp only [Out.bind] at h
  cases h2:ev G b ρ M1 with
  | ok y M2 =>
   rw [h2] at h
   simp only at h
   cases h3:aO op x y M2 with
   | ok k M3=>rw [h3] at h;cases h;exact ⟨k,rfl⟩
   | err _ _=>rw [h3] at h;cases h
   | stuck=>rw [h3] at h;cases h
  | err _ _=>rw [h2] at h;cases h
  | stuck=>rw [h2] at h;cases h
 | err _ _=>rw [h1] at h;cases h
 | stuck=>rw [h1] at h;cases h
theorem xt {o1 o2:u0} {a b c:C} (ρ:En) (M:Mem) (w:W) (M':Mem) (h:ev G (.chain o1 o2 a b c) ρ M=.ok w M'):∃ k,w=.d (.bl k):=by
 simp only [ev] at h
 cases h1:ev G a ρ M with
 | ok x M1 =>
  rw [h1] at h
  simp only [Out.bind] at h
  cases h2:ev G b ρ M1 with
  | ok y M2 =>
   rw [h2] at h
   simp only at h
   cases h3:aO o1 x y M2 with
   | ok k M3 =>
    rw [h3] at h
    simp only at h
    cases k with
    | false=>cases h;exact ⟨_,rfl⟩
    | true =>
     simp only [if_true] at h
     cases h4:ev G c ρ M3 with
     | ok z M4 =>
      rw [h4] at h
      simp only at h
      cases h5:aO o2 y z M4 with
      | ok k M5=>rw [h5] at h;cases h;exact ⟨k,rfl⟩
      | err _ _=>rw [h5] at h;cases h
      | stuck=>rw [h5] at h;cases h
     | err _ _=>rw [h4] at h;cases h
     | stuck=>rw [h4] at h;cases h
   | err _ _=>rw [h3] at h;cases h
   | stuck=>rw [h3] at h;cases h
  | err _ _=>rw [h2] at h;cases h
  | stuck=>rw [h2] at h;cases h
 | err _ _=>rw [h1] at h;cases h
 | stuck=>rw [h1] at h;cases h
theorem Iu {t:dQ} {e:Expr} {pos:Pos} (ih:PT X e (kN X.K (dk G t))):PT X (.UnaryOp .Not e pos) (kN X.K (dk G (.neg t))):=by
 refine zj (C7 ih) fun σ H Q q=>?_
 obtain ⟨ads,M,ρ,s,q⟩:=q
 exact mS s q fun w M1 H1 ae s1 q1=>q1 H1 ae (au.refl _ _) s1.mem
theorem Co:∀ (ts:List dQ) (es:List Expr) (pos:Pos),(∀ t∈ts,∀ e,iM cc t e=true->PT X e (kN X.K (dk G t)))->j6 cc ts es=true->es≠[]->PW X (.BoolOp .And es pos) (kN X.K (eg G ts))
 | [],[],_,_,_,h=>absurd rfl h
 | [],_::_,_,_,h,_=>by cases h
 | _::_,[],_,_,h,_=>by cases h
 | c::cs,e::es,pos,ih,h,_=>by
  have h':(iM cc c e && j6 cc cs es)=true:=h
  simp only [bH] at h'
  have he:=ih c List.mem_cons_self e h'.1
  cases es with
  | nil =>
   cases cs with
   | cons _ _=>cases h'.2
   | nil =>
    refine KN (zu he) fun σ H Q q=>?_
    obtain ⟨ads,M,ρ,s,q⟩:=q
    refine ⟨ads,M,ρ,s,?_⟩
    simp only [eg] at q
    cases hq:dk G c ρ M with
    | ok w M1=>rw [hq] at q;exact q
    | err _ _=>rw [hq] at q;exact q
    | stuck=>rw [hq] at q;exact q
  | cons e2 es =>
   cases cs with
   | nil=>cases h'.2
   | cons c2 cs =>
    have hr:=Co (c2::cs) (e2::es) pos (fun c hc=>ih c (ix _ hc)) h'.2 (by simp)
    refine KN (C6 he hr) fun σ H Q q=>?_
    obtain ⟨ads,M,ρ,s,q⟩:=q
    have q:zg X.K ads H Q ((dk G c ρ M).bind fun x M=>match c2::cs,x with
     | [],x=>.ok x M
     | _,true=>eg G (c2::cs) ρ M
     | _,false=>.ok false M):=by unfold eg at q;exact q
    refine mS s q fun w M1 H1 ae s1 q1=>?_
    cases w with
    | false=>rw [if_neg (by simp)];exact q1 H1 ae (au.refl _ _) s1.mem
    | true=>rw [if_pos rfl];exact ⟨ae,M1,ρ,s1,q1⟩
theorem Cp:∀ (ts:List dQ) (es:List Expr) (pos:Pos),(∀ t∈ts,∀ e,iM cc t e=true->PT X e (kN X.K (dk G t)))->j6 cc ts es=true->es≠[]->PW X (.BoolOp .Or es pos) (kN X.K (eh G ts))
 | [],[],_,_,_,h=>absurd rfl h
 | [],_::_,_,_,h,_=>by cases h
 | _::_,[],_,_,h,_=>by cases h
 | c::cs,e::es,pos,ih,h,_=>by
  have h':(iM cc c e && j6 cc cs es)=true:=h
  simp only [bH] at h'
  have he:=ih c List.mem_cons_self e h'.1
  cases es with
  | nil =>
   cases cs with
   | cons _ _=>cases h'.2
   | nil =>
    refine KN (C5 he) fun σ H Q q=>?_
    obtain ⟨ads,M,ρ,s,q⟩:=q
    refine ⟨ads,M,ρ,s,?_⟩
    simp only [eh] at q
    cases hq:dk G c ρ M with
    | ok w M1=>rw [hq] at q;exact q
    | err _ _=>rw [hq] at q;exact q
    | stuck=>rw [hq] at q;exact q
  | cons e2 es =>
   cases cs with
   | nil=>cases h'.2
   | cons c2 cs =>
    have hr:=Cp (c2::cs) (e2::es) pos (fun c hc=>ih c (ix _ hc)) h'.2 (by simp)
    refine KN (GR he hr) fun σ H Q q=>?_
    obtain ⟨ads,M,ρ,s,q⟩:=q
    have q:zg X.K ads H Q ((dk G c ρ M).bind fun x M=>match c2::cs,x with
     | [],x=>.ok x M
     | _,false=>eh G (c2::cs) ρ M
     | _,true=>.ok true M):=by unfold eh at q;exact q
    refine mS s q fun w M1 H1 ae s1 q1=>?_
    cases w with
    | true=>rw [if_pos rfl];exact q1 H1 ae (au.refl _ _) s1.mem
    | false=>rw [if_neg (by simp)];exact ⟨ae,M1,ρ,s1,q1⟩
theorem Iv {t:dQ} {a b:C} {c x y:Expr} {pos:Pos} (ht:PT X c (kN X.K (dk G t))) (ha:PE X x (tE X.K (ev G a))) (hb:PE X y (tE X.K (ev G b))):PE X (.IfExp c x y pos) (tE X.K (ev G (.ite t a b))):=by
 refine dH (vS ht ha hb) fun σ H Q q=>?_
 obtain ⟨ads,M,ρ,s,q⟩:=q
 refine ⟨ads,M,ρ,s,?_⟩
 simp only [ev] at q
 cases hq:dk G t ρ M with
 | ok w M1 =>
  rw [hq] at q
  intro H1 ae g1 m1
  have q:bF X.K ads H Q (if w then ev G a ρ M1 else ev G b ρ M1):=q
  have q:=q.shift g1 s.mem m1
  cases w with
  | true=>rw [if_pos rfl] at q ⊢;exact ⟨ae,M1,ρ,s.grow g1 m1,q⟩
  | false=>rw [if_neg (by simp)] at q ⊢;exact ⟨ae,M1,ρ,s.grow g1 m1,q⟩
 | err _ _=>rw [hq] at q;exact q
 | stuck=>rw [hq] at q;exact q
end
section
variable {kk:Nat} {X:Cx} {cc:CC} {G:aL}
theorem j7 {b:Expr} (h:dG b=true):sP b:=by
 intro o i
 cases b <;> first | rfl | exact absurd (show false=true from h) bO
theorem Iw {a b:C} {e i:Expr} {pos:Pos} (g:Good kk X cc G) (hs:dG i=true) (ha:PE X e (tE X.K (ev G a))) (hb:PE X i (tE X.K (ev G b))):PE X (.Subscript e i pos) (tE X.K (ev G (.sub a b))):=by
 have Ee:=g.room.un
 refine dH (B7 (D6 (by omega)) ha hb (j7 hs)) fun σ H Q q=>?_
 exact two (fun m r1 r2 h=>⟨_,_,_,_,m,r1,r2,h⟩) q
def RQ (K:PySem.W.Frag) (ads:List Addr) (H:Hp) (Q:Option Int->Hp->Prop):Out (Option Int)->Prop
 | .ok o M=>∀ H' ao,au ads ao H H'->aB K ao H' M->Q o H'
 | _=>False
def tO (K:PySem.W.Frag) (o:En->Mem->Out (Option Int)):TO:=fun σ H Q=>∃ ads M ρ,SR K ads M ρ σ H/\RQ K ads H Q (o ρ M)
theorem Et:PO X none (tO X.K (o_ G none)):=fun pins s σ H Q I q=>zQ pins s σ H Q I (by
 obtain ⟨ads,M,ρ,s,q⟩:=q
 exact q H ads (au.refl _ _) s.mem)
theorem Eu {c:C} {e:Expr} (h:PE X e (tE X.K (ev G c))):PO X (some e) (tO X.K (o_ G (some c))):=fun pins s σ H Q I q=>zR h pins s σ H Q I (by
 obtain ⟨ads,M,ρ,s,q⟩:=q
 refine ⟨ads,M,ρ,s,?_⟩
 simp only [o_] at q
 cases hq:ev G c ρ M with
 | ok w M1 =>
  rw [hq] at q
  intro v H1 ae g1 m1 r1
  rcases w with ⟨_|_ | i | _|_|_⟩|_ <;> first | exact q.elim | skip
  exact ⟨i,aE r1,q H1 ae g1 m1⟩
 | err _ _=>rw [hq] at q;exact q
 | stuck=>rw [hq] at q;exact q)
theorem Iy {a : C} {lo hi : Option C} {e : Expr} {l h : Option Expr} {pos p2 : Pos} (ha : PE X e (tE X.K (ev G a))) (hl : PO X l (tO X.K (o_ G lo))) (hh : PO X h (tO X.K (o_ G hi))) :
    PE X (.Subscript e (.Slice l h none p2) pos) (tE X.K (ev G (.kU a lo hi))):=by
  refine dH (wz D7 ha hl hh) fun σ H Q q=>?_
  obtain ⟨ads,M,ρ,s,q⟩:=q
  refine bZ s q fun w M1 v H1 ae s1 gh q1=>⟨ae,M1,ρ,s1,?_⟩
  cases hq:o_ G lo ρ M1 with
  | ok o1 M2 =>
    rw [hq] at q1
    have q1:bF X.K ae H1 Q ((o_ G hi ρ M2).bind fun h M=>jX w o1 h M):=q1
    intro H2 bj g2 m2
    have s2:=s1.grow g2 m2
    refine ⟨bj,M2,ρ,s2,?_⟩
    cases Ew:o_ G hi ρ M2 with
    | ok o2 M3 =>
      rw [Ew] at q1
      intro H3 cN g3 m3
      exact ⟨cN,M3,w,m3,g3.rw (g2.rw gh),bF.shift (o:=jX w o1 o2 M3) q1 (g2.trans g3) s1.mem m3⟩
    | err _ _=>rw [Ew] at q1;exact q1
    | stuck=>rw [Ew] at q1;exact q1
  | err _ _=>rw [hq] at q1;exact q1
  | stuck=>rw [hq] at q1;exact q1
theorem px:∀ (cs:List C) (ρ:En) (M:Mem) (ds:List D) (M':Mem),bg G cs ρ M=.ok ds M'->ds.length=cs.length
 | [],ρ,M,ds,M',h=>by cases h;rfl
 | c::cs,ρ,M,ds,M',h=>by
  simp only [bg] at h
  cases h1:(ev G c ρ M).bind own with
  | ok d M1 =>
   rw [h1] at h
   simp only [Out.bind] at h
   cases h2:bg G cs ρ M1 with
   | ok es M2=>rw [h2] at h;cases h;simp [px cs ρ M1 es _ h2]
   | err _ _=>rw [h2] at h;cases h
   | stuck=>rw [h2] at h;cases h
  | err _ _=>rw [h1] at h;cases h
  | stuck=>rw [h1] at h;cases h
theorem cW {cs:List C} {es:List Expr} (h:bQ cc cs es=true) (env:Env) (pos:Pos):(backTo pos (starEach es env)).any (·.1)=false:=by
 have:∀ (cs:List C) (es:List Expr),bQ cc cs es=true->(starEach es env).any (·.1)=false:=by
  intro cs
  induction cs with
  | nil=>intro es h;cases es with
   | nil=>rfl
   | cons _ _=>cases h
  | cons c cs ih =>
   intro es h
   cases es with
   | nil=>cases h
   | cons e es =>
    have h':(notStar e && aW cc c e && bQ cc cs es)=true:=h
    simp only [bH] at h'
    rw [aR h'.1.1,List.any_cons,ih es h'.2]
    rfl
 have e:=this cs es h
 unfold backTo
 simp only [List.any_map]
 exact e
theorem s_call {f : Nat} {cs : List C} {x : Str} {e : Expr} {es : List Expr} {p pos : Pos} (g : Good kk X cc G) (hf : cc.fs[f]? = some (x, cs.length)) (hg : glob cc x = true) (hp : cD x = true) (hc : bQ cc cs (e :: es) = true)
    (ha:PA X (e::es) (Ao X.K (bg G cs))):PE X (.Call (.Name x p) (e::es) [] pos) (tE X.K (ev G (.call f cs))):=by
  obtain ⟨fa,fd,ps,F,hm,hk,hb⟩:=g.fns f x _ hf
  have eK:notStar e=true/\bQ cc cs.tail es=true:=by
    cases cs with
    | nil=>cases hc
    | cons c cs =>
      have h':(notStar e && aW cc c e && bQ cc cs es)=true:=hc
      simp only [bH] at h'
      exact ⟨h'.1.1,h'.2⟩
  refine dH (zK (pos:=pos) (p:=p) (E:=E0) F g.room (g.gl hg) hm hk hb .nil Hy ha (iN hp).1 (aR eK.1 es X.env) (cW eK.2 X.env pos)) fun σ H Q q=>?_
  obtain ⟨ads,M,ρ,s,q⟩:=q
  refine ⟨ads,M,ρ,s,?_⟩
  simp only [ev] at q
  cases hq:bg G cs ρ M with
  | ok ds M1 =>
    rw [hq] at q
    intro vs H1 ae g1 m1 r1
    refine ⟨ae,M1,ds,m1,?_,px cs ρ M ds M1 hq,bF.shift (o:=G f ds M1) q g1 s.mem m1⟩
    rw [List.append_nil]
    exact r1
  | err _ _=>rw [hq] at q;exact q
  | stuck=>rw [hq] at q;exact q
def Iz (K:PySem.W.Frag) (ads:List Addr) (H:Hp) (Q:List V->Hp->Prop):Out (List W)->Prop
 | .ok ws M=>∀ vs H' ao,au ads ao H H'->aB K ao H' M->Au K ao H' ws vs->Q vs H'
 | _=>False
def Gj (K:PySem.W.Frag) (o:En->Mem->Out (List W)):TA:=fun σ H Q=>∃ ads M ρ,SR K ads M ρ σ H/\Iz K ads H Q (o ρ M)
theorem Cq:PA X [] (Gj X.K (cw G [])):=KO gE fun σ H Q q=>by
 obtain ⟨ads,M,ρ,s,q⟩:=q
 exact q [] H ads (au.refl _ _) s.mem rfl
theorem xu {c:C} {cs:List C} {e:Expr} {es:List Expr} (hs:notStar e=true) (ha:PE X e (tE X.K (ev G c))) (hr:PA X es (Gj X.K (cw G cs))):PA X (e::es) (Gj X.K (cw G (c::cs))):=by
 refine KO (dA ha hr (aR hs es X.env)) fun σ H Q q=>?_
 obtain ⟨ads,M,ρ,s,q⟩:=q
 refine ⟨ads,M,ρ,s,?_⟩
 simp only [cw] at q
 cases hq:ev G c ρ M with
 | ok w M1 =>
  rw [hq] at q
  intro v H1 ae g1 m1 r1
  refine ⟨ae,M1,ρ,s.grow g1 m1,?_⟩
  have q:Iz X.K ads H Q ((cw G cs ρ M1).bind fun ds M=>.ok (w::ds) M):=q
  cases xp:cw G cs ρ M1 with
  | ok ds M3 =>
   rw [xp] at q
   intro vs H3 cN g3 m3 r3
   exact q (v::vs) H3 cN (g1.trans g3) m3 ⟨v,vs,rfl,g3.rw r1.rw,r3⟩
  | err _ _=>rw [xp] at q;exact q
  | stuck=>rw [xp] at q;exact q
 | err _ _=>rw [hq] at q;exact q
 | stuck=>rw [hq] at q;exact q
theorem fF {b:Bi} {cs:List C} {σ:L2.St} {H:Hp} {Q:VK} (q:tE X.K (ev G (.bi b cs)) σ H Q):Mt (zi X.K b) (Gj X.K (cw G cs)) σ H Q:=by
 obtain ⟨ads,M,ρ,s,q⟩:=q
 refine ⟨ads,M,ρ,s,?_⟩
 simp only [ev] at q
 cases hq:cw G cs ρ M with
 | ok ws M1 =>
  rw [hq] at q
  intro vs H1 ae g1 m1 r1
  exact ⟨ae,M1,ws,m1,r1,bF.shift (o:=iw b ws M1) q g1 s.mem m1⟩
 | err _ _=>rw [hq] at q;exact q
 | stuck=>rw [hq] at q;exact q
theorem NC {b : Bi} {cs : List C} {x : Str} {e : Expr} {es : List Expr} {p pos : Pos} (g : Good kk X cc G) (hb : Ek b = true) (hx : x = xk b) (hg : glob cc x = true)
    (hs:notStar e=true) (hc:bQ cc cs.tail es=true) (ha:PA X (e::es) (Gj X.K (cw G cs))):PE X (.Call (.Name x p) (e::es) [] pos) (tE X.K (ev G (.bi b cs))):=by
  have og:=g.gl hg
  have eK:=aR hs es X.env
  have oe:=cW hc X.env pos
  have hm:X.mg x=none:=g.blt x (by subst hx;cases b <;> first | (show _∈bW;decide +kernel) | (exact absurd hb (by simp [Ek])))
  subst hx
  cases b with
  | len=>exact dH (eL Ea og hm boot_len ha (⋯) (⋯) eK oe) fun σ H Q q=>fF q
  | max2=>exact dH (eL (Eb g.calm) og hm boot_max ha (⋯) (⋯) eK oe) fun σ H Q q=>fF q
  | min2=>exact dH (eL (Ec g.calm) og hm boot_min ha (⋯) (⋯) eK oe) fun σ H Q q=>fF q
  | ee=>exact dH (eL (Ax g.room) og hm boot_repr ha (⋯) (⋯) eK oe) fun σ H Q q=>fF q
  | oW=>exact dH (fM Ed og hm (⋯) ha (⋯) (⋯) eK oe) fun σ H Q q=>fF q
  | list1=>exact dH (fM Aw og hm (⋯) ha (⋯) (⋯) eK oe) fun σ H Q q=>fF q
  | tuple1=>exact dH (fM xa og hm (⋯) ha (⋯) (⋯) eK oe) fun σ H Q q=>fF q
  | lE=>exact dH (fM (Av g.calm) og hm (⋯) ha (⋯) (⋯) eK oe) fun σ H Q q=>fF q
  | all1=>cases hb
  | Ak=>cases hb
  | mF t=>cases hb
  | min1=>cases hb
  | Al=>cases hb
theorem ND {y:Str} {T:String} {pos:Pos} (hg:Gl X y) (hm:X.mg y=none) (hv:bootBuiltins y=some (.type T)) (hn:y ≠ "__name__") (hd:(y == ("__debug__" : Str))=false):PE X (.Name y pos) (tC (.ty T)) :=
 zt hg hm hv rfl hn hd
theorem IA {t : Ty} {c : C} {x y : Str} {e : Expr} {p py pos : Pos} (g : Good kk X cc G) (hx : x = "isinstance") (RS : glob cc x = true) (hy : y = Str.ofString (ph t)) (RT : glob cc y = true) (ht : t ≠ .none)
    (hs:notStar e=true) (ha:PE X e (tE X.K (ev G c))):PE X (.Call (.Name x p) [e,.Name y py] [] pos) (tE X.K (ev G (.bi (.mF t) [c]))):=by
  have RU:X.mg x=none:=g.blt x (by subst hx;show _∈bW;decide +kernel)
  have RV:X.mg y=none:=g.blt y (by subst hy;cases t <;> first | exact absurd rfl ht | (show _∈bW;decide +kernel))
  have RX:PE X (.Name y py) (tC (.ty (ph t))):=by
    subst hy
    cases t <;> first | exact absurd rfl ht | exact ND (g.gl RT) RV (⋯) (⋯) (⋯)
  have og:=g.gl RS
  subst hx
  refine dH (eL (Eg t) og RU boot_isinstance (dA ha (dA RX gE) (aR hs _ X.env)) (⋯) (⋯) (aR hs _ X.env) rfl) fun σ H Q q=>?_
  obtain ⟨ads,M,ρ,s,q⟩:=q
  refine ⟨ads,M,ρ,s,?_⟩
  simp only [ev,cw] at q
  cases hq:ev G c ρ M with
  | ok w M1 =>
    rw [hq] at q
    intro v H1 ae g1 m1 r1
    exact ⟨v,rfl,ae,M1,[w],m1,⟨v,[],rfl,r1.rw,rfl⟩,bF.shift (o:=iw (.mF t) [w] M1) q g1 s.mem m1⟩
  | err _ _=>rw [hq] at q;exact q
  | stuck=>rw [hq] at q;exact q
section
variable {prog:Program} {w:World} {A:Around} {E:Value->Shared->Prop} {s:Shared}
theorem mU {sl : Addr} {k : Int} {u : Tok} {n : Nat} {Q : Int × Int × Nat -> Shared -> Prop} (hs : s.heap.IsSliceOf sl .none .none (.int k u)) (hk : k ≠ 0)
    (h:Q ((Builtin.Slice.sliceAdjust none none k (n:Int)).1,k,Builtin.Slice.slicePlaces (Builtin.Slice.sliceAdjust none none k (n:Int)).1 (Builtin.Slice.sliceAdjust none none k (n:Int)).2 k) s):wpAny (model prog w) A (Builtin.Slice.sliceApplied (.ref sl) (pure (n:Int))) Q E s:=by
  obtain ⟨os,wt,Ho,zO⟩:=id hs
  unfold Builtin.Slice.sliceApplied Builtin.Slice.sliceFields
  refine wpAny_bind (wpAny_bind (wpAny_field wt zO (x:=.none) rfl (wpAny_bind (wpAny_field wt zO (x:=.none) rfl (wpAny_bind (wpAny_field wt zO (x:=.int k u) rfl (wpAny_pure ?_)))))))
  refine wpAny_bind (slicePart_int ?_)
  show wpAny _ _ (if (k == 0)=true then _ else _) _ _ s
  rw [if_neg (by simpa using hk)]
  refine wpAny_bind (slicePart_none (wpAny_bind (slicePart_none (wpAny_bind (wpAny_pure ?_)))))
  exact wpAny_pure h
theorem mV {t sl : Addr} {aq : List Value} {k : Int} {u : Tok} {Q : Value -> Shared -> Prop} (ht : IsTup s.heap t aq.toArray) (hs : s.heap.IsSliceOf sl .none .none (.int k u)) (hk : k ≠ 0) (RY : k ≠ 1) (hsz : (cC aq k).length <= sizeLine)
    (h:Q (.ref s.heap.objs.size) { s with heap:=s.heap.push { cls:=.type "tuple",data:=.seq (cC aq k).toArray } }):wpAny (model prog w) A (getItem (.ref t) (.ref sl)) Q E s:=by
  have KQ:sizeOk (.seq (cC aq k).toArray):=by
    show (cC aq k).toArray.size<=sizeLine
    rw [gi]
    exact hsz
  obtain ⟨os,wt,Ho,zO⟩:=id hs
  have Mx:s.TypeIs (.ref sl) "slice" := ⟨os,wt,Ho⟩
  unfold getItem
  try with_reducible refine wpAny_holding ?_
  first | refine wpAny_bind (wpAny_pure ?_) | skip
  refine wpAny_bind (wpAny_sequenceKey ht.typeIs (by decide) ?_)
  refine wpAny_bind (wpAny_callSpecial?_slot (name:=Str.ofString "__getitem__") ht.typeIs PyProof.Rows.slot_tuple_getitem
    (wpAny_call_entry PyProof.Rows.slot_tuple_getitem ht.typeIs entry_tuple_getitem ?_ (args_tuple_getitem _ _)))
  show wpAny _ _ (Builtin.Tuple.tupleItemsOf (.ref t) >>= _) _ _ s
  refine wpAny_bind (tupleItemsOf_ ht ?_)
  refine wpAny_bind (wpAny_typeOf Mx ?_)
  rw [if_pos (by decide)]
  refine wpAny_bind (mU hs hk ?_)
  have Ga:∀ (a b:Bool),¬ ((a && (k == (1:Int)) && b)=true):=by
    intro a b z
    have:(k == (1:Int))=false:=beq_eq_false_iff_ne.mpr RY
    rw [this] at z
    simp at z
  dsimp only
  rw [if_neg (Ga _ _)]
  have e:∀ (f:Nat->Nat) (l:List Nat),(l.filterMap fun j=>aq.toArray[f j]?)=l.filterMap fun j=>aq[f j]?:=fun f l=>by simp
  rw [e]
  have hl:(aq.toArray.size:Int)=(aq.length:Int):=by simp
  rw [hl]
  first
    | exact wpAny_bind (m:=Builtin.Tuple.tupleExact _) (wpAny_newObj_type (wpAny_pure ⟨_,rfl,wpAny_pure h⟩) KQ)
    | exact wpAny_bind (m:=Builtin.Tuple.tupleExact _) (wpAny_newObj_type (wpAny_bind (wpAny_pure (wpAny_pure ⟨_,rfl,wpAny_pure h⟩))) KQ)
    | exact wpAny_bind (wpAny_bind (m:=Builtin.Tuple.tupleExact _) (wpAny_newObj_type (wpAny_pure (wpAny_pure ⟨_,rfl,wpAny_pure h⟩)) KQ))
    | exact wpAny_bind (wpAny_bind (m:=Builtin.Tuple.tupleExact _) (wpAny_newObj_type (wpAny_pure ⟨_,rfl,wpAny_pure h⟩) KQ))
end
theorem jx {K:PySem.W.Frag} {ads:List Addr} {H:Hp} {ds:List D} {xs:List V} (r:aA K ads H ds xs) (f:Nat->Nat):∀ js:List Nat,aA K ads H (js.filterMap fun j=>ds[f j]?) (js.filterMap fun j=>xs[f j]?)
 | []=>by simp;unfold aA;rfl
 | j::js=>by
  cases q:ds[f j]? with
  | none =>
   have:xs[f j]?=none:=by rw [List.getElem?_eq_none_iff] at q ⊢;rw [<- r.len];exact q
   simp only [List.filterMap_cons,q,this]
   exact jx r f js
  | some d =>
   obtain ⟨v,e,rv⟩:=r.get q
   simp only [List.filterMap_cons,q,e]
   unfold aA
   exact ⟨_,_,rfl,rv,jx r f js⟩
theorem fQ {xs:List V} {us:List Value} (r:Vals xs us) (f:Nat->Nat):∀ js:List Nat,Vals (js.filterMap fun j=>xs[f j]?) (js.filterMap fun j=>us[f j]?)
 | []=>.nil
 | j::js=>by
  cases q:xs[f j]? with
  | none =>
   have:us[f j]?=none:=by rw [List.getElem?_eq_none_iff] at q ⊢;rw [<- r.length];exact q
   simp only [List.filterMap_cons,q,this]
   exact fQ r f js
  | some d =>
   obtain ⟨v,e,rv⟩:=r.get q
   simp only [List.filterMap_cons,q,e]
   exact .cons rv (fQ r f js)
theorem IB {a:C} {k:Int} {e ke:Expr} {pos p2:Pos} (RZ:PE X ke (tC (.int k))) (ha:PE X e (tE X.K (ev G a))):PE X (.Subscript e (.Slice none none (some ke) p2) pos) (tE X.K (ev G (.zf a k))):=by
 intro pins s σ H Q I h
 obtain ⟨ads,M,ρ,sr,q⟩:=h
 have h1:tE X.K (ev G a) σ H (fun x H1=>∃ ae M1 w,aB X.K ae H1 M1/\RW X.K ae H1 w x/\bF X.K ae H1 Q (jY w k M1)):=by
  refine bZ sr q fun w M1 v H1 ae s1 gh q1=>⟨ae,M1,w,s1.mem,gh,q1⟩
 refine Subscript_ (bP (ha pins s σ H _ I h1) ?_)
 rintro v s1 ⟨x,H1,I1,r1,ae,M1,w,m1,gh,q1⟩
 rcases w with ⟨_|_|_|_ | ds | _|_⟩|_ <;> first | exact q1.elim | skip
 have gh:RD X.K ae H1 (.tup ds) x:=gh
 unfold RD at gh
 obtain ⟨p,xs,rfl,hp,rd⟩:=gh
 cases r1
 simp only [jY] at q1
 split at q1
 ·rename_i hk
  refine wpAny_Slice ?_
  rw [evalPart_none]
  refine wpAny_pure ?_
  refine wpAny_pure ?_
  rw [evalPart_some]
  refine bP (RZ pins s1 σ H1 (fun z H'=>z=.int k/\H1=H') I1 ⟨rfl,rfl⟩) ?_
  rintro u s2 ⟨z,H2,I2,rz,rfl,rfl⟩
  obtain ⟨t,rfl⟩:=rz
  have I3:Inv X pins σ H1 { s2 with heap:=s2.heap.push { cls:=.type "slice",data:=.fields #[.none,.none,.int k t] } }:=I2.kept (t':=s2.toks) fun b ob q=>fY _ q
  obtain ⟨aq,rv,ht,hz⟩:=I3.tuple (eT.of (K:=X.K) hp)
  have hlen:(cC aq k).length=(cC ds k).length:=by
   have e1:aq.length=xs.length:=rv.length.symm
   have e2:xs.length=ds.length:=rd.len.symm
   have r1:=(jx rd (fun (j:Nat)=>((Builtin.Slice.sliceAdjust none none k (ds.length:Int)).1+(j:Int) * k).toNat) (List.range (Builtin.Slice.slicePlaces (Builtin.Slice.sliceAdjust none none k (ds.length:Int)).1 (Builtin.Slice.sliceAdjust none none k (ds.length:Int)).2 k))).len
   have r2:=(fQ rv (fun (j:Nat)=>((Builtin.Slice.sliceAdjust none none k (ds.length:Int)).1+(j:Int) * k).toNat) (List.range (Builtin.Slice.slicePlaces (Builtin.Slice.sliceAdjust none none k (ds.length:Int)).1 (Builtin.Slice.sliceAdjust none none k (ds.length:Int)).2 k))).length
   unfold cC
   rw [e1,e2,<- r2,<- r1]
  have R0:aA X.K ae H1 (cC ds k) (cC xs k):=by
   unfold cC
   rw [<- rd.len]
   exact jx rd _ _
  have KL:Vals (cC xs k) (cC aq k):=by
   unfold cC
   rw [<- rv.length]
   exact fQ rv _ _
  have tq:({ s2 with heap:=s2.heap.push { cls:=.type "slice",data:=.fields #[.none,.none,.int k t] } }:Shared).heap.IsSliceOf s2.heap.objs.size .none .none (.int k t):=Heap.IsSliceOf.new ..
  show wpAny (model X.prog X.w) X.A (subscriptTail e (.Slice none none (some ke) p2) (.ref p) (.ref s2.heap.objs.size)) (EP X pins σ Q) X.xe { s2 with heap:=s2.heap.push { cls:=.type "slice",data:=.fields #[.none,.none,.int k t] } }
  refine tail_any (ops:=[.ref p,.ref s2.heap.objs.size]) ht.typeIs PyProof.Rows.slot_tuple_getitem.lookup (mV ht tq (by rcases hk.1 with z | z <;> rw [z] <;> decide) (by rcases hk.1 with z | z <;> rw [z] <;> decide) (by rw [hlen];exact hk.2) ?_) (by with_unfolding_all rfl)
  refine ⟨.ref _,_,I3.laid (t':=s2.toks) (o:=.tup (cC xs k)) (fun b ob q=>fY _ q) (ba _) ?_,rfl,q1.tuple m1 R0 (I3.aV.fresh (ba _))⟩
  exact ⟨by rw [KL.length,hlen];exact hk.2,_,KL,IsTup.new _ _⟩
 ·exact q1.elim
theorem fN {e:Expr} (h:dU e=true) (n:Str) (env:Env) (wh:Sem Value):attributeBase e n env wh=wh:=by
 cases e <;> first | rfl | skip
 rename_i f args dX pos
 cases f <;> first | rfl | skip
 cases args <;> first | rfl | skip
 cases dX <;> first | rfl | exact absurd (show false=true from h) bO
theorem rq {m:Me} {o:C} {cs:List C} {σ:L2.St} {H:Hp} {Q:VK} (q:tE X.K (ev G (.me m o cs)) σ H Q):OQ X.K "list" (Ia X.K m) (tE X.K (ev G o)) (Ao X.K (bg G cs)) σ H Q:=by
 obtain ⟨ads,M,ρ,s,q⟩:=q
 have q:bF X.K ads H Q ((ev G o ρ M).bind fun x M=>if (de M x).isSome then (bg G cs ρ M).bind fun ds M=>qw m x ds M else .stuck):=by simp only [ev] at q;exact q
 refine bZ s q fun w M1 v H1 ae s1 gh q1=>?_
 split at q1
 ·rename_i hs
  obtain ⟨es,he⟩:=Option.isSome_iff_exists.mp hs
  obtain ⟨a,xs,rfl,rd,ha⟩:=gJ s1.mem gh he
  refine ⟨.inl ⟨rfl,xs,d9.of ha⟩,ae,M1,ρ,s1,?_⟩
  cases hq:bg G cs ρ M1 with
  | ok ds M2 =>
   rw [hq] at q1
   intro vs H2 bj g2 m2 r2
   exact ⟨bj,M2,w,ds,m2,g2.rw gh,r2,bF.shift (o:=qw m w ds M2) q1 g2 s1.mem m2⟩
  | err _ _=>rw [hq] at q1;exact q1
  | stuck=>rw [hq] at q1;exact q1
 ·exact q1.elim
theorem mW {m:Me} {o:C} {σ:L2.St} {H:Hp} {Q:VK} (q:tE X.K (ev G (.me m o [])) σ H Q):Ht X.K "list" (Ia X.K m) (tE X.K (ev G o)) σ H Q:=by
 obtain ⟨ads,M,ρ,s,q⟩:=q
 have q:bF X.K ads H Q ((ev G o ρ M).bind fun x M=>if (de M x).isSome then (bg G [] ρ M).bind fun ds M=>qw m x ds M else .stuck):=by simp only [ev] at q;exact q
 refine bZ s q fun w M1 v H1 ae s1 gh q1=>?_
 split at q1
 ·rename_i hs
  obtain ⟨es,he⟩:=Option.isSome_iff_exists.mp hs
  obtain ⟨a,xs,rfl,rd,ha⟩:=gJ s1.mem gh he
  exact ⟨.inl ⟨rfl,xs,d9.of ha⟩,ae,M1,w,[],s1.mem,gh,(by unfold aA;rfl),q1⟩
 ·exact q1.elim
theorem xv {cs : List C} {es : List Expr} (h : bQ cc cs es = true) (hl : es.length < 20) (env : Env) (dB : Pos) :
    ((backTo dB (starEach es env)).all (fun x=>!x.1) && (backToKw dB (keywordEach [] env)).all (fun x=>x.1.isSome) && decide (es.length+([]:List Keyword).length+(if ([]:List Keyword).isEmpty then 0 else 1) < 30))=true:=by
  have h1:=cW h env dB
  have h2:(backTo dB (starEach es env)).all (fun x=>!x.1)=true:=by
    rw [List.all_eq_true]
    intro x hx
    rw [List.any_eq_false] at h1
    have:=h1 x hx
    simpa using this
  rw [h2]
  simp [keywordEach,backToKw]
  omega
theorem NF {m : Me} {o : C} {cs : List C} {e : Expr} {es : List Expr} {n : Str} {ap cp : Pos} (hn : n = xl m) (hm : Ie m = true) (hl : (ap.endLine == cp.line) = true) (h0 : dU e = true) (hc : bQ cc cs es = true) (hlen : es.length < 20)
    (ho:PE X e (tE X.K (ev G o))) (ha:PA X es (Ao X.K (bg G cs))):PE X (.Call (.Attribute e n ap) es [] cp) (tE X.K (ev G (.me m o cs))):=by
  have hb:=fN h0 n X.env (eval e X.env)
  subst hn
  cases es with
  | nil =>
    cases cs with
    | cons _ _=>cases hc
    | nil =>
      cases m with
      | append=>exact dH (mz F.plainAttrs_list F.slot_list_append F.type_list_append lH ho hb hl) fun σ H Q q=>mW q
      | insert=>exact dH (mz F.plainAttrs_list F.slot_list_insert F.type_list_insert lI ho hb hl) fun σ H Q q=>mW q
      | reverse=>cases hm
      | extend=>cases hm
      | remove=>cases hm
      | clear=>exact dH (mz F.plainAttrs_list F.slot_list_clear F.type_list_clear pj ho hb hl) fun σ H Q q=>mW q
  | cons e1 es =>
    have eK:notStar e1=true/\bQ cc cs.tail es=true:=by
      cases cs with
      | nil=>cases hc
      | cons c cs =>
        have h':(notStar e1 && aW cc c e1 && bQ cc cs es)=true:=hc
        simp only [bH] at h'
        exact ⟨h'.1.1,h'.2⟩
    have kS:=xv hc hlen X.env cp
    cases m with
    | append=>exact dH (sQ F.plainAttrs_list F.slot_list_append F.type_list_append lH ho ha hb kS hl (aR eK.1 es X.env) (cW eK.2 X.env cp)) fun σ H Q q=>rq q
    | insert=>exact dH (sQ F.plainAttrs_list F.slot_list_insert F.type_list_insert lI ho ha hb kS hl (aR eK.1 es X.env) (cW eK.2 X.env cp)) fun σ H Q q=>rq q
    | reverse=>cases hm
    | extend=>cases hm
    | remove=>cases hm
    | clear=>exact dH (sQ F.plainAttrs_list F.slot_list_clear F.type_list_clear pj ho ha hb kS hl (aR eK.1 es X.env) (cW eK.2 X.env cp)) fun σ H Q q=>rq q
theorem IC {x:Str} {v:Int} {pos:Pos} (g:Good kk X cc G) (hg:glob cc x=true) (hp:cD x=true) (hl:cc.gs.lookup x=some v):PE X (.Name x pos) (tE X.K (ev G (.Cc x v))):=by
 obtain ⟨t,ht⟩:=g.O7 x v hl
 refine dH (zq (v:=.int v) (g.gl hg) ht ⟨t,rfl⟩ (iN hp).1) fun σ H Q q=>?_
 obtain ⟨ads,M,ρ,s,q⟩:=q
 exact bF.plain q s.mem (bC _)
def ID (K:PySem.W.Frag):R2:=fun x y H Q=>∃ ads M wx wy,aB K ads H M/\RW K ads H wx x/\RW K ads H wy y/\bF K ads H Q (lF wx wy M)
theorem Ey (hu:X.A.units+1 < cLine):Gb X (ID X.K):=by
 intro value slice pins s σ H x y v u Q I rx ry h hs
 obtain ⟨ads,M,wx,wy,m,r1,r2,h⟩:=h
 unfold lF at h
 split at h
 ·rename_i aa k qd qk
  split at h
  ·rename_i d q
   obtain ⟨b,rfl,hb⟩:=mJ r2 qk
   obtain ⟨a,ks,rfl,ha,rk⟩:=xf m r1 qd
   obtain ⟨z,e2,rz⟩:=rk.find (k:=k) q
   cases rx
   have g:gF H a (.ref b) (some z):=by have:=xg ha hb;rw [e2] at this;exact this
   exact tail_any (fz I g) F.slot_dict_getitem.lookup (iC hu I g ry fun w' s' I' qJ=>⟨z,H,I',qJ,h.plain m rz⟩) hs
  ·exact h.elim
 ·exact h.elim
theorem Ez {a b:C} {e i:Expr} {pos:Pos} (g:Good kk X cc G) (hs:dG i=true) (ha:PE X e (tE X.K (ev G a))) (hb:PE X i (tE X.K (ev G b))):PE X (.Subscript e i pos) (tE X.K (ev G (.gc a b))):=by
 have Ee:=g.room.un
 exact dH (B7 (Ey (by omega)) ha hb (j7 hs)) fun σ H Q q=>two (fun m r1 r2 h=>⟨_,_,_,_,m,r1,r2,h⟩) q
theorem EA {a:C} {x:Str} {e:Expr} {p pos:Pos} (g:Good kk X cc G) (hx:x = "len") (hg:glob cc x=true) (hs:notStar e=true) (ha:PE X e (tE X.K (ev G a))):PE X (.Call (.Name x p) [e] [] pos) (tE X.K (ev G (.jk a))):=by
 have og:=g.gl hg
 have hm:X.mg x=none:=g.blt x (by subst hx;show _∈bW;decide +kernel)
 subst hx
 refine dH (eL uY og hm boot_len (dA ha gE (aR hs [] X.env)) (⋯) (⋯) (aR hs [] X.env) rfl) fun σ H Q q=>?_
 obtain ⟨ads,M,ρ,s,q⟩:=q
 refine bZ s q fun w M1 v H1 ae s1 gh q1=>?_
 cases qd:sX M1 w with
 | none=>unfold lG at q1;rw [qd] at q1;exact q1.elim
 | some aa =>
  unfold lG at q1
  rw [qd] at q1
  obtain ⟨a,ks,rfl,hr,rk⟩:=xf s1.mem gh qd
  exact ⟨a,ks,rfl,hr,by rw [<- rk.len];exact bF.plain q1 s1.mem (bC _)⟩
theorem EB {a:C} {e:Expr} {n:Str} {ap cp:Pos} (hn:n = "clear") (hl:(ap.endLine == cp.line)=true) (h0:dU e=true) (ha:PE X e (tE X.K (ev G a))):PE X (.Call (.Attribute e n ap) [] [] cp) (tE X.K (ev G (.kW a))):=by
 have hb:=fN h0 n X.env (eval e X.env)
 subst hn
 refine dH (mz F.plainAttrs_dict F.slot_dict_clear F.type_dict_clear (fun pins s σ H x xs v us Q I rx rv h=>uZ pins s σ H x xs v us Q I rx rv h) ha hb hl) fun σ H Q q=>?_
 obtain ⟨ads,M,ρ,s,q⟩:=q
 refine bZ s q fun w M1 v H1 ae s1 gh q1=>?_
 rcases w with ⟨_|_|_|_|_ | n | _⟩|_ <;> first | exact q1.elim | skip
 have r1:RD X.K ae H1 (.adr n) v:=gh
 unfold RD at r1
 obtain ⟨ad,rfl,ea⟩:=r1
 unfold oZ at q1
 dsimp only at q1
 split at q1
 ·rename_i aa qm
  obtain ⟨ks,hk,rk⟩:=s1.mem.obj n _ ad qm ea
  have nf:∀ o x,H1 ad≠some (.dc o x):=fun o x z=>by rw [hk] at z;cases z
  refine ⟨.inr (.inr (.inl ⟨rfl,.inr ⟨ks,hk⟩⟩)),ad,ks,rfl,rfl,hk,?_⟩
  obtain ⟨g',m'⟩:=s1.mem.write (o:=.dT []) (ho:=.dT []) qm ea nf ⟨[],aJ,rfl⟩
  exact q1 .az (upd H1 ad (.dT [])) ae g' m' (show RD X.K ae (upd H1 ad (.dT [])) .az .az from fE)
 ·exact q1.elim
theorem IE {a b : C} {e x : Expr} {n : Str} {ap cp : Pos} (hn : n = "count") (hl : (ap.endLine == cp.line) = true) (h0 : dU e = true) (hx : notStar x = true) (R1 : aW cc b x = true)
    (ho:PE X e (tE X.K (ev G a))) (hb:PE X x (tE X.K (ev G b))):PE X (.Call (.Attribute e n ap) [x] [] cp) (tE X.K (ev G (.cnt a b))):=by
  have R3:=fN h0 n X.env (eval e X.env)
  have hc:bQ cc [b] [x]=true:=by
    show (notStar x && aW cc b x && true)=true
    rw [hx,R1];rfl
  have kS:=xv hc (show 1 < 20 by decide) X.env cp
  subst hn
  refine dH (sQ F.plainAttrs_list F.slot_list_count F.type_list_count wX ho (xu hx hb Cq) R3 kS hl (aR hx [] X.env) rfl) fun σ H Q q=>?_
  obtain ⟨ads,M,ρ,s,q⟩:=q
  have q:bF X.K ads H Q ((ev G a ρ M).bind fun x M=>if (de M x).isSome then (ev G b ρ M).bind fun y M=>mG x y M else .stuck):=by simp only [ev] at q;exact q
  refine bZ s q fun w M1 v H1 ae s1 gh q1=>?_
  split at q1
  · rename_i hs
    obtain ⟨es,he⟩:=Option.isSome_iff_exists.mp hs
    obtain ⟨ad,xs,rfl,rd,Nk⟩:=gJ s1.mem gh he
    refine ⟨.inl ⟨rfl,xs,d9.of Nk⟩,ae,M1,ρ,s1,?_⟩
    simp only [cw]
    have q1:bF X.K ae H1 Q ((ev G b ρ M1).bind fun y M=>mG w y M):=q1
    cases hq:ev G b ρ M1 with
    | ok y M2 =>
      rw [hq] at q1
      intro vs H2 bj g2 m2 r2
      obtain ⟨v2,rfl,R4⟩:=Au.one r2
      have q1:bF X.K ae H1 Q (mG w y M2):=q1
      have q2:=bF.shift (o:=mG w y M2) q1 g2 s1.mem m2
      clear q1
      unfold mG at q2
      cases ql:de M2 w with
      | none=>rw [ql] at q2;exact q2.elim
      | some ds =>
        rw [ql] at q2
        rcases y with ⟨_|_ | i | _|_|_|_⟩|_ <;> first | exact q2.elim | skip
        dsimp only at q2
        cases qi:fb ds with
        | none=>rw [qi] at q2;exact q2.elim
        | some is =>
          rw [qi] at q2
          obtain ⟨VF,VG,e2,R5,NG⟩:=gJ m2 (g2.rw gh) ql
          cases e2
          have ex:=ints_of qi R5
          subst ex
          exact ⟨ad,is,i,rfl,by rw [aE R4],NG,bF.plain q2 m2 (bC _)⟩
    | err _ _=>rw [hq] at q1;exact q1
    | stuck=>rw [hq] at q1;exact q1
  · exact q1.elim
end
section
variable {kk:Nat} {X:Cx} {cc:CC} {G:aL}
structure TF (H H':Hp):Prop where
 tup:HR H H'
 dc:∀ b o u,H b=some (.dc o u)->H' b=some (.dc o u)
theorem TF.gV {K:PySem.W.Frag} {H H':Hp} (t:TF H H') {a:Addr} {xs:List V} (h:oU K H a xs):oU K H' a xs:=by
 rcases h with ⟨o,h⟩ | h
 ·exact .inl ⟨o,t.dc _ _ _ h⟩
 ·exact .inr h
mutual
theorem RD.keep {K:PySem.W.Frag} {ads:List Addr} {H H':Hp} (t:TF H H'):∀ (d:D) (v:V),RD K ads H d v->RD K ads H' d v
 | .az,_,h=>by unfold RD at *;exact h
 | .bl _,_,h=>by unfold RD at *;exact h
 | .int _,_,h=>by unfold RD at *;exact h
 | .str _,_,h=>by unfold RD at *;exact h
 | .adr n,v,h=>by unfold RD at *;exact h
 | .tup ds,v,h=>by unfold RD at *;obtain ⟨a,xs,e,h,r⟩:=h;exact ⟨a,xs,e,t.tup _ _ h,aA.keep t ds xs r⟩
 | .ls ds,v,h=>by unfold RD at *;obtain ⟨a,xs,e,h,r⟩:=h;exact ⟨a,xs,e,t.gV h,aA.keep t ds xs r⟩
theorem aA.keep {K:PySem.W.Frag} {ads:List Addr} {H H':Hp} (t:TF H H'):∀ (ds:List D) (vs:List V),aA K ads H ds vs->aA K ads H' ds vs
 | [],_,h=>by unfold aA at *;exact h
 | d::ds,vs,h=>by unfold aA at *;obtain ⟨x,r,e,h1,h2⟩:=h;exact ⟨x,r,e,RD.keep t d x h1,aA.keep t ds r h2⟩
end
theorem bx.keep {κ:Type} {K:PySem.W.Frag} {ads:List Addr} {H H':Hp} (t:TF H H'):∀ (ds:List (κ×D)) (vs:List (κ×V)),bx K ads H ds vs->bx K ads H' ds vs
 | [],_,h=>by unfold bx at *;exact h
 | d::ds,vs,h=>by unfold bx at *;obtain ⟨x,r,e,h0,h1,h2⟩:=h;exact ⟨x,r,e,h0,RD.keep t d.2 x.2 h1,bx.keep t ds r h2⟩
theorem aB.keep {K:PySem.W.Frag} {ads:List Addr} {H H':Hp} {M:Mem} (m:aB K ads H M) (t:TF H H') (k:∀ a∈ads,H' a=H a):aB K ads H' M:=⟨m.nd,m.len,fun n o a e1 e2=>by
 have h:=m.obj n o a e1 e2
 have ha:=k a (jL e2)
 cases o with
 | lst ds=>obtain ⟨xs,h,r⟩:=h;exact ⟨xs,ha.trans h,aA.keep t _ _ r⟩
 | gV ds=>obtain ⟨o,xs,h,r⟩:=h;exact ⟨o,xs,ha.trans h,aA.keep t _ _ r⟩
 | dK ds=>obtain ⟨xs,h,r⟩:=h;exact ⟨xs,ha.trans h,bx.keep t _ _ r⟩
 | dT ds=>obtain ⟨xs,h,r⟩:=h;exact ⟨xs,ha.trans h,bx.keep t _ _ r⟩
 | dF ds=>obtain ⟨o,xs,h,r⟩:=h;exact ⟨o,xs,ha.trans h,bx.keep t _ _ r⟩⟩
theorem hU:∀ (aa acc:List (Key×V)),(acc.map (·.1)++aa.map (·.1)).Nodup->eE acc aa=acc++aa
 | [],acc,_=>by simp [eE]
 | p::ps,acc,h=>by
  have hn:¬ p.1∈acc.map (·.1):=by
   intro hm
   rw [List.nodup_append] at h
   exact h.2.2 _ hm _ (by simp) rfl
  have ha:(acc.any fun kv=>decide (kv.1=p.1))=false:=by
   rw [List.any_eq_false]
   intro x hx
   simp only [decide_eq_true_eq]
   exact fun e=>hn (e ▸ List.mem_map_of_mem hx)
  have e:eE acc (p::ps)=eE (acc++[p]) ps:=by
   show eE (putK acc p.1 p.2) ps=_
   unfold putK
   rw [ha]
   simp
  rw [e,hU ps (acc++[p]) (by simpa using h)]
  simp
def iO (K:PySem.W.Frag) (G:aL):List Str->List C->List (TE×TE)
 | k::ks,c::cs=>(tC (.str k),tE K (ev G c))::iO K G ks cs
 | _,_=>[]
theorem j8 {K:PySem.W.Frag} (ks:List Str) (cs:List C):∀ t∈iO K G ks cs,(∀ σ H A B,(∀ v H,A v H->B v H)->t.1 σ H A->t.1 σ H B)/\(∀ σ H A B,(∀ v H,A v H->B v H)->t.2 σ H A->t.2 σ H B):=by
 intro t ht
 have:∀ (ks:List Str) (cs:List C),t∈iO K G ks cs->∃ k c,t=(tC (.str k),tE K (ev G c)):=by
  intro ks
  induction ks with
  | nil=>intro cs h;cases cs <;> cases h
  | cons k ks ih =>
   intro cs h
   cases cs with
   | nil=>cases h
   | cons c cs =>
    rcases List.mem_cons.mp h with z | z
    ·exact ⟨k,c,z⟩
    ·exact ih cs z
 obtain ⟨k,c,rfl⟩:=this ks cs ht
 refine ⟨fun σ H A B f h=>f _ _ h,fun σ H A B f h=>?_⟩
 obtain ⟨ads,M,ρ,s,q⟩:=h
 refine ⟨ads,M,ρ,s,?_⟩
 cases hq:ev G c ρ M with
 | ok w M1=>rw [hq] at q;exact fun v H' ao g m r=>f _ _ (q v H' ao g m r)
 | err _ _=>rw [hq] at q;exact q
 | stuck=>rw [hq] at q;exact q
theorem pz {K : PySem.W.Frag} {ρ : En} {σ : L2.St} : ∀ (ks : List Str) (cs : List C) {ads : List Addr} {H : Hp} {M : Mem} {R : List V -> Hp -> Prop}, ks.length = cs.length -> SR K ads M ρ σ H -> pb K ads H R (bg G cs ρ M) ->
    eV (iO K G ks cs) σ H fun ps H2=>∃ vs,ps=(ks.map V.str).zip vs/\vs.length=ks.length/\R vs H2
  | [],[],ads,H,M,R,_,s,h=>⟨[],rfl,rfl,h [] H ads (au.refl _ _) s.mem (by unfold aA;rfl)⟩
  | [],_::_,_,_,_,_,e,_,_=>by cases e
  | _::_,[],_,_,_,_,e,_,_=>by cases e
  | k::ks,c::cs,ads,H,M,R,e,s,h=>by
    show tE K (ev G c) σ H fun y H2=>eV (iO K G ks cs) σ H2 fun ps H3=>_
    refine ⟨ads,M,ρ,s,?_⟩
    simp only [bg] at h
    cases hq:ev G c ρ M with
    | ok w M1 =>
      rw [hq] at h
      intro v H1 ae g1 m1 r1
      cases ho:own w M1 with
      | ok d M2 =>
        have h:pb K ads H R ((own w M1).bind fun d M=>(bg G cs ρ M).bind fun ds M=>.ok (d::ds) M):=h
        rw [ho] at h
        obtain ⟨bj,g2,m2,rd⟩:=mR s.mem g1 m1 r1 ho
        have h:pb K ads H R ((bg G cs ρ M2).bind fun ds M=>.ok (d::ds) M):=h
        have h2:pb K bj H1 (fun vs H'=>R (v::vs) H') (bg G cs ρ M2):=by
          cases xp:bg G cs ρ M2 with
          | ok ds M3 =>
            rw [xp] at h
            intro vs H3 cN g3 m3 r3
            refine h (v::vs) H3 cN (g2.trans g3) m3 ?_
            unfold aA
            exact ⟨v,vs,rfl,g3.rd _ _ rd,r3⟩
          | err _ _=>rw [xp] at h;exact h
          | stuck=>rw [xp] at h;exact h
        have ih:=pz ks cs (by simpa using e) (s.grow g2 m2) h2
        have mono:∀ (jR:List (TE×TE)) (H:Hp) (P Q:List (V×V)->Hp->Prop),(∀ ps H,P ps H->Q ps H)->(∀ t∈jR,(∀ σ H A B,(∀ v H,A v H->B v H)->t.1 σ H A->t.1 σ H B)/\(∀ σ H A B,(∀ v H,A v H->B v H)->t.2 σ H A->t.2 σ H B))->eV jR σ H P->eV jR σ H Q:=by
          intro jR
          induction jR with
          | nil=>intro H P Q f _ h;exact f _ _ h
          | cons t jR ih =>
            intro H P Q f hm h
            obtain ⟨m1,m2⟩:=hm t List.mem_cons_self
            refine m1 σ H _ _ (fun x H1 h1=>m2 σ H1 _ _ (fun y H2 h2=>ih H2 _ _ (fun ps H3 h3=>f _ _ h3) (fun t ht=>hm t (ix _ ht)) h2) h1) h
        refine mono _ _ _ _ ?_ ?_ ih
        · rintro ps H3 ⟨vs,rfl,hl,hR⟩
          exact ⟨v::vs,rfl,by simp [hl],hR⟩
        · intro t ht
          exact j8 ks cs t ht
      | err _ _=>cases w <;> cases ho
      | stuck=>cases w <;> cases ho
    | err _ _=>rw [hq] at h;exact h
    | stuck=>rw [hq] at h;exact h
theorem xx {ks:List Str} {cs:List C}:∀ {keys:List (Option Expr)} {vs:List Expr} {pos:Pos},strKeys ks keys=true->ks.length=cs.length->bQ cc cs vs=true->(∀ c∈cs,∀ e,aW cc c e=true->PE X e (tE X.K (ev G c)))->F_ X pos keys vs (iO X.K G ks cs):=by
 induction ks generalizing cs with
 | nil =>
  intro keys vs pos h1 h2 h3 ih
  cases keys with
  | cons _ _=>cases h1
  | nil =>
   cases cs with
   | cons _ _=>cases h2
   | nil =>
    cases vs with
    | cons _ _=>cases h3
    | nil=>exact zL
 | cons k ks R6 =>
  intro keys vs pos h1 h2 h3 ih
  cases cs with
  | nil=>cases h2
  | cons c cs =>
   cases vs with
   | nil=>cases h3
   | cons e es =>
    have h':(notStar e && aW cc c e && bQ cc cs es)=true:=h3
    simp only [bH] at h'
    cases keys with
    | nil=>cases h1
    | cons ky keys =>
     cases ky with
     | none=>cases h1
     | some ke =>
      obtain ⟨h1,hk⟩:=(bH _ _).mp h1
      refine bD (P:=fun ke=>F_ X pos (some ke::keys) (e::es) _) h1 fun cn j p h1=>?_
      cases cn <;> first | exact absurd (show false=true from h1) bO | skip
      rename_i st
      obtain rfl:k=st:=eq_of_beq h1
      exact wm vQ (ih c List.mem_cons_self e h'.1.2) (R6 hk (by simpa using h2) h'.2 fun c hc=>ih c (ix _ hc))
theorem hV:∀ {ks:List Str} {keys:List (Option Expr)},strKeys ks keys=true->keys.all (·.isSome)=true/\keys.length=ks.length
 | [],[],_=>⟨rfl,rfl⟩
 | [],_::_,h=>by cases h
 | _::_,[],h=>by cases h
 | k::ks,ky::keys,h=>by
  cases ky with
  | none=>cases h
  | some ke =>
   obtain ⟨a,b⟩:=hV ((bH _ _).mp h).2
   exact ⟨by simp [a],by simp [b]⟩
theorem pA:∀ {cs:List C} {es:List Expr},bQ cc cs es=true->cs.length=es.length
 | [],[],_=>rfl
 | [],_::_,h=>by cases h
 | _::_,[],h=>by cases h
 | c::cs,e::es,h=>by
  have h':(notStar e && aW cc c e && bQ cc cs es)=true:=h
  simp only [bH] at h'
  simp [pA h'.2]
theorem tu {α β:Type}:∀ (l:List α) (r:List β),l.length=r.length->(l.zip r).map (·.1)=l
 | [],_,_=>by simp
 | a::l,[],h=>by simp at h
 | a::l,b::r,h=>by simp [tu l r (by simpa using h)]
theorem tw {K:PySem.W.Frag} {ads:List Addr} {H:Hp}:∀ (ks:List Key) {ds:List D} {vs:List V},aA K ads H ds vs->ks.length=ds.length->bx K ads H (ks.zip ds) (ks.zip vs)
 | [],ds,vs,r,h=>by simp;unfold bx;rfl
 | k::ks,[],vs,r,h=>by simp at h
 | k::ks,d::ds,vs,r,h=>by
  unfold aA at r
  obtain ⟨x,r',rfl,h1,h2⟩:=r
  show bx K ads H ((k,d)::ks.zip ds) ((k,x)::ks.zip r')
  unfold bx
  exact ⟨_,_,rfl,rfl,h1,tw ks h2 (by simpa using h)⟩
theorem EC {pos:Pos}:PE X (.Dict [] [] pos) (tE X.K (ev G (.vD [] []))):=by
 refine dH wj fun σ H Q q=>?_
 obtain ⟨ads,M,ρ,s,q⟩:=q
 intro p hp
 have q:bF X.K ads H Q (.ok (.d (.adr M.length)) (M++[.dK []])):=by
  simp only [ev,bg] at q
  exact q
 exact q.D8 s.mem hp (show bx X.K ads H [] [] by unfold bx;rfl)
theorem ED {pos:Pos}:PE X (.Dict [] [] pos) (tE X.K (ev G .ji)):=dH wk fun σ H Q q=>by
 obtain ⟨ads,M,ρ,s,q⟩:=q
 intro p hp
 have np:=s.mem.fresh hp
 refine q (.ref p) _ (ads++[p]) ?_ ((s.mem.fh (o:=.dT []) hp).push np ⟨[],aJ,rfl⟩) ?_
 ·exact ⟨⟨[p],rfl⟩,fun b hb nb=>by
   rcases je.mp hb with z | z
   ·exact absurd z nb
   ·rw [List.mem_singleton.mp z];exact hp,fun b u n e=>by rw [aj (fun z=>by subst z;rw [hp] at e;cases e)];exact e,fun b xs e=>by rw [aj (fun z=>by subst z;rw [hp] at e;cases e)];exact e,fun b u x e=>by rw [aj (fun z=>by subst z;rw [hp] at e;cases e)];exact e⟩
 ·show RD X.K (ads++[p]) (upd H p (.dT [])) (.adr M.length) (.ref p)
  unfold RD
  exact ⟨p,rfl,by rw [List.getElem?_append_right (by rw [s.mem.len];exact ba _)];simp [s.mem.len]⟩
theorem IF {ks : List Str} {cs : List C} {keys : List (Option Expr)} {vs : List Expr} {pos : Pos} (h1 : strKeys ks keys = true) (hn : ks.Nodup) (h0 : keys ≠ []) (Hn : keys.length <= 15) (hc : bQ cc cs vs = true) (hl : ks.length = cs.length)
    (ih:∀ c∈cs,∀ e,aW cc c e=true->PE X e (tE X.K (ev G c))):PE X (.Dict keys vs pos) (tE X.K (ev G (.vD ks cs))):=by
  obtain ⟨k1,k2⟩:=hV h1
  refine dH (zM (xx h1 hl hc ih) k1 (by rw [k2,hl,pA hc]) h0 Hn) fun σ H Q q=>?_
  obtain ⟨ads,M,ρ,s,q⟩:=q
  intro p hp
  have O9:=s.mem.fresh hp
  have g0:au ads ads H (upd H p (.dK [])):=au.fh s.mem hp
  have s0:SR X.K ads M ρ σ (upd H p (.dK [])):=s.grow g0 (s.mem.fh hp)
  simp only [ev] at q
  have main:pb X.K ads (upd H p (.dK [])) (fun vs H2=>H2 p=some (.dK [])/\(vs.length=ks.length->Q (.ref p) (upd H2 p (.dK ((ks.map Sum.inr).zip vs))))) (bg G cs ρ M):=by
    cases hq:bg G cs ρ M with
    | ok ds M1 =>
      rw [hq] at q
      have q:bF X.K ads H Q (if ks.length=ds.length then .ok (.d (.adr M1.length)) (M1++[.dK ((ks.map Sum.inr).zip ds)]) else .stuck):=q
      split at q
      · rename_i Gk
        intro vs H2 bj g2 m2 r2
        have e2:H2 p=some (.dK []):=g2.kept p _ O9 aJ
        refine ⟨e2,fun KR=>?_⟩
        have O_:p∉bj:=g2.d_ O9 aJ
        have tk:TF H2 (upd H2 p (.dK ((ks.map Sum.inr).zip vs))):=⟨fun b xs h=>by rw [aj (fun z=>by subst z;rw [e2] at h;cases h)];exact h,fun b o u h=>by rw [aj (fun z=>by subst z;rw [e2] at h;cases h)];exact h⟩
        have m3:aB X.K bj (upd H2 p (.dK ((ks.map Sum.inr).zip vs))) M1:=m2.keep tk fun a ha=>aj (fun z=>by subst z;exact O_ ha)
        have r3:=aA.keep (K:=X.K) (ads:=bj) tk _ _ r2
        have m4:=m3.push (o:=.dK ((ks.map Sum.inr).zip ds)) O_ ⟨_,aJ,tw (ks.map Sum.inr) r3 (by simpa using Gk)⟩
        obtain ⟨t,et⟩:=g2.pre
        refine q (.ref p) _ (bj++[p]) ⟨⟨t++[p],by rw [et,List.append_assoc]⟩,fun b hb nb=>?_,fun b x nb h=>?_,fun b xs h=>?_,fun b o u h=>?_⟩ m4 ?_
        · rcases je.mp hb with z | z
          · have:=g2.new b z nb
            by_cases xy:b=p
            · subst xy;exact hp
            · rw [aj xy] at this;exact this
          · have:b=p:=by simpa using z
            subst this;exact hp
        · have xy:b≠p:=fun z=>by subst z;rw [hp] at h;cases h
          rw [aj xy]
          exact g2.kept b x nb (by rw [aj xy];exact h)
        · have xy:b≠p:=fun z=>by subst z;rw [hp] at h;cases h
          rw [aj xy]
          exact g2.fg b xs (by rw [aj xy];exact h)
        · have xy:b≠p:=fun z=>by subst z;rw [hp] at h;cases h
          rw [aj xy]
          exact g2.dc b o u (by rw [aj xy];exact h)
        · show RD X.K (bj++[p]) (upd H2 p (.dK ((ks.map Sum.inr).zip vs))) (.adr M1.length) (.ref p)
          unfold RD
          exact ⟨p,rfl,by rw [List.getElem?_append_right (by rw [m2.len];exact ba _)];simp [m2.len]⟩
      · exact q.elim
    | err _ _=>rw [hq] at q;exact q
    | stuck=>rw [hq] at q;exact q
  have h:=pz ks cs hl s0 main
  have mono:∀ (jR:List (TE×TE)) (H:Hp) (P Q:List (V×V)->Hp->Prop),(∀ ps H,P ps H->Q ps H)->(∀ t∈jR,(∀ σ H A B,(∀ v H,A v H->B v H)->t.1 σ H A->t.1 σ H B)/\(∀ σ H A B,(∀ v H,A v H->B v H)->t.2 σ H A->t.2 σ H B))->eV jR σ H P->eV jR σ H Q:=by
    intro jR
    induction jR with
    | nil=>intro H P Q f _ h;exact f _ _ h
    | cons t jR ih =>
      intro H P Q f hm h
      obtain ⟨m1,m2⟩:=hm t List.mem_cons_self
      refine m1 σ H _ _ (fun x H1 h1=>m2 σ H1 _ _ (fun y H2 h2=>ih H2 _ _ (fun ps H3 h3=>f _ _ h3) (fun t ht=>hm t (ix _ ht)) h2) h1) h
  refine mono _ _ _ _ ?_ (j8 ks cs) h
  rintro ps H2 ⟨vs,rfl,KR,e2,hQ⟩
  refine ⟨e2,(ks.map Sum.inr).zip vs,?_,?_,?_⟩
  · rw [List.zip_map_left,List.zip_map_left,List.map_map]
    rfl
  · rw [List.length_zip,aP,KR]
    omega
  · have Pa : ((([] : List (Key × V)).map (·.1)) ++ ((ks.map (Sum.inr (α := Int))).zip vs).map (·.1)).Nodup := by
      rw [tu _ _ (by rw [aP];exact KR.symm)]
      simp only [List.map_nil,List.nil_append]
      exact List.Pairwise.map _ (fun a b Gm z=>Gm (Sum.inr.inj z)) hn
    rw [hU _ _ Pa]
    exact hQ KR
end
def Cr (K:PySem.W.Frag) (ads:List Addr) (H:Hp) (it:Ev.It) (J:L2.It):Prop :=
 ∀ (i:Nat) (ae:List Addr) (H1:Hp) (M1:Mem),au ads ae H H1->aB K ae H1 M1 ->
  (itemAt M1 i it=some none->J.stop i H1) /\
  (∀ d,itemAt M1 i it=some (some d)->J.go i H1/\∀ x H2,J.F8 i H1 x H2->au ae ae H1 H2/\aB K ae H2 M1/\RD K ae H2 d x)
def fG (K:PySem.W.Frag) (ads:List Addr) (H:Hp) (R:L2.It->Hp->Prop):Out Ev.It->Prop
 | .ok it M=>∀ J H' ao,au ads ao H H'->aB K ao H' M->Cr K ao H' it J->R J H'
 | _=>False
def tI (K:PySem.W.Frag) (o:En->Mem->Out Ev.It):TI:=fun σ H R=>∃ ads M ρ,SR K ads M ρ σ H/\fG K ads H R (o ρ M)
def b_ (G:aL) (k:SK) (src:List C) (ρ:En) (M:Mem):Out Ev.It:=(cw G src ρ M).bind fun ws M=>fi k ws M
section
variable {K:PySem.W.Frag} {ads:List Addr} {H:Hp} {M:Mem}
theorem tx (lo:Int) (n:Nat):Cr K ads H (.jf lo n) (G4 lo n):=by
 intro i ae H1 M1 g1 m1
 refine ⟨fun e=>?_,fun d e=>?_⟩
 ·by_cases h:i < n
  ·simp [itemAt,h] at e
  ·exact Nat.not_lt.mp h
 ·by_cases h:i < n
  ·simp only [itemAt,if_pos h,Option.some.injEq] at e
   subst e
   refine ⟨h,fun x H2 y=>?_⟩
   obtain ⟨rfl,rfl⟩:=y
   exact ⟨au.refl _ _,m1,bC _⟩
  ·simp [itemAt,h] at e
theorem j9 {it:Ev.It} {a:Addr} (h:∀ (i:Nat) (ae:List Addr) (H1:Hp) (M1:Mem),au ads ae H H1->aB K ae H1 M1->∀ o,itemAt M1 i it=some o->∃ ds xs,o=ds[i]?/\aA K ae H1 ds xs/\d9 K H1 a xs):Cr K ads H it (Mg K a):=by
 intro i ae H1 M1 g1 m1
 refine ⟨fun e=>?_,fun d e=>?_⟩
 ·obtain ⟨ds,xs,e2,rd,sq⟩:=h i ae H1 M1 g1 m1 _ e
  refine ⟨xs,sq,?_⟩
  rw [<- rd.len]
  exact List.getElem?_eq_none_iff.mp e2.symm
 ·obtain ⟨ds,xs,e2,rd,sq⟩:=h i ae H1 M1 g1 m1 _ e
  obtain ⟨v,ev,rv⟩:=rd.get e2.symm
  refine ⟨⟨xs,v,sq,ev⟩,fun x H2 y=>?_⟩
  obtain ⟨rfl,y⟩:=y
  have:=y xs sq
  rw [ev] at this
  cases this
  exact ⟨au.refl _ _,m1,rv⟩
theorem AN {ds:List D} {xs:List V} {a:Addr} (ha:H a=some (.tup xs)) (rd:aA K ads H ds xs):Cr K ads H (.items ds) (Mh K a):=by
 intro i ae H1 M1 g1 m1
 have sq:eT K H1 a xs:=eT.of (g1.fg _ _ ha)
 have R7:=g1.lD _ _ rd
 refine ⟨fun e=>?_,fun d e=>?_⟩
 ·refine ⟨xs,sq,?_⟩
  rw [<- rd.len]
  exact List.getElem?_eq_none_iff.mp (e_ e)
 ·obtain ⟨v,ev,rv⟩:=R7.get (e_ e)
  refine ⟨⟨xs,v,sq,ev⟩,fun x H2 y=>?_⟩
  obtain ⟨rfl,y⟩:=y
  have:=y xs sq
  rw [ev] at this
  cases this
  exact ⟨au.refl _ _,m1,rv⟩
end
theorem tB {K:PySem.W.Frag} {ads:List Addr} {H:Hp} {M:Mem} {n:Nat} {v:V} {p:Bool×List D} (m:aB K ads H M) (r:RD K ads H (.adr n) v) (hp:bc M (.d (.adr n))=some p):∃ a,v=.ref a/\∃ xs,d9 K H a xs:=by
 obtain ⟨l,ds⟩:=p
 obtain ⟨a,xs,e,rd,sq⟩:=dR (w:=.d (.adr n)) m r hp
 rcases sq with ⟨_,sq⟩|⟨hl,_⟩
 ·exact ⟨a,e,xs,sq⟩
 ·simp only [bc] at hp
  split at hp
  ·cases hp;cases hl
  ·cases hp;cases hl
  ·cases hp
theorem pB {K : PySem.W.Frag} {ads bj : List Addr} {H H2 : Hp} {M2 : Mem} {n i : Nat} {a : Addr} {o : Option D} (r : RD K ads H (.adr n) (.ref a)) (g2 : au ads bj H H2) (m2 : aB K bj H2 M2) (e : itemAt M2 i (.at n) = some o) :
    ∃ ds xs,o=ds[i]?/\aA K bj H2 ds xs/\d9 K H2 a xs:=by
  unfold RD at r
  obtain ⟨b,eb,ea⟩:=r
  cases eb
  have Pb:=g2.get ea
  simp only [itemAt] at e
  split at e
  · rename_i ds q
    obtain ⟨xs,h,rd⟩:=m2.obj n _ a q Pb
    exact ⟨ds,xs,(e_ e).symm,rd,d9.of h⟩
  · rename_i ds q
    obtain ⟨o,xs,h,rd⟩:=m2.obj n _ a q Pb
    exact ⟨ds,xs,(e_ e).symm,rd,.inl (.inr ⟨o,h⟩)⟩
  · cases e
section
variable {kk:Nat} {X:Cx} {cc:CC} {G:aL} {tg:Expr} {K:PySem.W.Frag} {ads:List Addr} {H:Hp}
theorem KS {iter:Expr} {t u:TI} (h:PI X tg iter t) (f:∀ σ H R,u σ H R->t σ H R):PI X tg iter u:=fun pins s σ H R I q=>h pins s σ H R I (f σ H R q)
theorem AO {c:C} {iter:Expr} (he:PE X iter (tE X.K (ev G c))):PI X tg iter (tI X.K (b_ G .seq [c])):=by
 intro pins s σ H R I q
 obtain ⟨ads,M,ρ,sr,q⟩:=q
 simp only [b_,cw] at q
 cases hq:ev G c ρ M with
 | ok w M1 =>
  rw [hq] at q
  have q:fG X.K ads H R (fi .seq [w] M1):=q
  cases w with
  | lv ds =>
   have q:fG X.K ads H R (.ok (.items ds) M1):=q
   refine mi he pins s σ H R I ⟨ads,M,ρ,sr,?_⟩
   rw [hq]
   intro v H1 ae g1 m1 r1
   obtain ⟨a,xs,rfl,h0,h1,n,rd⟩:=r1
   refine ⟨a,rfl,⟨xs,d9.of h1⟩,q _ H1 ae g1 m1 (j9 fun i bj H2 M2 g2 m2 o e=>?_)⟩
   exact ⟨ds,xs,(e_ e).symm,g2.lD _ _ rd,d9.of (g2.kept a _ n h1)⟩
  | d x =>
   cases x with
   | tup ds =>
    have q:fG X.K ads H R (.ok (.items ds) M1):=q
    refine Df he pins s σ H R I ⟨ads,M,ρ,sr,?_⟩
    rw [hq]
    intro v H1 ae g1 m1 r1
    have r1:RD X.K ae H1 (.tup ds) v:=r1
    unfold RD at r1
    obtain ⟨a,xs,rfl,h1,rd⟩:=r1
    exact ⟨a,rfl,⟨xs,eT.of h1⟩,q _ H1 ae g1 m1 (AN h1 rd)⟩
   | ls ds =>
    have q:fG X.K ads H R (.ok (.items ds) M1):=q
    refine mi he pins s σ H R I ⟨ads,M,ρ,sr,?_⟩
    rw [hq]
    intro v H1 ae g1 m1 r1
    have r1:RD X.K ae H1 (.ls ds) v:=r1
    unfold RD at r1
    obtain ⟨a,xs,rfl,h1,rd⟩:=r1
    refine ⟨a,rfl,⟨xs,h1.sq⟩,q _ H1 ae g1 m1 (j9 fun i bj H2 M2 g2 m2 o e=>?_)⟩
    exact ⟨ds,xs,(e_ e).symm,g2.lD _ _ rd,(g2.gV h1).sq⟩
   | adr n =>
    have q:fG X.K ads H R (if (bc M1 (.d (.adr n))).isSome then .ok (.at n) M1 else .stuck):=q
    split at q
    ·rename_i hs
     obtain ⟨p,hp⟩:=Option.isSome_iff_exists.mp hs
     refine mi he pins s σ H R I ⟨ads,M,ρ,sr,?_⟩
     rw [hq]
     intro v H1 ae g1 m1 r1
     obtain ⟨a,ea,sq⟩:=tB m1 r1 hp
     subst ea
     exact ⟨a,rfl,sq,q _ H1 ae g1 m1 (j9 fun i bj H2 M2 g2 m2 o e=>pB r1 g2 m2 e)⟩
    ·exact q.elim
   | az=>exact q.elim
   | bl _=>exact q.elim
   | int _=>exact q.elim
   | str _=>exact q.elim
 | err _ _=>rw [hq] at q;exact q.elim
 | stuck=>rw [hq] at q;exact q.elim
theorem xB {c:C} {a:Expr} {x:Str} {p pos:Pos} (g:Good kk X cc G) (hx:x = "range") (hg:glob cc x=true) (hs:notStar a=true) (he:PE X a (tE X.K (ev G c))):PI X tg (.Call (.Name x p) [a] [] pos) (tI X.K (b_ G .cB [c])):=by
 have og:=g.gl hg
 have hm:X.mg x=none:=g.blt x (by subst hx;show _∈bW;decide +kernel)
 subst hx
 refine KS (uC og hm (dA he gE (aR hs [] X.env)) (aR hs [] X.env)) fun σ H R q=>?_
 obtain ⟨ads,M,ρ,s,q⟩:=q
 simp only [b_,cw] at q
 refine ⟨ads,M,ρ,s,?_⟩
 cases hq:ev G c ρ M with
 | ok w M1 =>
  rw [hq] at q
  have q:fG X.K ads H R (fi .cB [w] M1):=q
  intro v H1 ae g1 m1 r1
  rcases w with ⟨_|_ | j | _|_|_⟩|_ <;> first | exact q.elim | skip
  have q:fG X.K ads H R (if -(2 ^ 62)<=j/\j < 2 ^ 62 then .ok (.jf 0 j.toNat) M1 else .stuck):=q
  split at q
  ·rename_i hj
   exact ⟨j,by rw [aE r1],hj.1,hj.2,q _ H1 ae g1 m1 (tx _ _)⟩
  ·exact q.elim
 | err _ _=>rw [hq] at q;exact q.elim
 | stuck=>rw [hq] at q;exact q.elim
theorem xC {c d : C} {a b : Expr} {x : Str} {p pos : Pos} (g : Good kk X cc G) (hx : x = "range") (hg : glob cc x = true) (hs : notStar a = true) (y8 : notStar b = true) (he : PE X a (tE X.K (ev G c))) (hd : PE X b (tE X.K (ev G d))) :
    PI X tg (.Call (.Name x p) [a,b] [] pos) (tI X.K (b_ G .kT [c,d])):=by
  have og:=g.gl hg
  have hm:X.mg x=none:=g.blt x (by subst hx;show _∈bW;decide +kernel)
  subst hx
  refine KS (uD og hm (dA he (dA hd gE (aR y8 [] X.env)) (aR hs [b] X.env)) (by rw [aR hs,aR y8];rfl) (aR y8 [] X.env)) fun σ H R q=>?_
  obtain ⟨ads,M,ρ,s,q⟩:=q
  simp only [b_,cw] at q
  refine ⟨ads,M,ρ,s,?_⟩
  cases hq:ev G c ρ M with
  | ok w M1 =>
    rw [hq] at q
    intro v H1 ae g1 m1 r1
    have s1:=s.grow g1 m1
    refine ⟨ae,M1,ρ,s1,?_⟩
    simp only [Out.bind] at q
    cases Ew:ev G d ρ M1 with
    | ok w2 M2 =>
      rw [Ew] at q
      have q:fG X.K ads H R (fi .kT [w,w2] M2):=q
      intro v2 H2 bj g2 m2 r2
      rcases w with ⟨_|_ | i | _|_|_⟩|_ <;> first | exact q.elim | skip
      rcases w2 with ⟨_|_ | j | _|_|_⟩|_ <;> first | exact q.elim | skip
      have q:fG X.K ads H R (if -(2 ^ 62)<=i/\i < 2 ^ 62/\-(2 ^ 62)<=j/\j < 2 ^ 62 then .ok (.jf i (j - i).toNat) M2 else .stuck):=q
      split at q
      · rename_i hj
        exact ⟨i,j,by rw [aE r1,aE r2],hj,q _ H2 bj (g1.trans g2) m2 (tx _ _)⟩
      · exact q.elim
    | err _ _=>rw [Ew] at q;exact q.elim
    | stuck=>rw [Ew] at q;exact q.elim
  | err _ _=>rw [hq] at q;exact q.elim
  | stuck=>rw [hq] at q;exact q.elim
theorem bx.at {κ:Type} {K:PySem.W.Frag} {ads:List Addr} {H:Hp}:∀ {aa:List (κ×D)} {ks:List (κ×V)} (i:Nat),bx K ads H aa ks->(aa[i]?).map (·.1)=(ks[i]?).map (·.1)
 | [],_,_,r=>by unfold bx at r;subst r;rfl
 | p::aa,_,i,r=>by
  unfold bx at r
  obtain ⟨x,r',rfl,h0,_,h2⟩:=r
  cases i with
  | zero=>simp [h0]
  | succ i=>simpa using bx.at i h2
theorem pC {a:Addr} {o:Obj} {aa:List (List Key×D)} {ks:List (List Key×V)} (hk:H a=some (.dc o (.dT ks))) (rk:bx K ads H aa ks):Cr K ads H (.items (aa.map iK)) (HN a o ks):=by
 intro i ae H1 M1 g1 m1
 have h1:=g1.dc _ _ _ hk
 have hl:=rk.len
 have e0:itemAt M1 i (.items (aa.map iK))=some ((aa[i]?).map iK):=by
  show some ((aa.map iK)[i]?)=_
  rw [dy]
 rw [e0]
 refine ⟨fun e=>⟨h1,?_⟩,fun d e=>?_⟩
 ·have e:(aa[i]?).map iK=none:=e_ e
  have:=List.getElem?_eq_none_iff.mp (Option.map_eq_none_iff.mp e)
  omega
 ·obtain ⟨p,hp,rfl⟩:=Option.map_eq_some_iff.mp (e_ e)
  have hi:=(dh.mp hp).1
  refine ⟨⟨h1,by omega⟩,fun x H2 y=>?_⟩
  obtain ⟨rfl,k,v,b,R8,rfl,hb⟩:=y
  refine ⟨au.refl _ _,m1,?_⟩
  have ek:p.1=k:=by
   have:=rk.at i
   rw [hp,R8] at this
   simpa using this
  show RD K ae H2 (.tup (p.1.map kD)) (.ref b)
  unfold RD
  exact ⟨b,k.map kV,rfl,hb,by rw [ek];exact Ci k⟩
theorem xD {c:C} {iter:Expr} (he:PE X iter (tE X.K (ev G c))):PI X tg iter (tI X.K (b_ G .keys [c])):=by
 refine KS (Ah he) fun σ H R q=>?_
 obtain ⟨ads,M,ρ,s,q⟩:=q
 simp only [b_,cw] at q
 refine ⟨ads,M,ρ,s,?_⟩
 cases hq:ev G c ρ M with
 | ok w M1 =>
  rw [hq] at q
  have q:fG X.K ads H R (fi .keys [w] M1):=q
  intro v H1 ae g1 m1 r1
  rcases w with ⟨_|_|_|_|_ | n | _⟩|_ <;> first | exact q.elim | skip
  have r1:RD X.K ae H1 (.adr n) v:=r1
  unfold RD at r1
  obtain ⟨a,rfl,ea⟩:=r1
  have q:fG X.K ads H R (match M1[n]? with
   | some (.dT aa)=>.ok (.items (aa.map iK)) (M1.set n (.dF aa))
   | some (.dF aa)=>.ok (.items (aa.map iK)) M1
   | _=>.stuck):=q
  cases qm:M1[n]? with
  | none=>rw [qm] at q;exact q.elim
  | some ob =>
   rw [qm] at q
   cases ob with
   | dT aa =>
    obtain ⟨ks,hk,rk⟩:=m1.obj n _ a qm ea
    have nf:∀ o x,H1 a≠some (.dc o x):=fun o x z=>by rw [hk] at z;cases z
    refine ⟨a,ks,rfl,.inl ⟨hk,fun o=>?_⟩⟩
    have qS:a∈ae:=jL ea
    have hg:au ae ae H1 (upd H1 a (.dc o (.dT ks))):=⟨⟨[],by simp⟩,fun b h n=>absurd h n,fun b x nb h=>by rw [aj (by intro z;subst z;exact nb qS)];exact h,fun b xs h=>by
     rw [aj (fun z=>by subst z;rw [hk] at h;cases h)];exact h,fun b o u h=>by rw [aj (fun z=>by subst z;exact nf _ _ h)];exact h⟩
    obtain ⟨g',m'⟩:=m1.write (o:=.dF aa) (ho:=.dc o (.dT ks)) qm ea nf ⟨o,ks,aJ,hg.vE _ _ rk⟩
    exact q _ _ ae (g1.trans hg) m' (pC aJ (hg.vE _ _ rk))
   | dF aa =>
    obtain ⟨o,ks,hk,rk⟩:=m1.obj n _ a qm ea
    exact ⟨a,ks,rfl,.inr ⟨o,hk,q _ H1 ae g1 m1 (pC hk rk)⟩⟩
   | lst _=>exact q.elim
   | gV _=>exact q.elim
   | dK _=>exact q.elim
 | err _ _=>rw [hq] at q;exact q.elim
 | stuck=>rw [hq] at q;exact q.elim
theorem hZ {it:Ev.It} {l:Bool} {a:Addr} (h:∀ (i:Nat) (ae:List Addr) (H1:Hp) (M1:Mem),au ads ae H H1->aB K ae H1 M1->∀ o,itemAt M1 i it=some o->∃ ds xs,o=(ds[i]?.map fun d=>D.tup [.int i,d])/\aA K ae H1 ds xs/\Ge K H1 l a xs):Cr K ads H it (KG K l a):=by
 intro i ae H1 M1 g1 m1
 refine ⟨fun e=>?_,fun d e=>?_⟩
 ·obtain ⟨ds,xs,e2,rd,sq⟩:=h i ae H1 M1 g1 m1 _ e
  refine ⟨xs,sq,?_⟩
  rw [<- rd.len]
  cases q:ds[i]? with
  | none=>exact List.getElem?_eq_none_iff.mp q
  | some d=>rw [q] at e2;cases e2
 ·obtain ⟨ds,xs,e2,rd,sq⟩:=h i ae H1 M1 g1 m1 _ e
  cases q:ds[i]? with
  | none=>rw [q] at e2;cases e2
  | some d' =>
   rw [q] at e2
   cases e2
   obtain ⟨v,ev,rv⟩:=rd.get q
   refine ⟨⟨xs,v,sq,ev⟩,fun x H2 y=>?_⟩
   obtain ⟨p,y,rfl,hp,rfl,qK⟩:=y
   have:=qK xs sq
   rw [ev] at this
   cases this
   refine ⟨au.fh m1 hp,m1.fh hp,?_⟩
   have g2:=au.fh (o:=.tup [.int i,v]) m1 hp
   unfold RD
   refine ⟨p,_,rfl,aJ,?_⟩
   unfold aA
   exact ⟨.int i,[v],rfl,bC _,.one (g2.rd _ _ rv)⟩
theorem xE {c:C} {a t:Expr} {x:Str} {p pos:Pos} (g:Good kk X cc G) (hx:x = "enumerate") (ht:fP t=true) (hg:glob cc x=true) (hs:notStar a=true) (he:PE X a (tE X.K (ev G c))):PI X t (.Call (.Name x p) [a] [] pos) (tI X.K (b_ G .enum [c])):=by
 have og:=g.gl hg
 have hm:X.mg x=none:=g.blt x (by subst hx;show _∈bW;decide +kernel)
 subst hx
 cases t <;> first | cases ht | skip
 refine KS (Ac og hm (dA he gE (aR hs [] X.env)) (aR hs [] X.env)) fun σ H R q=>?_
 obtain ⟨ads,M,ρ,s,q⟩:=q
 simp only [b_,cw] at q
 refine ⟨ads,M,ρ,s,?_⟩
 cases hq:ev G c ρ M with
 | ok w M1 =>
  rw [hq] at q
  have q:fG X.K ads H R (fi .enum [w] M1):=q
  intro v H1 ae g1 m1 r1
  rcases w with ⟨_|_|_|_ | ds | n | ds⟩ | ds <;> first | exact q.elim | skip
  ·have q:fG X.K ads H R (.ok (.fD ds) M1):=q
   have r1:RD X.K ae H1 (.tup ds) v:=r1
   unfold RD at r1
   obtain ⟨b,xs,rfl,h1,rd⟩:=r1
   refine ⟨false,b,rfl,⟨xs,eT.of h1⟩,q _ H1 ae g1 m1 (hZ fun i bj H2 M2 g2 m2 o e=>⟨ds,xs,(e_ e).symm,g2.lD _ _ rd,eT.of (g2.fg _ _ h1)⟩)⟩
  ·have q:fG X.K ads H R (if (bc M1 (.d (.adr n))).isSome then .ok (.gI n) M1 else .stuck):=q
   split at q
   ·rename_i hs
    obtain ⟨p,hp⟩:=Option.isSome_iff_exists.mp hs
    obtain ⟨b,ea,sq⟩:=tB m1 r1 hp
    subst ea
    refine ⟨true,b,rfl,sq,q _ H1 ae g1 m1 (hZ fun i bj H2 M2 g2 m2 o e=>?_)⟩
    have e':∃ o',itemAt M2 i (.at n)=some o'/\o=o'.map fun d=>D.tup [.int i,d]:=by
     simp only [itemAt] at e ⊢
     split at e
     ·exact ⟨_,rfl,(e_ e).symm⟩
     ·exact ⟨_,rfl,(e_ e).symm⟩
     ·cases e
    obtain ⟨o',e1,e2⟩:=e'
    obtain ⟨ds,xs,e3,rd,R9⟩:=pB r1 g2 m2 e1
    exact ⟨ds,xs,by rw [e2,e3],rd,R9⟩
   ·exact q.elim
  ·have q:fG X.K ads H R (.ok (.fD ds) M1):=q
   have r1:RD X.K ae H1 (.ls ds) v:=r1
   unfold RD at r1
   obtain ⟨b,xs,rfl,h1,rd⟩:=r1
   exact ⟨true,b,rfl,⟨xs,h1.sq⟩,q _ H1 ae g1 m1 (hZ fun i bj H2 M2 g2 m2 o e=>⟨ds,xs,(e_ e).symm,g2.lD _ _ rd,(g2.gV h1).sq⟩)⟩
  ·have q:fG X.K ads H R (.ok (.fD ds) M1):=q
   obtain ⟨b,xs,rfl,h0,h1,n,rd⟩:=r1
   exact ⟨true,b,rfl,⟨xs,d9.of h1⟩,q _ H1 ae g1 m1 (hZ fun i bj H2 M2 g2 m2 o e=>⟨ds,xs,(e_ e).symm,g2.lD _ _ rd,d9.of (g2.kept b _ n h1)⟩)⟩
 | err _ _=>rw [hq] at q;exact q.elim
 | stuck=>rw [hq] at q;exact q.elim
end
def tG (K:PySem.W.Frag) (tg:List Nat):TG:=fun v σ H Q=>∃ ads M ρ d,SR K ads M ρ σ H/\RD K ads H d v/\∃ c_,bt tg d ρ=some c_/\∀ cg,SR K ads M c_ cg H->Q cg H
theorem SR.set {K:PySem.W.Frag} {ads:List Addr} {M:Mem} {ρ:En} {σ:L2.St} {H:Hp} (s:SR K ads M ρ σ H) (i:Nat) {d:D} {v:V} (r:RD K ads H d v):SR K ads M (ρ.set i (some d)) (σ.set i (some v)) H :=
 ⟨s.mem,fun j d' e=>by
  by_cases h:i=j
  ·subst h
   have hl:i < ρ.length:=by
    have:=(dh.mp e).1
    simpa using this
   rw [List.getElem?_set_self hl] at e
   cases e
   exact ⟨v,by rw [List.getElem?_set_self (by rw [<- s.ln];exact hl)],r⟩
  ·rw [List.getElem?_set_ne h] at e ⊢
   exact s.en j d' e,by simp [s.ln]⟩
def gN:List Nat->B0
 | []=>G2
 | i::r=>B2 (B1 i) (gN r)
section
variable {kk:Nat} {X:Cx} {cc:CC} {G:aL}
theorem Good.nm (g:Good kk X cc G) {x:Str} (h:(cc.names.lookup x == some .local || cc.names.lookup x == some .cell)=true):Loc X.env.scope x/\(X.fn x=true\/X.env.scope.names.lookup x=some .local):=by
 rw [Bool.or_eq_true] at h
 rcases h with h | h
 ·have h:=eq_of_beq h
  exact ⟨.inl (g.kinds x _ h),.inr (g.kinds x _ h)⟩
 ·have h:=eq_of_beq h
  exact ⟨.inr (g.kinds x _ h),.inl (g.RO x h)⟩
theorem tF (g:Good kk X cc G):∀ (tg:List Nat) (es:List Expr),hG cc tg es=true->F7 X es (gN tg)/\es.length=tg.length/\(assignEach es X.env).length=tg.length/\(assignEach es X.env).findIdx? (·.1)=none
 | [],[],_=>⟨zB,rfl,rfl,rfl⟩
 | [],_::_,h=>by cases h
 | _::_,[],h=>by cases h
 | i::tg,e::es,h=>by
  obtain ⟨h,h3⟩:=(bH _ _).mp h
  obtain ⟨ih,l1,l2,l3⟩:=tF g tg es h3
  refine bq (P:=fun e=>F7 X (e::es) (gN (i::tg))/\(e::es).length=(i::tg).length/\(assignEach (e::es) X.env).length=(i::tg).length/\(assignEach (e::es) X.env).findIdx? (·.1)=none) h fun x p h=>?_
  obtain ⟨h1,h2⟩:=(bH _ _).mp h
  obtain ⟨n1,n2⟩:=g.nm h2
  refine ⟨vW (mf (by rw [g.N];exact g.nd) (by rw [g.N];exact eq_of_beq h1) n1 n2) ih,by simp [l1],?_,?_⟩
  ·show (assignEach es X.env).length+1=_
   rw [l2];rfl
  ·show List.findIdx? _ ((false,_)::assignEach es X.env)=none
   rw [List.findIdx?_cons]
   simp only [Bool.false_eq_true,if_false]
   rw [l3];rfl
theorem Cs {K:PySem.W.Frag} {ads:List Addr} {M:Mem} {H:Hp} {Q:L2.St->Hp->Prop} {c_:En} (hQ:∀ cg,SR K ads M c_ cg H->Q cg H):∀ (tg:List Nat) (ds:List D) (xs:List V) (ρ:En) (σ:L2.St),SR K ads M ρ σ H->aA K ads H ds xs->cK tg ds ρ=some c_->gN tg xs σ H Q
 | [],[],xs,ρ,σ,s,r,e=>by
  unfold aA at r
  subst r
  cases e
  exact ⟨rfl,hQ σ s⟩
 | [],_::_,_,_,_,_,_,e=>by cases e
 | _::_,[],_,_,_,_,_,e=>by cases e
 | i::tg,d::ds,xs,ρ,σ,s,r,e=>by
  unfold aA at r
  obtain ⟨x,r',rfl,h1,h2⟩:=r
  exact ⟨x,r',rfl,Cs hQ tg ds r' _ _ (s.set i h1) h2 e⟩
theorem j_:∀ (tg:List Nat) (ds:List D) (ρ c_:En),cK tg ds ρ=some c_->ds.length=tg.length
 | [],[],_,_,_=>rfl
 | [],_::_,_,_,e=>by cases e
 | _::_,[],_,_,e=>by cases e
 | i::tg,d::ds,ρ,c_,e=>by simp [j_ tg ds _ c_ e]
theorem h_ (g:Good kk X cc G) {tg:List Nat} {t:Expr} (h:gx cc tg t=true):PG X t (tG X.K tg):=by
 rcases tg with _|⟨i,_|⟨j,tl⟩⟩
 ·exact absurd h bO
 ·refine bq (P:=fun t=>PG X t _) ((bH _ _).mp h).1 fun x p h=>?_
  obtain ⟨h1,h2⟩:=(bH _ _).mp h
  obtain ⟨n1,n2⟩:=g.nm h2
  intro pins s σ H v u Q I r q
  refine mf (by rw [g.N];exact g.nd) (by rw [g.N];exact eq_of_beq h1) n1 n2 pins s σ H v u Q I r ?_
  obtain ⟨ads,M,ρ,d,sr,rd,c_,e,hQ⟩:=q
  cases e
  exact hQ _ (sr.set i rd)
 ·refine gM (P:=fun t=>PG X t _) h fun es kq p h=>?_
  obtain ⟨a,l1,l2,l3⟩:=tF g (i::j::tl) es ((bH _ _).mp h).1
  intro pins s σ H v u Q I r q
  refine De (pos:=p) (k:=kq) g.calm a l2 l3 pins s σ H v u Q I r ?_
  obtain ⟨ads,M,ρ,d,sr,rd,c_,e,hQ⟩:=q
  have e':∃ ds,d=.tup ds/\cK (i::j::tl) ds ρ=some c_:=by
   cases d <;> first | cases e | exact ⟨_,rfl,e⟩
  obtain ⟨ds,rfl,e2⟩:=e'
  unfold RD at rd
  obtain ⟨b,xs,rfl,hb,rd⟩:=rd
  exact ⟨b,xs,rfl,eT.of hb,by rw [<- rd.len,j_ _ ds ρ c_ e2],Cs hQ _ ds xs ρ σ sr rd e2⟩
end
theorem gP {env : Env} : ∀ (names : List (Str × NameKind)) (acc : List (Str × Addr)), (∀ y ∈ names, y.2 = .free -> ∃ c, env.cells.lookup y.1 = some c) -> (∀ x c, acc.lookup x = some c -> env.cells.lookup x = some c) ->
    ∃ cl,(forIn names acc fun (x:Str×NameKind) (r:List (Str×Addr))=>(match x with | (name,kind)=>if (kind == NameKind.free)=true then do let a <- cellOf env name;pure (ForInStep.yield ((name,a)::r)) else pure (ForInStep.yield r):Sem (ForInStep (List (Str×Addr)))))=pure cl /\
      (∀ x c,cl.lookup x=some c->env.cells.lookup x=some c)/\(∀ x,(acc.lookup x).isSome=true->(cl.lookup x).isSome=true)/\∀ y∈names,y.2=.free->(cl.lookup y.1).isSome=true
  | [],acc,_,h=>⟨acc,rfl,h,fun _ q=>q,fun y hy=>by cases hy⟩
  | (n,k)::r,acc,hn,h=>by
    by_cases hk:k=.free
    · subst hk
      obtain ⟨c,hc⟩:=hn (n,.free) List.mem_cons_self rfl
      have h2:∀ x c',((n,c)::acc).lookup x=some c'->env.cells.lookup x=some c':=fun x c' e=>by
        rw [List.lookup_cons] at e
        by_cases hx:x=n
        · subst hx;simp at e;rw [<- e];exact hc
        · have:(x == n)=false:=beq_eq_false_iff_ne.mpr hx
          rw [this] at e;exact h x c' e
      obtain ⟨cl,e1,e2,e3,e4⟩:=gP r ((n,c)::acc) (fun y hy=>hn y (ix _ hy)) h2
      refine ⟨cl,?_,e2,fun x q=>e3 x ?_,fun y hy hf=>?_⟩
      · rw [List.forIn_cons]
        have:cellOf env n=pure c:=by unfold cellOf;rw [hc]
        simp only [beq_self_eq_true,if_true,this]
        exact e1
      · rw [List.lookup_cons]
        by_cases hx:(x == n)=true
        · simp [hx]
        · simp only [hx];exact q
      · rcases List.mem_cons.mp hy with z | z
        · subst z;exact e3 _ (by simp [List.lookup_cons])
        · exact e4 y z hf
    · obtain ⟨cl,e1,e2,e3,e4⟩:=gP r acc (fun y hy=>hn y (ix _ hy)) h
      refine ⟨cl,?_,e2,e3,fun y hy hf=>?_⟩
      · rw [List.forIn_cons]
        have:(k == NameKind.free)=false:=by simpa using hk
        simp only [this,Bool.false_eq_true,if_false]
        exact e1
      · rcases List.mem_cons.mp hy with z | z
        · subst z;exact absurd hf hk
        · exact e4 y z hf
theorem tH {X:Cx} {sc:Scope} (h:∀ y∈sc.names,y.2=.free->∃ c,X.env.cells.lookup y.1=some c):∃ cl,DS X sc cl:=by
 obtain ⟨cl,e1,e2,e3,e4⟩:=gP sc.names [] h (fun x c e=>by cases e)
 refine ⟨cl,?_,e2,fun x hx=>Option.isSome_iff_exists.mp (e4 (x,.free) (PySem.mem_of_lookup hx) rfl)⟩
 unfold closureFor
 exact congrArg (fun m=>m >>= fun cs=>pure cs) e1
section
variable {kk:Nat} {X:Cx} {cc:CC} {G:aL}
theorem jy {sc : Scope} (h : pk cc sc = true) : sc.kind = .function /\ (∀ y ∈ sc.names, y.2 = .cell -> sc.names.lookup y.1 = some .cell) /\ (∀ y ∈ sc.names, y.2 = .local -> sc.names.lookup y.1 = some .local) /\ (dW sc).Nodup /\
    ∀ y∈sc.names,y.2=.free->sc.names.lookup y.1=some .free/\(cc.names.lookup y.1=some .cell\/cc.names.lookup y.1=some .free):=by
  unfold pk at h
  simp only [bH,beq_iff_eq,List.all_eq_true,bne_iff_ne,ne_eq,decide_eq_true_eq,Bool.or_eq_true] at h
  obtain ⟨⟨⟨⟨h1,h2⟩,h3⟩,h4⟩,h5⟩:=h
  refine ⟨h1,fun y hy hk=>?_,fun y hy hk=>?_,h4,fun y hy hk=>?_⟩
  · rcases h2 y hy with z | z
    · exact absurd hk z
    · exact z
  · rcases h3 y hy with z | z
    · exact absurd hk z
    · exact z
  · rcases h5 y hy with z | z
    · exact absurd hk z
    · exact z
theorem Good.block (g:Good kk X cc G) {sc:Scope} (h:pk cc sc=true) {cl:List (Str×Addr)} (C:Addr) (s:Shared) (H:Hp) (fp:List Addr):Good kk (X.block sc cl C (dW sc) s H fp []) (mP cc sc) G:=by
 obtain ⟨h1,h2,h3,h4,h5⟩:=jy h
 refine ⟨g.calm,g.room,rfl,h4,fun x k e=>?_,fun x e=>?_,g.blt,g.O7,g.fns⟩
 ·have e:sc.names.lookup x=some k:=e
  have r:=cJ (env:=X.env) e
  have kd:(X.block sc cl C (dW sc) s H fp []).env.kindOf x=some (if (k == NameKind.free && X.env.scope.kind == .function && X.env.kindOf x == some .cell) then .cell else k):=r
  cases k with
  | «local»=>exact kd
  | cell=>exact kd
  | free =>
   show _\/_
   rw [kd]
   split
   ·exact .inl rfl
   ·exact .inr rfl
  | globalExplicit=>exact True.intro
  | globalImplicit=>exact kd
 ·have e:sc.names.lookup x=some .cell:=e
  show (sc.names.lookup x == some .cell)=true
  rw [e]
  rfl
theorem xF (g:Good kk X cc G) {sc:Scope} (h:pk cc sc=true):wM X sc (dW sc) (j5 cc sc):=by
 obtain ⟨h1,h2,h3,h4,h5⟩:=jy h
 refine ⟨by simp [j5],fun i j x e1 e2=>?_⟩
 unfold j5 at e1
 rw [dy,e2] at e1
 simp only [Option.map_some,Option.some.injEq] at e1
 split at e1
 ·rename_i hf
  have hf:sc.names.lookup x=some .free:=by simpa using hf
  obtain ⟨_,ho⟩:=h5 (x,.free) (PySem.mem_of_lookup hf) rfl
  refine ⟨?_,hf,?_⟩
  ·rw [g.N]
   obtain ⟨hj,hx,_⟩:=List.findIdx?_eq_some_iff_getElem.mp e1
   rw [eD hj]
   have:cc.N[j]=x:=by simpa using hx
   rw [this]
  ·rcases ho with ho | ho
   ·exact .inl (g.kinds x _ ho)
   ·exact g.kinds x _ ho
 ·cases e1
theorem xG {K:PySem.W.Frag} {ads:List Addr} {M:Mem} {ρ:En} {σ:L2.St} {H:Hp} (s:SR K ads M ρ σ H) (cj:List (Option Nat)):SR K ads M (ef cj ρ) (g8 cj σ) H:=by
 refine ⟨s.mem,fun i d e=>?_,by simp [ef,g8]⟩
 unfold ef at e
 unfold g8
 rw [dy] at e ⊢
 cases q:cj[i]? with
 | none=>rw [q] at e;cases e
 | some o =>
  rw [q] at e
  cases o with
  | none=>cases e
  | some j =>
   have e:(ρ[j]?).join=some d:=e_ e
   have e2:ρ[j]?=some (some d):=by
    cases r:ρ[j]? with
    | none=>rw [r] at e;cases e
    | some z=>rw [r] at e;cases z with
     | none=>cases e
     | some y=>cases e;rfl
   obtain ⟨v,ev,rv⟩:=s.en j d e2
   exact ⟨v,by simp [ev],rv⟩
theorem au.tJ {ads ao:List Addr} {H H':Hp} {D:Addr} {o:HO} (g:au ads ao H H') (h:H D=none):au ads ao H (upd H' D o) :=
 ⟨g.pre,g.new,fun b x n e=>by rw [aj (fun z=>by subst z;rw [h] at e;cases e)];exact g.kept b x n e,fun b x e=>by rw [aj (fun z=>by subst z;rw [h] at e;cases e)];exact g.fg b x e,
  fun b x u e=>by rw [aj (fun z=>by subst z;rw [h] at e;cases e)];exact g.dc b x u e⟩
theorem pE {K : PySem.W.Frag} {G : aL} {it : Ev.It} {J : L2.It} {tg : List Nat} {cond : Option dQ} {elt : C} {cj : List (Option Nat)} {ads : List Addr} {M : Mem} {ρ : En} {σ : L2.St} {H : Hp} {Q : VK} {f : Nat}
    (s:SR K ads M ρ σ H) (hJ:Cr K ads H it J) (q:bF K ads H Q (aK (fun τ M=>bh G cond τ M) (fun τ M=>(ev G elt τ M).bind own) it tg f 0 (ef cj ρ) M [])) :
    qP cj (tG K tg) (cond.map fun t=>kN K (dk G t)) (tE K (ev G elt)) σ J H Q:=by
  intro D hD
  have R_:=s.mem.fresh hD
  refine ⟨fun i m τ H' ys=>∃ ao M' kc acc,SR K ao M' kc τ H'/\au ads ao H H'/\D∉ao/\H' D=some (.lst ys)/\aA K ao H' acc ys/\bF K ads H Q (aK (fun τ M=>bh G cond τ M) (fun τ M=>(ev G elt τ M).bind own) it tg m i kc M' acc),
    ⟨f,ads,M,ef cj ρ,[],?_,(au.refl _ _).tJ hD,R_,aJ,(by unfold aA;rfl),q⟩,?_⟩
  · have g0:au ads ads H (upd H D (.lst [])):=au.fh s.mem hD
    exact (xG s cj).grow g0 (s.mem.fh hD)
  rintro i m τ H' ys ⟨ao,M',kc,acc,s',g',dn,hl,ra,q'⟩
  refine ⟨hl,?_⟩
  obtain ⟨r1,r2⟩:=hJ i ao H' M' g' s'.mem
  have stop:itemAt M' i it=some none->bF K ads H Q (.ok (.lv acc) M')->(J.stop i H'/\Q (.ref D) H'):=fun hi q' =>
    ⟨r1 hi,q' (.ref D) H' ao g' s'.mem ⟨D,ys,rfl,hD,hl,dn,ra⟩⟩
  cases m with
  | zero =>
    unfold aK at q'
    split at q'
    · rename_i hi
      exact .inl (stop hi q')
    · exact q'.elim
  | succ m =>
    unfold aK at q'
    split at q'
    · rename_i hi
      exact .inl (stop hi q')
    · rename_i d hi
      obtain ⟨go,yl⟩:=r2 d hi
      cases hb:bt tg d kc with
      | none=>rw [hb] at q';exact q'.elim
      | some qx =>
        rw [hb] at q'
        dsimp only at q'
        split at q'
        · rename_i hz
          refine .inr ⟨go,by rw [<- ra.len];exact hz,fun x H2 y=>?_⟩
          obtain ⟨g2,m2,rd⟩:=yl x H2 y
          have zc:H2 D=some (.lst ys):=g2.kept D _ dn hl
          refine ⟨ao,M',kc,d,s'.grow g2 m2,rd,qx,hb,fun zd s2=>?_⟩
          have rest : ∀ b M3 H3 cN, au ao cN H2 H3 -> aB K cN H3 M3 -> bF K ads H Q (if b = true then ((ev G elt qx M3).bind own).bind fun x M => aK (fun τ M => bh G cond τ M) (fun τ M => (ev G elt τ M).bind own) it tg m (i + 1) qx M (acc ++ [x]) else aK (fun τ M => bh G cond τ M) (fun τ M => (ev G elt τ M).bind own) it tg m (i + 1) qx M3 acc) ->
              (if b=true then tE K (ev G elt) zd H3 fun v H4=>H4 D=some (.lst ys)/\∃ m',m' < m+1/\∃ ao M' kc acc,SR K ao M' kc zd (upd H4 D (.lst (ys++[v])))/\au ads ao H (upd H4 D (.lst (ys++[v])))/\D∉ao/\(upd H4 D (.lst (ys++[v]))) D=some (.lst (ys++[v]))/\aA K ao (upd H4 D (.lst (ys++[v]))) acc (ys++[v])/\bF K ads H Q (aK (fun τ M=>bh G cond τ M) (fun τ M=>(ev G elt τ M).bind own) it tg m' (i+1) kc M' acc)
               else ∃ m',m' < m+1/\∃ ao M' kc acc,SR K ao M' kc zd H3/\au ads ao H H3/\D∉ao/\H3 D=some (.lst ys)/\aA K ao H3 acc ys/\bF K ads H Q (aK (fun τ M=>bh G cond τ M) (fun τ M=>(ev G elt τ M).bind own) it tg m' (i+1) kc M' acc)):=by
            intro b M3 H3 cN g3 m3 q3
            have NH:D∉cN:=g3.d_ dn zc
            have KU:H3 D=some (.lst ys):=g3.kept D _ dn zc
            have s3:=s2.grow g3 m3
            have gg:=(g'.trans g2).trans g3
            have Pc:=(g2.trans g3).lD _ _ ra
            cases b with
            | false =>
              rw [if_neg (by simp)] at q3 ⊢
              exact ⟨m,Nat.lt_succ_self _,cN,M3,qx,acc,s3,gg,NH,KU,Pc,q3⟩
            | true =>
              rw [if_pos rfl] at q3 ⊢
              refine ⟨cN,M3,qx,s3,?_⟩
              cases he:ev G elt qx M3 with
              | ok w M4 =>
                rw [he] at q3
                intro v H4 u_ g4 m4 r4
                have q3:bF K ads H Q ((own w M4).bind fun x M=>aK (fun τ M=>bh G cond τ M) (fun τ M=>(ev G elt τ M).bind own) it tg m (i+1) qx M (acc++[x])):=q3
                have mX:H4 D=some (.lst ys):=g4.kept D _ NH KU
                refine ⟨mX,m,Nat.lt_succ_self _,?_⟩
                cases ho:own w M4 with
                | ok dd M5 =>
                  rw [ho] at q3
                  obtain ⟨AQ,g5,m5,Sa⟩:=mR s3.mem g4 m4 r4 ho
                  have Pd:D∉AQ:=g5.d_ NH KU
                  have tk:TF H4 (upd H4 D (.lst (ys++[v]))):=⟨fun b xs e=>by rw [aj (fun z=>by subst z;rw [mX] at e;cases e)];exact e,fun b o u e=>by rw [aj (fun z=>by subst z;rw [mX] at e;cases e)];exact e⟩
                  have m6:aB K AQ (upd H4 D (.lst (ys++[v]))) M5:=m5.keep tk fun a ha=>aj (fun z=>by subst z;exact Pd ha)
                  have Sb:HQ K AQ (upd H4 D (.lst (ys++[v]))) qx zd:=fun j d e=>by
                    obtain ⟨u,e1,r⟩:=g5.O4 s3.en j d e
                    exact ⟨u,e1,RD.keep tk _ _ r⟩
                  exact ⟨AQ,M5,qx,acc++[dd],⟨m6,Sb,s3.ln⟩,(gg.trans g5).tJ hD,Pd,aJ,aA.keep tk _ _ ((g5.lD _ _ Pc).app (.one Sa)),q3⟩
                | err _ _=>cases w <;> cases ho
                | stuck=>cases w <;> cases ho
              | err _ _=>rw [he] at q3;exact q3
              | stuck=>rw [he] at q3;exact q3
          cases cond with
          | none =>
            exact rest true M' H2 ao (au.refl _ _) m2 q'
          | some t =>
            show kN K (dk G t) zd H2 _
            refine ⟨ao,M',qx,s2,?_⟩
            have q':bF K ads H Q ((dk G t qx M').bind fun b M=>if b=true then ((ev G elt qx M).bind own).bind fun x M=>aK (fun τ M=>bh G (some t) τ M) (fun τ M=>(ev G elt τ M).bind own) it tg m (i+1) qx M (acc++[x]) else aK (fun τ M=>bh G (some t) τ M) (fun τ M=>(ev G elt τ M).bind own) it tg m (i+1) qx M acc):=q'
            cases ht:dk G t qx M' with
            | ok b M3 =>
              rw [ht] at q'
              intro H3 cN g3 m3
              exact rest b M3 H3 cN g3 m3 q'
            | err _ _=>rw [ht] at q';exact q'
            | stuck=>rw [ht] at q';exact q'
        · exact q'.elim
    · exact q'.elim
end
section
variable {kk:Nat} {G:aL}
theorem mY {e:Expr} (h:cM e=true) (env:Env):∀ x,foldedSetIterable e env x=pure x:=by
 intro x
 cases e <;> first | rfl | exact absurd (show false=true from h) bO
theorem EE {X : Cx} {cc : CC} {k : SK} {src : List C} {tg : List Nat} {cond : Option dQ} {elt : C} {cj : List (Option Nat)} {el t iter : Expr} {ifs : List Expr} {sc : Scope} {pos : Pos} (g : Good kk X cc G) (xH : pk cc sc = true) (wI : cj = j5 cc sc) (iG : cM iter = true)
    (xI:PI X t iter (tI X.K (b_ G k src))) (NI:gx (mP cc sc) tg t=true) (ia:AH (mP cc sc) cond ifs=true)
    (KP:∀ t,cond=some t->∀ X':Cx,X'.K=X.K->Good kk X' (mP cc sc) G->∀ e,iM (mP cc sc) t e=true->PT X' e (kN X'.K (dk G t))) (Se:∀ X':Cx,X'.K=X.K->Good kk X' (mP cc sc) G->PE X' el (tE X'.K (ev G elt))) :
    ∃ (wi:TI) (cl:(X:Cx)->Prop),True/\PE X (.ListComp el [⟨t,iter,ifs,0⟩] sc pos) (tE X.K (ev G (.comp k src tg cond elt cj))):=by
  refine ⟨fun _ _ _=>True,fun _=>True,True.intro,?_⟩
  intro pins s σ H Q I q
  obtain ⟨h1,h2,h3,h4,h5⟩:=jy xH
  obtain ⟨cl,KW⟩:=tH (X:=X) (sc:=sc) fun y hy hf=>by
    obtain ⟨_,ho⟩:=h5 y hy hf
    refine I.ok.has y.1 ?_
    rcases ho with ho | ho
    · exact .inl (g.kinds _ _ ho)
    · exact g.kinds _ _ ho
  have ck:iH X sc (dW sc) cj cl t el ifs (tG X.K tg) (cond.map fun t=>kN X.K (dk G t)) (tE X.K (ev G elt)):=by
    refine ⟨h1,h2,h3,KW,wI ▸ xF g xH,fun C s H fp=>h_ (g.block xH C s H fp) NI,?_,fun C s H fp=>Se _ rfl (g.block xH C s H fp)⟩
    cases cond with
    | none =>
      cases ifs with
      | nil=>rfl
      | cons _ _=>cases ia
    | some tt =>
      cases ifs with
      | nil=>cases ia
      | cons e es =>
        cases es with
        | cons _ _=>cases ia
        | nil=>exact ⟨e,rfl,fun C s H fp=>KP tt rfl (X.block sc cl C (dW sc) s H fp []) rfl (g.block xH C s H fp) e ia⟩
  refine z9 g.calm xI ck (mY iG X.env) pins s σ H Q I ?_
  obtain ⟨ads,M,ρ,sr,q⟩:=q
  refine ⟨ads,M,ρ,sr,?_⟩
  have q:bF X.K ads H Q ((b_ G k src ρ M).bind fun it M=>aK (fun τ M=>bh G cond τ M) (fun τ M=>(ev G elt τ M).bind own) it tg (df M it) 0 (ef cj ρ) M []):=by
    simp only [ev] at q
    unfold b_
    cases hw:cw G src ρ M with
    | ok ws M1=>rw [hw] at q;exact q
    | err _ _=>rw [hw] at q;exact q
    | stuck=>rw [hw] at q;exact q
  cases hs:b_ G k src ρ M with
  | ok it M1 =>
    rw [hs] at q
    intro J H1 ae g1 m1 rj
    exact pE (sr.grow g1 m1) rj (bF.shift (o:=aK (fun τ M=>bh G cond τ M) (fun τ M=>(ev G elt τ M).bind own) it tg (df M1 it) 0 (ef cj ρ) M1 []) q g1 sr.mem m1)
  | err _ _=>rw [hs] at q;exact q
  | stuck=>rw [hs] at q;exact q
end
theorem cX {X:Cx} {cc:CC} {G:aL} {c:C} {e:Expr} (h:(fO e && aW cc c e)=true) (k:aW cc c e=true->PE X e (tE X.K (ev G c))):PT X e (kN X.K (dk G (.val c))):=AM ((bH _ _).mp h).1 (k ((bH _ _).mp h).2)
mutual
theorem aC {kk:Nat} {G:aL}:∀ (c:C) (cc:CC) (X:Cx) (e:Expr),Good kk X cc G->aW cc c e=true->PE X e (tE X.K (ev G c))
 | .var i,cc,X,e,g,h=>Ig g h
 | .cst d,cc,X,e,g,h=>Ih h
 | .bin op a b,cc,X,e,g,h=>Ii (fun e h=>aC a cc X e g h) (fun e h=>aC b cc X e g h) h
 | .cmp op a b,cc,X,e,g,h=>(Ck g (fun e h=>aC a cc X e g h) (fun e h=>aC b cc X e g h) h).1
 | .chain o1 o2 a b c,cc,X,e,g,h=>(tm g (fun e h=>aC a cc X e g h) (fun e h=>aC b cc X e g h) (fun e h=>aC c cc X e g h) h).1
 | .dj cs,cc,X,e,g,h=>by
  refine ez (P:=fun e=>PE X e _) h fun op es pos h=>?_
  simp only [bH,Bool.not_eq_true',List.isEmpty_eq_false_iff] at h
  cases op with
  | Or=>exact absurd h.1.1 bO
  | And=>exact dH (Cn (op:=.And) cs es pos (mZ cs cc X g) h.1.2 h.2) fun σ H Q q=>q
 | .d7 cs,cc,X,e,g,h=>by
  refine ez (P:=fun e=>PE X e _) h fun op es pos h=>?_
  simp only [bH,Bool.not_eq_true',List.isEmpty_eq_false_iff] at h
  cases op with
  | And=>exact absurd h.1.1.symm bO
  | Or=>exact dH (Iq cs es pos (mZ cs cc X g) h.1.2 h.2) fun σ H Q q=>q
 | .neg a,cc,X,e,g,h=>Ij (fun e h=>aC a cc X e g h) h
 | .ite t a b,cc,X,e,g,h=>q_ (P:=fun e=>PE X e _) h fun c x y pos h=>by
  simp only [bH] at h
  exact Iv (vd t cc X c g h.1.1) (aC a cc X x g h.1.2) (aC b cc X y g h.2)
 | .tup cs,cc,X,e,g,h=>Ik (fun es h=>pF cs cc X es g h) h
 | .lst cs,cc,X,e,g,h=>Il (fun es h=>pF cs cc X es g h) h
 | .sub a b,cc,X,e,g,h=>bI (P:=fun e=>PE X e _) h fun e i pos h=>by
  simp only [bH] at h
  exact Iw g h.1.1 (aC a cc X e g h.1.2) (aC b cc X i g h.2)
 | .kU a lo hi,cc,X,e,g,h=>bI (P:=fun e=>PE X e _) h fun e i pos h=>j4 (P:=fun i=>PE X (.Subscript e i pos) _) h fun l u st p h=>by
  simp only [bH] at h
  cases st with
  | some _=>exact absurd h.1.1.1 bO
  | none=>exact Iy (aC a cc X e g h.1.1.2) (IG lo cc X l g h.1.2) (IG hi cc X u g h.2)
 | .zf a k,cc,X,e,g,h=>bI (P:=fun e=>PE X e _) h fun e i pos h=>j4 (P:=fun i=>PE X (.Subscript e i pos) _) h fun l u st p h=>by
  rcases l with _|_ <;> first | exact absurd h bO | skip
  rcases u with _|_ <;> first | exact absurd h bO | skip
  rcases st with _ | ke <;> first | exact absurd h bO | skip
  replace h:=(bH _ _).mp h
  refine IB ?_ (aC a cc X e g h.2)
  rcases (Bool.or_eq_true _ _).mp h.1 with h | h
  ·refine bD (P:=fun ke=>PE X ke _) h fun c j p2 h=>?_
   cases c <;> first | exact absurd h bO | skip
   obtain rfl:=eq_of_beq h
   exact ma
  ·refine dD (P:=fun ke=>PE X ke _) h fun op x p2 h=>?_
   replace h:=(bH _ _).mp h
   cases op <;> first | exact absurd h.1 bO | skip
   refine bD (P:=fun x=>PE X (.UnaryOp .USub x p2) _) h.2 fun c j p3 h=>?_
   cases c <;> first | exact absurd h bO | skip
   rename_i jj
   obtain rfl:k=-jj:=by have:=eq_of_beq h;omega
   exact dH (B4 v3 ma) fun σ H Q q=>⟨jj,rfl,q⟩
 | .jW a b,_,_,_,_,h=>absurd (show false=true from h) bO
 | .call f cs,cc,X,e,g,h=>cv (P:=fun e=>PE X e _) h fun fe args dX pos h=>bq (P:=fun fe=>PE X (.Call fe args dX pos) _) h fun x p h=>by
  rcases args with _|⟨e,es⟩ <;> first | exact absurd h bO | skip
  cases dX <;> first | exact absurd h bO | skip
  simp only [bH,beq_iff_eq] at h
  exact s_call g h.1.1.1 h.1.1.2 h.1.2 h.2 (pF cs cc X (e::es) g h.2)
 | .bi b cs,cc,X,e,g,h=>cv (P:=fun e=>PE X e _) h fun fe args dX pos h0=>bq (P:=fun fe=>PE X (.Call fe args dX pos) _) h0 fun x p h=>by
  clear h0
  replace h:=(bH _ _).mp h
  have h1:=h.1
  replace h:=h.2
  simp only [bH,List.isEmpty_iff] at h1
  obtain ⟨⟨rfl,hx⟩,hg⟩:=h1
  cases hb:xn b with
  | none =>
   rw [hb] at h
   rcases args with _|⟨e,es⟩ <;> first | exact absurd h bO | skip
   replace h:=(bH _ _).mp h
   have eK:notStar e=true/\bQ cc cs.tail es=true:=by
    cases cs with
    | nil=>exact absurd h.2 bO
    | cons c cs =>
     have h':(notStar e && aW cc c e && bQ cc cs es)=true:=h.2
     simp only [bH] at h'
     exact ⟨h'.1.1,h'.2⟩
   exact NC g h.1 (eq_of_beq hx) hg eK.1 eK.2 (Ct cs cc X (e::es) g h.2)
  | some t =>
   rw [hb] at h
   obtain rfl:=rm hb
   rcases args with _|⟨e,_|⟨f,_|⟨f2,fs⟩⟩⟩ <;> first | exact absurd h bO | skip
   replace h:=(bH _ _).mp h
   refine bq (P:=fun f=>PE X (.Call (.Name x p) [e,f] [] pos) _) h.1 fun y py hy=>?_
   simp only [bH,decide_eq_true_eq] at hy
   rcases cs with _|⟨c,_|⟨c2,cs⟩⟩
   ·exact absurd h.2 bO
   ·have h7:(notStar e && aW cc c e && true)=true:=h.2
    simp only [bH] at h7
    exact IA g (eq_of_beq hx) hg (eq_of_beq hy.1.1) hy.1.2 hy.2 h7.1.1 (aC c cc X e g h7.1.2)
   ·have h7:(notStar e && aW cc c e && bQ cc (c2::cs) [])=true:=h.2
    simp only [bH] at h7
    exact absurd h7.2 bO
 | .me m o cs,cc,X,e,g,h=>cv (P:=fun e=>PE X e _) h fun fe args dX pos h=>dS (P:=fun fe=>PE X (.Call fe args dX pos) _) h fun e n ap h=>by
  simp only [bH,List.isEmpty_iff] at h
  obtain ⟨⟨⟨⟨⟨⟨⟨rfl,h1⟩,h2⟩,h3⟩,h4⟩,h5⟩,h6⟩,h7⟩:=h
  exact NF (eq_of_beq h1) h2 h3 h4 h6 (of_decide_eq_true h7) (aC o cc X e g h5) (pF cs cc X args g h6)
 | .vD ks cs,cc,X,e,g,h=>lJ (P:=fun e=>PE X e _) h fun keys vs pos h=>by
  simp only [Bool.or_eq_true,bH,Bool.not_eq_true',List.isEmpty_eq_false_iff,decide_eq_true_eq,List.isEmpty_iff] at h
  rcases h with ⟨⟨⟨⟨⟨h1,h2⟩,h3⟩,h4⟩,h5⟩,h6⟩|⟨⟨⟨rfl,rfl⟩,rfl⟩,rfl⟩
  ·exact IF h1 h2 h3 h4 h5 h6 (mZ cs cc X g)
  ·exact EC
 | .jf tp cs,_,_,_,_,h=>absurd (show false=true from h) bO
 | .Cc x v,cc,X,e,g,h=>bq (P:=fun e=>PE X e _) h fun y pos h=>by
  simp only [bH,beq_iff_eq] at h
  obtain ⟨⟨⟨rfl,h1⟩,h2⟩,h3⟩:=h
  exact IC g h1 h2 h3
 | .ji,cc,X,e,g,h=>lJ (P:=fun e=>PE X e _) h fun keys vs pos h=>by
  simp only [bH,List.isEmpty_iff] at h
  obtain ⟨rfl,rfl⟩:=h
  exact ED
 | .gc a b,cc,X,e,g,h=>bI (P:=fun e=>PE X e _) h fun e i pos h=>by
  simp only [bH] at h
  exact Ez g h.1.1 (aC a cc X e g h.1.2) (aC b cc X i g h.2)
 | .fB ng a b,cc,X,e,g,h=>(Cm g (fun e h=>aC a cc X e g h) (fun e h=>aC b cc X e g h) h).1
 | .jk a,cc,X,e,g,h=>cv (P:=fun e=>PE X e _) h fun fe args dX pos h=>bq (P:=fun fe=>PE X (.Call fe args dX pos) _) h fun x p h=>by
  rcases args with _|⟨e,_|⟨e2,es⟩⟩ <;> first | exact absurd h bO | skip
  cases dX <;> first | exact absurd h bO | skip
  simp only [bH] at h
  obtain ⟨⟨⟨h1,h2⟩,h3⟩,h4⟩:=h
  exact EA g (eq_of_beq h1) h2 h3 (aC a cc X e g h4)
 | .kW a,cc,X,e,g,h=>cv (P:=fun e=>PE X e _) h fun fe args dX pos h=>dS (P:=fun fe=>PE X (.Call fe args dX pos) _) h fun e n ap h=>by
  rcases args with _|⟨e2,es⟩ <;> first | exact absurd h bO | skip
  cases dX <;> first | exact absurd h bO | skip
  simp only [bH] at h
  obtain ⟨⟨⟨h1,h2⟩,h3⟩,h4⟩:=h
  exact EB (eq_of_beq h1) h2 h3 (aC a cc X e g h4)
 | .cnt a b,cc,X,e,g,h=>cv (P:=fun e=>PE X e _) h fun fe args dX pos h=>dS (P:=fun fe=>PE X (.Call fe args dX pos) _) h fun e n ap h=>by
  rcases args with _|⟨x,_|⟨x2,xs⟩⟩ <;> first | exact absurd h bO | skip
  cases dX <;> first | exact absurd h bO | skip
  simp only [bH] at h
  obtain ⟨⟨⟨⟨⟨h1,h2⟩,h3⟩,h4⟩,h5⟩,h6⟩:=h
  exact IE (eq_of_beq h1) h2 h3 h4 h6 (aC a cc X e g h5) (aC b cc X x g h6)
 | .fC ng a,cc,X,e,g,h=>(xq (fun e h=>aC a cc X e g h) h).1
 | .qT a,_,_,_,_,h=>absurd (show false=true from h) bO
 | .minD a b,_,_,_,_,h=>absurd (show false=true from h) bO
 | .comp k src tg cond elt cj,cc,X,e,g,h=>gw (P:=fun e=>PE X e _) h fun el gens sc pos h=>by
  rcases gens with _|⟨⟨t,iter,ifs,as⟩,_|⟨_,_⟩⟩ <;> first | exact absurd h bO | skip
  simp only [bH,beq_iff_eq,decide_eq_true_eq] at h
  obtain ⟨⟨⟨⟨⟨⟨rfl,h1⟩,h2⟩,h3⟩,h4⟩,h5⟩,h6⟩:=h
  obtain ⟨xI,iG⟩:=rB src k cc X t iter g h3
  obtain ⟨_,_,_,r⟩:=EE (pos:=pos) g h1 h2 iG xI h4 h5 (fun t ht X' _ g' e he=>AR cond (mP cc sc) X' g' t ht e he) (fun X' _ g'=>aC elt (mP cc sc) X' el g' h6)
  exact r
theorem vd {kk:Nat} {G:aL}:∀ (t:dQ) (cc:CC) (X:Cx) (e:Expr),Good kk X cc G->iM cc t e=true->PT X e (kN X.K (dk G t))
 | .val (.cmp op a b),cc,X,e,g,h=>mT Es (Ck g (fun e h=>aC a cc X e g h) (fun e h=>aC b cc X e g h) h).2
 | .val (.chain o1 o2 a b c),cc,X,e,g,h=>mT xt (tm g (fun e h=>aC a cc X e g h) (fun e h=>aC b cc X e g h) (fun e h=>aC c cc X e g h) h).2
 | .val (.var i),cc,X,e,g,h=>cX h (aC (.var i) cc X e g)
 | .val (.cst d),cc,X,e,g,h=>cX h (aC (.cst d) cc X e g)
 | .val (.bin op a b),cc,X,e,g,h=>cX h (aC (.bin op a b) cc X e g)
 | .val (.dj cs),cc,X,e,g,h=>cX h (aC (.dj cs) cc X e g)
 | .val (.d7 cs),cc,X,e,g,h=>cX h (aC (.d7 cs) cc X e g)
 | .val (.neg a),cc,X,e,g,h=>cX h (aC (.neg a) cc X e g)
 | .val (.ite t a b),cc,X,e,g,h=>cX h (aC (.ite t a b) cc X e g)
 | .val (.tup cs),cc,X,e,g,h=>cX h (aC (.tup cs) cc X e g)
 | .val (.lst cs),cc,X,e,g,h=>cX h (aC (.lst cs) cc X e g)
 | .val (.sub a b),cc,X,e,g,h=>cX h (aC (.sub a b) cc X e g)
 | .val (.kU a lo hi),cc,X,e,g,h=>cX h (aC (.kU a lo hi) cc X e g)
 | .val (.zf a k),cc,X,e,g,h=>cX h (aC (.zf a k) cc X e g)
 | .val (.jW a b),cc,X,e,g,h=>cX h (aC (.jW a b) cc X e g)
 | .val (.call f cs),cc,X,e,g,h=>cX h (aC (.call f cs) cc X e g)
 | .val (.bi b cs),cc,X,e,g,h=>cX h (aC (.bi b cs) cc X e g)
 | .val (.me m o cs),cc,X,e,g,h=>cX h (aC (.me m o cs) cc X e g)
 | .val (.vD ks cs),cc,X,e,g,h=>cX h (aC (.vD ks cs) cc X e g)
 | .val (.jf tp cs),cc,X,e,g,h=>cX h (aC (.jf tp cs) cc X e g)
 | .val (.fC ng a),cc,X,e,g,h=>mT AJ (xq (fun e h=>aC a cc X e g h) h).2
 | .val (.fB ng a b),cc,X,e,g,h=>mT Er (Cm g (fun e h=>aC a cc X e g h) (fun e h=>aC b cc X e g h) h).2
 | .val (.ji),cc,X,e,g,h=>cX h (aC (.ji) cc X e g)
 | .val (.gc a b),cc,X,e,g,h=>cX h (aC (.gc a b) cc X e g)
 | .val (.jk a),cc,X,e,g,h=>cX h (aC (.jk a) cc X e g)
 | .val (.kW a),cc,X,e,g,h=>cX h (aC (.kW a) cc X e g)
 | .val (.cnt a b),cc,X,e,g,h=>cX h (aC (.cnt a b) cc X e g)
 | .val (.Cc x v),cc,X,e,g,h=>cX h (aC (.Cc x v) cc X e g)
 | .val (.qT a),cc,X,e,g,h=>cX h (aC (.qT a) cc X e g)
 | .val (.minD a b),cc,X,e,g,h=>cX h (aC (.minD a b) cc X e g)
 | .val (.comp k src tg cond elt cj),cc,X,e,g,h=>cX h (aC (.comp k src tg cond elt cj) cc X e g)
 | .dj ts,cc,X,e,g,h=>by
  refine ez (P:=fun e=>PT X e _) h fun op es pos h=>?_
  simp only [bH,Bool.not_eq_true',List.isEmpty_eq_false_iff] at h
  cases op with
  | Or=>exact absurd h.1.1 bO
  | And=>exact zj (Co ts es pos (xJ ts cc X g) h.1.2 h.2).pt fun σ H Q q=>q
 | .d7 ts,cc,X,e,g,h=>by
  refine ez (P:=fun e=>PT X e _) h fun op es pos h=>?_
  simp only [bH,Bool.not_eq_true',List.isEmpty_eq_false_iff] at h
  cases op with
  | And=>exact absurd h.1.1.symm bO
  | Or=>exact zj (Cp ts es pos (xJ ts cc X g) h.1.2 h.2).pt fun σ H Q q=>q
 | .neg t,cc,X,e,g,h=>by
  refine dD (P:=fun e=>PT X e _) h fun op x pos h=>?_
  replace h:=(bH _ _).mp h
  cases op <;> first | exact absurd h.1 bO | skip
  exact Iu (vd t cc X x g h.2)
theorem pF {kk:Nat} {G:aL}:∀ (cs:List C) (cc:CC) (X:Cx) (es:List Expr),Good kk X cc G->bQ cc cs es=true->PA X es (Ao X.K (bg G cs))
 | [],cc,X,[],g,h=>Im
 | [],cc,X,_::_,g,h=>by cases h
 | _::_,cc,X,[],g,h=>by cases h
 | c::cs,cc,X,e::es,g,h=>by
  have h':(notStar e && aW cc c e && bQ cc cs es)=true:=h
  simp only [bH] at h'
  exact Ep h'.1.1 (aC c cc X e g h'.1.2) (pF cs cc X es g h'.2)
theorem Ct {kk:Nat} {G:aL}:∀ (cs:List C) (cc:CC) (X:Cx) (es:List Expr),Good kk X cc G->bQ cc cs es=true->PA X es (Gj X.K (cw G cs))
 | [],cc,X,[],g,h=>Cq
 | [],cc,X,_::_,g,h=>by cases h
 | _::_,cc,X,[],g,h=>by cases h
 | c::cs,cc,X,e::es,g,h=>by
  have h':(notStar e && aW cc c e && bQ cc cs es)=true:=h
  simp only [bH] at h'
  exact xu h'.1.1 (aC c cc X e g h'.1.2) (Ct cs cc X es g h'.2)
theorem mZ {kk:Nat} {G:aL}:∀ (cs:List C) (cc:CC) (X:Cx),Good kk X cc G->∀ c∈cs,∀ e,aW cc c e=true->PE X e (tE X.K (ev G c))
 | [],cc,X,g,c,hc,e,h=>by cases hc
 | c::cs,cc,X,g,c',hc,e,h=>by
  rcases List.mem_cons.mp hc with z | z
  ·rw [z] at h ⊢;exact aC c cc X e g h
  ·exact mZ cs cc X g c' z e h
theorem xJ {kk:Nat} {G:aL}:∀ (ts:List dQ) (cc:CC) (X:Cx),Good kk X cc G->∀ t∈ts,∀ e,iM cc t e=true->PT X e (kN X.K (dk G t))
 | [],cc,X,g,c,hc,e,h=>by cases hc
 | c::cs,cc,X,g,c',hc,e,h=>by
  rcases List.mem_cons.mp hc with z | z
  ·rw [z] at h ⊢;exact vd c cc X e g h
  ·exact xJ cs cc X g c' z e h
theorem IG {kk:Nat} {G:aL}:∀ (o:Option C) (cc:CC) (X:Cx) (e:Option Expr),Good kk X cc G->Em cc o e=true->PO X e (tO X.K (o_ G o))
 | none,cc,X,none,g,h=>Et
 | none,cc,X,some _,g,h=>by cases h
 | some _,cc,X,none,g,h=>by cases h
 | some c,cc,X,some e,g,h=>Eu (aC c cc X e g h)
theorem AR {kk:Nat} {G:aL}:∀ (o:Option dQ) (cc:CC) (X:Cx),Good kk X cc G->∀ t,o=some t->∀ e,iM cc t e=true->PT X e (kN X.K (dk G t))
 | none,cc,X,g,t,ht,e,h=>by cases ht
 | some c,cc,X,g,t,ht,e,h=>by cases ht;exact vd c cc X e g h
theorem rB {kk:Nat} {G:aL}:∀ (src:List C) (k:SK) (cc:CC) (X:Cx) (t iter:Expr),Good kk X cc G->mQ cc k src t iter=true->PI X t iter (tI X.K (b_ G k src))/\cM iter=true
 | [],k,cc,X,t,iter,g,h=>by cases k <;> cases h
 | [c],.seq,cc,X,t,iter,g,h=>by
  have h':(cM iter && aW cc c iter)=true:=h
  simp only [bH] at h'
  exact ⟨AO (aC c cc X iter g h'.2),h'.1⟩
 | [c],.keys,cc,X,t,iter,g,h=>by
  have h':(cM iter && aW cc c iter)=true:=h
  simp only [bH] at h'
  exact ⟨xD (aC c cc X iter g h'.2),h'.1⟩
 | [c],.cB,cc,X,t,iter,g,h=>by
  refine cv (P:=fun iter=>PI X t iter _/\cM iter=true) h fun fe args dX pos h=>bq (P:=fun fe=>PI X t (.Call fe args dX pos) _/\cM (.Call fe args dX pos)=true) h fun x p h=>?_
  rcases args with _|⟨a,_|⟨a2,as⟩⟩ <;> first | exact absurd h bO | skip
  cases dX <;> first | exact absurd h bO | skip
  simp only [bH] at h
  exact ⟨xB g (eq_of_beq h.1.1.1) h.1.1.2 h.1.2 (aC c cc X a g h.2),rfl⟩
 | [c],.enum,cc,X,t,iter,g,h=>by
  refine cv (P:=fun iter=>PI X t iter _/\cM iter=true) h fun fe args dX pos h=>bq (P:=fun fe=>PI X t (.Call fe args dX pos) _/\cM (.Call fe args dX pos)=true) h fun x p h=>?_
  rcases args with _|⟨a,_|⟨a2,as⟩⟩ <;> first | exact absurd h bO | skip
  cases dX <;> first | exact absurd h bO | skip
  simp only [bH] at h
  exact ⟨xE g (eq_of_beq h.1.1.1.1) h.1.1.1.2 h.1.1.2 h.1.2 (aC c cc X a g h.2),rfl⟩
 | [c],.kT,cc,X,t,iter,g,h=>by cases h
 | [c],.zip,cc,X,t,iter,g,h=>by cases h
 | [c],.Am,cc,X,t,iter,g,h=>by cases h
 | [c,d],.kT,cc,X,t,iter,g,h=>by
  refine cv (P:=fun iter=>PI X t iter _/\cM iter=true) h fun fe args dX pos h=>bq (P:=fun fe=>PI X t (.Call fe args dX pos) _/\cM (.Call fe args dX pos)=true) h fun x p h=>?_
  rcases args with _|⟨a,_|⟨b,_|⟨a2,as⟩⟩⟩ <;> first | exact absurd h bO | skip
  cases dX <;> first | exact absurd h bO | skip
  simp only [bH] at h
  exact ⟨xC g (eq_of_beq h.1.1.1.1.1) h.1.1.1.1.2 h.1.1.1.2 h.1.1.2 (aC c cc X a g h.1.2) (aC d cc X b g h.2),rfl⟩
 | [c,d],.seq,cc,X,t,iter,g,h=>by cases h
 | [c,d],.Am,cc,X,t,iter,g,h=>by cases h
 | [c,d],.keys,cc,X,t,iter,g,h=>by cases h
 | [c,d],.cB,cc,X,t,iter,g,h=>by cases h
 | [c,d],.enum,cc,X,t,iter,g,h=>by cases h
 | [c,d],.zip,cc,X,t,iter,g,h=>by cases h
 | [c,d,m],.Am,cc,X,t,iter,g,h=>by cases h
 | [c,d,m],.seq,cc,X,t,iter,g,h=>by cases h
 | [c,d,m],.keys,cc,X,t,iter,g,h=>by cases h
 | [c,d,m],.cB,cc,X,t,iter,g,h=>by cases h
 | [c,d,m],.kT,cc,X,t,iter,g,h=>by cases h
 | [c,d,m],.enum,cc,X,t,iter,g,h=>by cases h
 | [c,d,m],.zip,cc,X,t,iter,g,h=>by cases h
 | _::_::_::_::_,k,cc,X,t,iter,g,h=>by cases k <;> cases h
end
inductive S where
 | asg (tg:List Nat) (c:C)
 | eZ (i:Nat) (c:C)
 | put (o i v:C)
 | dput (o i v:C)
 | par (i j:Nat) (a b:C)
 | expr (c:C)
 | ret (c:C)
 | xM
 | iff (t:dQ) (a b:List S)
 | aX (tg:List Nat) (k:SK) (src:List C) (b:List S)
 | never | pass | brk | cont
inductive bo where
 | nx (ρ:En) (M:Mem) | rt (w:W) (M:Mem) | bk (ρ:En) (M:Mem) | ct (ρ:En) (M:Mem) | stuck
def bo.jl {α:Type} (o:Out α) (f:α->Mem->bo):bo:=match o with
 | .ok a M=>f a M
 | _=>.stuck
def bo.seq (o:bo) (f:En->Mem->bo):bo:=match o with
 | .nx ρ M=>f ρ M
 | o=>o
def cS (body:En->Mem->bo) (it:Ev.It) (tg:List Nat):Nat->Nat->En->Mem->bo
 | 0,i,ρ,M=>match itemAt M i it with
  | some none=>.nx ρ M
  | _=>.stuck
 | f+1,i,ρ,M=>match itemAt M i it with
  | some none=>.nx ρ M
  | some (some d)=>match bt tg d ρ with
   | none=>.stuck
   | some ρ=>match body ρ M with
    | .nx ρ M=>cS body it tg f (i+1) ρ M
    | .ct ρ M=>cS body it tg f (i+1) ρ M
    | .bk ρ M=>.nx ρ M
    | .rt w M=>.rt w M
    | .stuck=>.stuck
  | none=>.stuck
mutual
def fj (G:aL):S->En->Mem->bo
 | .asg tg c,ρ,M=>bo.jl ((ev G c ρ M).bind own) fun d M=>match bt tg d ρ with
  | some ρ=>.nx ρ M
  | none=>.stuck
 | .eZ i c,ρ,M=>bo.jl ((ev G c ρ M).bind own) fun d M=>.nx (ρ.set i (some d)) M
 | .put o i v,ρ,M=>bo.jl ((ev G v ρ M).bind own) fun d M=>bo.jl (ev G o ρ M) fun x M=>bo.jl (ev G i ρ M) fun y M=>bo.jl (gL x y d M) fun _ M=>.nx ρ M
 | .dput o i v,ρ,M=>bo.jl ((ev G v ρ M).bind own) fun d M=>bo.jl (ev G o ρ M) fun x M=>bo.jl (ev G i ρ M) fun y M=>bo.jl (gq x y d M) fun _ M=>.nx ρ M
 | .par i j a b,ρ,M=>bo.jl (bg G [a,b] ρ M) fun ds M=>match ds with
  | [x,y]=>.nx ((ρ.set i (some x)).set j (some y)) M
  | _=>.stuck
 | .expr c,ρ,M=>bo.jl (ev G c ρ M) fun _ M=>.nx ρ M
 | .ret c,ρ,M=>bo.jl (ev G c ρ M) fun w M=>.rt w M
 | .xM,_,M=>.rt (.d .az) M
 | .iff t a b,ρ,M=>bo.jl (dk G t ρ M) fun r M=>if r then cO G a ρ M else cO G b ρ M
 | .aX tg k src b,ρ,M=>bo.jl (b_ G k src ρ M) fun it M=>cS (fun ρ M=>cO G b ρ M) it tg (df M it) 0 ρ M
 | .never,_,_=>.stuck
 | .pass,ρ,M=>.nx ρ M
 | .brk,ρ,M=>.bk ρ M
 | .cont,ρ,M=>.ct ρ M
def cO (G:aL):List S->En->Mem->bo
 | [],ρ,M=>.nx ρ M
 | s::ss,ρ,M=>(fj G s ρ M).seq fun ρ M=>cO G ss ρ M
end
def dY (e:Expr):Bool:=Nat.beq e.ctorIdx 8 || (Nat.beq e.ctorIdx 9 || Nat.beq e.ctorIdx 10)
def Cu (cc:CC) (t v:Expr):Bool:=(!dY v && !(fP t && fP v)) || cL t fun x _=>cc.names.lookup x == some .cell
mutual
def EF (cc:CC):S->Stmt->Bool
 | .asg tg c,s=>eO s fun ts v _=>match ts with
  | [t]=>gx cc tg t && Cu cc t v && (!dY v || Nat.beq v.ctorIdx 8) && aW cc c v
  | _=>false
 | .eZ i c,s=>eO s fun ts v _=>match ts with
  | [t]=>cL t fun x p=>eY v fun el gens sc q=>cc.N[i]? == some x && cc.names.lookup x == some .local && p.line == q.line && !(sc.names.any fun (n,k)=>n == x && (k == .local || k == .cell)) && aW cc c (.ListComp el gens sc q)
  | _=>false
 | .put o i v,s=>eO s fun ts w _=>match ts with
  | [t]=>bS t fun e f _=>dG f && aW cc o e && aW cc i f && aW cc v w
  | _=>false
 | .dput o i v,s=>eO s fun ts w _=>match ts with
  | [t]=>bS t fun e f _=>dG f && aW cc o e && aW cc i f && aW cc v w
  | _=>false
 | .par i j a b,s=>false
 | .expr c,s=>rg s fun e _=>!dY e && aW cc c e
 | .ret c,s=>g_ s fun o _=>match o with
  | some e=>aW cc c e
  | none=>false
 | .xM,s=>g_ s fun o _=>o.isNone
 | .iff t a b,s=>Ej s fun c x y _=>iM cc t c && ib cc a x && ib cc b y
 | .aX tg k src b,s=>xh s fun t iter body Pe _=>Pe.isEmpty && mQ cc k src t iter && gx cc tg t && ib cc b body
 | .never,_=>true
 | .pass,s=>rh s fun _=>true
 | .brk,s=>mN s fun _=>true
 | .cont,s=>gO s fun _=>true
def ib (cc:CC):List S->List Stmt->Bool
 | [],[]=>true
 | s::ss,t::ts=>EF cc s t && ib cc ss ts
 | _,_=>false
end
def kO (K:PySem.W.Frag) (ads:List Addr) (H:Hp) (D:Ends):bo->Prop
 | .nx ρ M=>∀ cg H' ao,au ads ao H H'->SR K ao M ρ cg H'->D.nx cg H'
 | .bk ρ M=>∀ cg H' ao,au ads ao H H'->SR K ao M ρ cg H'->D.bk cg H'
 | .ct ρ M=>∀ cg H' ao,au ads ao H H'->SR K ao M ρ cg H'->D.ct cg H'
 | .rt w M=>ja K ads H w M D.rt
 | .stuck=>False
def oh (K:PySem.W.Frag) (o:En->Mem->bo):TS:=fun D σ H=>∃ ads M ρ,SR K ads M ρ σ H/\kO K ads H D (o ρ M)
theorem kO.shift {K:PySem.W.Frag} {ads ao:List Addr} {H H':Hp} {M M2:Mem} {D:Ends} {o:bo} (p:kO K ads H D o) (g:au ads ao H H') (m:aB K ads H M) (m':aB K ao H' M2):kO K ao H' D o:=by
 cases o with
 | nx ρ M=>exact fun σ H1 ae g1 s1=>p σ H1 ae (g.trans g1) s1
 | bk ρ M=>exact fun σ H1 ae g1 s1=>p σ H1 ae (g.trans g1) s1
 | ct ρ M=>exact fun σ H1 ae g1 s1=>p σ H1 ae (g.trans g1) s1
 | rt w M=>exact ja.shift p g m m'
 | stuck=>exact p
theorem ve {X:Cx} {st:Stmt} {t u:TS} (h:PS X st t) (f:∀ D σ H,u D σ H->t D σ H):PS X st u:=fun pins s σ H D I q=>h pins s σ H D I (f D σ H q)
theorem IH {X:Cx} {st:List Stmt} {t u:TS} (h:oz X st t) (f:∀ D σ H,u D σ H->t D σ H):oz X st u:=fun pins s σ H D I q=>h pins s σ H D I (f D σ H q)
section
variable {kk:Nat} {X:Cx} {cc:CC} {G:aL}
theorem m8 {e:Expr} (h:dY e=false) (t:Option Expr) (l:Nat) (env:Env):swapsWith e t l env=pure false:=by
 cases e <;> first | rfl | exact absurd (show true=false from h).symm bO
theorem II {K:PySem.W.Frag} {o:En->Mem->bo} {k:En->Mem->bo} {σ:L2.St} {H:Hp} {D:Ends} (h:oh K (fun ρ M=>(o ρ M).seq k) D σ H):GX (oh K o) (oh K k) D σ H:=by
 obtain ⟨ads,M,ρ,s,q⟩:=h
 have q:kO K ads H D ((o ρ M).seq k):=q
 refine ⟨ads,M,ρ,s,?_⟩
 cases hq:o ρ M with
 | nx Gn M1 =>
  rw [hq] at q
  intro ON H1 ae g1 s1
  exact ⟨ae,M1,Gn,s1,kO.shift (o:=k Gn M1) q g1 s.mem s1.mem⟩
 | bk ρ M=>rw [hq] at q;exact q
 | ct ρ M=>rw [hq] at q;exact q
 | rt w M=>rw [hq] at q;exact q
 | stuck=>rw [hq] at q;exact q
theorem AS {K : PySem.W.Frag} {body : En -> Mem -> bo} {it : Ev.It} {J : L2.It} {tg : List Nat} {tb : TS} (hb : ∀ D σ H, oh K body D σ H -> tb D σ H) {ads : List Addr} {M : Mem} {ρ : En} {σ : L2.St} {H : Hp} {D : Ends} {f : Nat}
    (s:SR K ads M ρ σ H) (hJ:Cr K ads H it J) (q:kO K ads H D (cS body it tg f 0 ρ M)) :
    ∃ W:Nat->Nat->L2.St->Hp->Prop,(∃ m,W 0 m σ H)/\∀ i m σ H,W i m σ H ->
      (J.stop i H/\D.nx σ H)\/(J.go i H/\∃ N:L2.St->Hp->Prop,(∀ cg H',N cg H'->∃ m',m' < m/\W (i+1) m' cg H')/\∀ x H',J.F8 i H x H'->tG K tg x σ H' fun Dg H2=>tb { D with nx:=N,ct:=N,bk:=D.nx } Dg H2):=by
  refine ⟨fun i m cg H'=>∃ ao M' c_,SR K ao M' c_ cg H'/\au ads ao H H'/\kO K ads H D (cS body it tg m i c_ M'),⟨f,ads,M,ρ,s,au.refl _ _,q⟩,?_⟩
  rintro i m cg H' ⟨ao,M',c_,s',g',q'⟩
  obtain ⟨r1,r2⟩:=hJ i ao H' M' g' s'.mem
  cases m with
  | zero =>
    unfold cS at q'
    split at q'
    · rename_i hi
      exact .inl ⟨r1 hi,q' cg H' ao g' s'⟩
    · exact q'.elim
  | succ m =>
    unfold cS at q'
    split at q'
    · rename_i hi
      exact .inl ⟨r1 hi,q' cg H' ao g' s'⟩
    · rename_i d hi
      obtain ⟨go,yl⟩:=r2 d hi
      cases Ae:bt tg d c_ with
      | none=>rw [Ae] at q';exact q'.elim
      | some Gn =>
        rw [Ae] at q'
        dsimp only at q'
        refine .inr ⟨go,fun Dg H2=>∃ bj M2 EG,SR K bj M2 EG Dg H2/\au ads bj H H2/\kO K ads H D (cS body it tg m (i+1) EG M2),fun Dg H2 h=>⟨m,Nat.lt_succ_self _,h⟩,fun x H2 y=>?_⟩
        obtain ⟨g2,m2,rd⟩:=yl x H2 y
        refine ⟨ao,M',c_,d,s'.grow g2 m2,rd,Gn,Ae,fun Dg s2=>hb _ _ _ ⟨ao,M',Gn,s2,?_⟩⟩
        have gg:=g'.trans g2
        cases hq:body Gn M' with
        | nx KY M3=>rw [hq] at q';exact fun zD H3 cN g3 s3=>⟨cN,M3,KY,s3,gg.trans g3,q'⟩
        | ct KY M3=>rw [hq] at q';exact fun zD H3 cN g3 s3=>⟨cN,M3,KY,s3,gg.trans g3,q'⟩
        | bk KY M3=>rw [hq] at q';exact fun zD H3 cN g3 s3=>q' zD H3 cN (gg.trans g3) s3
        | rt w M3=>rw [hq] at q';exact ja.shift (M:=M) (M2:=M') q' gg s.mem s2.mem
        | stuck=>rw [hq] at q';exact q'.elim
    · exact q'.elim
theorem NJ {K : PySem.W.Frag} {ads : List Addr} {M : Mem} {ρ : En} {σ : L2.St} {H : Hp} {D : Ends} {o : En -> Mem -> Out W} {k : W -> Mem -> bo} {R : V -> Hp -> Prop} (s : SR K ads M ρ σ H) (q : kO K ads H D (bo.jl (o ρ M) k))
    (hk:∀ w M1 v H1 ae,SR K ae M1 ρ σ H1->RW K ae H1 w v->kO K ae H1 D (k w M1)->R v H1):tE K o σ H R:=by
  refine ⟨ads,M,ρ,s,?_⟩
  cases hq:o ρ M with
  | ok w M1 =>
    rw [hq] at q
    intro v H1 ae g1 m1 r1
    exact hk w M1 v H1 ae (s.grow g1 m1) r1.rw (kO.shift (o:=k w M1) q g1 s.mem m1)
  | err _ _=>rw [hq] at q;exact q
  | stuck=>rw [hq] at q;exact q
theorem AU {K : PySem.W.Frag} {ads : List Addr} {M : Mem} {ρ : En} {σ : L2.St} {H : Hp} {D : Ends} {c : C} {k : Ev.D -> Mem -> bo} {R : V -> Hp -> Prop} (s : SR K ads M ρ σ H) (q : kO K ads H D (bo.jl ((ev G c ρ M).bind own) k))
    (hk:∀ (d:Ev.D) M1 v H1 ae,SR K ae M1 ρ σ H1->RD K ae H1 d v->kO K ae H1 D (k d M1)->R v H1):tE K (ev G c) σ H R:=by
  refine ⟨ads,M,ρ,s,?_⟩
  cases hq:ev G c ρ M with
  | ok w M1 =>
    rw [hq] at q
    intro v H1 ae g1 m1 r1
    have q:kO K ads H D (bo.jl (own w M1) k):=q
    cases ho:own w M1 with
    | ok d M2 =>
      rw [ho] at q
      obtain ⟨bj,g2,m2,rd⟩:=mR s.mem g1 m1 r1 ho
      exact hk d M2 v H1 bj (s.grow g2 m2) rd (kO.shift (o:=k d M2) q g2 s.mem m2)
    | err _ _=>cases w <;> cases ho
    | stuck=>cases w <;> cases ho
  | err _ _=>rw [hq] at q;exact q
  | stuck=>rw [hq] at q;exact q
theorem AV {tg:List Nat} {t:Expr} (h:gx cc tg t=true):(∃ x p,t=.Name x p)\/∃ es k p,t=.Tuple es k p:=by
 rcases tg with _|⟨i,_|⟨j,r⟩⟩
 ·exact absurd h bO
 ·exact .inl (bq (P:=fun t=>∃ x p,t=.Name x p) ((bH _ _).mp h).1 fun x p _=>⟨x,p,rfl⟩)
 ·exact .inr (gM (P:=fun t=>∃ es k p,t=.Tuple es k p) h fun es k p _=>⟨es,k,p,rfl⟩)
theorem lK {el : Expr} {gens : List Comprehension} {sc : Scope} {q p : Pos} {x : Str} {l : Nat} {env : Env} : swapsWith (.ListComp el gens sc q) (some (.Name x p)) l env =
    pure (env.blockKind == .function && env.kindOf x == some .local && p.line == q.line && !(sc.names.any fun (n,k)=>n == x && (k == .local || k == .cell))):=rfl
theorem IJ {tg:List Nat} {c:C} {t v:Expr} {pos:Pos} (g:Good kk X cc G) (ht:gx cc tg t=true) (hv:Cu cc t v=true) (Sf:dY v=true->∃ el gens sc q,v=.ListComp el gens sc q) (he:PE X v (tE X.K (ev G c))):PS X (.Assign [t] v pos) (oh X.K (fj G (.asg tg c))):=by
 have hg:=h_ g ht
 have key:∀ D σ H,oh X.K (fj G (.asg tg c)) D σ H->G3 (tE X.K (ev G c)) (tG X.K tg) D σ H:=by
  intro D σ H q
  obtain ⟨ads,M,ρ,s,q⟩:=q
  refine AU s (by simp only [fj] at q;exact q) fun d M1 v H1 ae s1 rd q1=>?_
  cases hb:bt tg d ρ with
  | none=>simp only [hb] at q1;exact q1.elim
  | some c_ =>
   simp only [hb] at q1
   exact ⟨ae,M1,ρ,d,s1,rd,c_,hb,fun cg s'=>q1 cg H1 ae (au.refl _ _) s'⟩
 rcases AV ht with ⟨x,p,rfl⟩|⟨es,k,p,rfl⟩
 ·refine ve (mh he hg ?_ (by unfold swappedStores;cases v <;> rfl) rfl) key
  show swapsWith v (some (.Name x p)) pos.line X.env=pure false
  cases hc:dY v with
  | false=>exact m8 hc _ _ _
  | true =>
   have hv:((!dY v && !(false && fP v)) || (cc.names.lookup x == some .cell))=true:=hv
   rw [hc] at hv
   have hk:X.env.kindOf x=some .cell:=g.kinds x .cell (by simpa using hv)
   obtain ⟨el,gens,sc,q,rfl⟩:=Sf hc
   rw [lK,hk,show ((some NameKind.cell:Option NameKind) == some NameKind.local)=false from rfl]
   simp
 ·have Hd:((!dY v && !(true && fP v)) || false)=true:=hv
  simp only [Bool.or_false,Bool.true_and,bH,Bool.not_eq_true'] at Hd
  refine ve (mh he hg (show swapsWithSole [.Tuple es k p] v pos.line X.env=pure false from m8 Hd.1 (some (.Tuple es k p)) pos.line X.env) ?_ rfl) key
  unfold swappedStores
  cases v <;> first | rfl | exact absurd (show true=false from Hd.2).symm bO
theorem EH {i : Nat} {c : C} {x : Str} {p q pos : Pos} {el t iter : Expr} {ifs : List Expr} {sc : Scope} {N' : List Str} {cj : List (Option Nat)} {wi : TI} {gt : TG} {tc : Option TT} {te : TE} (g : Good kk X cc G) (hk : X.env.blockKind = .function)
    (hx:cc.N[i]?=some x) (hl:cc.names.lookup x=some .local) (hp:p.line=q.line) (hn:(sc.names.any fun (n,k)=>n == x && (k == .local || k == .cell))=false)
    (hw:∀ (pins:List (Addr×Obj)) (s:Shared) (σ:L2.St) (H:Hp),Inv X pins σ H s->∃ cl,PI X t iter wi/\iH X sc N' cj cl t el ifs gt tc te) (NK:∀ x,foldedSetIterable iter X.env x=pure x)
    (key:∀ σ H Q,tE X.K (ev G c) σ H Q->sR cj wi gt tc te σ H Q):PS X (.Assign [.Name x p] (.ListComp el [⟨t,iter,ifs,0⟩] sc q) pos) (oh X.K (fj G (.eZ i c))):=by
  intro pins s σ H D I h
  obtain ⟨cl,hi,ck⟩:=hw pins s σ H I
  refine Aa (i:=i) g.calm (by rw [g.N];exact g.nd) (by rw [g.N];exact hx) (g.kinds x _ hl) ?_ hi ck NK pins s σ H D I ?_
  · rw [lK,hk,show X.env.kindOf x=some .local from g.kinds x _ hl,hn,hp]
    simp
  · obtain ⟨ads,M,ρ,sr,h⟩:=h
    refine key σ H _ (AU sr (by simp only [fj] at h;exact h) fun d M1 v H1 ae s1 rd q1=>?_)
    exact q1 _ H1 ae (au.refl _ _) (s1.set i rd)
theorem IK {o i v:C} {e f w:Expr} {sp pos:Pos} (g:Good kk X cc G) (hf:dG f=true) (ho:PE X e (tE X.K (ev G o))) (hi:PE X f (tE X.K (ev G i))) (hv:PE X w (tE X.K (ev G v))):PS X (.Assign [.Subscript e f sp] w pos) (oh X.K (fj G (.put o i v))):=by
 have Ee:=g.room.un
 refine ve (mh hv (vX ho hi (Ei (by omega)) (by intro _;cases f <;> first | rfl | exact absurd (show false=true from hf) bO)) (show swapsWithSole [.Subscript e f sp] w pos.line X.env=pure false from (by cases w <;> rfl)) (by unfold swappedStores;cases w <;> rfl) rfl) fun D σ H q=>?_
 obtain ⟨ads,M,ρ,s,q⟩:=q
 refine AU s (by simp only [fj] at q;exact q) fun d M1 v H1 ae s1 rd q1=>?_
 refine ⟨ae,M1,ρ,s1,?_⟩
 cases h2:ev G o ρ M1 with
 | ok wo M2 =>
  rw [h2] at q1
  intro vo H2 bj g2 m2 ro
  have s2:=s1.grow g2 m2
  refine ⟨bj,M2,ρ,s2,?_⟩
  have q2:kO X.K ae H1 D (bo.jl (ev G i ρ M2) fun y M=>bo.jl (gL wo y d M) fun _ M=>.nx ρ M):=q1
  cases h3:ev G i ρ M2 with
  | ok wi M3 =>
   rw [h3] at q2
   intro vi H3 cN g3 m3 ri
   have s3:=s2.grow g3 m3
   have q3:kO X.K ae H1 D (bo.jl (gL wo wi d M3) fun _ M=>.nx ρ M):=q2
   refine ⟨cN,M3,wo,wi,d,m3,g3.rw ro.rw,ri.rw,(g2.trans g3).rd _ _ rd,?_⟩
   cases h4:gL wo wi d M3 with
   | ok u M4 =>
    rw [h4] at q3
    intro H4 u_ g4 m4
    exact q3 σ H4 u_ ((g2.trans g3).trans g4) (s3.grow g4 m4)
   | err _ _=>rw [h4] at q3;exact q3
   | stuck=>rw [h4] at q3;exact q3
  | err _ _=>rw [h3] at q2;exact q2
  | stuck=>rw [h3] at q2;exact q2
 | err _ _=>rw [h2] at q1;exact q1
 | stuck=>rw [h2] at q1;exact q1
theorem EI {o i v:C} {e f w:Expr} {sp pos:Pos} (g:Good kk X cc G) (hf:dG f=true) (ho:PE X e (tE X.K (ev G o))) (hi:PE X f (tE X.K (ev G i))) (hv:PE X w (tE X.K (ev G v))):PS X (.Assign [.Subscript e f sp] w pos) (oh X.K (fj G (.dput o i v))):=by
 have Ee:=g.room.un
 refine ve (mh hv (vX ho hi (AD (by omega)) (by intro _;cases f <;> first | rfl | exact absurd (show false=true from hf) bO)) (show swapsWithSole [.Subscript e f sp] w pos.line X.env=pure false from (by cases w <;> rfl)) (by unfold swappedStores;cases w <;> rfl) rfl) fun D σ H q=>?_
 obtain ⟨ads,M,ρ,s,q⟩:=q
 refine AU s (by simp only [fj] at q;exact q) fun d M1 v H1 ae s1 rd q1=>?_
 refine ⟨ae,M1,ρ,s1,?_⟩
 cases h2:ev G o ρ M1 with
 | ok wo M2 =>
  rw [h2] at q1
  intro vo H2 bj g2 m2 ro
  have s2:=s1.grow g2 m2
  refine ⟨bj,M2,ρ,s2,?_⟩
  have q2:kO X.K ae H1 D (bo.jl (ev G i ρ M2) fun y M=>bo.jl (gq wo y d M) fun _ M=>.nx ρ M):=q1
  cases h3:ev G i ρ M2 with
  | ok wi M3 =>
   rw [h3] at q2
   intro vi H3 cN g3 m3 ri
   have s3:=s2.grow g3 m3
   have q3:kO X.K ae H1 D (bo.jl (gq wo wi d M3) fun _ M=>.nx ρ M):=q2
   refine ⟨cN,M3,wo,wi,d,m3,g3.rw ro.rw,ri.rw,(g2.trans g3).rd _ _ rd,?_⟩
   cases h4:gq wo wi d M3 with
   | ok u M4 =>
    rw [h4] at q3
    intro H4 u_ g4 m4
    exact q3 σ H4 u_ ((g2.trans g3).trans g4) (s3.grow g4 m4)
   | err _ _=>rw [h4] at q3;exact q3
   | stuck=>rw [h4] at q3;exact q3
  | err _ _=>rw [h3] at q2;exact q2
  | stuck=>rw [h3] at q2;exact q2
 | err _ _=>rw [h2] at q1;exact q1
 | stuck=>rw [h2] at q1;exact q1
theorem EJ {c:C} {e:Expr} {pos:Pos} (hc:dY e=false) (he:PE X e (tE X.K (ev G c))):PS X (.Expr e pos) (oh X.K (fj G (.expr c))):=by
 refine ve (zx he (m8 hc _ _ _)) fun D σ H q=>?_
 obtain ⟨ads,M,ρ,s,q⟩:=q
 exact NJ (k:=fun _ M=>.nx ρ M) s (by simp only [fj] at q;exact q) fun w M1 v H1 ae s1 r1 q1=>q1 σ H1 ae (au.refl _ _) s1
theorem IL {c:C} {e:Expr} {pos:Pos} (he:PE X e (tE X.K (ev G c))):PS X (.Return (some e) pos) (oh X.K (fj G (.ret c))):=by
 refine ve (Dc he) fun D σ H q=>?_
 obtain ⟨ads,M,ρ,s,q⟩:=q
 refine ⟨ads,M,ρ,s,?_⟩
 simp only [fj] at q
 cases hq:ev G c ρ M with
 | ok w M1=>rw [hq] at q;exact q
 | err _ _=>rw [hq] at q;exact q
 | stuck=>rw [hq] at q;exact q
theorem NL {t:dQ} {a b:List S} {c:Expr} {x y:List Stmt} {pos:Pos} (ht:PT X c (kN X.K (dk G t))) (ha:oz X x (oh X.K (cO G a))) (hb:oz X y (oh X.K (cO G b))):PS X (.If c x y pos) (oh X.K (fj G (.iff t a b))):=by
 refine ve (G1 ht ha hb) fun D σ H q=>?_
 obtain ⟨ads,M,ρ,s,q⟩:=q
 refine ⟨ads,M,ρ,s,?_⟩
 simp only [fj] at q
 cases hq:dk G t ρ M with
 | ok r M1 =>
  rw [hq] at q
  intro H1 ae g1 m1
  have q:kO X.K ads H D (if r then cO G a ρ M1 else cO G b ρ M1):=q
  have q:=q.shift g1 s.mem m1
  cases r with
  | true=>rw [if_pos rfl] at q ⊢;exact ⟨ae,M1,ρ,s.grow g1 m1,q⟩
  | false=>rw [if_neg (by simp)] at q ⊢;exact ⟨ae,M1,ρ,s.grow g1 m1,q⟩
 | err _ _=>rw [hq] at q;exact q
 | stuck=>rw [hq] at q;exact q
theorem IM {tg : List Nat} {k : SK} {src : List C} {b : List S} {t iter : Expr} {body : List Stmt} {pos : Pos} (g : Good kk X cc G) (hx : X.xe = fun _ _ => False) (hs : PI X t iter (tI X.K (b_ G k src))) (hn : cM iter = true) (ht : gx cc tg t = true) (hb : oz X body (oh X.K (cO G b))) :
    PS X (.For t iter body [] pos) (oh X.K (fj G (.aX tg k src b))):=by
  refine ve (Dh (by rw [hx];exact PassesOwn.never) g.calm hs (h_ g ht) hb (mY hn X.env)) fun D σ H q=>?_
  obtain ⟨ads,M,ρ,s,q⟩:=q
  refine ⟨ads,M,ρ,s,?_⟩
  simp only [fj] at q
  cases hq:b_ G k src ρ M with
  | ok it M1 =>
    rw [hq] at q
    intro J H1 ae g1 m1 rj
    exact AS (fun D σ H h=>h) (s.grow g1 m1) rj (kO.shift (o:=cS (fun ρ M=>cO G b ρ M) it tg (df M1 it) 0 ρ M1) q g1 s.mem m1)
  | err _ _=>rw [hq] at q;exact q
  | stuck=>rw [hq] at q;exact q
end
section
variable {kk:Nat} {G:aL} {X:Cx} {cc:CC}
theorem AW {tg : List Nat} {cond : Option dQ} {elt : C} {cj : List (Option Nat)} {el t : Expr} {ifs : List Expr} {sc : Scope} (g : Good kk X cc G) (xH : pk cc sc = true) (wI : cj = j5 cc sc)
    (NI:gx (mP cc sc) tg t=true) (ia:AH (mP cc sc) cond ifs=true) (NM:aW (mP cc sc) elt el=true) (pins:List (Addr×Obj)) (s:Shared) (σ:L2.St) (H:Hp) (I:Inv X pins σ H s) :
    ∃ cl,iH X sc (dW sc) cj cl t el ifs (tG X.K tg) (cond.map fun t=>kN X.K (dk G t)) (tE X.K (ev G elt)):=by
  obtain ⟨h1,h2,h3,h4,h5⟩:=jy xH
  obtain ⟨cl,KW⟩:=tH (X:=X) (sc:=sc) fun y hy hf=>by
    obtain ⟨_,ho⟩:=h5 y hy hf
    refine I.ok.has y.1 ?_
    rcases ho with ho | ho
    · exact .inl (g.kinds _ _ ho)
    · exact g.kinds _ _ ho
  refine ⟨cl,h1,h2,h3,KW,wI ▸ xF g xH,fun C s H fp=>h_ (g.block xH C s H fp) NI,?_,fun C s H fp=>aC elt (mP cc sc) _ el (g.block xH C s H fp) NM⟩
  cases cond with
  | none =>
    cases ifs with
    | nil=>rfl
    | cons _ _=>cases ia
  | some tt =>
    cases ifs with
    | nil=>cases ia
    | cons e es =>
      cases es with
      | cons _ _=>cases ia
      | nil=>exact ⟨e,rfl,fun C s H fp=>vd tt (mP cc sc) (X.block sc cl C (dW sc) s H fp []) e (g.block xH C s H fp) ia⟩
theorem AX {k : SK} {src : List C} {tg : List Nat} {cond : Option dQ} {elt : C} {cj : List (Option Nat)} (σ : L2.St) (H : Hp) (Q : VK) (q : tE X.K (ev G (.comp k src tg cond elt cj)) σ H Q) :
    sR cj (tI X.K (b_ G k src)) (tG X.K tg) (cond.map fun t=>kN X.K (dk G t)) (tE X.K (ev G elt)) σ H Q:=by
  obtain ⟨ads,M,ρ,sr,q⟩:=q
  refine ⟨ads,M,ρ,sr,?_⟩
  have q:bF X.K ads H Q ((b_ G k src ρ M).bind fun it M=>aK (fun τ M=>bh G cond τ M) (fun τ M=>(ev G elt τ M).bind own) it tg (df M it) 0 (ef cj ρ) M []):=by
    simp only [ev] at q
    unfold b_
    cases hw:cw G src ρ M with
    | ok ws M1=>rw [hw] at q;exact q
    | err _ _=>rw [hw] at q;exact q
    | stuck=>rw [hw] at q;exact q
  cases hs:b_ G k src ρ M with
  | ok it M1 =>
    rw [hs] at q
    intro J H1 ae g1 m1 rj
    exact pE (sr.grow g1 m1) rj (bF.shift (o:=aK (fun τ M=>bh G cond τ M) (fun τ M=>(ev G elt τ M).bind own) it tg (df M1 it) 0 (ef cj ρ) M1 []) q g1 sr.mem m1)
  | err _ _=>rw [hs] at q;exact q
  | stuck=>rw [hs] at q;exact q
structure xN (kk:Nat) (X:Cx) (cc:CC) (G:aL):Prop where
 g:Good kk X cc G
 bk:X.env.blockKind=.function
 nx:X.xe=fun _ _=>False
theorem vf {v:Expr} (h:(!dY v || Nat.beq v.ctorIdx 8)=true) (hc:dY v=true):∃ el gens sc q,v=.ListComp el gens sc q:=by
 rw [hc] at h
 exact Expr.ListComp.elim (motive_1:=fun v=>∃ el gens sc q,v=.ListComp el gens sc q) v (Nat.eq_of_beq_eq_true h) fun el gens sc q=>⟨el,gens,sc,q,rfl⟩
theorem EK {c:C} {el:Expr} {gens:List Comprehension} {sc:Scope} {q:Pos} (h:aW cc c (.ListComp el gens sc q)=true):∃ k src tg cond elt cj,c=.comp k src tg cond elt cj:=by
 cases c <;> first | exact absurd (show false=true from h) bO | exact ⟨_,_,_,_,_,_,rfl⟩
end
mutual
theorem NN {kk:Nat} {G:aL}:∀ (s:S) (cc:CC) (X:Cx) (st:Stmt),xN kk X cc G->EF cc s st=true->PS X st (oh X.K (fj G s))
 | .asg tg c,cc,X,st,g,h=>eA (P:=fun st=>PS X st _) h fun ts v pos h=>by
  rcases ts with _|⟨t,_|⟨_,_⟩⟩ <;> first | exact absurd h bO | skip
  simp only [bH] at h
  exact IJ g.g h.1.1.1 h.1.1.2 (vf h.1.2) (aC c cc X v g.g h.2)
 | .eZ i c,cc,X,st,g,h=>eA (P:=fun st=>PS X st _) h fun ts v pos h=>by
  rcases ts with _|⟨t,_|⟨_,_⟩⟩ <;> first | exact absurd h bO | skip
  refine bq (P:=fun t=>PS X (.Assign [t] v pos) _) h fun x p h=>gw (P:=fun v=>PS X (.Assign [.Name x p] v pos) _) h fun el gens sc q h=>?_
  simp only [bH,Bool.not_eq_true'] at h
  obtain ⟨⟨⟨⟨h1,h2⟩,h3⟩,h4⟩,h5⟩:=h
  obtain ⟨k,src,tg,cond,elt,cj,rfl⟩:=EK h5
  rcases gens with _|⟨⟨t,iter,ifs,as⟩,_|⟨_,_⟩⟩ <;> first | exact absurd (show false=true from h5) bO | skip
  have h6:(as == 0 && pk cc sc && decide (cj=j5 cc sc) && mQ cc k src t iter && gx (mP cc sc) tg t && AH (mP cc sc) cond ifs && aW (mP cc sc) elt el)=true:=h5
  simp only [bH,beq_iff_eq,decide_eq_true_eq] at h6
  obtain ⟨⟨⟨⟨⟨⟨rfl,k1⟩,k2⟩,k3⟩,k4⟩,k5⟩,k6⟩:=h6
  obtain ⟨xI,iG⟩:=rB src k cc X t iter g.g k3
  exact EH g.g g.bk (eq_of_beq h1) (eq_of_beq h2) (eq_of_beq h3) h4 (fun pins s σ H I=>by
   obtain ⟨cl,ck⟩:=AW g.g k1 k2 k4 k5 k6 pins s σ H I
   exact ⟨cl,xI,ck⟩) (mY iG X.env) AX
 | .par i j a b,_,_,_,_,h=>absurd (show false=true from h) bO
 | .put o i v,cc,X,st,g,h=>eA (P:=fun st=>PS X st _) h fun ts w pos h=>by
  rcases ts with _|⟨t,_|⟨_,_⟩⟩ <;> first | exact absurd h bO | skip
  refine bI (P:=fun t=>PS X (.Assign [t] w pos) _) h fun e f sp h=>?_
  simp only [bH] at h
  obtain ⟨⟨⟨h1,h3⟩,h4⟩,h5⟩:=h
  exact IK g.g h1 (aC o cc X e g.g h3) (aC i cc X f g.g h4) (aC v cc X w g.g h5)
 | .dput o i v,cc,X,st,g,h=>eA (P:=fun st=>PS X st _) h fun ts w pos h=>by
  rcases ts with _|⟨t,_|⟨_,_⟩⟩ <;> first | exact absurd h bO | skip
  refine bI (P:=fun t=>PS X (.Assign [t] w pos) _) h fun e f sp h=>?_
  simp only [bH] at h
  obtain ⟨⟨⟨h1,h3⟩,h4⟩,h5⟩:=h
  exact EI g.g h1 (aC o cc X e g.g h3) (aC i cc X f g.g h4) (aC v cc X w g.g h5)
 | .expr c,cc,X,st,g,h=>u7 (P:=fun st=>PS X st _) h fun e pos h=>by
  simp only [bH,Bool.not_eq_true'] at h
  exact EJ h.1 (aC c cc X e g.g h.2)
 | .ret c,cc,X,st,g,h=>jb (P:=fun st=>PS X st _) h fun v pos h=>by
  cases v with
  | none=>exact absurd h bO
  | some e=>exact IL (aC c cc X e g.g h)
 | .xM,cc,X,st,g,h=>jb (P:=fun st=>PS X st _) h fun v pos h=>by
  cases v with
  | some e=>exact absurd h bO
  | none =>
   refine ve zy fun D σ H q=>?_
   obtain ⟨ads,M,ρ,s,q⟩:=q
   exact q .az H ads (au.refl _ _) s.mem (show RD X.K ads H .az .az from fE)
 | .iff t a b,cc,X,st,g,h=>AE (P:=fun st=>PS X st _) h fun c x y pos h=>by
  simp only [bH] at h
  exact NL (vd t cc X c g.g h.1.1) (pG a cc X x g h.1.2) (pG b cc X y g h.2)
 | .aX tg k src b,cc,X,st,g,h=>xi (P:=fun st=>PS X st _) h fun t iter body Pe pos h=>by
  simp only [bH,List.isEmpty_iff] at h
  obtain ⟨⟨⟨rfl,h1⟩,h2⟩,h3⟩:=h
  obtain ⟨hs,hn⟩:=rB src k cc X t iter g.g h1
  exact IM g.g g.nx hs hn h2 (pG b cc X body g h3)
 | .never,cc,X,st,g,h=>ve vV fun D σ H q=>by
  obtain ⟨ads,M,ρ,s,q⟩:=q
  exact q
 | .pass,cc,X,st,g,h=>u9 (P:=fun st=>PS X st _) h fun pos h=>ve zw fun D σ H q=>by
  obtain ⟨ads,M,ρ,s,q⟩:=q
  exact q σ H ads (au.refl _ _) s
 | .brk,cc,X,st,g,h=>rl (P:=fun st=>PS X st _) h fun pos h=>ve vU fun D σ H q=>by
  obtain ⟨ads,M,ρ,s,q⟩:=q
  exact q σ H ads (au.refl _ _) s
 | .cont,cc,X,st,g,h=>kY (P:=fun st=>PS X st _) h fun pos h=>ve oB fun D σ H q=>by
  obtain ⟨ads,M,ρ,s,q⟩:=q
  exact q σ H ads (au.refl _ _) s
theorem pG {kk:Nat} {G:aL}:∀ (ss:List S) (cc:CC) (X:Cx) (st:List Stmt),xN kk X cc G->ib cc ss st=true->oz X st (oh X.K (cO G ss))
 | [],cc,X,[],g,h=>IH zv fun D σ H q=>by
  obtain ⟨ads,M,ρ,s,q⟩:=q
  exact q σ H ads (au.refl _ _) s
 | [],cc,X,_::_,g,h=>by cases h
 | _::_,cc,X,[],g,h=>by cases h
 | s::ss,cc,X,t::ts,g,h=>by
  have h':(EF cc s t && ib cc ss ts)=true:=h
  simp only [bH] at h'
  exact IH (vT (NN s cc X t g h'.1) (pG ss cc X ts g h'.2)) fun D σ H q=>II q
end
def e5 (n:Nat) (ds:List D):En:=ds.map some++List.replicate (n - ds.length) none
def af (G:aL) (n:Nat) (body:List S) (ds:List D) (M:Mem):Out W:=match cO G body (e5 n ds) M with
 | .rt w M=>.ok w M
 | .nx _ M=>.ok (.d .az) M
 | _=>.stuck
theorem xO {K:PySem.W.Frag} {ads:List Addr} {H:Hp}:∀ {ds:List D} {vs:List V} (r:aA K ads H ds vs) (k:Nat),HQ K ads H (ds.map some++List.replicate k none) (vs.map some++List.replicate k none)
 | ds,vs,r,k=>by
  intro i d e
  by_cases hi:i < ds.length
  ·rw [uq (by simpa using hi),dy] at e
   cases q:ds[i]? with
   | none=>rw [q] at e;cases e
   | some d' =>
    rw [q] at e
    cases e
    obtain ⟨v,ev,rv⟩:=r.get q
    exact ⟨v,by rw [uq (by rw [aP,<- r.len];exact hi),dy,ev];rfl,rv⟩
  ·rw [List.getElem?_append_right (by simpa using hi),List.getElem?_replicate] at e
   split at e <;> cases e
theorem EL {P : Program} {w : World} {K : PySem.W.Frag} {mg : Str -> Option Value} {base : Heap} {x qual : Str} {st : Stmt} {f : Addr} {fd : FuncData} {N ps : List Str} {k : Nat} {G : aL} {fs : List (Str × Nat)} {gs : List (Str × Int)} {body : List S} {n : Nat}
    (F:Kt K x qual st f fd) (Sc:gW N ps (aS st)) (hn:ps.length=n) (hb:ib ⟨N,(aS st).names,fs,gs⟩ body (dC st)=true) (NO:∀ b∈bW,mg b=none) (Sg:∀ (x:Str) (v:Int),gs.lookup x=some v->∃ t,mg x=some (.int v t))
    (NK:∀ (i:Nat) (x:Str) (n:Nat),fs[i]?=some (x,n)->∃ f fd ps,fw P w K mg base uN k f fd ps (AI K n (G i))/\mg x=some (.ref f)/\PySem.W.keepIn K (.ref f)=true/\Binds K fd ps []) :
    fw P w K mg base uN (k+1) f fd ps (AI K n (af G N.length body)):=by
  have oe:ps.length<=N.length:=by have:=congrArg List.length Sc.pre;rw [List.length_take] at this;omega
  refine F.ok Sc (fun vs H Q E h=>?_) fun kM A outer s H vs Q E hr y_=>?_
  · obtain ⟨ads,M,ds,m,r,hl,_⟩:=h
    rw [<- r.len,hl,hn]
  · have gs : xN k (qH uN P w K mg base N qual (aS st) f kM A outer s H E).GW ⟨N, (aS st).names, fs, gs⟩ G := by
      refine ⟨⟨rfl,hr,rfl,Sc.nd,fun x k e=>?_,fun _ _=>rfl,NO,Sg,NK⟩,?_,rfl⟩
      · have e:(aS st).names.lookup x=some k:=e
        cases k with
        | «local»=>exact e
        | cell=>exact e
        | free=>exact absurd rfl (Sc.wa _ (PySem.mem_of_lookup e))
        | globalExplicit=>exact True.intro
        | globalImplicit=>exact e
      · show (if (aS st).kind.isAnnotationScope then ScopeKind.function else (aS st).kind)=_
        rw [Sc.kind]
        rfl
    refine ⟨_,pG body _ _ (dC st) gs hb,?_⟩
    obtain ⟨ads,M,ds,m,r,hl,q⟩:=y_
    have hlen:(e5 N.length ds).length=N.length:=by
      unfold e5
      rw [jM,aP,List.length_replicate]
      omega
    refine ⟨ads,M,e5 N.length ds,⟨m,?_,?_⟩,?_⟩
    · unfold e5 L2.start
      rw [<- r.len]
      exact xO r _
    · rw [hlen]
      unfold L2.start
      rw [jM,aP,List.length_replicate,<- r.len]
      omega
    · unfold af at q
      cases hq:cO G body (e5 N.length ds) M with
      | nx ρ M1=>rw [hq] at q;exact fun cg H' ao g s'=>q .az H' ao g s'.mem (show RD K ao H' .az .az from fE)
      | rt w M1=>rw [hq] at q;exact q
      | bk _ _=>rw [hq] at q;exact q.elim
      | ct _ _=>rw [hq] at q;exact q.elim
      | stuck=>rw [hq] at q;exact q.elim
def tab (l:List (List D->Mem->Out W)):aL:=fun i ds M=>match l[i]? with
 | some f=>f ds M
 | none=>.stuck
abbrev fq (x:Str) (s:Stmt) (m c:Value):FuncData:=PySem.W.fnOf x x (jt s) (dC s) (aS s) .none .none .none m none c .none
def fo (f:FuncData):Obj:=⟨.type "function",none,.func f,#[]⟩
theorem EM {K : PySem.W.Frag} {h : Heap} {mg : Str -> Option Value} {gs : List (Str × Int)} (X : K.In h) (G : h.Ns mainGlobals mg) (z : gs.all (fun p => match PySem.W.nsIn K mainGlobals p.1 with | some (some (.int v _)) => v == p.2 | _ => false) = true) :
    ∀ (x:Str) (v:Int),gs.lookup x=some v->∃ t,mg x=some (.int v t):=by
  intro x v e
  have q:=List.all_eq_true.mp z (x,v) (PySem.mem_of_lookup e)
  dsimp only at q
  split at q
  · rename_i w t e2
    obtain rfl:=eq_of_beq q
    exact ⟨t,PySem.W.mg_of X G e2⟩
  · exact absurd q bO
section
variable {P:Program} {w:World} {K:PySem.W.Frag} {mg:Str->Option Value} {base h:Heap} {k k2:Nat} {x:Str} {n:Nat} {fs:List (Str×Nat)} {Fs:List (List D->Mem->Out W)} {F:List D->Mem->Out W} {gs:List (Str×Int)}
structure Is (P:Program) (w:World) (K:PySem.W.Frag) (mg:Str->Option Value) (base:Heap) (k:Nat) (x:Str) (n:Nat) (F:List D->Mem->Out W):Prop where
 is:∃ f fd ps,fw P w K mg base uN k f fd ps (AI K n F)/\mg x=some (.ref f)/\PySem.W.keepIn K (.ref f)=true/\Binds K fd ps []
theorem Is.mono (h:Is P w K mg base k x n F) (hk:k<=k2):Is P w K mg base k2 x n F:=by
 obtain ⟨f,fd,ps,a,b⟩:=h.is
 exact ⟨f,fd,ps,a.mono hk,b⟩
def All (P:Program) (w:World) (K:PySem.W.Frag) (mg:Str->Option Value) (base:Heap) (k:Nat) (fs:List (Str×Nat)) (Fs:List (List D->Mem->Out W)):Prop:=fs.length=Fs.length/\∀ (i:Nat) (x:Str) (n:Nat),fs[i]?=some (x,n)->∃ F,Fs[i]?=some F/\Is P w K mg base k x n F
theorem All.nil:All P w K mg base k [] []:=⟨rfl,fun i x n e=>by simp at e⟩
theorem All.snoc (h:All P w K mg base k fs Fs) (g:Is P w K mg base (k+1) x n F):All P w K mg base (k+1) (fs++[(x,n)]) (Fs++[F]):=by
 obtain ⟨hl,h⟩:=h
 refine ⟨by rw [jM,jM,hl];rfl,fun i y m e=>?_⟩
 by_cases hi:i < fs.length
 ·rw [uq hi] at e
  obtain ⟨F,a,b⟩:=h i y m e
  exact ⟨F,by rw [uq (by omega)];exact a,b.mono (Nat.le_succ _)⟩
 ·have:i=fs.length:=by
   have:=(dh.mp e).1
   simp at this;omega
  subst this
  simp at e
  obtain ⟨rfl,rfl⟩:=e
  exact ⟨F,by rw [hl];simp,g⟩
theorem All.fns (h:All P w K mg base k fs Fs):∀ (i:Nat) (x:Str) (n:Nat),fs[i]?=some (x,n)->∃ f fd ps,fw P w K mg base uN k f fd ps (AI K n (tab Fs i))/\mg x=some (.ref f)/\PySem.W.keepIn K (.ref f)=true/\Binds K fd ps []:=fun i y m e=>by
 obtain ⟨F,a,b⟩:=h.2 i y m e
 have:tab Fs i=F:=by funext ds M;unfold tab;rw [a]
 rw [this]
 exact b.is
def KZ (N ps:List Str) (sc:Scope):Bool:=(match sc.kind with | .function=>true | _=>false) && !sc.isCoroutine && !sc.isGenerator && decide N.Nodup && decide (N.take ps.length=ps) && ps.all (fun x=>match sc.names.lookup x with | some .local=>true | some .cell=>true | _=>false) && sc.names.all fun y=>match y.2 with | .free=>false | _=>true
theorem EN {N ps:List Str} {sc:Scope} (h:KZ N ps sc=true):gW N ps sc:=by
 unfold KZ at h
 simp only [bH,List.all_eq_true,decide_eq_true_eq,Bool.not_eq_true'] at h
 obtain ⟨⟨⟨⟨⟨⟨h1,h2⟩,h3⟩,h4⟩,h5⟩,h6⟩,h7⟩:=h
 refine ⟨?_,h2,h3,h4,h5,fun x hx=>?_,fun y hy e=>?_⟩
 ·split at h1
  ·assumption
  ·cases h1
 ·have:=h6 x hx
  split at this
  ·exact .inl (by assumption)
  ·exact .inr (by assumption)
  ·cases this
 ·have:=h7 y hy
  rw [e] at this
  cases this
def NP:Nat->(List Value->Prop)->Prop
 | 0,P=>P []
 | k+1,P=>∀ a,NP k fun us=>P (a::us)
theorem IP:∀ {k:Nat} {P:List Value->Prop},NP k P->∀ us,us.length=k->P us:=by
 intro k
 induction k with
 | zero=>intro P h us e;rw [List.length_eq_zero_iff.mp e];exact h
 | succ k ih =>
  intro P h us e
  cases us with
  | nil=>cases e
  | cons a us=>exact ih (P:=fun us=>P (a::us)) (h a) us (Nat.succ.inj e)
structure Cw (K:PySem.W.Frag) (h:Heap) (mg:Str->Option Value) (gs:List (Str×Int)):Prop where
 X:K.In h
 G:h.Ns mainGlobals mg
 b:∀ b∈bW,mg b=none
 g:∀ (x:Str) (v:Int),gs.lookup x=some v->∃ t,mg x=some (.int v t)
theorem xP (x : Str) (a : Addr) (st : Stmt) (N ps : List Str) (b : List S) (m c : Value) (W : Cw K h mg gs) (A : All P w K mg base k fs Fs) (lk : K.lookup a = some (fo (fq x st m c))) (hc : PySem.W.codeIn K c x = true) (hk : PySem.W.keepIn K (.ref a) = true) (hb : (KZ N ps (aS st) && ib ⟨N, (aS st).names, fs, gs⟩ b (dC st)) = true) :
    fw P w K mg base uN (k+1) a (fq x st m c) ps (AI K ps.length (af (tab Fs) N.length b)) :=
  EL (DR lk hc hk) (EN ((bH _ _).mp hb).1) rfl ((bH _ _).mp hb).2 W.b W.g A.fns
theorem nx (x : Str) (a : Addr) (st : Stmt) (N ps : List Str) (b : List S) (m c : Value) (W : Cw K h mg gs) (A : All P w K mg base k fs Fs) (ha : PySem.W.nsIn K mainGlobals x = some (some (.ref a))) (lk : K.lookup a = some (fo (fq x st m c))) (hc : PySem.W.codeIn K c x = true) (hk : PySem.W.keepIn K (.ref a) = true) (hb : (KZ N ps (aS st) && ib ⟨N, (aS st).names, fs, gs⟩ b (dC st)) = true)
    (bd:NP ps.length fun us=>bindArgs (fq x st m c) ⟨us,[]⟩=pure (ps.zip us)):All P w K mg base (k+1) (fs++[(x,ps.length)]) (Fs++[af (tab Fs) N.length b]) :=
  A.snoc ⟨a,_,ps,xP x a st N ps b m c W A lk hc hk hb,PySem.W.mg_of W.X W.G ha,hk,.all (IP bd)⟩
end
@[irreducible] def aD {α:Type} (o:Out α) (P:α->Mem->Prop):Prop:=match o with
 | .ok a M=>P a M
 | _=>False
theorem aF {α:Type} {a:α} {M:Mem} {P:α->Mem->Prop}:aD (.ok a M) P=P a M:=by unfold aD;exact propext Iff.rfl
theorem ar {α:Type} {P:α->Mem->Prop}:aD .stuck P=False:=by unfold aD;exact propext Iff.rfl
theorem fR {α:Type} {P:α->Mem->Prop} {x:O3} {M:Mem}:aD (.err x M) P=False:=by unfold aD;exact propext Iff.rfl
theorem ag {α β:Type} {o:Out α} {f:α->Mem->Out β} {P:β->Mem->Prop}:aD (o.bind f) P=aD o fun a M=>aD (f a M) P:=by
 cases o with
 | ok a M=>rw [aF];rfl
 | err _ _=>rw [fR];exact fR
 | stuck=>rw [ar];exact ar
theorem aD.imp {α:Type} {o:Out α} {P Q:α->Mem->Prop} (h:aD o P) (k:∀ a M,P a M->Q a M):aD o Q:=by
 cases o with
 | ok a M=>rw [aF] at h ⊢;exact k a M h
 | err _ _=>rw [fR] at h;exact h.elim
 | stuck=>rw [ar] at h;exact h.elim
theorem fS {α:Type} {c:Prop} [Decidable c] {o:Out α} {P:α->Mem->Prop}:aD (if c then o else .stuck) P=(c/\aD o P):=by
 by_cases h:c
 ·rw [if_pos h];exact propext ⟨fun q=>⟨h,q⟩,fun q=>q.2⟩
 ·rw [if_neg h,ar];exact propext ⟨fun q=>q.elim,fun q=>absurd q.1 h⟩
theorem EO {α:Type} {o:Out α} {P:α->Mem->Prop} (h:aD o P):∃ a M,o=.ok a M/\P a M:=by
 cases o with
 | ok a M=>rw [aF] at h;exact ⟨a,M,rfl,h⟩
 | err _ _=>rw [fR] at h;exact h.elim
 | stuck=>rw [ar] at h;exact h.elim
@[irreducible] def e6 (o:bo) (nx:En->Mem->Prop) (rt:W->Mem->Prop) (bk ct:En->Mem->Prop):Prop:=match o with
 | .nx ρ M=>nx ρ M
 | .rt w M=>rt w M
 | .bk ρ M=>bk ρ M
 | .ct ρ M=>ct ρ M
 | .stuck=>False
section
variable {nx:En->Mem->Prop} {rt:W->Mem->Prop} {bk ct:En->Mem->Prop}
theorem cY {ρ:En} {M:Mem}:e6 (.nx ρ M) nx rt bk ct=nx ρ M:=by unfold e6;exact propext Iff.rfl
theorem gQ {w:W} {M:Mem}:e6 (.rt w M) nx rt bk ct=rt w M:=by unfold e6;exact propext Iff.rfl
theorem kg {ρ:En} {M:Mem}:e6 (.bk ρ M) nx rt bk ct=bk ρ M:=by unfold e6;exact propext Iff.rfl
theorem kh {ρ:En} {M:Mem}:e6 (.ct ρ M) nx rt bk ct=ct ρ M:=by unfold e6;exact propext Iff.rfl
theorem cE:e6 .stuck nx rt bk ct=False:=by unfold e6;exact propext Iff.rfl
theorem dI {α:Type} {o:Out α} {f:α->Mem->bo}:e6 (bo.jl o f) nx rt bk ct=aD o fun a M=>e6 (f a M) nx rt bk ct:=by
 cases o with
 | ok a M=>rw [aF];rfl
 | err _ _=>rw [fR];exact cE
 | stuck=>rw [ar];exact cE
theorem AY {o:bo} {f:En->Mem->bo}:e6 (o.seq f) nx rt bk ct=e6 o (fun ρ M=>e6 (f ρ M) nx rt bk ct) rt bk ct:=by
 cases o with
 | nx ρ M=>rw [cY];rfl
 | rt ρ M=>rw [gQ];exact gQ
 | bk ρ M=>rw [kg];exact kg
 | ct ρ M=>rw [kh];exact kh
 | stuck=>rw [cE];exact cE
end
theorem AZ {G:aL} {n:Nat} {b:List S} {ds:List D} {M:Mem} {P:W->Mem->Prop}:aD (af G n b ds M) P=e6 (cO G b (e5 n ds) M) (fun _ M=>P (.d .az) M) P (fun _ _=>False) (fun _ _=>False):=by
 unfold af
 cases cO G b (e5 n ds) M with
 | nx ρ M=>rw [cY];exact aF
 | rt ρ M=>rw [gQ];exact aF
 | bk ρ M=>rw [kg];exact ar
 | ct ρ M=>rw [kh];exact ar
 | stuck=>rw [cE];exact ar
section
variable {G:aL} {ρ:En} {M:Mem} {P:W->Mem->Prop}
theorem IQ {d:D}:aD (ev G (.cst d) ρ M) P=P (.d d) M:=by simp only [ev,aF]
theorem IS {op:ze} {a b:C}:aD (ev G (.bin op a b) ρ M) P=aD (ev G a ρ M) fun x M=>aD (ev G b ρ M) fun y M=>aD (oX op x y M) P:=by simp only [ev,ag]
theorem IT {op:u0} {a b:C}:aD (ev G (.cmp op a b) ρ M) P=aD (ev G a ρ M) fun x M=>aD (ev G b ρ M) fun y M=>aD (aO op x y M) fun r M=>P (.d (.bl r)) M:=by simp only [ev,ag,aF]
theorem IU {c:dQ} {a b:C}:aD (ev G (.ite c a b) ρ M) P=aD (dk G c ρ M) fun r M=>if r then aD (ev G a ρ M) P else aD (ev G b ρ M) P:=by
 simp only [ev,ag]
 congr 1;funext r M
 cases r <;> rfl
theorem IV {cs:List C}:aD (ev G (.tup cs) ρ M) P=aD (bg G cs ρ M) fun ds M=>ds.length<=sizeLine/\P (.d (.tup ds)) M:=by
 simp only [ev,ag,fS,aF]
theorem IW {cs:List C}:aD (ev G (.lst cs) ρ M) P=aD (bg G cs ρ M) fun ds M=>ds.length<=sizeLine/\P (.lv ds) M:=by
 simp only [ev,ag,fS,aF]
theorem k_sub {a b:C}:aD (ev G (.sub a b) ρ M) P=aD (ev G a ρ M) fun x M=>aD (ev G b ρ M) fun y M=>aD (cR x y M) P:=by simp only [ev,ag]
theorem IX {a:C} {lo hi:Option C}:aD (ev G (.kU a lo hi) ρ M) P=aD (ev G a ρ M) fun x M=>aD (o_ G lo ρ M) fun l M=>aD (o_ G hi ρ M) fun h M=>aD (jX x l h M) P:=by simp only [ev,ag]
theorem IY {a:C} {k:Int}:aD (ev G (.zf a k) ρ M) P=aD (ev G a ρ M) fun x M=>aD (jY x k M) P:=by simp only [ev,ag]
theorem NQ {P:Option Int->Mem->Prop}:aD (o_ G none ρ M) P=P none M:=by simp only [o_,aF]
theorem ER {f:Nat} {cs:List C}:aD (ev G (.call f cs) ρ M) P=aD (bg G cs ρ M) fun ds M=>aD (G f ds M) P:=by simp only [ev,ag]
theorem NR {b:Bi} {cs:List C}:aD (ev G (.bi b cs) ρ M) P=aD (cw G cs ρ M) fun ws M=>aD (iw b ws M) P:=by simp only [ev,ag]
theorem NS {m:Me} {o:C} {cs:List C}:aD (ev G (.me m o cs) ρ M) P=aD (ev G o ρ M) fun x M=>(de M x).isSome=true/\aD (bg G cs ρ M) fun ds M=>aD (qw m x ds M) P:=by
 simp only [ev,ag,fS]
theorem IZ {ks:List Str} {cs:List C}:aD (ev G (.vD ks cs) ρ M) P=aD (bg G cs ρ M) fun ds M=>ks.length=ds.length/\P (.d (.adr M.length)) (M++[.dK ((ks.map Sum.inr).zip ds)]):=by
 simp only [ev,ag,fS,aF]
theorem ES {k:SK} {src:List C} {tg:List Nat} {cond:Option dQ} {elt:C} {cj:List (Option Nat)}:aD (ev G (.comp k src tg cond elt cj) ρ M) P=aD (cw G src ρ M) fun ws M=>aD (fi k ws M) fun it M=>aD (aK (fun τ M=>bh G cond τ M) (fun τ M=>(ev G elt τ M).bind own) it tg (df M it) 0 (ef cj ρ) M []) P:=by simp only [ev,ag]
theorem NT {P:List D->Mem->Prop}:aD (bg G [] ρ M) P=P [] M:=by simp only [bg,aF]
theorem NU {c:C} {cs:List C} {P:List D->Mem->Prop}:aD (bg G (c::cs) ρ M) P=aD (ev G c ρ M) fun w M=>aD (own w M) fun d M=>aD (bg G cs ρ M) fun ds M=>P (d::ds) M:=by simp only [bg,ag,aF]
theorem NV {P:List W->Mem->Prop}:aD (cw G [] ρ M) P=P [] M:=by simp only [cw,aF]
theorem NW {c:C} {cs:List C} {P:List W->Mem->Prop}:aD (cw G (c::cs) ρ M) P=aD (ev G c ρ M) fun w M=>aD (cw G cs ρ M) fun ds M=>P (w::ds) M:=by simp only [cw,ag,aF]
theorem I0 {c:C} {P:Bool->Mem->Prop}:aD (dk G (.val c) ρ M) P=aD (ev G c ρ M) fun w M=>∃ r,oY M w=some r/\P r M:=by
 simp only [dk,ag]
 congr 1;funext w M
 cases h:oY M w with
 | none=>simp only [reduceCtorEq,false_and,exists_false,ar]
 | some r=>simp only [Option.some.injEq,exists_eq_left',aF]
theorem I_ {a:dQ} {P:Bool->Mem->Prop}:aD (dk G (.neg a) ρ M) P=aD (dk G a ρ M) fun r M=>P (!r) M:=by simp only [dk,ag,aF]
theorem ET {a:dQ} {P:Bool->Mem->Prop}:aD (eg G [a] ρ M) P=aD (dk G a ρ M) P:=by simp only [eg,ag,aF]
theorem EU {a:dQ} {P:Bool->Mem->Prop}:aD (eh G [a] ρ M) P=aD (dk G a ρ M) P:=by simp only [eh,ag,aF]
theorem EV {a b:dQ} {cs:List dQ} {P:Bool->Mem->Prop}:aD (eg G (a::b::cs) ρ M) P=aD (dk G a ρ M) fun r M=>if r then aD (eg G (b::cs) ρ M) P else P false M:=by
 rw [eg]
 simp only [ag]
 congr 1;funext r M
 cases r with
 | true=>rfl
 | false=>exact aF
theorem EW {a b:dQ} {cs:List dQ} {P:Bool->Mem->Prop}:aD (eh G (a::b::cs) ρ M) P=aD (dk G a ρ M) fun r M=>if r then P true M else aD (eh G (b::cs) ρ M) P:=by
 rw [eh]
 simp only [ag]
 congr 1;funext r M
 cases r with
 | true=>exact aF
 | false=>rfl
theorem EX {ts:List dQ} {P:Bool->Mem->Prop}:aD (dk G (.dj ts) ρ M) P=aD (eg G ts ρ M) P:=by simp only [dk]
theorem EY {ts:List dQ} {P:Bool->Mem->Prop}:aD (dk G (.d7 ts) ρ M) P=aD (eh G ts ρ M) P:=by simp only [dk]
end
section
variable {G:aL} {ρ:En} {M:Mem} {nx:En->Mem->Prop} {rt:W->Mem->Prop} {bk ct:En->Mem->Prop}
theorem EZ {i:Nat} {c:C}:e6 (fj G (.eZ i c) ρ M) nx rt bk ct=aD (ev G c ρ M) fun w M=>aD (own w M) fun d M=>nx (ρ.set i (some d)) M:=by simp only [fj,dI,ag,cY]
theorem Ja {o i v:C}:e6 (fj G (.put o i v) ρ M) nx rt bk ct=aD (ev G v ρ M) fun w M=>aD (own w M) fun d M=>aD (ev G o ρ M) fun x M=>aD (ev G i ρ M) fun y M=>aD (gL x y d M) fun _ M=>nx ρ M:=by simp only [fj,dI,ag,cY]
theorem E1 {c:C}:e6 (fj G (.expr c) ρ M) nx rt bk ct=aD (ev G c ρ M) fun _ M=>nx ρ M:=by simp only [fj,dI,cY]
theorem Jb {c:C}:e6 (fj G (.ret c) ρ M) nx rt bk ct=aD (ev G c ρ M) rt:=by simp only [fj,dI,gQ]
theorem NX {t:dQ} {a b:List S}:e6 (fj G (.iff t a b) ρ M) nx rt bk ct=aD (dk G t ρ M) fun r M=>if r then e6 (cO G a ρ M) nx rt bk ct else e6 (cO G b ρ M) nx rt bk ct:=by
 simp only [fj,dI]
 congr 1;funext r M
 cases r <;> rfl
theorem Jc {tg:List Nat} {k:SK} {src:List C} {b:List S}:e6 (fj G (.aX tg k src b) ρ M) nx rt bk ct=aD (cw G src ρ M) fun ws M=>aD (fi k ws M) fun it M=>e6 (cS (fun ρ M=>cO G b ρ M) it tg (df M it) 0 ρ M) nx rt bk ct:=by
 simp only [fj,dI,b_,ag]
theorem Jd:e6 (cO G [] ρ M) nx rt bk ct=nx ρ M:=by simp only [cO,cY]
theorem E2 {s:S} {ss:List S}:e6 (cO G (s::ss) ρ M) nx rt bk ct=e6 (fj G s ρ M) (fun ρ M=>e6 (cO G ss ρ M) nx rt bk ct) rt bk ct:=by simp only [cO,AY]
end
theorem iP {body : En -> Mem -> bo} {it : It} {tg : List Nat} {ds : List D} {nx : En -> Mem -> Prop} {rt : W -> Mem -> Prop} {bk ct : En -> Mem -> Prop} (I : Nat -> En -> Mem -> Prop) (hd : ∀ i ρ M, I i ρ M -> i <= ds.length -> itemAt M i it = some ds[i]?)
    (hs:∀ i ρ M d,I i ρ M->ds[i]?=some d->∃ c_,bt tg d ρ=some c_/\e6 (body c_ M) (I (i+1)) rt nx (I (i+1))) (he:∀ ρ M,I ds.length ρ M->nx ρ M) :
    ∀ (f i:Nat) (ρ:En) (M:Mem),I i ρ M->i+f=ds.length->e6 (cS body it tg f i ρ M) nx rt bk ct
  | 0,i,ρ,M,h,e=>by
    unfold cS
    have:i=ds.length:=by omega
    subst this
    rw [hd _ _ _ h (ba _),List.getElem?_eq_none (ba _)]
    dsimp only
    rw [cY]
    exact he _ _ h
  | f+1,i,ρ,M,h,e=>by
    unfold cS
    have hi:i < ds.length:=by omega
    rw [hd _ _ _ h (Nat.le_of_lt hi),eD hi]
    obtain ⟨c_,e1,e2⟩:=hs i ρ M ds[i] h (eD hi)
    dsimp only
    rw [e1]
    dsimp only
    cases q:body c_ M with
    | nx EG M2=>rw [q,cY] at e2;exact iP I hd hs he f (i+1) EG M2 e2 (by omega)
    | ct EG M2=>rw [q,kh] at e2;exact iP I hd hs he f (i+1) EG M2 e2 (by omega)
    | bk EG M2=>rw [q,kg] at e2;dsimp only;rw [cY];exact e2
    | rt w M2=>rw [q,gQ] at e2;dsimp only;rw [gQ];exact e2
    | stuck=>rw [q,cE] at e2;exact e2.elim
theorem m_ {cond : En -> Mem -> Out Bool} {elt : En -> Mem -> Out D} {it : It} {tg : List Nat} {ds : List D} {P : W -> Mem -> Prop} (I : Nat -> En -> Mem -> List D -> Prop) (hd : ∀ i ρ M acc, I i ρ M acc -> i <= ds.length -> itemAt M i it = some ds[i]?)
    (hs:∀ i ρ M acc d,I i ρ M acc->ds[i]?=some d->acc.length < sizeLine/\∃ c_,bt tg d ρ=some c_/\aD (cond c_ M) fun b M=>if b then aD (elt c_ M) fun x M=>I (i+1) c_ M (acc++[x]) else I (i+1) c_ M acc) (he:∀ ρ M acc,I ds.length ρ M acc->P (.lv acc) M) :
    ∀ (f i:Nat) (ρ:En) (M:Mem) (acc:List D),I i ρ M acc->i+f=ds.length->aD (aK cond elt it tg f i ρ M acc) P
  | 0,i,ρ,M,acc,h,e=>by
    unfold aK
    have:i=ds.length:=by omega
    subst this
    rw [hd _ _ _ _ h (ba _),List.getElem?_eq_none (ba _)]
    dsimp only
    rw [aF]
    exact he _ _ _ h
  | f+1,i,ρ,M,acc,h,e=>by
    unfold aK
    have hi:i < ds.length:=by omega
    rw [hd _ _ _ _ h (Nat.le_of_lt hi),eD hi]
    obtain ⟨hl,c_,e1,e2⟩:=hs i ρ M acc ds[i] h (eD hi)
    dsimp only
    rw [e1]
    dsimp only
    rw [if_pos hl,ag]
    refine e2.imp fun b M2 q=>?_
    cases b with
    | true =>
      rw [if_pos rfl] at q ⊢
      rw [ag]
      exact q.imp fun x M3 q=>m_ I hd hs he f (i+1) c_ M3 _ q (by omega)
    | false =>
      rw [if_neg (by simp)] at q ⊢
      exact m_ I hd hs he f (i+1) c_ M2 _ q (by omega)
def eJ {α:Type} (o:Out α) (P:α->Mem->Prop):Prop:=match o with
 | .ok a M=>P a M
 | _=>False
theorem aH {α:Type} {o:Out α} {P:α->Mem->Prop}:aD o P=eJ o P:=by
 cases o with
 | ok a M=>rw [aF];rfl
 | err _ _=>rw [fR];rfl
 | stuck=>rw [ar];rfl
def E3 (x:W) (A B:Prop):Prop:=match x with
 | .d (.bl true)=>A
 | .d (.bl false)=>B
 | _=>False
def bK (b:Bool) (A B:Prop):Prop:=match b with
 | true=>A
 | false=>B
theorem tK {b:Bool} {A B:Prop}:bK b A B=if b=true then A else B:=by cases b <;> simp [bK]
def E4 (o:Option Bool) (P:Bool->Prop):Prop:=match o with
 | some r=>P r
 | none=>False
def E5 (o:Option (Option D)) (P:D->Prop):Prop:=match o with
 | some (some d)=>P d
 | _=>False
def A_ (o:Option En) (P:En->Prop):Prop:=match o with
 | some ρ=>P ρ
 | none=>False
def NY (w:W) (P:Int->Prop):Prop:=match w with
 | .d (.int i)=>P i
 | _=>False
def NZ (w:W) (P:Str->Prop):Prop:=match w with
 | .d (.str i)=>P i
 | _=>False
def xQ:D->Bool
 | .az=>true
 | _=>false
theorem gR {i:Int}:SeqAt.shaped (.int i)=true:=by unfold SeqAt.shaped;rw [PyData.canLay0.eq_3,PyData.depth.eq_6];rfl
theorem Je {M:Mem} {i j:Int}:aO .eq (.d (.int i)) (.d (.int j)) M=.ok (i == j) M:=by
 unfold aO
 have h1:∀ i,f_ M (.d (.int i))=some (.int i):=fun i=>by show cq M 30 (.int i)=_;unfold cq;rfl
 simp only [h1,gR,and_self,if_true,PyData.eqv.eq_5]
theorem Jf {M:Mem} {i j:Int}:aO .ne (.d (.int i)) (.d (.int j)) M=.ok (!(i == j)) M:=by
 unfold aO
 have h1:∀ i,f_ M (.d (.int i))=some (.int i):=fun i=>by show cq M 30 (.int i)=_;unfold cq;rfl
 simp only [h1,gR,and_self,if_true,PyData.eqv.eq_5]
def E6 (op:ze) (x y:W) (M:Mem) (P:W->Mem->Prop):Prop:=match op,x,y with
 | .add,.d (.int i),.d (.int j)=>P (.d (.int (i+j))) M
 | .sub,.d (.int i),.d (.int j)=>P (.d (.int (i - j))) M
 | .mul,.d (.int i),.d (.int j)=>((-(2 ^ 64) < i/\i < 2 ^ 64)\/(-(2 ^ 64) < j/\j < 2 ^ 64))/\P (.d (.int (i * j))) M
 | .fdiv,.d (.int i),.d (.int j)=>(0 < j/\j < 1073741824)/\P (.d (.int (i / j))) M
 | .mod,.d (.int i),.d (.int j)=>0 < j/\P (.d (.int (i % j))) M
 | .add,.d (.tup xs),.d (.tup ys)=>xs.length+ys.length<=sizeLine/\P (.d (.tup (xs++ys))) M
 | .add,.lv xs,.lv ys=>xs.length+ys.length<=sizeLine/\P (.lv (xs++ys)) M
 | op,x,y=>eJ (oX op x y M) P
theorem rC {α:Type} {c:Prop} [Decidable c] {a:α} {M:Mem} {P:α->Mem->Prop}:eJ (if c then .ok a M else .stuck) P=(c/\P a M):=by
 by_cases h:c
 ·rw [if_pos h];exact propext ⟨fun q=>⟨h,q⟩,fun q=>q.2⟩
 ·rw [if_neg h];exact propext ⟨fun q=>q.elim,fun q=>absurd q.1 h⟩
theorem Ba {op:ze} {x y:W} {M:Mem} {P:W->Mem->Prop}:eJ (oX op x y M) P=E6 op x y M P:=by
 unfold E6
 split <;> first | rfl | exact rC
def xR (op:u0) (x y:W) (M:Mem) (P:Bool->Mem->Prop):Prop:=match op,x,y with
 | .eq,.d (.int i),.d (.int j)=>P (i == j) M
 | .ne,.d (.int i),.d (.int j)=>P (!(i == j)) M
 | .oV,.d d,_=>P (xQ d) M
 | .eW,.d d,_=>P (!xQ d) M
 | op,x,y=>eJ (aO op x y M) P
theorem nc {op:u0} {x y:W} {M:Mem} {P:Bool->Mem->Prop}:eJ (aO op x y M) P=xR op x y M P:=by
 unfold xR
 split
 ·rw [Je];rfl
 ·rw [Jf];rfl
 ·rename_i d;cases d <;> rfl
 ·rename_i d;cases d <;> rfl
 ·rfl
def Bb (k:SK) (ws:List W) (M:Mem) (P:It->Mem->Prop):Prop:=match k,ws with
 | .cB,[.d (.int j)]=>(-(2 ^ 62)<=j/\j < 2 ^ 62)/\P (.jf 0 j.toNat) M
 | .kT,[.d (.int i),.d (.int j)]=>(-(2 ^ 62)<=i/\i < 2 ^ 62/\-(2 ^ 62)<=j/\j < 2 ^ 62)/\P (.jf i (j - i).toNat) M
 | k,ws=>eJ (fi k ws M) P
theorem tL {k:SK} {ws:List W} {M:Mem} {P:It->Mem->Prop}:eJ (fi k ws M) P=Bb k ws M P:=by
 unfold Bb
 split <;> first | rfl | exact rC
def E7 (tp:Bool) (ws:List W) (M:Mem) (P:W->Mem->Prop):Prop:=match qW ws with
 | some (i,j)=>((-(2 ^ 62)<=i/\i < 2 ^ 62/\-(2 ^ 62)<=j/\j < 2 ^ 62)/\(j - i).toNat<=2 ^ 24)/\P (w4 tp (HS i (j - i).toNat)) M
 | none=>False
theorem Bc {tp:Bool} {ws:List W} {M:Mem} {P:W->Mem->Prop}:eJ (D1 tp ws M) P=E7 tp ws M P:=by
 unfold D1 E7
 cases qW ws with
 | none=>rfl
 | some ij=>exact rC
mutual
def wE (G:aL):C->En->Mem->(W->Mem->Prop)->Prop
  | .var i,ρ,M,P=>E5 ρ[i]? fun d=>P (.d d) M
  | .cst d,_,M,P=>P (.d d) M
  | .bin op a b,ρ,M,P=>wE G a ρ M fun x M=>wE G b ρ M fun y M=>E6 op x y M P
  | .cmp op a b,ρ,M,P=>wE G a ρ M fun x M=>wE G b ρ M fun y M=>xR op x y M fun r M=>P (.d (.bl r)) M
  | .chain o1 o2 a b c, ρ, M, P => wE G a ρ M fun x M => wE G b ρ M fun y M => xR o1 x y M fun r M =>
      bK r (wE G c ρ M fun z M=>xR o2 y z M fun r M=>P (.d (.bl r)) M) (P (.d (.bl false)) M)
  | .dj cs,ρ,M,P=>xS G cs ρ M P
  | .d7 cs,ρ,M,P=>Jg G cs ρ M P
  | .neg a,ρ,M,P=>wE G a ρ M fun x M=>E3 x (P (.d (.bl false)) M) (P (.d (.bl true)) M)
  | .ite c a b,ρ,M,P=>wT G c ρ M fun r M=>bK r (wE G a ρ M P) (wE G b ρ M P)
  | .tup cs,ρ,M,P=>Cv G cs ρ M fun ds M=>ds.length<=sizeLine/\P (.d (.tup ds)) M
  | .lst cs,ρ,M,P=>Cv G cs ρ M fun ds M=>ds.length<=sizeLine/\P (.lv ds) M
  | .sub a b,ρ,M,P=>wE G a ρ M fun x M=>wE G b ρ M fun y M=>eJ (cR x y M) P
  | .kU a lo hi,ρ,M,P=>wE G a ρ M fun x M=>wO G lo ρ M fun l M=>wO G hi ρ M fun h M=>eJ (jX x l h M) P
  | .zf a k,ρ,M,P=>wE G a ρ M fun x M=>eJ (jY x k M) P
  | .jW a b,ρ,M,P=>wE G a ρ M fun x M=>NZ x fun z=>wE G b ρ M fun y M=>eJ (Cd (.d (.str z)) y M) P
  | .call f cs,ρ,M,P=>Cv G cs ρ M fun ds M=>aD (G f ds M) P
  | .bi b cs,ρ,M,P=>E8 G cs ρ M fun ws M=>eJ (iw b ws M) P
  | .me m o cs,ρ,M,P=>wE G o ρ M fun x M=>(de M x).isSome=true/\Cv G cs ρ M fun ds M=>eJ (qw m x ds M) P
  | .vD ks cs,ρ,M,P=>Cv G cs ρ M fun ds M=>ks.length=ds.length/\P (.d (.adr M.length)) (M++[.dK ((ks.map Sum.inr).zip ds)])
  | .jf tp cs,ρ,M,P=>E8 G cs ρ M fun ws M=>E7 tp ws M P
  | .qT a,ρ,M,P=>wE G a ρ M fun x M=>eJ (HV x M) P
  | .Cc _ v,_,M,P=>P (.d (.int v)) M
  | .ji,_,M,P=>P (.d (.adr M.length)) (M++[.dT []])
  | .gc a b,ρ,M,P=>wE G a ρ M fun x M=>wE G b ρ M fun y M=>eJ (lF x y M) P
  | .fB ng a b,ρ,M,P=>wE G a ρ M fun x M=>wE G b ρ M fun y M=>eJ (i_ ng x y M) P
  | .jk a,ρ,M,P=>wE G a ρ M fun x M=>eJ (lG x M) P
  | .kW a,ρ,M,P=>wE G a ρ M fun x M=>eJ (oZ x M) P
  | .cnt a b,ρ,M,P=>wE G a ρ M fun x M=>(de M x).isSome=true/\wE G b ρ M fun y M=>eJ (mG x y M) P
  | .fC ng a,ρ,M,P=>wE G a ρ M fun x M=>eJ (Ce ng x M) P
  | .minD a b,ρ,M,P=>wE G a ρ M fun x M=>wE G b ρ M fun y M=>eJ (Cf x y M) P
  | .comp k src tg cond elt cj,ρ,M,P=>E8 G src ρ M fun ws M=>Bb k ws M fun it M=>aD (aK (fun τ M=>bh G cond τ M) (fun τ M=>(ev G elt τ M).bind own) it tg (df M it) 0 (ef cj ρ) M []) P
def wT (G:aL):dQ->En->Mem->(Bool->Mem->Prop)->Prop
 | .dj ts,ρ,M,P=>E9 G ts ρ M P
 | .d7 ts,ρ,M,P=>E_ G ts ρ M P
 | .neg a,ρ,M,P=>wT G a ρ M fun r M=>P (!r) M
 | .val c,ρ,M,P=>wE G c ρ M fun w M=>E4 (oY M w) fun r=>P r M
def xS (G:aL):List C->En->Mem->(W->Mem->Prop)->Prop
 | [],_,_,_=>False
 | c::cs,ρ,M,P=>match cs with
  | []=>wE G c ρ M P
  | _::_=>wE G c ρ M fun x M=>E3 x (xS G cs ρ M P) (P (.d (.bl false)) M)
def Jg (G:aL):List C->En->Mem->(W->Mem->Prop)->Prop
 | [],_,_,_=>False
 | c::cs,ρ,M,P=>match cs with
  | []=>wE G c ρ M P
  | _::_=>wE G c ρ M fun x M=>E3 x (P (.d (.bl true)) M) (Jg G cs ρ M P)
def E9 (G:aL):List dQ->En->Mem->(Bool->Mem->Prop)->Prop
 | [],_,_,_=>False
 | c::cs,ρ,M,P=>match cs with
  | []=>wT G c ρ M P
  | _::_=>wT G c ρ M fun r M=>bK r (E9 G cs ρ M P) (P false M)
def E_ (G:aL):List dQ->En->Mem->(Bool->Mem->Prop)->Prop
 | [],_,_,_=>False
 | c::cs,ρ,M,P=>match cs with
  | []=>wT G c ρ M P
  | _::_=>wT G c ρ M fun r M=>bK r (P true M) (E_ G cs ρ M P)
def Cv (G:aL):List C->En->Mem->(List D->Mem->Prop)->Prop
 | [],_,M,P=>P [] M
 | c::cs,ρ,M,P=>wE G c ρ M fun w M=>eJ (own w M) fun d M=>Cv G cs ρ M fun ds M=>P (d::ds) M
def E8 (G:aL):List C->En->Mem->(List W->Mem->Prop)->Prop
 | [],_,M,P=>P [] M
 | c::cs,ρ,M,P=>wE G c ρ M fun w M=>E8 G cs ρ M fun ws M=>P (w::ws) M
def wO (G:aL):Option C->En->Mem->(Option Int->Mem->Prop)->Prop
 | none,_,M,P=>P none M
 | some c,ρ,M,P=>wE G c ρ M fun w M=>NY w fun i=>P (some i) M
end
def ic (G:aL) (o:Option dQ) (ρ:En) (M:Mem) (P:Bool->Mem->Prop):Prop:=match o with
 | none=>P true M
 | some t=>wT G t ρ M P
mutual
theorem d6 {G:aL}:∀ (c:C) (ρ:En) (M:Mem) (P:W->Mem->Prop),aD (ev G c ρ M) P=wE G c ρ M P
 | .var i,ρ,M,P=>by
  simp only [ev,wE]
  rcases ρ[i]? with _|_ | d
  ·exact ar
  ·exact ar
  ·exact aF
 | .cst d,ρ,M,P=>by rw [IQ];rfl
 | .bin op a b,ρ,M,P=>by rw [IS,d6 a];simp only [d6 b,aH,wE,Ba]
 | .cmp op a b,ρ,M,P=>by rw [IT,d6 a];simp only [d6 b,aH,wE,nc]
 | .chain o1 o2 a b c,ρ,M,P=>by
  simp only [ev,ag,wE]
  rw [d6 a]
  congr 1;funext x M
  rw [d6 b]
  congr 1;funext y M
  rw [aH,nc]
  congr 1;funext r M
  cases r with
  | true=>simp only [ag,aF,if_true,d6 c];simp only [aH,nc];rfl
  | false=>simp [aF,bK]
 | .dj cs,ρ,M,P=>by rw [ev,w_and cs];rfl
 | .d7 cs,ρ,M,P=>by rw [ev,w_or cs];rfl
 | .neg a,ρ,M,P=>by
  simp only [ev,ag,wE]
  rw [d6 a]
  congr 1;funext x M
  rcases x with ⟨_ | b | _|_|_|_|_⟩|_
  ·exact ar
  ·cases b <;> exact aF
  all_goals exact ar
 | .ite c a b,ρ,M,P=>by rw [IU,Cy c];simp only [d6 a,d6 b,wE,tK]
 | .tup cs,ρ,M,P=>by rw [IV,rD cs];rfl
 | .lst cs,ρ,M,P=>by rw [IW,rD cs];rfl
 | .sub a b,ρ,M,P=>by rw [k_sub,d6 a];simp only [d6 b,aH,wE]
 | .kU a lo hi,ρ,M,P=>by rw [IX,d6 a];simp only [Pf lo,Pf hi,aH,wE]
 | .zf a k,ρ,M,P=>by rw [IY,d6 a];simp only [aH,wE]
 | .jW a b,ρ,M,P=>by
  simp only [ev,ag,wE]
  rw [d6 a]
  congr 1;funext x M
  rcases x with ⟨_|_|_ | z | _|_|_⟩|_
  ·exact ar
  ·exact ar
  ·exact ar
  ·simp only [ag,d6 b];simp only [aH];rfl
  all_goals exact ar
 | .call f cs,ρ,M,P=>by rw [ER,rD cs];rfl
 | .bi b cs,ρ,M,P=>by rw [NR,xT cs];simp only [aH,wE]
 | .me m o cs,ρ,M,P=>by rw [NS,d6 o];simp only [rD cs,aH,wE]
 | .vD ks cs,ρ,M,P=>by rw [IZ,rD cs];rfl
 | .jf tp cs,ρ,M,P=>by simp only [ev,ag,wE];rw [xT cs];simp only [aH,Bc]
 | .Cc x v,ρ,M,P=>by rw [ev];exact aF
 | .ji,ρ,M,P=>by rw [ev];exact aF
 | .gc a b,ρ,M,P=>by simp only [ev,ag,wE];rw [d6 a];simp only [d6 b,aH]
 | .fB ng a b,ρ,M,P=>by simp only [ev,ag,wE];rw [d6 a];simp only [d6 b,aH]
 | .jk a,ρ,M,P=>by simp only [ev,ag,wE];rw [d6 a];simp only [aH]
 | .kW a,ρ,M,P=>by simp only [ev,ag,wE];rw [d6 a];simp only [aH]
 | .cnt a b,ρ,M,P=>by
  simp only [ev,ag,wE]
  rw [d6 a]
  congr 1;funext x M
  by_cases z:(de M x).isSome=true
  ·rw [if_pos z,ag,d6 b]
   simp only [aH,z,true_and]
  ·rw [if_neg z,ar]
   exact propext ⟨fun q=>q.elim,fun q=>absurd q.1 z⟩
 | .fC ng a,ρ,M,P=>by simp only [ev,ag,wE];rw [d6 a];simp only [aH]
 | .qT a,ρ,M,P=>by simp only [ev,ag,wE];rw [d6 a];simp only [aH]
 | .minD a b,ρ,M,P=>by simp only [ev,ag,wE];rw [d6 a];simp only [d6 b,aH]
 | .comp k src tg cond elt cj,ρ,M,P=>by rw [ES,xT src];simp only [aH,wE,tL]
theorem Cy {G:aL}:∀ (c:dQ) (ρ:En) (M:Mem) (P:Bool->Mem->Prop),aD (dk G c ρ M) P=wT G c ρ M P
 | .dj cs,ρ,M,P=>by rw [EX,w_all cs];rfl
 | .d7 cs,ρ,M,P=>by rw [EY,w_any cs];rfl
 | .neg a,ρ,M,P=>by rw [I_,Cy a];rfl
 | .val c,ρ,M,P=>by
  rw [I0,d6 c]
  simp only [wT]
  congr 1;funext w M
  cases oY M w with
  | none=>simp [E4]
  | some r=>simp [E4]
theorem w_and {G:aL}:∀ (cs:List C) (ρ:En) (M:Mem) (P:W->Mem->Prop),aD (gr G cs ρ M) P=xS G cs ρ M P
 | [],ρ,M,P=>by rw [gr];exact ar
 | [c],ρ,M,P=>by simp only [gr,xS,ag,aF,d6 c]
 | c::b::cs,ρ,M,P=>by
  rw [gr,xS,ag,d6 c]
  congr 1;funext x M
  rw [<- w_and (b::cs)]
  rcases x with ⟨_ | b | _|_|_|_|_⟩|_
  ·exact ar
  ·cases b with
   | true=>rfl
   | false=>exact aF
  all_goals exact ar
theorem w_or {G:aL}:∀ (cs:List C) (ρ:En) (M:Mem) (P:W->Mem->Prop),aD (kX G cs ρ M) P=Jg G cs ρ M P
 | [],ρ,M,P=>by rw [kX];exact ar
 | [c],ρ,M,P=>by simp only [kX,Jg,ag,aF,d6 c]
 | c::b::cs,ρ,M,P=>by
  rw [kX,Jg,ag,d6 c]
  congr 1;funext x M
  rw [<- w_or (b::cs)]
  rcases x with ⟨_ | b | _|_|_|_|_⟩|_
  ·exact ar
  ·cases b with
   | true=>exact aF
   | false=>rfl
  all_goals exact ar
theorem w_all {G:aL}:∀ (cs:List dQ) (ρ:En) (M:Mem) (P:Bool->Mem->Prop),aD (eg G cs ρ M) P=E9 G cs ρ M P
 | [],ρ,M,P=>by rw [eg];exact ar
 | [c],ρ,M,P=>by rw [ET,Cy c];rfl
 | c::b::cs,ρ,M,P=>by rw [EV,Cy c];simp only [w_all (b::cs),<- tK];rfl
theorem w_any {G:aL}:∀ (cs:List dQ) (ρ:En) (M:Mem) (P:Bool->Mem->Prop),aD (eh G cs ρ M) P=E_ G cs ρ M P
 | [],ρ,M,P=>by rw [eh];exact ar
 | [c],ρ,M,P=>by rw [EU,Cy c];rfl
 | c::b::cs,ρ,M,P=>by rw [EW,Cy c];simp only [w_any (b::cs),<- tK];rfl
theorem rD {G:aL}:∀ (cs:List C) (ρ:En) (M:Mem) (P:List D->Mem->Prop),aD (bg G cs ρ M) P=Cv G cs ρ M P
 | [],ρ,M,P=>by rw [NT];rfl
 | c::cs,ρ,M,P=>by rw [NU,d6 c];simp only [rD cs,aH,Cv]
theorem xT {G:aL}:∀ (cs:List C) (ρ:En) (M:Mem) (P:List W->Mem->Prop),aD (cw G cs ρ M) P=E8 G cs ρ M P
 | [],ρ,M,P=>by rw [NV];rfl
 | c::cs,ρ,M,P=>by rw [NW,d6 c];simp only [xT cs,aH,E8]
theorem Pf {G:aL}:∀ (o:Option C) (ρ:En) (M:Mem) (P:Option Int->Mem->Prop),aD (o_ G o ρ M) P=wO G o ρ M P
 | none,ρ,M,P=>by rw [NQ];rfl
 | some c,ρ,M,P=>by
  simp only [o_,ag,wO]
  rw [d6 c]
  congr 1;funext x M
  rcases x with ⟨_|_ | z | _|_|_|_⟩|_
  ·exact ar
  ·exact ar
  ·exact aF
  all_goals exact ar
end
theorem w_cond {G:aL} {o:Option dQ} {ρ:En} {M:Mem} {P:Bool->Mem->Prop}:aD (bh G o ρ M) P=ic G o ρ M P:=by
 cases o with
 | none=>exact aF
 | some t=>exact Cy t ρ M P
theorem pH {G:aL} {c:C} {ρ:En} {M:Mem} {P:D->Mem->Prop}:aD ((ev G c ρ M).bind own) P=wE G c ρ M fun w M=>eJ (own w M) P:=by
 rw [ag,d6]
 simp only [aH]
mutual
def wS (G:aL):S->En->Mem->(En->Mem->Prop)->(W->Mem->Prop)->(En->Mem->Prop)->(En->Mem->Prop)->Prop
 | .asg tg c,ρ,M,nx,_,_,_=>wE G c ρ M fun w M=>eJ (own w M) fun d M=>A_ (bt tg d ρ) fun ρ=>nx ρ M
 | .eZ i c,ρ,M,nx,_,_,_=>wE G c ρ M fun w M=>eJ (own w M) fun d M=>nx (ρ.set i (some d)) M
 | .put o i v,ρ,M,nx,_,_,_=>wE G v ρ M fun w M=>eJ (own w M) fun d M=>wE G o ρ M fun x M=>wE G i ρ M fun y M=>eJ (gL x y d M) fun _ M=>nx ρ M
 | .dput o i v,ρ,M,nx,_,_,_=>wE G v ρ M fun w M=>eJ (own w M) fun d M=>wE G o ρ M fun x M=>wE G i ρ M fun y M=>eJ (gq x y d M) fun _ M=>nx ρ M
 | .par i j a b,ρ,M,nx,_,_,_=>wE G a ρ M fun w M=>eJ (own w M) fun x M=>wE G b ρ M fun w M=>eJ (own w M) fun y M=>nx ((ρ.set i (some x)).set j (some y)) M
 | .expr c,ρ,M,nx,_,_,_=>wE G c ρ M fun _ M=>nx ρ M
 | .ret c,ρ,M,_,rt,_,_=>wE G c ρ M rt
 | .xM,_,M,_,rt,_,_=>rt (.d .az) M
 | .iff t a b,ρ,M,nx,rt,bk,ct=>wT G t ρ M fun r M=>bK r (wSs G a ρ M nx rt bk ct) (wSs G b ρ M nx rt bk ct)
 | .aX tg k src b,ρ,M,nx,rt,bk,ct=>E8 G src ρ M fun ws M=>Bb k ws M fun it M=>e6 (cS (fun ρ M=>cO G b ρ M) it tg (df M it) 0 ρ M) nx rt bk ct
 | .never,_,_,_,_,_,_=>False
 | .pass,ρ,M,nx,_,_,_=>nx ρ M
 | .brk,ρ,M,_,_,bk,_=>bk ρ M
 | .cont,ρ,M,_,_,_,ct=>ct ρ M
def wSs (G:aL):List S->En->Mem->(En->Mem->Prop)->(W->Mem->Prop)->(En->Mem->Prop)->(En->Mem->Prop)->Prop
 | [],ρ,M,nx,_,_,_=>nx ρ M
 | s::ss,ρ,M,nx,rt,bk,ct=>wS G s ρ M (fun ρ M=>wSs G ss ρ M nx rt bk ct) rt bk ct
end
mutual
theorem Sh {G:aL}:∀ (s:S) (ρ:En) (M:Mem) (nx:En->Mem->Prop) (rt:W->Mem->Prop) (bk ct:En->Mem->Prop),e6 (fj G s ρ M) nx rt bk ct=wS G s ρ M nx rt bk ct
 | .asg tg c,ρ,M,nx,rt,bk,ct=>by
  simp only [fj,dI,wS]
  rw [pH]
  congr 1;funext w M
  congr 1;funext d M
  cases bt tg d ρ with
  | none=>exact cE
  | some ρ=>exact cY
 | .eZ i c,ρ,M,nx,rt,bk,ct=>by rw [EZ,d6 c];simp only [aH,wS]
 | .put o i v,ρ,M,nx,rt,bk,ct=>by rw [Ja,d6 v];simp only [d6 o,d6 i,aH,wS]
 | .dput o i v,ρ,M,nx,rt,bk,ct=>by
  simp only [fj,dI,wS]
  rw [pH]
  simp only [d6 o,d6 i,aH,cY]
 | .par i j a b,ρ,M,nx,rt,bk,ct=>by
  simp only [fj,dI]
  rw [rD]
  show wE G a ρ M (fun w M=>eJ (own w M) fun x M=>wE G b ρ M fun w M=>eJ (own w M) fun y M=>e6 (.nx ((ρ.set i (some x)).set j (some y)) M) nx rt bk ct)=_
  simp only [cY,wS]
 | .expr c,ρ,M,nx,rt,bk,ct=>by rw [E1,d6 c];rfl
 | .ret c,ρ,M,nx,rt,bk,ct=>by rw [Jb,d6 c];rfl
 | .xM,ρ,M,nx,rt,bk,ct=>gQ
 | .iff t a b,ρ,M,nx,rt,bk,ct=>by rw [NX,Cy t];simp only [pI a,pI b,wS,tK]
 | .aX tg k src b,ρ,M,nx,rt,bk,ct=>by rw [Jc,xT src];simp only [aH,wS,tL]
 | .never,ρ,M,nx,rt,bk,ct=>cE
 | .pass,ρ,M,nx,rt,bk,ct=>cY
 | .brk,ρ,M,nx,rt,bk,ct=>kg
 | .cont,ρ,M,nx,rt,bk,ct=>kh
theorem pI {G:aL}:∀ (ss:List S) (ρ:En) (M:Mem) (nx:En->Mem->Prop) (rt:W->Mem->Prop) (bk ct:En->Mem->Prop),e6 (cO G ss ρ M) nx rt bk ct=wSs G ss ρ M nx rt bk ct
 | [],ρ,M,nx,rt,bk,ct=>Jd
 | s::ss,ρ,M,nx,rt,bk,ct=>by rw [E2,Sh s];simp only [pI ss];rfl
end
theorem aU {G:aL} {n:Nat} {b:List S} {ds:List D} {M:Mem} {P:W->Mem->Prop}:aD (af G n b ds M) P=wSs G b (e5 n ds) M (fun _ M=>P (.d .az) M) P (fun _ _=>False) (fun _ _=>False):=by
 rw [AZ,pI]
abbrev Fn:=List D->Mem->Out W
def Fr (w:Nat) (M M':Mem):Prop:=M.length<=M'.length/\∀ n,n < M.length->n≠w->M'[n]?=M[n]?
abbrev Ex (M M':Mem):Prop:=Fr M.length M M'
theorem ak {M:Mem} {n:Nat} {o:MO} (h:M[n]?=some o):n < M.length:=(dh.mp h).1
theorem av {M X:Mem} {n:Nat} {o:MO} (h:M[n]?=some o):(M++X)[n]?=some o:=by rw [uq (ak h)];exact h
theorem ah {M:Mem} {o:MO}:(M++[o])[M.length]?=some o:=by simp
theorem aw {M:Mem} {n m:Nat} {o u:MO} (h:M[n]?=some o) (hn:n≠m):(M.set m u)[n]?=some o:=by rw [List.getElem?_set_ne (Ne.symm hn)];exact h
theorem set_same {M:Mem} {n:Nat} {o u:MO} (h:M[n]?=some o):(M.set n u)[n]?=some u:=List.getElem?_set_self (ak h)
theorem Fr.refl (w:Nat) (M:Mem):Fr w M M:=⟨ba _,fun _ _ _=>rfl⟩
theorem Fr.trans {w:Nat} {M M1 M2:Mem} (a:Fr w M M1) (b:Fr w M1 M2):Fr w M M2:=⟨Nat.le_trans a.1 b.1,fun n h k=>(b.2 n (Nat.lt_of_lt_of_le h a.1) k).trans (a.2 n h k)⟩
theorem Fr.app {w:Nat} {M M1 X:Mem} (a:Fr w M M1):Fr w M (M1++X):=⟨by have:=a.1;simp only [jM];omega,fun n h k=>by rw [uq (Nat.lt_of_lt_of_le h a.1)];exact a.2 n h k⟩
theorem Fr.set {w n:Nat} {M M1:Mem} {o:MO} (a:Fr w M M1) (h:M.length<=n):Fr w M (M1.set n o):=⟨by rw [List.length_set];exact a.1,fun m hm k=>by rw [List.getElem?_set_ne (by omega)];exact a.2 m hm k⟩
theorem Fr.Bd {w:Nat} {M M1:Mem} {o:MO} (a:Fr w M M1):Fr w M (M1.set w o):=⟨by rw [List.length_set];exact a.1,fun m hm k=>by rw [List.getElem?_set_ne (Ne.symm k)];exact a.2 m hm k⟩
theorem Fr.get {w n:Nat} {M M1:Mem} {o:MO} (a:Fr w M M1) (h:M[n]?=some o) (k:n≠w):M1[n]?=some o:=(a.2 n (ak h) k).trans h
theorem Fr.back {w v:Nat} {M M1 M2:Mem} (a:Fr w M M1) (b:Fr v M1 M2) (h:M.length<=v\/v=w):Fr w M M2:=⟨Nat.le_trans a.1 b.1,fun n hn k=>(b.2 n (Nat.lt_of_lt_of_le hn a.1) (by omega)).trans (a.2 n hn k)⟩
theorem Ex.refl (M:Mem):Ex M M:=Fr.refl _ M
theorem Ex.get {n:Nat} {M M1:Mem} {o:MO} (a:Ex M M1) (h:M[n]?=some o):M1[n]?=some o:=Fr.get a h (Nat.ne_of_lt (ak h))
theorem Ex.trans {M M1 M2:Mem} (a:Ex M M1) (b:Ex M1 M2):Ex M M2:=Fr.back a b (.inl a.1)
section
variable {M:Mem} {n:Nat} {ds:List D} {i:Int} {x:D}
theorem tM (hi:0<=i) (h:ds[i.toNat]?=some x):KI ds i=some x:=by
 have hl:=(dh.mp h).1
 unfold KI sN wB
 rw [if_pos hi,if_pos (by omega)]
 exact h
theorem aZ (hM:M[n]?=some (.lst ds)) (hi:0<=i) (h:ds[i.toNat]?=some x):cR (.d (.adr n)) (.d (.int i)) M=.ok (.d x) M:=by
 unfold cR bc;simp only [hM,tM hi h]
theorem nh (hi:0<=i) (h:ds[i.toNat]?=some x):cR (.lv ds) (.d (.int i)) M=.ok (.d x) M:=by
 unfold cR bc;simp only [tM hi h]
theorem jz (hi:0<=i) (h:ds[i.toNat]?=some x):cR (.d (.tup ds)) (.d (.int i)) M=.ok (.d x) M:=by
 unfold cR bc;simp only [tM hi h]
theorem ie {m:Nat} (h:ds[m]?=some x):cR (.d (.tup ds)) (.d (.int m)) M=.ok (.d x) M:=jz (Int.natCast_nonneg m) (by rw [Int.toNat_natCast];exact h)
theorem bA {m:Nat} (hM:M[n]?=some (.lst ds)) (h:ds[m]?=some x):cR (.d (.adr n)) (.d (.int m)) M=.ok (.d x) M:=aZ hM (Int.natCast_nonneg m) (by rw [Int.toNat_natCast];exact h)
theorem Fb (hi:0<=i) (h:ds[i.toNat]?=some x):cR (.d (.ls ds)) (.d (.int i)) M=.ok (.d x) M:=by
 unfold cR bc;simp only [tM hi h]
theorem cz (hM:M[n]?=some (.lst ds)) (hl:ds.length < sizeLine):qw .append (.d (.adr n)) [x] M=.ok (.d .az) (M.set n (.lst (ds++[x]))):=by
 unfold qw;simp only [hM,if_pos hl]
theorem pJ (hM:M[n]?=some (.lst ds)) (hl:ds.length < sizeLine) (h0:0<=i) (h1:i<=ds.length):qw .insert (.d (.adr n)) [.int i,x] M=.ok (.d .az) (M.set n (.lst (ds.take i.toNat++x::ds.drop i.toNat))):=by
 unfold qw;simp only [hM];rw [if_pos ⟨hl,h0,h1⟩]
theorem bJ (hM:M[n]?=some (.lst ds)):(de M (.d (.adr n))).isSome=true:=by unfold de;simp only [hM];rfl
theorem da (hM:M[n]?=some (.lst ds)):iw .len [.d (.adr n)] M=.ok (.d (.int ds.length)) M:=by unfold iw bc;simp only [hM]
theorem br (hM:M[n]?=some (.lst ds)):iw .tuple1 [.d (.adr n)] M=.ok (.d (.tup ds)) M:=by unfold iw bc;simp only [hM]
theorem xU (hM:M[n]?=some (.lst ds)):iw .list1 [.d (.adr n)] M=.ok (.lv ds) M:=by unfold iw bc;simp only [hM]
theorem dr (hM:M[n]?=some (.lst ds)):fi .seq [.d (.adr n)] M=.ok (.at n) M:=by
 unfold fi bc;simp only [hM];rfl
theorem ni (hM:M[n]?=some (.lst ds)):df M (.at n)=ds.length:=by unfold df;simp only [hM]
theorem fT {m:Nat} (hM:M[n]?=some (.lst ds)) (hm:m < ds.length):gL (.d (.adr n)) (.d (.int m)) x M=.ok () (M.set n (.lst (ds.set m x))):=by
 unfold gL;simp only [hM]
 have:wB ds.length (m:Int)=some m:=by
  unfold wB
  rw [if_pos (by omega),if_pos (by omega)]
  simp
 simp only [this]
theorem ki (hM:M[n]?=some (.lst ds)) (hi:0<=i) (hm:i.toNat < ds.length):gL (.d (.adr n)) (.d (.int i)) x M=.ok () (M.set n (.lst (ds.set i.toNat x))):=by
 have:=fT (x:=x) hM hm
 rw [show ((i.toNat:Nat):Int)=i by omega] at this
 exact this
end
theorem fH {n:Nat} (h:n<=1000):n<=sizeLine:=Nat.le_trans h (by decide)
theorem aI {n:Nat} (h:n<=1000):n < sizeLine:=Nat.lt_of_le_of_lt h (by decide)
theorem aT {α:Type} {l:List α} {k:Nat} {x:α} (h:l[k]?=some x):l.take (k+1)=l.take k++[x]:=by
 rw [List.take_add_one,h];rfl
theorem nj {x:Str} (h:PyData.strOk x=true):SeqAt.shaped (.str x)=true:=by
 unfold SeqAt.shaped
 rw [PyData.canLay0.eq_4,h,PyData.depth.eq_7];rfl
theorem tN {x y:Str}:PyData.eqv (.str x) (.str y)=(x == y):=PyData.eqv.eq_6 x y
theorem xV {M:Mem} {x:Str}:f_ M (.d (.str x))=some (.str x):=by show cq M 30 (.str x)=_;unfold cq;rfl
theorem aQ {M:Mem} {x y:Str} (hx:PyData.strOk x=true) (hy:PyData.strOk y=true):aO .eq (.d (.str x)) (.d (.str y)) M=.ok (x == y) M:=by
 unfold aO;simp only [xV,nj hx,nj hy,and_self,if_true,tN]
theorem pK {M:Mem} {x y:Str} (hx:PyData.strOk x=true) (hy:PyData.strOk y=true):aO .ne (.d (.str x)) (.d (.str y)) M=.ok (!(x == y)) M:=by
 unfold aO;simp only [xV,nj hx,nj hy,and_self,if_true,tN]
section
variable {G:aL} {b:List S} {tg:List Nat} {ρ:En} {M:Mem} {nx:En->Mem->Prop} {rt:W->Mem->Prop} {bk ct:En->Mem->Prop}
theorem eB {lo : Int} {n : Nat} (I : Nat -> En -> Mem -> Prop) (h0 : I 0 ρ M)
    (hs:∀ i ρ M,i < n->I i ρ M->A_ (bt tg (.int (lo+i)) ρ) fun ρ=>wSs G b ρ M (I (i+1)) rt nx (I (i+1))) (he:∀ ρ M,I n ρ M->nx ρ M):e6 (cS (fun ρ M=>cO G b ρ M) (.jf lo n) tg n 0 ρ M) nx rt bk ct:=by
  have hlen:((List.range n).map fun i=>D.int (lo+(i:Nat))).length=n:=by simp
  refine iP (ds:=(List.range n).map fun i=>D.int (lo+(i:Nat))) I (fun i ρ M _ hi=>?_) (fun i ρ M d h e=>?_) (fun ρ M h=>he ρ M (by rw [hlen] at h;exact h)) n 0 ρ M h0 (by rw [hlen];omega)
  · rw [hlen] at hi
    show some (if i < n then some (D.int (lo+i)) else none)=_
    by_cases q:i < n
    · rw [if_pos q];simp [q]
    · rw [if_neg q,List.getElem?_eq_none (by rw [hlen];omega)]
  · have hi:i < n:=by have:=(dh.mp e).1;rw [hlen] at this;exact this
    have:d=.int (lo+i):=by rw [dy,List.getElem?_range hi] at e;exact (e_ e).symm
    subst this
    have q:=hs i ρ M hi h
    cases e2:bt tg (.int (lo+i)) ρ with
    | none=>rw [e2] at q;exact q.elim
    | some c_=>rw [e2] at q;exact ⟨c_,rfl,by rw [pI];exact q⟩
theorem dJ {ds : List D} (I : Nat -> En -> Mem -> Prop) (h0 : I 0 ρ M)
    (hs:∀ i ρ M d,ds[i]?=some d->I i ρ M->A_ (bt tg d ρ) fun ρ=>wSs G b ρ M (I (i+1)) rt nx (I (i+1))) (he:∀ ρ M,I ds.length ρ M->nx ρ M):e6 (cS (fun ρ M=>cO G b ρ M) (.items ds) tg ds.length 0 ρ M) nx rt bk ct :=
  iP (ds:=ds) I (fun i ρ M _ _=>rfl) (fun i ρ M d h e=>by
    have q:=hs i ρ M d e h
    cases e2:bt tg d ρ with
    | none=>rw [e2] at q;exact q.elim
    | some c_=>rw [e2] at q;exact ⟨c_,rfl,by rw [pI];exact q⟩) he ds.length 0 ρ M h0 (by omega)
theorem Be {n : Nat} {ds : List D} (I : Nat -> En -> Mem -> Prop) (hM : ∀ i ρ M, I i ρ M -> M[n]? = some (.lst ds)) (h0 : I 0 ρ M)
    (hs:∀ i ρ M d,ds[i]?=some d->I i ρ M->A_ (bt tg d ρ) fun ρ=>wSs G b ρ M (I (i+1)) rt nx (I (i+1))) (he:∀ ρ M,I ds.length ρ M->nx ρ M):e6 (cS (fun ρ M=>cO G b ρ M) (.at n) tg (df M (.at n)) 0 ρ M) nx rt bk ct:=by
  rw [ni (hM 0 ρ M h0)]
  exact iP (ds:=ds) I (fun i ρ M h _=>by unfold itemAt;simp only [hM i ρ M h]) (fun i ρ M d h e=>by
    have q:=hs i ρ M d e h
    cases e2:bt tg d ρ with
    | none=>rw [e2] at q;exact q.elim
    | some c_=>rw [e2] at q;exact ⟨c_,rfl,by rw [pI];exact q⟩) he ds.length 0 ρ M h0 (by omega)
end
theorem kj:∀ (tg:List Nat) (ds:List D) (ρ:En) (i:Nat) (o:Option D),i∉tg->cK tg ds (ρ.set i o)=(cK tg ds ρ).map (·.set i o)
 | [],[],_,_,_,_=>rfl
 | [],_::_,_,_,_,_=>rfl
 | _::_,[],_,_,_,_=>rfl
 | j::tg,d::ds,ρ,i,o,h=>by
  have h1:i≠j:=fun z=>h (by rw [z];exact List.mem_cons_self)
  show cK tg ds ((ρ.set i o).set j (some d))=_
  rw [List.set_comm _ _ h1,kj tg ds _ i o fun z=>h (ix _ z)]
  rfl
theorem e7:∀ (tg:List Nat) (ds es:List D) (ρ c_:En),tg.Nodup->cK tg ds ρ=some c_->cK tg es c_=cK tg es ρ
 | [],[],[],_,_,_,e=>by cases e;rfl
 | [],[],_::_,_,_,_,e=>by cases e;rfl
 | [],_::_,_,_,_,_,e=>by cases e
 | _::_,[],_,_,_,_,e=>by cases e
 | j::tg,d::ds,[],ρ,c_,n,e=>rfl
 | j::tg,d::ds,f::es,ρ,c_,n,e=>by
  have n1:=List.nodup_cons.mp n
  have e:cK tg ds (ρ.set j (some d))=some c_:=e
  show cK tg es (c_.set j (some f))=cK tg es (ρ.set j (some f))
  have e2:=kj tg ds (ρ.set j (some d)) j (some f) n1.1
  rw [e,List.set_set] at e2
  exact e7 tg ds es _ _ n1.2 e2
theorem pL {tg:List Nat} {d e:D} {ρ c_:En} (n:tg.Nodup) (h:bt tg d ρ=some c_):bt tg e c_=bt tg e ρ:=by
 match tg,n,h with
 | [i],_,h =>
  have h:some (ρ.set i (some d))=some c_:=h
  cases h
  show some ((ρ.set i (some d)).set i (some e))=some (ρ.set i (some e))
  rw [List.set_set]
 | [],_,h =>
  cases d <;> first | cases h | skip
  cases e <;> first | rfl | skip
  exact e7 [] _ _ _ _ List.nodup_nil h
 | i::j::tg,n,h =>
  cases d <;> first | cases h | skip
  cases e <;> first | rfl | skip
  exact e7 (i::j::tg) _ _ _ _ n h
section
variable {G:aL} {cond:Option dQ} {elt:C} {tg:List Nat} {ρ:En} {M:Mem} {P:W->Mem->Prop}
theorem gy {it : It} {ds : List D} (I : Nat -> Mem -> List D -> Prop) (n : tg.Nodup) (hit : ∀ i M acc, I i M acc -> i <= ds.length -> itemAt M i it = some ds[i]?) (h0 : I 0 M [])
    (hs:∀ i M acc d,ds[i]?=some d->I i M acc->acc.length < sizeLine/\A_ (bt tg d ρ) fun τ=>ic G cond τ M fun r M=>if r=true then wE G elt τ M fun w M=>eJ (own w M) fun x M=>I (i+1) M (acc++[x]) else I (i+1) M acc)
    (he:∀ M acc,I ds.length M acc->P (.lv acc) M) {k:Nat} (hk:k=ds.length):aD (aK (fun τ M=>bh G cond τ M) (fun τ M=>(ev G elt τ M).bind own) it tg k 0 ρ M []) P:=by
  subst hk
  refine m_ (ds:=ds) (fun i τ M acc=>I i M acc/\(τ=ρ\/∃ d,bt tg d ρ=some τ)) (fun i τ M acc h hi=>hit i M acc h.1 hi) (fun i τ M acc d h e=>?_) (fun τ M acc h=>he M acc h.1) ds.length 0 ρ M [] ⟨h0,.inl rfl⟩ (by omega)
  obtain ⟨q1,q2⟩:=hs i M acc d e h.1
  have hb:bt tg d τ=bt tg d ρ:=by
    rcases h.2 with z | ⟨d',z⟩
    · rw [z]
    · exact pL n z
  refine ⟨q1,?_⟩
  cases e2:bt tg d ρ with
  | none=>rw [e2] at q2;exact q2.elim
  | some Cz =>
    rw [e2] at q2
    refine ⟨Cz,by rw [hb,e2],?_⟩
    have q2:ic G cond Cz M (fun r M=>if r=true then wE G elt Cz M fun w M=>eJ (own w M) fun x M=>I (i+1) M (acc++[x]) else I (i+1) M acc):=q2
    rw [<- w_cond] at q2
    refine q2.imp fun r M1 q3=>?_
    cases r with
    | true =>
      rw [if_pos rfl] at q3 ⊢
      rw [pH]
      rw [<- pH] at q3 ⊢
      exact q3.imp fun x M2 q4=>⟨q4,.inr ⟨d,e2⟩⟩
    | false =>
      rw [if_neg (by simp)] at q3 ⊢
      exact ⟨q3,.inr ⟨d,e2⟩⟩
theorem lN {it : It} {ds : List D} (f : D -> Option D) (n : tg.Nodup) (hit : ∀ M', Ex M M' -> ∀ i, i <= ds.length -> itemAt M' i it = some ds[i]?) (hl : ds.length <= sizeLine)
    (hs:∀ (i:Nat) M' d,ds[i]?=some d->Ex M M'->A_ (bt tg d ρ) fun τ=>ic G cond τ M' fun r M1=>if r=true then wE G elt τ M1 fun w M1=>eJ (own w M1) fun x M1=>f d=some x/\Ex M M1 else f d=none/\Ex M M1)
    (he:∀ M',Ex M M'->P (.lv (ds.filterMap f)) M') {k:Nat} (hk:k=ds.length):aD (aK (fun τ M=>bh G cond τ M) (fun τ M=>(ev G elt τ M).bind own) it tg k 0 ρ M []) P:=by
  refine gy (ds:=ds) (fun i M' acc=>Ex M M'/\acc=(ds.take i).filterMap f) n (fun i M' acc h hi=>hit M' h.1 i hi) ⟨Ex.refl M,rfl⟩ ?_ (fun M' acc h=>?_) hk
  · rintro i M' acc d hd ⟨h1,rfl⟩
    have hi:=(dh.mp hd).1
    refine ⟨?_,?_⟩
    · have:=List.length_filterMap_le f (ds.take i)
      rw [List.length_take] at this
      omega
    · have q:=hs i M' d hd h1
      have e:∀ o,f d=o->(ds.take (i+1)).filterMap f=(ds.take i).filterMap f++o.toList:=fun o ho=>by
        rw [aT hd,List.filterMap_append]
        cases o <;> simp [List.filterMap_cons,ho]
      cases e2:bt tg d ρ with
      | none=>rw [e2] at q;exact q.elim
      | some Cz =>
        rw [e2] at q
        have q:ic G cond Cz M' (fun r M1=>if r=true then wE G elt Cz M1 fun w M1=>eJ (own w M1) fun x M1=>f d=some x/\Ex M M1 else f d=none/\Ex M M1):=q
        show ic G cond Cz M' (fun r M1=>if r=true then wE G elt Cz M1 fun w M1=>eJ (own w M1) fun x M1=>Ex M M1/\(ds.take i).filterMap f++[x]=(ds.take (i+1)).filterMap f else Ex M M1/\(ds.take i).filterMap f=(ds.take (i+1)).filterMap f)
        rw [<- w_cond] at q ⊢
        refine q.imp fun r M1 q3=>?_
        cases r with
        | true =>
          rw [if_pos rfl] at q3 ⊢
          rw [<- pH] at q3 ⊢
          exact q3.imp fun x M2 q4=>⟨q4.2,by rw [e _ q4.1];rfl⟩
        | false =>
          rw [if_neg (by simp)] at q3 ⊢
          exact ⟨q3.2,by rw [e _ q3.1];simp⟩
  · obtain ⟨h1,rfl⟩:=h
    rw [List.take_length]
    exact he M' h1
theorem kl {M:Mem} {ds:List D}:∀ M',Ex M M'->∀ i,i<=ds.length->itemAt M' i (.items ds)=some ds[i]?:=fun _ _ _ _=>rfl
theorem lO {M:Mem} {n:Nat} {ds:List D} (h:M[n]?=some (.lst ds)):∀ M',Ex M M'->∀ i,i<=ds.length->itemAt M' i (.at n)=some ds[i]?:=fun M' e i _=>by unfold itemAt;simp only [Ex.get e h]
theorem Fc {M:Mem} {lo:Int} {n:Nat}:∀ M',Ex M M'->∀ i,i<=((List.range n).map fun i=>D.int (lo+(i:Nat))).length->itemAt M' i (.jf lo n)=some ((List.range n).map fun i=>D.int (lo+(i:Nat)))[i]?:=fun M' e i hi=>by
 have hlen:((List.range n).map fun i=>D.int (lo+(i:Nat))).length=n:=by simp
 rw [hlen] at hi
 show some (if i < n then some (D.int (lo+i)) else none)=_
 by_cases q:i < n
 ·rw [if_pos q];simp [q]
 ·rw [if_neg q,List.getElem?_eq_none (by rw [hlen];omega)]
theorem CA {lo : Int} {n : Nat} (I : Nat -> Mem -> List D -> Prop) (nd : tg.Nodup) (h0 : I 0 M [])
    (hs:∀ i M acc,i < n->I i M acc->acc.length < sizeLine/\A_ (bt tg (.int (lo+i)) ρ) fun τ=>ic G cond τ M fun r M=>if r=true then wE G elt τ M fun w M=>eJ (own w M) fun x M=>I (i+1) M (acc++[x]) else I (i+1) M acc)
    (he:∀ M acc,I n M acc->P (.lv acc) M):aD (aK (fun τ M=>bh G cond τ M) (fun τ M=>(ev G elt τ M).bind own) (.jf lo n) tg (df M (.jf lo n)) 0 ρ M []) P:=by
  have hlen:((List.range n).map fun i=>D.int (lo+(i:Nat))).length=n:=by simp
  refine gy (ds:=(List.range n).map fun i=>D.int (lo+(i:Nat))) I nd (fun i M' acc _ hi=>Fc M' (Ex.refl M') i hi) h0 (fun i M' acc d e h=>?_) (fun M' acc h=>he M' acc (by rw [hlen] at h;exact h)) (by rw [hlen];rfl)
  have hi:i < n:=by have:=(dh.mp e).1;rw [hlen] at this;exact this
  have:d=.int (lo+i):=by rw [dy,List.getElem?_range hi] at e;exact (e_ e).symm
  subst this
  exact hs i M' acc hi h
end
end Ev
end
local macro_rules
  | `(tactic| nofun) => `(tactic| conv => whnf)
section
namespace Ev
open L2
open PySem PySem.Spec PyProof.Rows
def nk:List S:=[.aX [4] .seq [(.sub (.sub (.sub (.var 0) (.cst (.int 0))) (.var 1)) (.cst (.int 1)))] [.iff (.dj [(.val (.cmp .eq (.sub (.var 4) (.cst (.int 0))) (.var 2))),(.val (.cmp .eq (.sub (.var 4) (.cst (.int 1))) (.var 3)))]) [.ret (.tup [(.sub (.var 4) (.cst (.int 2))),(.sub (.var 4) (.cst (.int 3))),(.sub (.var 4) (.cst (.int 4)))])] []],.iff (.val (.cmp .eq (.var 3) (.cst (.str "own")))) [.ret (.cst .az)] [],.ret (.tup [(.var 2),(.tup []),(.cst .az)])]
def xW:List S:=[.asg [2] (.bin .mul (.cst (.int 31)) (.var 1)),.iff (.val (.cmp .gt (.bi .len [(.var 0)]) (.cst (.int 0)))) [.asg [2] (.bin .add (.sub (.var 0) (.bin .mod (.var 1) (.bi .len [(.var 0)]))) (.bin .mul (.cst (.int 7919)) (.bin .fdiv (.var 1) (.bi .len [(.var 0)]))))] [],.ret (.vD ["cell","left","turn"] [(.var 2),(.bin .mul (.bi .max2 [(.cst (.int 0)),(.var 2)]) (.bi .oW [(.cmp .ge (.var 2) (.bin .pow (.cst (.int 10)) (.cst (.int 18))))])),(.cst (.int 0))])]
def tP:List S:=[.asg [2] (.sub (.var 0) (.cst (.str "turn"))),.put (.var 0) (.cst (.str "turn")) (.bin .add (.var 2) (.cst (.int 1))),.asg [3] (.sub (.var 0) (.cst (.str "left"))),.iff (.val (.cmp .gt (.var 3) (.cst (.int 0)))) [.put (.var 0) (.cst (.str "left")) (.bin .fdiv (.var 3) (.var 1)),.ret (.bin .mod (.var 3) (.var 1))] [],.asg [4] (.bin .add (.bin .add (.bin .mod (.sub (.var 0) (.cst (.str "cell"))) (.cst (.int 2147483647))) (.bin .mul (.bin .mul (.cst (.int 31)) (.var 2)) (.var 2))) (.cst (.int 1))),.asg [5] (.bin .mod (.bin .mul (.var 4) (.bin .add (.cst (.int 48271)) (.bin .mul (.cst (.int 40)) (.var 2)))) (.cst (.int 2147483629))),.ret (.bin .mod (.bin .fdiv (.bin .mod (.bin .add (.bin .mul (.bin .fdiv (.var 5) (.cst (.int 11))) (.cst (.int 69621))) (.var 2)) (.cst (.int 998244353))) (.cst (.int 7))) (.var 1))]
def rE (ai:Nat):List S:=[.asg [2] (.lst []),.iff (.val (.cmp .gt (.var 1) (.cst (.int 1)))) [.asg [3] (.lst [(.call ai [(.var 0),(.cst (.int 4))]),(.bin .add (.cst (.int 1)) (.call ai [(.var 0),(.cst (.int 5))])),(.cst (.int 8))]),.aX [4] .cB [(.sub (.var 3) (.bin .fdiv (.call ai [(.var 0),(.cst (.int 9))]) (.cst (.int 4))))] [.asg [5] (.call ai [(.var 0),(.var 1)]),.asg [6] (.bin .mod (.bin .add (.bin .add (.var 5) (.cst (.int 1))) (.call ai [(.var 0),(.bin .sub (.var 1) (.cst (.int 1)))])) (.var 1)),.expr (.me .append (.var 2) [(.tup [(.var 5),(.var 6),(.sub (.lst [(.cst (.str "row")),(.cst (.str "heap"))]) (.call ai [(.var 0),(.cst (.int 2))]))])])]] [],.ret (.bi .tuple1 [(.var 2)])]
def nq (ai:Nat):List S:=[.asg [1] (.lst [(.call ai [(.var 0),(.cst (.int 100))])]),.asg [2] (.lst [(.call ai [(.var 0),(.cst (.int 3))]),(.cst (.int 6))]),.aX [3] .cB [(.sub (.var 2) (.bin .fdiv (.call ai [(.var 0),(.cst (.int 16))]) (.cst (.int 15))))] [.asg [4] (.sub (.lst [(.call ai [(.var 0),(.cst (.int 100))]),(.var 3)]) (.call ai [(.var 0),(.cst (.int 2))])),.iff (.val (.cmp .d_ (.var 4) (.var 1))) [.expr (.me .append (.var 1) [(.var 4)])] []],.ret (.var 1)]
def rF (ai:Nat):List S:=[.asg [2] (.lst []),.aX [3] .cB [(.bin .mul (.sub (.lst [(.cst (.int 0)),(.cst (.int 0)),(.cst (.int 1)),(.cst (.int 1)),(.cst (.int 1)),(.cst (.int 2)),(.cst (.int 3))]) (.call ai [(.var 0),(.cst (.int 7))])) (.bi .oW [(.cmp .gt (.bi .len [(.var 1)]) (.cst (.int 0)))]))] [.asg [4] (.sub (.var 1) (.call ai [(.var 0),(.bi .len [(.var 1)])])),.expr (.me .append (.var 2) [(.tup [(.var 4),(.sub (.cst (.str "abcz")) (.call ai [(.var 0),(.cst (.int 4))]))])])],.ret (.bi .tuple1 [(.var 2)])]
def rG (ai:Nat) (km:Nat):List S:=[.asg [3] (.lst [(.cst .az),(.cst .az),(.cst .az),(.cst (.str "x")),(.cst (.str "yes")),(.cst (.str "abcdefgh")),(.cst (.str "own")),(.cst (.str "a"))]),.asg [4] (.lst []),.aX [5] .seq [(.var 1)] [.aX [6] .seq [(.tup [(.cst (.str "own")),(.cst (.str "a")),(.cst (.str "b")),(.cst (.str "z"))])] [.iff (.val (.cmp .gt (.call ai [(.var 0),(.cst (.int 4))]) (.cst (.int 0)))) [.asg [7] (.sub (.var 1) (.call ai [(.var 0),(.bi .len [(.var 1)])])),.asg [8] (.call km [(.var 0),(.var 2)]),.asg [9] (.sub (.var 3) (.call ai [(.var 0),(.cst (.int 8))])),.asg [10] (.call ai [(.var 0),(.bin .add (.bi .len [(.var 4)]) (.cst (.int 1)))]),.expr (.me .insert (.var 4) [(.var 10),(.tup [(.var 5),(.var 6),(.var 7),(.var 8),(.var 9)])])] []]],.ret (.bi .tuple1 [(.var 4)])]
def tQ (bL:Nat) (ai:Nat) (gS:Nat) (cA:Nat) (du:Nat):List S:=[.asg [1] (.call bL [(.var 0),(.cst (.int 0))]),.asg [2] (.sub (.lst [(.cst (.int 2)),(.cst (.int 1)),(.cst (.int 3)),(.cst (.int 2)),(.cst (.int 4)),(.cst (.int 3))]) (.call ai [(.var 1),(.cst (.int 6))])),.asg [3] (.call gS [(.var 1),(.var 2)]),.asg [4] (.lst []),.aX [5] .cB [(.var 2)] [.asg [1] (.call bL [(.var 0),(.bin .add (.cst (.int 1)) (.var 5))]),.asg [6] (.call cA [(.var 1)]),.eZ 7 (.comp .cB [(.bi .len [(.var 3)])] [1] (some (.val (.cmp .eq (.sub (.sub (.var 3) (.var 1)) (.cst (.int 0))) (.var 2)))) (.var 1) [none,none,some 5,some 3]),.asg [8] (.sub (.var 6) (.call ai [(.var 1),(.bi .len [(.var 6)])])),.expr (.me .append (.var 4) [(.tup [(.var 8),(.call du [(.var 1),(.var 6),(.var 7)])])])],.ret (.tup [(.bi .tuple1 [(.var 4)]),(.var 3)])]
def nr:List S:=[.eZ 4 (.comp .seq [(.sub (.sub (.sub (.var 0) (.cst (.int 0))) (.var 1)) (.cst (.int 1)))] [1] (some (.val (.cmp .eq (.kU (.var 1) none (some (.cst (.int 2)))) (.tup [(.var 3),(.var 2)])))) (.kU (.var 1) (some (.cst (.int 2))) none) [none,none,some 3,some 2]),.iff (.val (.cmp .ne (.var 4) (.lst []))) [.ret (.sub (.var 4) (.cst (.int 0)))] [],.ret (.ite (.val (.cmp .eq (.var 3) (.cst (.str "own")))) (.cst .az) (.tup [(.var 2),(.tup []),(.cst .az)]))]
def fc (c l t:Int):MO:=.dK [(Sum.inr ("cell" : Str),.int c),(Sum.inr ("left" : Str),.int l),(Sum.inr ("turn" : Str),.int t)]
section
variable {M:Mem} {w:Nat} {c l t:Int}
theorem xX (h:M[w]?=some (fc c l t)):cR (.d (.adr w)) (.d (.str "cell")) M=.ok (.d (.int c)) M:=by
 unfold cR;simp only [h];rfl
theorem xY (h:M[w]?=some (fc c l t)):cR (.d (.adr w)) (.d (.str "left")) M=.ok (.d (.int l)) M:=by
 unfold cR;simp only [h];rfl
theorem xZ (h:M[w]?=some (fc c l t)):cR (.d (.adr w)) (.d (.str "turn")) M=.ok (.d (.int t)) M:=by
 unfold cR;simp only [h];rfl
theorem x5 (h:M[w]?=some (fc c l t)) (i:Int):gL (.d (.adr w)) (.d (.str "left")) (.int i) M=.ok () (M.set w (fc c i t)):=by
 unfold gL;simp only [h];rfl
theorem x8 (h:M[w]?=some (fc c l t)) (i:Int):gL (.d (.adr w)) (.d (.str "turn")) (.int i) M=.ok () (M.set w (fc c l i)):=by
 unfold gL;simp only [h];rfl
end
theorem Bf {G : aL} {M : Mem} {w : Nat} {c l t many : Int} (h : M[w]? = some (fc c l t)) (ht : 0 <= t /\ t < 2 ^ 40) (hl : 0 <= l) (hm : 0 < many /\ many < 1073741824) :
    aD (af G 6 tP [.adr w,.int many] M) fun r M'=>∃ i l',r=.d (.int i)/\0<=i/\i < many/\0<=l'/\M'=M.set w (fc c l' (t+1)):=by
  have hw:w < M.length:=(dh.mp h).1
  rw [aU]
  show wSs G tP [some (.adr w),some (.int many),none,none,none,none] M _ _ _ _
  have h1:(M.set w (fc c l (t+1)))[w]?=some (fc c l (t+1)):=List.getElem?_set_self hw
  nofun
  rw [xZ h]
  nofun
  rw [x8 h]
  nofun
  rw [xY h1]
  nofun
  by_cases hp:0 < l
  · rw [decide_eq_true hp]
    nofun
    refine ⟨hm,?_⟩
    nofun
    rw [x5 h1]
    nofun
    refine ⟨hm.1,_,l / many,rfl,Int.emod_nonneg _ (by omega),Int.emod_lt_of_pos _ hm.1,Int.ediv_nonneg hl (by omega),?_⟩
    rw [List.set_set]
  · rw [decide_eq_false hp]
    nofun
    rw [xX h1]
    nofun
    refine ⟨by omega,?_⟩
    nofun
    refine ⟨by omega,?_⟩
    nofun
    refine ⟨by omega,?_⟩
    nofun
    refine ⟨by omega,?_⟩
    nofun
    refine ⟨by omega,?_⟩
    nofun
    refine ⟨by omega,?_⟩
    nofun
    refine ⟨by omega,?_⟩
    nofun
    refine ⟨by omega,?_⟩
    nofun
    refine ⟨by omega,?_⟩
    nofun
    refine ⟨by omega,?_⟩
    nofun
    exact ⟨hm.1,_,l,rfl,Int.emod_nonneg _ (by omega),Int.emod_lt_of_pos _ hm.1,hl,rfl⟩
def WA (M:Mem) (w:Nat) (T:Int):Prop:=∃ c l t,M[w]?=some (fc c l t)/\0<=l/\0<=t/\t<=T
theorem WA.lt {M:Mem} {w:Nat} {T:Int} (h:WA M w T):w < M.length:=by obtain ⟨c,l,t,h,_⟩:=h;exact ak h
theorem WA.app {M X:Mem} {w:Nat} {T:Int} (h:WA M w T):WA (M++X) w T:=by obtain ⟨c,l,t,h,q⟩:=h;exact ⟨c,l,t,av h,q⟩
theorem WA.set {M:Mem} {w n:Nat} {T:Int} {o:MO} (h:WA M w T) (k:w≠n):WA (M.set n o) w T:=by obtain ⟨c,l,t,h,q⟩:=h;exact ⟨c,l,t,aw h k,q⟩
theorem WA.mono {M:Mem} {w:Nat} {T T2:Int} (h:WA M w T) (k:T<=T2):WA M w T2:=by obtain ⟨c,l,t,h,a,b,q⟩:=h;exact ⟨c,l,t,h,a,b,Int.le_trans q k⟩
theorem WA.fr {M M1:Mem} {w v:Nat} {T:Int} (h:WA M w T) (f:Fr v M M1) (k:w≠v):WA M1 w T:=by obtain ⟨c,l,t,h,q⟩:=h;exact ⟨c,l,t,f.get h k,q⟩
section
variable {M:Mem} {n:Nat} {ds:List D} {i:Int} {x:D}
theorem pick {P:D->Prop} {k:Nat} (h:∀ d∈ds,P d) (h0:0<=i) (h1:i < k) (hk:k=ds.length):∃ d,ds[i.toNat]?=some d/\P d:=by
 have hl:i.toNat < ds.length:=by omega
 exact ⟨ds[i.toNat],eD hl,h _ (List.getElem_mem hl)⟩
end
def dv (F:Fn):Prop:=∀ (M:Mem) (w:Nat) (T many:Int),WA M w T->T < 2 ^ 40->0 < many->many < 1073741824->aD (F [.adr w,.int many] M) fun r M'=>∃ i,r=.d (.int i)/\0<=i/\i < many/\WA M' w (T+1)/\Fr w M M'
theorem Fd {G:aL}:dv (af G 6 tP):=by
 intro M w T many ⟨c,l,t,h,hl,h0,h1⟩ hT hm Si
 refine (Bf h ⟨h0,by omega⟩ hl ⟨hm,Si⟩).imp ?_
 rintro r M' ⟨i,l',e,a,b,Sj,rfl⟩
 exact ⟨i,e,a,b,⟨c,l',t+1,set_same h,Sj,by omega,by omega⟩,(Fr.refl w M).Bd⟩
def lP (F:Fn):Prop:=∀ (M:Mem) (ns:List Int) (k:Int),0<=k->k < 2 ^ 40->ns.length<=63->aD (F [.ls (ns.map D.int),.int k] M) fun r M'=>r=.d (.adr M.length)/\M'.length=M.length+1/\WA M' M.length 0/\Fr M.length M M'
theorem Jh {G:aL}:lP (af G 3 xW):=by
 intro M ns k hk Bg iG
 rw [aU]
 show wSs G xW [some (.ls (ns.map D.int)),some (.int k),none] M _ _ _ _
 have fin:∀ (c:Int) (b:Bool),WA (M++[MO.dK ((List.map Sum.inr [(("cell" : Str)),"left","turn"]).zip [D.int c,D.int ((if c > 0 then c else 0) * if b=true then 1 else 0),D.int 0])]) M.length 0:=by
  intro c b
  refine ⟨c,_,0,ah,?_,y6 _,y6 _⟩
  refine Int.mul_nonneg ?_ ?_ <;> split <;> omega
 have hb:∀ b:Bool,(-(2 ^ 64):Int) < (if b=true then 1 else 0)/\(if b=true then 1 else 0) < (2 ^ 64:Int):=fun b=>by split <;> omega
 have hlen:∀ x:MO,(M++[x]).length=M.length+1:=fun x=>by simp
 nofun
 refine ⟨by omega,?_⟩
 nofun
 by_cases hp:(0:Int) < (ns.map D.int).length
 ·rw [decide_eq_true hp]
  have hl:(ns.map D.int).length=ns.length:=aP _
  have hr:0<=k % ((ns.map D.int).length:Int):=Int.emod_nonneg _ (by omega)
  have zh:k % ((ns.map D.int).length:Int) < ((ns.map D.int).length:Int):=Int.emod_lt_of_pos _ hp
  have iZ:(k % ((ns.map D.int).length:Int)).toNat < ns.length:=by omega
  have hg:(ns.map D.int)[(k % ((ns.map D.int).length:Int)).toNat]?=some (.int ns[(k % ((ns.map D.int).length:Int)).toNat]):=by
   rw [dy,eD iZ];rfl
  nofun
  refine ⟨by omega,?_⟩
  nofun
  rw [Fb hr hg]
  nofun
  refine ⟨⟨by omega,by omega⟩,?_⟩
  nofun
  refine ⟨.inl (by omega),?_⟩
  nofun
  refine ⟨.inr (hb _),?_⟩
  nofun
  exact ⟨rfl,rfl,hlen _,fin _ _,(Fr.refl _ M).app⟩
 ·rw [decide_eq_false hp]
  nofun
  refine ⟨.inr (hb _),?_⟩
  nofun
  exact ⟨rfl,rfl,hlen _,fin _ _,(Fr.refl _ M).app⟩
def lQ (m:Int) (d:D):Prop:=∃ a b k,d=.tup [.int a,.int b,.str k]/\0<=a/\a < m/\0<=b/\b < m/\a≠b/\(k = "row" \/ k = "heap")
def rH (F:Fn):Prop:=∀ (M:Mem) (w:Nat) (T m:Int),WA M w T->T < 2 ^ 39->1<=m->m<=4->aD (F [.adr w,.int m] M) fun r M'=>∃ ds,r=.d (.tup ds)/\ds.length<=8/\(∀ d∈ds,lQ m d)/\WA M' w (T+100)/\Fr w M M'
theorem Fe {G:aL} {ai:Nat} (hD:dv (G ai)):rH (af G 7 (rE ai)):=by
 intro M w T m hw hT Bh CB
 have zX:=hw.lt
 rw [aU]
 show wSs G (rE ai) [some (.adr w),some (.int m),none,none,none,none,none] M _ _ _ _
 nofun
 refine ⟨(show (0:Nat)<=sizeLine by decide),?_⟩
 nofun
 by_cases hm:1 < m
 ·rw [decide_eq_true hm]
  have h0:(M++[MO.lst []])[M.length]?=some (.lst []):=ah
  nofun
  refine (hD _ w T 4 hw.app (by omega) (by omega) (by omega)).imp ?_
  rintro r M1 ⟨i1,rfl,Ji,K0,vg,f1⟩
  nofun
  refine (hD _ w _ 5 vg (by omega) (by omega) (by omega)).imp ?_
  rintro r M2 ⟨i2,rfl,K1,N0,pM,f2⟩
  nofun
  refine ⟨(show (3:Nat)<=sizeLine by decide),?_⟩
  have h2:M2[M.length]?=some (.lst []):=f2.get (f1.get h0 (by omega)) (by omega)
  have l2:=ak h2
  nofun
  refine (hD _ w _ 9 pM.app (by omega) (by omega) (by omega)).imp ?_
  rintro r M3 ⟨i3,rfl,Sk,Sl,tR,f3⟩
  nofun
  refine ⟨⟨by omega,by omega⟩,?_⟩
  have h3:M3[M.length]?=some (.lst []):=f3.get (av h2) (by omega)
  have N1:M3[M2.length]?=some (.lst [.int i1,.int (1+i2),.int 8]):=f3.get ah (by omega)
  have gk:Fr w M M3:=(((Fr.refl w M).app.trans f1).trans f2).app.trans f3
  obtain ⟨d,hd,j,e,K2,Sn⟩:=pick (P:=fun d=>∃ j:Int,d=.int j/\0<=j/\j<=8) (ds:=[.int i1,.int (1+i2),.int 8]) (i:=i3 / 4) (k:=3) (by
   intro d hd
   simp only [List.mem_cons,List.mem_nil_iff,or_false] at hd
   rcases hd with rfl | rfl | rfl
   ·exact ⟨_,rfl,by omega,by omega⟩
   ·exact ⟨_,rfl,by omega,by omega⟩
   ·exact ⟨_,rfl,by omega,by omega⟩) (by omega) (by omega) rfl
  subst e
  nofun
  rw [aZ N1 (show (0:Int)<=i3 / 4 by omega) hd]
  nofun
  refine ⟨⟨by omega,by omega⟩,?_⟩
  refine eB (n:=j.toNat) (fun i ρ M'=>∃ ds o4 o5 o6,ρ=[some (.adr w),some (.int m),some (.adr M.length),some (.adr M2.length),o4,o5,o6]/\M'[M.length]?=some (.lst ds)/\ds.length=i/\(∀ d∈ds,lQ m d)/\WA M' w (T+3+3 * i)/\Fr w M M') ⟨[],none,none,none,rfl,h3,rfl,(by intro d h;cases h),tR.mono (by omega),gk⟩ ?_ ?_
  ·rintro i ρ M4 hi ⟨ds,o4,o5,o6,rfl,h4,mX,kZ,iQ,fU⟩
   have Pg:(i:Int) < 8:=by omega
   have Jj:=ak h4
   nofun
   refine (hD _ w _ m iQ (by omega) (by omega) (by omega)).imp ?_
   rintro r M5 ⟨i5,rfl,Jk,K3,kP,f5⟩
   nofun
   refine (hD _ w _ (m - 1) kP (by omega) (by omega) (by omega)).imp ?_
   rintro r M6 ⟨i6,rfl,Gp,Jl,k0,f6⟩
   nofun
   have h6:M6[M.length]?=some (.lst ds):=f6.get (f5.get h4 (by omega)) (by omega)
   refine ⟨by omega,?_⟩
   nofun
   refine ⟨bJ h6,?_⟩
   nofun
   refine ⟨(show (2:Nat)<=sizeLine by decide),?_⟩
   nofun
   refine (hD _ w _ 2 k0 (by omega) (by omega) (by omega)).imp ?_
   rintro r M7 ⟨i7,rfl,Jm,N3,Bj,f7⟩
   obtain ⟨k,hk,k',e,z6⟩:=pick (P:=fun d=>∃ k:Str,d=.str k/\(k = "row" \/ k = "heap")) (ds:=[.str "row",.str "heap"]) (i:=i7) (k:=2) (by
    intro d hd
    simp only [List.mem_cons,List.mem_nil_iff,or_false] at hd
    rcases hd with rfl | rfl
    ·exact ⟨_,rfl,.inl rfl⟩
    ·exact ⟨_,rfl,.inr rfl⟩) Jm N3 rfl
   subst e
   nofun
   rw [nh Jm hk]
   nofun
   refine ⟨(show (3:Nat)<=sizeLine by decide),?_⟩
   have h7:M7[M.length]?=some (.lst ds):=f7.get h6 (by omega)
   nofun
   rw [cz h7 (aI (by omega))]
   refine ⟨ds++[.tup [.int i5,.int ((i5+1+i6) % m),.str k']],_,_,_,rfl,set_same h7,by simp [mX],?_,?_,?_⟩
   ·intro d hd
    rcases je.mp hd with q | q
    ·exact kZ d q
    ·have:d=.tup [.int i5,.int ((i5+1+i6) % m),.str k']:=by simpa using q
     subst this
     have K4:m=2\/m=3\/m=4:=by omega
     refine ⟨_,_,_,rfl,Jk,K3,Int.emod_nonneg _ (by omega),Int.emod_lt_of_pos _ (by omega),?_,z6⟩
     rcases K4 with rfl | rfl | rfl <;> omega
   ·exact (Bj.set (by omega)).mono (by omega)
   ·exact (((fU.trans f5).trans f6).trans f7).set (ba _)
  ·rintro ρ M4 ⟨ds,o4,o5,o6,rfl,h4,mX,kZ,iQ,fU⟩
   nofun
   rw [br h4]
   exact ⟨ds,rfl,by omega,kZ,iQ.mono (by omega),fU⟩
 ·rw [decide_eq_false hm]
  nofun
  rw [br ah]
  exact ⟨[],rfl,by decide,(by intro d h;cases h),hw.app.mono (by omega),(Fr.refl w M).app⟩
def rJ (d:D):Prop:=∃ i:Int,d=.int i/\0<=i/\i < 100
theorem CD {M:Mem}:∀ {ds:List D},(∀ d∈ds,rJ d)->∃ qs,a8 M 30 ds=some qs/\qs.all SeqAt.shaped=true
 | [],_=>⟨[],by unfold a8;rfl,rfl⟩
 | d::ds,h=>by
  obtain ⟨i,rfl,_,_⟩:=h d (List.mem_cons_self ..)
  obtain ⟨qs,e,k⟩:=CD (M:=M) (ds:=ds) fun d hd=>h d (ix _ hd)
  refine ⟨.int i::qs,by unfold a8;rw [e];unfold cq;rfl,?_⟩
  rw [List.all_cons,gR,k];rfl
theorem x9 {M:Mem} {n:Nat} {ds:List D} {d:D} (hM:M[n]?=some (.lst ds)) (h:∀ d∈ds,rJ d) (hd:rJ d):∃ b,aO .d_ (.d d) (.d (.adr n)) M=.ok b M:=by
 obtain ⟨i,rfl,_,_⟩:=hd
 obtain ⟨qs,e,k⟩:=CD (M:=M) h
 refine ⟨!iJ (.int i) qs,?_⟩
 unfold aO
 have h1:f_ M (.d (.int i))=some (.int i):=by show cq M 30 (.int i)=_;unfold cq;rfl
 have h2:bc M (.d (.adr n))=some (true,ds):=by unfold bc;simp only [hM]
 simp only [h1,h2,e,gR,k,and_self,if_true]
def jA (F:Fn):Prop:=∀ (M:Mem) (w:Nat) (T:Int),WA M w T->T < 2 ^ 39->aD (F [.adr w] M) fun r M'=>∃ n ds,r=.d (.adr n)/\M.length<=n/\M'[n]?=some (.lst ds)/\1<=ds.length/\ds.length<=7/\(∀ d∈ds,rJ d)/\WA M' w (T+100)/\Fr w M M'
theorem Bk {G:aL} {ai:Nat} (hD:dv (G ai)):jA (af G 5 (nq ai)):=by
 intro M w T hw hT
 have zX:=hw.lt
 rw [aU]
 show wSs G (nq ai) [some (.adr w),none,none,none,none] M _ _ _ _
 nofun
 refine (hD _ w T 100 hw (by omega) (by omega) (by omega)).imp ?_
 rintro r M1 ⟨i1,rfl,Ji,K0,vg,f1⟩
 nofun
 refine ⟨(show (1:Nat)<=sizeLine by decide),?_⟩
 have l1:=f1.1
 nofun
 refine (hD _ w _ 3 vg.app (by omega) (by omega) (by omega)).imp ?_
 rintro r M2 ⟨i2,rfl,K1,N0,pM,f2⟩
 nofun
 refine ⟨(show (2:Nat)<=sizeLine by decide),?_⟩
 have h2:M2[M1.length]?=some (.lst [.int i1]):=f2.get ah (by omega)
 have l2:=ak h2
 nofun
 refine (hD _ w _ 16 pM.app (by omega) (by omega) (by omega)).imp ?_
 rintro r M3 ⟨i3,rfl,Sk,Sl,tR,f3⟩
 nofun
 refine ⟨⟨by omega,by omega⟩,?_⟩
 have h3:M3[M1.length]?=some (.lst [.int i1]):=f3.get (av h2) (by omega)
 have N1:M3[M2.length]?=some (.lst [.int i2,.int 6]):=f3.get ah (by omega)
 have gk:Fr w M M3:=(f1.app.trans f2).app.trans f3
 obtain ⟨d,hd,j,e,K2,Sn⟩:=pick (P:=fun d=>∃ j:Int,d=.int j/\0<=j/\j<=6) (ds:=[.int i2,.int 6]) (i:=i3 / 15) (k:=2) (by
  intro d hd
  simp only [List.mem_cons,List.mem_nil_iff,or_false] at hd
  rcases hd with rfl | rfl
  ·exact ⟨_,rfl,by omega,by omega⟩
  ·exact ⟨_,rfl,by omega,by omega⟩) (by omega) (by omega) rfl
 subst e
 nofun
 rw [aZ N1 (show (0:Int)<=i3 / 15 by omega) hd]
 nofun
 refine ⟨⟨by omega,by omega⟩,?_⟩
 have N4:∀ d∈[D.int i1],rJ d:=by
  intro d h
  have:d=.int i1:=by simpa using h
  subst this;exact ⟨_,rfl,Ji,K0⟩
 refine eB (n:=j.toNat) (fun i ρ M'=>∃ ds o3 o4,ρ=[some (.adr w),some (.adr M1.length),some (.adr M2.length),o3,o4]/\M'[M1.length]?=some (.lst ds)/\1<=ds.length/\ds.length<=i+1/\(∀ d∈ds,rJ d)/\WA M' w (T+3+2 * i)/\Fr w M M') ⟨[.int i1],none,none,rfl,h3,ba _,ba _,N4,tR.mono (by omega),gk⟩ ?_ ?_
 ·rintro i ρ M4 hi ⟨ds,o3,o4,rfl,h4,Bl,mX,kZ,iQ,fU⟩
  have Pg:(i:Int) < 6:=by omega
  have Jj:=ak h4
  nofun
  refine (hD _ w _ 100 iQ (by omega) (by omega) (by omega)).imp ?_
  rintro r M5 ⟨i5,rfl,Jk,K3,kP,f5⟩
  nofun
  refine ⟨(show (2:Nat)<=sizeLine by decide),?_⟩
  nofun
  refine (hD _ w _ 2 kP (by omega) (by omega) (by omega)).imp ?_
  rintro r M6 ⟨i6,rfl,Gp,Jl,k0,f6⟩
  obtain ⟨d,hd,eK⟩:=pick (P:=rJ) (ds:=[.int i5,.int (0+i)]) (i:=i6) (k:=2) (by
   intro d hd
   simp only [List.mem_cons,List.mem_nil_iff,or_false] at hd
   rcases hd with rfl | rfl
   ·exact ⟨_,rfl,by omega,by omega⟩
   ·exact ⟨_,rfl,by omega,by omega⟩) Gp Jl rfl
  nofun
  rw [nh Gp hd]
  have h6:M6[M1.length]?=some (.lst ds):=f6.get (f5.get h4 (by omega)) (by omega)
  nofun
  obtain ⟨b,hb⟩:=x9 h6 kZ eK
  rw [hb]
  cases b with
  | false=>exact ⟨ds,_,_,rfl,h6,Bl,by omega,kZ,k0.mono (by omega),(fU.trans f5).trans f6⟩
  | true =>
   nofun
   refine ⟨bJ h6,?_⟩
   nofun
   rw [cz h6 (aI (by omega))]
   refine ⟨ds++[d],_,_,rfl,set_same h6,by simp,by simp;omega,?_,(k0.set (by omega)).mono (by omega),((fU.trans f5).trans f6).set (by omega)⟩
   intro x hx
   rcases je.mp hx with q | q
   ·exact kZ x q
   ·have:x=d:=by simpa using q
    subst this;exact eK
 ·rintro ρ M4 ⟨ds,o3,o4,rfl,h4,Bl,mX,kZ,iQ,fU⟩
  exact ⟨_,ds,rfl,l1,h4,Bl,by omega,kZ,iQ.mono (by omega),fU⟩
def tS (P:Int->Prop) (d:D):Prop:=∃ r c,d=.tup [.int r,.str c]/\P r/\(c = "a" \/ c = "b" \/ c = "c" \/ c = "z")
theorem Ff {M:Mem} {i:Int} (h0:0<=i) (h1:i < 4):∃ c,cR (.d (.str "abcz")) (.d (.int i)) M=.ok (.d (.str c)) M/\(c = "a" \/ c = "b" \/ c = "c" \/ c = "z"):=by
 have:i=0\/i=1\/i=2\/i=3:=by omega
 rcases this with rfl | rfl | rfl | rfl
 ·exact ⟨"a",rfl,.inl rfl⟩
 ·exact ⟨"b",rfl,.inr (.inl rfl)⟩
 ·exact ⟨"c",rfl,.inr (.inr (.inl rfl))⟩
 ·exact ⟨"z",rfl,.inr (.inr (.inr rfl))⟩
def rK (F:Fn):Prop:=∀ (P:Int->Prop) (M:Mem) (w nw:Nat) (T:Int) (cb:List D),WA M w T->T < 2 ^ 39+10000->M[nw]?=some (.lst cb)->nw≠w->(∀ d∈cb,∃ r,d=.int r/\P r)->cb.length<=100 ->
 aD (F [.adr w,.adr nw] M) fun r M'=>∃ ds,r=.d (.tup ds)/\ds.length<=3/\(∀ d∈ds,tS P d)/\WA M' w (T+20)/\Fr w M M'
theorem Fg {G:aL} {ai:Nat} (hD:dv (G ai)):rK (af G 5 (rF ai)):=by
 intro P M w nw T cb hw hT hn iY hP Jn
 have zX:=hw.lt
 have Bm:=ak hn
 rw [aU]
 show wSs G (rF ai) [some (.adr w),some (.adr nw),none,none,none] M _ _ _ _
 nofun
 refine ⟨(show (0:Nat)<=sizeLine by decide),?_⟩
 nofun
 refine ⟨(show (7:Nat)<=sizeLine by decide),?_⟩
 nofun
 refine (hD _ w T 7 hw.app (by omega) (by omega) (by omega)).imp ?_
 rintro r M1 ⟨i1,rfl,Ji,K0,vg,f1⟩
 obtain ⟨d,hd,j,e,K2,Ph⟩:=pick (P:=fun d=>∃ j:Int,d=.int j/\0<=j/\j<=3) (ds:=[.int 0,.int 0,.int 1,.int 1,.int 1,.int 2,.int 3]) (i:=i1) (k:=7) (by
  intro d hd
  simp only [List.mem_cons,List.mem_nil_iff,or_false] at hd
  rcases hd with rfl | rfl | rfl | rfl | rfl | rfl | rfl <;> exact ⟨_,rfl,by omega,by omega⟩) Ji K0 rfl
 subst e
 nofun
 rw [nh Ji hd]
 have h1:M1[nw]?=some (.lst cb):=f1.get (av hn) iY
 have ho:M1[M.length]?=some (.lst []):=f1.get ah (by omega)
 have CF:Fr w M M1:=(Fr.refl w M).app.trans f1
 nofun
 rw [da h1]
 nofun
 refine ⟨.inl (by omega),?_⟩
 have hj:0<=j * (if decide ((0:Int) < cb.length)=true then 1 else 0)/\j * (if decide ((0:Int) < cb.length)=true then 1 else 0)<=3/\(0 < j * (if decide ((0:Int) < cb.length)=true then 1 else 0)->(0:Int) < cb.length):=by
  by_cases q:(0:Int) < cb.length
  ·simp only [decide_eq_true q,if_true,Int.mul_one];exact ⟨K2,Ph,fun _=>q⟩
  ·simp only [decide_eq_false q];simp
 generalize N5:j * (if decide ((0:Int) < cb.length)=true then 1 else 0)=jj at hj
 obtain ⟨K2,Ph,So⟩:=hj
 have Jo:j * (if decide ((cb.length:Int) > 0)=true then 1 else 0)=jj:=N5
 nofun
 refine ⟨⟨by first | omega | (rw [Jo];omega) | (show _<=j * (if decide ((0:Int) < cb.length)=true then 1 else 0);rw [N5];omega),by first | omega | (rw [Jo];omega) | (show j * (if decide ((0:Int) < cb.length)=true then 1 else 0) < _;rw [N5];omega)⟩,?_⟩
 refine eB (n:=jj.toNat) (fun i ρ M'=>∃ ds o3 o4,ρ=[some (.adr w),some (.adr nw),some (.adr M.length),o3,o4]/\M'[M.length]?=some (.lst ds)/\ds.length=i/\(∀ d∈ds,tS P d)/\WA M' w (T+1+2 * i)/\Fr w M M') ⟨[],none,none,rfl,ho,rfl,(by intro d h;cases h),vg.mono (by omega),CF⟩ ?_ ?_
 ·rintro i ρ M4 hi ⟨ds,o3,o4,rfl,h4,mX,kZ,iQ,fU⟩
  have Sq:(0:Int) < cb.length:=So (by omega)
  have vh:M4[nw]?=some (.lst cb):=fU.get hn iY
  nofun
  rw [da vh]
  nofun
  refine (hD _ w _ _ iQ (by omega) Sq (by omega)).imp ?_
  rintro r M5 ⟨i5,rfl,Jk,K3,kP,f5⟩
  have K5:M5[nw]?=some (.lst cb):=f5.get vh iY
  obtain ⟨d,hd,r,e,Sr⟩:=pick (ds:=cb) (i:=i5) (k:=cb.length) hP Jk K3 rfl
  subst e
  nofun
  rw [aZ K5 Jk hd]
  have h5:M5[M.length]?=some (.lst ds):=f5.get h4 (by omega)
  nofun
  refine ⟨bJ h5,?_⟩
  nofun
  refine (hD _ w _ 4 kP (by omega) (by omega) (by omega)).imp ?_
  rintro r6 M6 ⟨i6,rfl,Gp,Jl,k0,f6⟩
  obtain ⟨c,hc,ux⟩:=Ff (M:=M6) Gp Jl
  nofun
  rw [hc]
  nofun
  refine ⟨(show (2:Nat)<=sizeLine by decide),?_⟩
  have h6:M6[M.length]?=some (.lst ds):=f6.get h5 (by omega)
  nofun
  rw [cz h6 (aI (by omega))]
  refine ⟨ds++[.tup [.int r,.str c]],_,_,rfl,set_same h6,by simp [mX],?_,(k0.set (by omega)).mono (by omega),((fU.trans f5).trans f6).set (ba _)⟩
  intro x hx
  rcases je.mp hx with q | q
  ·exact kZ x q
  ·have:x=.tup [.int r,.str c]:=by simpa using q
   subst this;exact ⟨_,_,rfl,Sr,ux⟩
 ·rintro ρ M4 ⟨ds,o3,o4,rfl,h4,mX,kZ,iQ,fU⟩
  nofun
  rw [br h4]
  exact ⟨ds,rfl,by omega,kZ,iQ.mono (by omega),fU⟩
def tT (d:D):Prop:=d=.az\/∃ x:Str,d=.str x/\(x = "x" \/ x = "yes" \/ x = "abcdefgh" \/ x = "own" \/ x = "a")
def x_ (d:D):Prop:=∃ x:Str,d=.str x/\(x = "own" \/ x = "a" \/ x = "b" \/ x = "z")
def ig (P:Int->Prop) (d:D):Prop:=∃ s c a sends wd,d=.tup [s,c,a,.tup sends,wd]/\rJ s/\x_ c/\rJ a/\sends.length<=3/\(∀ x∈sends,tS P x)/\tT wd
def nu (F:Fn):Prop:=∀ (P:Int->Prop) (M:Mem) (w ns nw:Nat) (T:Int) (tU cb:List D),WA M w T->T < 2 ^ 39->M[ns]?=some (.lst tU)->ns≠w->M[nw]?=some (.lst cb)->nw≠w->(∀ d∈tU,rJ d)->1<=tU.length->tU.length<=7->(∀ d∈cb,∃ r,d=.int r/\P r)->cb.length<=100 ->
 aD (F [.adr w,.adr ns,.adr nw] M) fun r M'=>∃ ds,r=.d (.tup ds)/\ds.length<=28/\(∀ d∈ds,ig P d)/\WA M' w (T+1000)/\Fr w M M'
theorem Fh {G:aL} {ai km:Nat} (hD:dv (G ai)) (hS:rK (G km)):nu (af G 11 (rG ai km)):=by
 intro P M w ns nw T sm cb hw hT hs HI hn iY eK Pj Pk hP Jn
 have zX:=hw.lt
 have Bm:=ak hn
 have tq:=ak hs
 rw [aU]
 show wSs G (rG ai km) [some (.adr w),some (.adr ns),some (.adr nw),none,none,none,none,none,none,none,none] M _ _ _ _
 nofun
 refine ⟨(show (8:Nat)<=sizeLine by decide),?_⟩
 nofun
 refine ⟨(show (0:Nat)<=sizeLine by decide),?_⟩
 have Ss:((M++[MO.lst [.az,.az,.az,.str "x",.str "yes",.str "abcdefgh",.str "own",.str "a"]])++[MO.lst []])[ns]?=some (.lst sm):=av (av hs)
 have Su:∀ d∈[D.az,.az,.az,.str "x",.str "yes",.str "abcdefgh",.str "own",.str "a"],tT d:=by
  intro d hd
  simp only [List.mem_cons,List.mem_nil_iff,or_false] at hd
  rcases hd with rfl | rfl | rfl | rfl | rfl | rfl | rfl | rfl
  ·exact .inl rfl
  ·exact .inl rfl
  ·exact .inl rfl
  ·exact .inr ⟨_,rfl,.inl rfl⟩
  ·exact .inr ⟨_,rfl,.inr (.inl rfl)⟩
  ·exact .inr ⟨_,rfl,.inr (.inr (.inl rfl))⟩
  ·exact .inr ⟨_,rfl,.inr (.inr (.inr (.inl rfl)))⟩
  ·exact .inr ⟨_,rfl,.inr (.inr (.inr (.inr rfl)))⟩
 have Sv:((M++[MO.lst [.az,.az,.az,.str "x",.str "yes",.str "abcdefgh",.str "own",.str "a"]])++[MO.lst []])[M.length]?=some (.lst [.az,.az,.az,.str "x",.str "yes",.str "abcdefgh",.str "own",.str "a"]):=av ah
 have Sw:((M++[MO.lst [.az,.az,.az,.str "x",.str "yes",.str "abcdefgh",.str "own",.str "a"]])++[MO.lst []])[M.length+1]?=some (.lst []):=by
  have:=ah (M:=M++[MO.lst [.az,.az,.az,.str "x",.str "yes",.str "abcdefgh",.str "own",.str "a"]]) (o:=MO.lst [])
  simpa using this
 have hlen:(M++[MO.lst [.az,.az,.az,.str "x",.str "yes",.str "abcdefgh",.str "own",.str "a"]]).length=M.length+1:=by simp
 nofun
 rw [hlen]
 generalize Sx:([.az,.az,.az,.str "x",.str "yes",.str "abcdefgh",.str "own",.str "a"]:List D)=WW at *
 have Sy:WW.length=8:=by rw [<- Sx];rfl
 rw [dr Ss]
 refine Be (n:=ns) (ds:=sm) (fun i ρ M'=>∃ ds o5 o6 o7 o8 o9 fI,ρ=[some (.adr w),some (.adr ns),some (.adr nw),some (.adr M.length),some (.adr (M.length+1)),o5,o6,o7,o8,o9,fI]/\M'[M.length]?=some (.lst WW)/\M'[M.length+1]?=some (.lst ds)/\ds.length<=4 * i/\(∀ d∈ds,ig P d)/\WA M' w (T+100 * i)/\Fr w M M')
  (by rintro i ρ M' ⟨ds,_,_,_,_,_,_,_,_,_,_,_,_,f⟩;exact f.get hs HI) ⟨[],none,none,none,none,none,none,rfl,Sv,Sw,Nat.zero_le _,(by intro d h;cases h),(hw.app.app).mono (by omega),((Fr.refl w M).app).app⟩ ?_ ?_
 ·rintro i ρ M4 d hd ⟨ds,o5,o6,o7,o8,o9,fI,rfl,Pl,h4,mX,kZ,iQ,fU⟩
  have hi:i < sm.length:=(dh.mp hd).1
  have Sz:rJ d:=eK d (jL hd)
  nofun
  refine ⟨(show (4:Nat)<=sizeLine by decide),?_⟩
  refine dJ (ds:=[.str "own",.str "a",.str "b",.str "z"]) (fun j ρ M'=>∃ ds o6 o7 o8 o9 fI,ρ=[some (.adr w),some (.adr ns),some (.adr nw),some (.adr M.length),some (.adr (M.length+1)),some d,o6,o7,o8,o9,fI]/\M'[M.length]?=some (.lst WW)/\M'[M.length+1]?=some (.lst ds)/\ds.length<=4 * i+j/\(∀ d∈ds,ig P d)/\WA M' w (T+100 * i+25 * j)/\Fr w M M')
   ⟨ds,o6,o7,o8,o9,fI,rfl,Pl,h4,by omega,kZ,iQ.mono (by omega),fU⟩ ?_ ?_
  ·rintro j ρ M5 c hc ⟨ds,o6,o7,o8,o9,fI,rfl,K6,h5,z8,K7,kP,jo⟩
   have hj:j < 4:=(dh.mp hc).1
   have SA:x_ c:=by
    have hm:=jL hc
    simp only [List.mem_cons,List.mem_nil_iff,or_false] at hm
    rcases hm with rfl | rfl | rfl | rfl
    ·exact ⟨_,rfl,.inl rfl⟩
    ·exact ⟨_,rfl,.inr (.inl rfl)⟩
    ·exact ⟨_,rfl,.inr (.inr (.inl rfl))⟩
    ·exact ⟨_,rfl,.inr (.inr (.inr rfl))⟩
   nofun
   refine (hD _ w _ 4 kP (by omega) (by omega) (by omega)).imp ?_
   rintro r6 M6 ⟨i6,rfl,Gp,Jl,k0,f6⟩
   nofun
   by_cases hp:0 < i6
   ·rw [decide_eq_true hp]
    have CG:Fr w M M6:=jo.trans f6
    have K8:M6[ns]?=some (.lst sm):=CG.get hs HI
    nofun
    rw [da K8]
    nofun
    refine (hD _ w _ _ k0 (by omega) (by omega) (by omega)).imp ?_
    rintro r7 M7 ⟨i7,rfl,Jm,N3,Bj,f7⟩
    have wN:Fr w M M7:=CG.trans f7
    obtain ⟨a,ha,SD⟩:=pick (P:=rJ) (ds:=sm) (i:=i7) (k:=sm.length) eK Jm N3 rfl
    nofun
    rw [aZ (wN.get hs HI) Jm ha]
    nofun
    refine (hS P M7 w nw _ cb Bj (by omega) (wN.get hn iY) iY hP Jn).imp ?_
    rintro r8 M8 ⟨sd,rfl,N6,jB,Jp,f8⟩
    have Fi:Fr w M M8:=wN.trans f8
    nofun
    refine (hD _ w _ 8 Jp (by omega) (by omega) (by omega)).imp ?_
    rintro r9 M9 ⟨i9,rfl,Pm,SE,Pn,f9⟩
    have SF:Fr w M M9:=Fi.trans f9
    have Po:M9[M.length]?=some (.lst WW):=f9.get (f8.get (f7.get (f6.get K6 (by omega)) (by omega)) (by omega)) (by omega)
    have h9:M9[M.length+1]?=some (.lst ds):=f9.get (f8.get (f7.get (f6.get h5 (by omega)) (by omega)) (by omega)) (by omega)
    obtain ⟨wd,N7,N8⟩:=pick (P:=tT) (ds:=WW) (i:=i9) (k:=8) Su Pm SE Sy.symm
    nofun
    rw [aZ Po Pm N7]
    nofun
    rw [da h9]
    nofun
    refine (hD _ w _ _ Pn (by omega) (by omega) (by omega)).imp ?_
    rintro rA MA ⟨iA,rfl,SG,VH,SH,fA⟩
    have SI:Fr w M MA:=SF.trans fA
    have hA:MA[M.length+1]?=some (.lst ds):=fA.get h9 (by omega)
    nofun
    refine ⟨bJ hA,?_⟩
    nofun
    refine ⟨(show (5:Nat)<=sizeLine by decide),?_⟩
    nofun
    rw [pJ hA (aI (by omega)) SG (by omega)]
    refine ⟨ds.take iA.toNat++.tup [d,c,a,.tup sd,wd]::ds.drop iA.toNat,_,_,_,_,_,rfl,aw (fA.get Po (by omega)) (by omega),set_same hA,?_,?_,(SH.set (by omega)).mono (by omega),SI.set (by omega)⟩
    ·rw [jM,List.length_cons,List.length_take,List.length_drop];omega
    ·intro x hx
     have hx:x=.tup [d,c,a,.tup sd,wd]\/x∈ds:=by
      rcases je.mp hx with q | q
      ·exact .inr (List.mem_of_mem_take q)
      ·rcases List.mem_cons.mp q with q | q
       ·exact .inl q
       ·exact .inr (List.mem_of_mem_drop q)
     rcases hx with rfl | hx
     ·exact ⟨_,_,_,_,_,rfl,Sz,SA,SD,N6,jB,N8⟩
     ·exact K7 x hx
   ·rw [decide_eq_false hp]
    exact ⟨ds,_,_,_,_,_,rfl,f6.get K6 (by omega),f6.get h5 (by omega),by omega,K7,k0.mono (by omega),jo.trans f6⟩
  ·rintro ρ M5 ⟨ds,o6,o7,o8,o9,fI,rfl,K6,h5,z8,K7,kP,jo⟩
   have e4:[D.str "own",D.str "a",D.str "b",D.str "z"].length=4:=rfl
   rw [e4] at z8 kP
   exact ⟨ds,_,_,_,_,_,_,rfl,K6,h5,by omega,K7,kP.mono (by omega),jo⟩
 ·rintro ρ M4 ⟨ds,o5,o6,o7,o8,o9,fI,rfl,Pl,h4,mX,kZ,iQ,fU⟩
  nofun
  rw [br h4]
  exact ⟨ds,rfl,by omega,kZ,iQ.mono (by omega),fU⟩
def nv (aG:List D) (m:Nat) (r:Int):Prop:=0<=r/\∃ b k,aG[r.toNat]?=some (.tup [.int m,b,k])
def ya (aG:List D) (m:Nat) (d:D):Prop:=∃ st moves,d=.tup [st,.tup moves]/\rJ st/\moves.length<=28/\∀ y∈moves,ig (nv aG m) y
def CH (d:D):Prop:=∃ rules aG,d=.tup [.tup rules,.tup aG]/\1<=rules.length/\rules.length<=4/\aG.length<=8/\(∀ x∈aG,lQ rules.length x)/\∀ m x,rules[m]?=some x->ya aG m x
def yb (F:Fn):Prop:=∀ (M:Mem) (ns:List Int),ns.length<=63->aD (F [.ls (ns.map D.int)] M) fun r M'=>∃ d,r=.d d/\CH d/\Fr M.length M M'
theorem Fr.none {w:Nat} {M M1 M2:Mem} (a:Fr M.length M M1) (b:Fr w M1 M2) (h:M.length<=w):Fr M.length M M2:=⟨Nat.le_trans a.1 b.1,fun n hn k=>(b.2 n (Nat.lt_of_lt_of_le hn a.1) (by omega)).trans (a.2 n hn k)⟩
theorem yc {m:Int} {aG:List D} {i:Nat} (h:∀ x∈aG,lQ m x) (hi:i < aG.length):∃ a b k,aG[i]?=some (.tup [.int a,.int b,.str k]):=by
 obtain ⟨a,b,k,e,_⟩:=h aG[i] (List.getElem_mem hi)
 exact ⟨a,b,k,by rw [eD hi,e]⟩
def tV:C:=.comp .cB [.bi .len [.var 3]] [1] (some (.val (.cmp .eq (.sub (.sub (.var 3) (.var 1)) (.cst (.int 0))) (.var 2)))) (.var 1) [none,none,some 5,some 3]
theorem Bn {G : aL} {ρ : En} {M : Mem} {m : Int} {i : Nat} {aG : List D} {P : W -> Mem -> Prop} (h5 : ρ[5]? = some (some (.int i))) (h3 : ρ[3]? = some (some (.tup aG))) (Jq : aG.length <= 8) (zY : ∀ x ∈ aG, lQ m x)
    (q:∀ cb,cb.length<=8->(∀ d∈cb,∃ r,d=.int r/\nv aG i r)->P (.lv cb) M):wE G tV ρ M P:=by
  unfold tV
  nofun
  rw [h3]
  nofun
  refine ⟨⟨by omega,by omega⟩,?_⟩
  rw [show ef [none,none,some 5,some 3] ρ=[none,none,some (.int i),some (.tup aG)] by unfold ef;simp only [List.map_cons,List.map_nil,Option.bind_none,Option.bind_some,h5,h3,Option.join_some]]
  refine CA (n:=(aG.length:Int).toNat) (fun k M' acc=>M=M'/\acc.length<=k/\∀ d∈acc,∃ r,d=.int r/\nv aG i r) (by decide) ⟨rfl,ba _,(by intro d h;cases h)⟩ ?_ ?_
  · rintro k M7 acc hk ⟨rfl,Gf,Gq⟩
    have z6:k < aG.length:=by omega
    refine ⟨aI (by omega),?_⟩
    obtain ⟨a,b,kk,SJ⟩:=yc zY z6
    have Jr:aG[((0:Int)+(k:Nat)).toNat]?=some (.tup [.int a,.int b,.str kk]):=by rw [show ((0:Int)+(k:Nat)).toNat=k by omega];exact SJ
    nofun
    rw [jz (show (0:Int)<=0+(k:Nat) by omega) Jr]
    nofun
    cases q:(a == (i:Int)) with
    | true =>
      have q:a=i:=by simpa using q
      subst q
      refine ⟨rfl,by simp;omega,?_⟩
      intro d hd
      rcases je.mp hd with z | z
      · exact Gq d z
      · have:d=.int (0+k):=by simpa using z
        subst this
        exact ⟨_,rfl,by omega,.int b,.str kk,Jr⟩
    | false=>exact ⟨rfl,by omega,Gq⟩
  · rintro M7 cb ⟨rfl,Gf,Gq⟩
    exact q cb (by omega) Gq
def CI (bL ai cA du:Nat):List S:=[.asg [1] (.call bL [(.var 0),(.bin .add (.cst (.int 1)) (.var 5))]),.asg [6] (.call cA [(.var 1)]),.eZ 7 tV,.asg [8] (.sub (.var 6) (.call ai [(.var 1),(.bi .len [(.var 6)])])),.expr (.me .append (.var 4) [(.tup [(.var 8),(.call du [(.var 1),(.var 6),(.var 7)])])])]
theorem vj {G : aL} {bL ai cA du : Nat} (hW : lP (G bL)) (hD : dv (G ai)) (Js : jA (G cA)) (N9 : nu (G du)) {ns : List Int} (iG : ns.length <= 63) {m : Int} {i : Nat} {aG rules : List D} {M4 : Mem} {n3 : Nat} {o1 d2 o6 o7 o8 : Option D} {nx : En -> Mem -> Prop} {rt : W -> Mem -> Prop} {bk ct : En -> Mem -> Prop}
    (hi:i < 4) (Jq:aG.length<=8) (zY:∀ x∈aG,lQ m x) (h4:M4[n3]?=some (.lst rules)) (mX:rules.length=i)
    (q:∀ o1 o6 o7 o8 M9 x,ya aG i x->Fr n3 M4 M9->M9[n3]?=some (.lst (rules++[x]))->nx [some (.ls (ns.map D.int)),o1,d2,some (.tup aG),some (.adr n3),some (.int i),o6,o7,o8] M9) :
    wSs G (CI bL ai cA du) [some (.ls (ns.map D.int)),o1,d2,some (.tup aG),some (.adr n3),some (.int i),o6,o7,o8] M4 nx rt bk ct:=by
  have l4:=ak h4
  nofun
  refine (hW M4 ns (1+i) (by omega) (by omega) iG).imp ?_
  rintro r M5 ⟨rfl,z8,kP,f5⟩
  nofun
  refine (Js M5 _ _ kP (by omega)).imp ?_
  rintro r M6 ⟨n6,st,rfl,Pp,h6,Pj,Pk,eK,k0,f6⟩
  have l6:=ak h6
  show wE G tV [some (.ls (ns.map D.int)),some (.adr M4.length),d2,some (.tup aG),some (.adr n3),some (.int i),some (.adr n6),o7,o8] M6 _
  refine Bn (m:=m) (i:=i) (by rfl) (by rfl) Jq zY fun cb hl Gq=>?_
  nofun
  have h7:(M6++[MO.lst cb])[n6]?=some (.lst st):=av h6
  rw [da h7]
  nofun
  refine (hD _ _ _ _ k0.app (by omega) (by omega) (by omega)).imp ?_
  rintro r8 M8 ⟨i8,rfl,Pq,SM,Jp,f8⟩
  have vh:n6≠M4.length:=by omega
  have h8:M8[n6]?=some (.lst st):=f8.get h7 vh
  have SN:M8[M6.length]?=some (.lst cb):=f8.get ah (by omega)
  obtain ⟨s0,SO,N_⟩:=pick (P:=rJ) (ds:=st) (i:=i8) (k:=st.length) eK Pq SM rfl
  nofun
  rw [aZ h8 Pq SO]
  nofun
  have SQ:M5[n3]?=some (.lst rules):=f5.get h4 (by omega)
  have SS:M6[n3]?=some (.lst rules):=f6.get SQ (by omega)
  have Pr:M8[n3]?=some (.lst rules):=f8.get (av SS) (by omega)
  refine ⟨bJ Pr,?_⟩
  nofun
  refine (N9 (nv aG i) M8 M4.length n6 M6.length _ st cb Jp (by omega) h8 vh SN (by omega) eK Pj Pk Gq (by omega)).imp ?_
  rintro r9 M9 ⟨mv,rfl,CJ,Oa,Pn,f9⟩
  nofun
  refine ⟨(show (2:Nat)<=sizeLine by decide),?_⟩
  have Pt:M9[n3]?=some (.lst rules):=f9.get Pr (by omega)
  nofun
  rw [cz Pt (aI (by omega))]
  refine q _ _ _ _ _ (.tup [s0,.tup mv]) ⟨_,_,rfl,N_,CJ,Oa⟩ ?_ (set_same Pt)
  have g5:Fr M4.length M4 M9:=(((f5.none f6 (ba _)).app).none f8 (ba _)).none f9 (ba _)
  refine ⟨by rw [List.length_set];exact g5.1,fun n hn k=>?_⟩
  rw [List.getElem?_set_ne (Ne.symm k)]
  exact g5.2 n hn (by omega)
theorem Jt {G:aL} {bL ai gS cA du:Nat} (hW:lP (G bL)) (hD:dv (G ai)) (hR:rH (G gS)) (Js:jA (G cA)) (N9:nu (G du)):yb (af G 9 (tQ bL ai gS cA du)):=by
 intro M ns iG
 rw [aU]
 show wSs G (tQ bL ai gS cA du) [some (.ls (ns.map D.int)),none,none,none,none,none,none,none,none] M _ _ _ _
 have hb:tQ bL ai gS cA du=[.asg [1] (.call bL [(.var 0),(.cst (.int 0))]),.asg [2] (.sub (.lst [(.cst (.int 2)),(.cst (.int 1)),(.cst (.int 3)),(.cst (.int 2)),(.cst (.int 4)),(.cst (.int 3))]) (.call ai [(.var 1),(.cst (.int 6))])),.asg [3] (.call gS [(.var 1),(.var 2)]),.asg [4] (.lst []),.aX [5] .cB [(.var 2)] (CI bL ai cA du),.ret (.tup [(.bi .tuple1 [(.var 4)]),(.var 3)])]:=rfl
 rw [hb]
 nofun
 refine (hW M ns 0 (by omega) (by omega) iG).imp ?_
 rintro r M1 ⟨rfl,Bl,vg,f1⟩
 nofun
 refine ⟨(show (6:Nat)<=sizeLine by decide),?_⟩
 nofun
 refine (hD _ _ _ 6 vg (by omega) (by omega) (by omega)).imp ?_
 rintro r M2 ⟨i2,rfl,K1,N0,pM,f2⟩
 obtain ⟨d,hd,m,e,Bh,CB⟩:=pick (P:=fun d=>∃ j:Int,d=.int j/\1<=j/\j<=4) (ds:=[.int 2,.int 1,.int 3,.int 2,.int 4,.int 3]) (i:=i2) (k:=6) (by
  intro d hd
  simp only [List.mem_cons,List.mem_nil_iff,or_false] at hd
  rcases hd with rfl | rfl | rfl | rfl | rfl | rfl <;> exact ⟨_,rfl,by omega,by omega⟩) K1 N0 rfl
 subst e
 nofun
 rw [nh K1 hd]
 nofun
 refine (hR _ _ _ m pM (by omega) Bh CB).imp ?_
 rintro r M3 ⟨aG,rfl,Jq,zY,tR,f3⟩
 nofun
 refine ⟨(show (0:Nat)<=sizeLine by decide),?_⟩
 nofun
 refine ⟨⟨by omega,by omega⟩,?_⟩
 have gk:Fr M.length M M3:=(f1.trans f2).trans f3
 have l3:=gk.1
 refine eB (n:=m.toNat) (fun i ρ M'=>∃ rules o1 o5 o6 o7 o8,ρ=[some (.ls (ns.map D.int)),o1,some (.int m),some (.tup aG),some (.adr M3.length),o5,o6,o7,o8]/\M'[M3.length]?=some (.lst rules)/\rules.length=i/\(∀ k x,rules[k]?=some x->ya aG k x)/\Fr M.length M M')
  ⟨[],_,none,none,none,none,rfl,ah,rfl,(by intro k x h;simp at h),gk.app⟩ ?_ ?_
 ·rintro i ρ M4 hi ⟨rules,o1,o5,o6,o7,o8,rfl,h4,mX,kZ,fU⟩
  rw [show (0:Int)+(i:Int)=i by omega]
  refine vj hW hD Js N9 iG (m:=m) (i:=i) (by omega) Jq zY h4 mX fun p1 p6 p7 p8 M9 x hx f9 h9=>?_
  refine ⟨rules++[x],_,_,_,_,_,rfl,h9,by simp [mX],?_,fU.none f9 l3⟩
  intro k y hk
  by_cases z6:k < rules.length
  ·rw [uq z6] at hk
   exact kZ k y hk
  ·have SU:k=rules.length:=by have:=(dh.mp hk).1;simp at this;omega
   subst SU
   simp at hk
   subst hk
   rw [mX]
   exact hx
 ·rintro ρ M4 ⟨rules,o1,o5,o6,o7,o8,rfl,h4,mX,kZ,fU⟩
  nofun
  rw [br h4]
  nofun
  refine ⟨(show (2:Nat)<=sizeLine by decide),_,rfl,⟨rules,aG,rfl,by omega,by omega,Jq,?_,kZ⟩,fU⟩
  have:(rules.length:Int)=m:=by omega
  rw [this]
  exact zY
theorem Fj (a b:Str):PyData.strOk (a++b)=(PyData.strOk a && PyData.strOk b):=by
 show (a.cps++b.cps).all _=_
 rw [Array.all_append]
 rfl
def Tx (b:Nat) (x:Str):Prop:=x.length<=b/\PyData.strOk x=true
theorem Tx.app {a b:Nat} {x y:Str} (h:Tx a x) (k:Tx b y):Tx (a+b) (x++y):=⟨by rw [strLen_append];have:=h.1;have:=k.1;omega,by rw [Fj,h.2,k.2];rfl⟩
theorem Tx.mono {a b:Nat} {x:Str} (h:Tx a x) (k:a<=b):Tx b x:=⟨Nat.le_trans h.1 k,h.2⟩
theorem tW {b:Nat}:∀ {l:List Str},(∀ x∈l,Tx b x)->Tx (l.length * (b+2)) ((Str.ofString ", ").join l)
 | [],_=>by rw [Str.join.eq_1];exact ⟨Nat.zero_le _,⋯⟩
 | [x],h=>by rw [Str.join.eq_2];exact (h x (List.mem_cons_self ..)).mono (by simp)
 | x::y::r,h=>by
  rw [Str.join.eq_3 _ _ _ (fun q=>by cases q)]
  have h1:=h x (List.mem_cons_self ..)
  have h2:=tW (l:=y::r) fun z hz=>h z (ix _ hz)
  have h3:Tx 2 (Str.ofString ", "):=⟨⋯,⋯⟩
  refine ((h1.app h3).app h2).mono ?_
  rw [List.length_cons (a:=x),Nat.add_mul]
  omega
theorem yd {b:Nat} {l:List Str} (h:∀ x∈l,Tx b x):Tx (l.length * (b+2)+3) (tupleText l):=by
 unfold tupleText
 have h1:Tx 1 (Str.ofString "("):=⟨⋯,⋯⟩
 have h2:Tx 2 (Str.ofString (if (l.length == 1)=true then ",)" else ")")):=by
  split <;> exact ⟨⋯,⋯⟩
 exact ((h1.app (tW h)).app h2).mono (by omega)
theorem tX {b:Nat}:∀ {l:List Str} {n a:Nat} {x:Str},Tx a x->(∀ x∈l,Tx b x)->Tx (a+l.length * (b+2)) (textFrom n x l)
 | [],_,_,_,h,_=>by rw [textFrom.eq_1];exact h.mono (by simp)
 | t::ts,n,a,x,h,k=>by
  rw [textFrom.eq_2]
  have h2:Tx 2 (Str.ofString (if n > 0 then ", " else "")):=by split <;> exact ⟨⋯,⋯⟩
  refine (tX (l:=ts) (n:=n+1) ((h.app h2).app (k t (List.mem_cons_self ..))) fun z hz=>k z (ix _ hz)).mono ?_
  rw [List.length_cons,Nat.add_mul]
  omega
theorem Bo {b:Nat} {l:List Str} (h:∀ x∈l,Tx b x):Tx (l.length * (b+2)+2) (listText l):=by
 unfold listText
 have h1:Tx 1 (Str.ofString "["):=⟨⋯,⋯⟩
 have h2:Tx 1 (Str.ofString "]"):=⟨⋯,⋯⟩
 exact ((tX h1 h).app h2).mono (by omega)
def ny (b h:Nat) (p:PyData):Prop:=p.canLay0=true/\p.showable=true/\p.depth<=h/\Tx b p.shown
def Sm (b h:Nat) (d:D):Prop:=∃ p:PyData,(∀ M n,h<=n->cq M n d=some p)/\ny b h p
theorem Sm.mono {b c h k:Nat} {d:D} (x:Sm b h d) (hb:b<=c) (hk:h<=k):Sm c k d:=by
 obtain ⟨p,e,q1,q2,q3,q4⟩:=x
 exact ⟨p,fun M n hn=>e M n (by omega),q1,q2,by omega,q4.mono hb⟩
theorem Sm.az:Sm 4 0 .az:=⟨.none,fun M n _=>by cases n <;> (unfold cq;rfl),PyData.canLay0.eq_1,PyData.showable.eq_1,Nat.le_of_eq PyData.depth.eq_4,by rw [PyData.shown.eq_1];exact ⟨⋯,⋯⟩⟩
theorem rL:∀ i:Fin 100,(Str.ofString (toString ((i.val:Nat):Int))).length<=2/\PyData.strOk (Str.ofString (toString ((i.val:Nat):Int)))=true/\(PyData.int ((i.val:Nat):Int)).showable=true:=⋯
theorem Sm.int {i:Int} (h0:0<=i) (h1:i < 100):Sm 2 0 (.int i):=by
 have q:=rL ⟨i.toNat,by omega⟩
 have e:((i.toNat:Nat):Int)=i:=by omega
 simp only [e] at q
 exact ⟨.int i,fun M n _=>by cases n <;> (unfold cq;rfl),PyData.canLay0.eq_3 i,q.2.2,Nat.le_of_eq (PyData.depth.eq_6 i),by rw [PyData.shown.eq_3];exact ⟨q.1,q.2.1⟩⟩
theorem Sm.str {x:Str} {b:Nat} (h:PyData.strOk x=true) (k:Tx b (reprText x)):Sm b 0 (.str x) :=
 ⟨.str x,fun M n _=>by cases n <;> (unfold cq;rfl),(PyData.canLay0.eq_4 x).trans h,PyData.showable.eq_3 x,Nat.le_of_eq (PyData.depth.eq_7 x),by rw [PyData.shown.eq_4];exact k⟩
theorem ny.all {b h:Nat}:∀ {ps:List PyData},(∀ p∈ps,ny b h p)->PyData.canLayAll0 ps=true/\PyData.showableAll ps=true/\PyData.depthAll ps<=h/\(∀ x∈PyData.shownAll ps,Tx b x)/\(PyData.shownAll ps).length=ps.length
 | [],_=>⟨PyData.canLayAll0.eq_1,PyData.showableAll.eq_1,by rw [PyData.depthAll.eq_1];omega,by rw [PyData.shownAll.eq_1];intro x h;(cases h),by rw [PyData.shownAll.eq_1];rfl⟩
 | p::ps,q=>by
  obtain ⟨a1,a2,a3,a4,a5⟩:=ny.all (ps:=ps) fun p hp=>q p (ix _ hp)
  obtain ⟨b1,b2,b3,b4⟩:=q p (List.mem_cons_self ..)
  refine ⟨by rw [PyData.canLayAll0.eq_2,a1,b1];rfl,by rw [PyData.showableAll.eq_2,a2,b2];rfl,by rw [PyData.depthAll.eq_2];omega,?_,by rw [PyData.shownAll.eq_2,List.length_cons,a5,List.length_cons]⟩
  rw [PyData.shownAll.eq_2]
  intro x hx
  rcases List.mem_cons.mp hx with rfl | hx
  ·exact b4
  ·exact a4 x hx
theorem ny.tup {b h k:Nat} {ps:List PyData} (q:∀ p∈ps,ny b h p) (hk:ps.length<=k):ny (k * (b+2)+3) (h+1) (.tuple ps):=by
 obtain ⟨a1,a2,a3,a4,a5⟩:=ny.all q
 refine ⟨(PyData.canLay0.eq_6 ps).trans a1,(PyData.showable.eq_6 ps).trans a2,by rw [PyData.depth.eq_2];omega,?_⟩
 rw [PyData.shown.eq_6]
 refine (yd a4).mono ?_
 rw [a5]
 exact Nat.add_le_add_right (Nat.mul_le_mul_right _ hk) _
theorem ny.list {b h k:Nat} {ps:List PyData} (q:∀ p∈ps,ny b h p) (hk:ps.length<=k):ny (k * (b+2)+2) (h+1) (.list ps):=by
 obtain ⟨a1,a2,a3,a4,a5⟩:=ny.all q
 refine ⟨(PyData.canLay0.eq_5 ps).trans a1,(PyData.showable.eq_5 ps).trans a2,by rw [PyData.depth.eq_1];omega,?_⟩
 rw [PyData.shown.eq_5]
 refine (Bo a4).mono ?_
 rw [a5]
 exact Nat.add_le_add_right (Nat.mul_le_mul_right _ hk) _
theorem Sm.ds {b h:Nat}:∀ {ds:List D},(∀ d∈ds,Sm b h d)->∃ ps,(∀ M n,h<=n->a8 M n ds=some ps)/\(∀ p∈ps,ny b h p)/\ps.length=ds.length
 | [],_=>⟨[],fun M n _=>by unfold a8;rfl,(by intro p h;cases h),rfl⟩
 | d::ds,q=>by
  obtain ⟨ps,e,a,l⟩:=Sm.ds (ds:=ds) fun d hd=>q d (ix _ hd)
  obtain ⟨p,ep,ap⟩:=q d (List.mem_cons_self ..)
  refine ⟨p::ps,fun M n hn=>by unfold a8;rw [ep M n hn,e M n hn],?_,by simp [l]⟩
  intro x hx
  rcases List.mem_cons.mp hx with rfl | hx
  ·exact ap
  ·exact a x hx
theorem Sm.tup {b h k:Nat} {ds:List D} (q:∀ d∈ds,Sm b h d) (hk:ds.length<=k):Sm (k * (b+2)+3) (h+1) (.tup ds):=by
 obtain ⟨ps,e,a,l⟩:=Sm.ds q
 refine ⟨.tuple ps,fun M n hn=>?_,ny.tup a (by omega)⟩
 obtain ⟨n,rfl⟩:∃ m,n=m+1:=⟨n - 1,by omega⟩
 unfold cq
 rw [e M n (by omega)]
 rfl
theorem ny.shaped {b h:Nat} {p:PyData} (q:ny b h p) (hh:h<=40):SeqAt.shaped p=true:=by
 unfold SeqAt.shaped
 rw [q.1,Bool.true_and]
 exact decide_eq_true (by have:=q.2.2.1;omega)
theorem Bp {b h:Nat} {d:D} (q:Sm b h d) (hb:b<=1000000) (hh:h<=30):∃ x,PyData.strOk x=true/\∀ M,iw .ee [.d d] M=.ok (.d (.str x)) M:=by
 obtain ⟨p,e,q1,q2,q3,q4,q5⟩:=q
 refine ⟨p.shown,q5,fun M=>?_⟩
 unfold iw
 have:f_ M (.d d)=some p:=e M 30 hh
 try simp only [this]
 rw [if_pos ⟨q2,by omega,Nat.le_trans (Nat.le_trans q4 hb) (by decide)⟩]
theorem ye {b h:Nat} {ds:List D} (q:∀ d∈ds,Sm b h d) (hl:ds.length<=1000) (hb:b<=1000) (hh:h<=20):∃ x,PyData.strOk x=true/\∀ M n,M[n]?=some (.lst ds)->iw .ee [.d (.adr n)] M=.ok (.d (.str x)) M:=by
 obtain ⟨ps,e,a,l⟩:=Sm.ds q
 obtain ⟨q1,q2,q3,q4,q5⟩:=ny.list (k:=1000) a (by omega)
 refine ⟨(PyData.list ps).shown,q5,fun M n hM=>?_⟩
 unfold iw
 have:f_ M (.d (.adr n))=some (.list ps):=by
  show cq M 30 (.adr n)=_
  unfold cq
  try simp only [hM]
  rw [e M 29 (by omega)]
  rfl
 try simp only [this]
 have z5:1000 * (b+2)+2<=sizeLine:=Nat.le_trans (show 1000 * (b+2)+2<=1002002 by omega) (by decide)
 rw [if_pos ⟨q2,by omega,Nat.le_trans q4 z5⟩]
def kn (s:Int) (c:Str):D->Bool
 | .tup (.int s'::.str c'::_)=>s' == s && c' == c
 | _=>false
def yf:D->D
 | .tup (_::_::r)=>.tup r
 | d=>d
def zl (moves:List D) (s:Int) (c:Str):D:=match moves.find? (kn s c) with
 | some d=>yf d
 | none=>if c == "own" then .az else .tup [.int s,.tup [],.az]
theorem bw:PyData.strOk "own" = true:=⋯
theorem pN {x:Str} (h:x = "own" \/ x = "a" \/ x = "b" \/ x = "z"):PyData.strOk x=true:=by
 rcases h with rfl | rfl | rfl | rfl <;> decide +kernel
theorem tup_is {M:Mem} {s s':Int} {c c':Str} (hc:PyData.strOk c=true) (ux:PyData.strOk c'=true):aO .eq (.d (.tup [.int s',.str c'])) (.d (.tup [.int s,.str c])) M=.ok (s' == s && c' == c) M:=by
 have h1:∀ (s:Int) (c:Str),f_ M (.d (.tup [.int s,.str c]))=some (.tuple [.int s,.str c]):=fun s c=>by
  show cq M 30 (.tup [.int s,.str c])=_
  try simp only [cq,a8,Option.map_some]
 have h2:∀ (s:Int) {c:Str},PyData.strOk c=true->SeqAt.shaped (.tuple [.int s,.str c])=true:=fun s c h=>by
  unfold SeqAt.shaped
  try simp only [PyData.canLay0.eq_6,PyData.canLayAll0.eq_2,PyData.canLayAll0.eq_1,PyData.canLay0.eq_3,PyData.canLay0.eq_4,h,PyData.depth.eq_2,PyData.depthAll.eq_2,PyData.depthAll.eq_1,PyData.depth.eq_6,PyData.depth.eq_7]
  rfl
 unfold aO
 try simp only [h1,h2 _ hc,h2 _ ux,and_self,if_true,PyData.eqv.eq_8,PyData.eqvAll.eq_2,PyData.eqvAll.eq_1,PyData.eqv.eq_5,PyData.eqv.eq_6,Bool.and_true]
theorem vk {α:Type} {p:α->Bool} {l:List α} {k:Nat} {x:α} (h:l[k]?=some x) (hn:(l.take k).find? p=none) (hp:p x=true):l.find? p=some x:=by
 have hk:=(dh.mp h).1
 have e:l=l.take k++(x::l.drop (k+1)):=by
  have:l.drop k=x::l.drop (k+1):=by
   rw [List.drop_eq_getElem_cons hk]
   congr 1
   rw [eD hk] at h
   exact e_ h
  rw [<- this,List.take_append_drop]
 rw [e,List.find?_append,hn]
 simp [hp]
def ik (F:Fn):Prop:=∀ (P:Int->Prop) (M:Mem) (rules aG moves:List D) (st:D) (m:Nat) (s:Int) (c:Str),rules[m]?=some (.tup [st,.tup moves])->(∀ y∈moves,ig P y)->PyData.strOk c=true ->
 aD (F [.tup [.tup rules,.tup aG],.int m,.int s,.str c] M) fun r M'=>M=M'/\r=.d (zl moves s c)
theorem yg {ds:List D} {m:Nat} {x:D} (h:ds[m]?=some x):ds[((m:Nat):Int).toNat]?=some x:=by rw [Int.toNat_natCast];exact h
theorem Bq {G:aL}:ik (af G 5 nk):=by
 intro P M rules aG moves st m s c hm CJ hc
 rw [aU]
 show wSs G nk [some (.tup [.tup rules,.tup aG]),some (.int m),some (.int s),some (.str c),none] M _ _ _ _
 nofun
 rw [jz (M:=M) (ds:=rules) (i:=(m:Nat)) (by omega) (yg hm)]
 nofun
 refine dJ (ds:=moves) (fun k ρ M'=>∃ o4,M=M'/\ρ=[some (.tup [.tup rules,.tup aG]),some (.int m),some (.int s),some (.str c),o4]/\(moves.take k).find? (kn s c)=none) ⟨none,rfl,rfl,by simp⟩ ?_ ?_
 ·rintro k ρ M' d hd ⟨o4,rfl,rfl,lR⟩
  obtain ⟨s',c',a,sd,wd,rfl,⟨i,rfl,_,_⟩,⟨cx,rfl,Ob⟩,_⟩:=CJ d (jL hd)
  have Ga:(i == s && cx == c)=false->(moves.take (k+1)).find? (kn s c)=none:=fun q=>by
   rw [aT hd,List.find?_append,lR]
   try simp only [List.find?_cons,kn,q]
   rfl
  nofun
  cases q:(i == s) with
  | true =>
   nofun
   rw [aQ (pN Ob) hc]
   cases q2:(cx == c) with
   | true =>
    nofun
    refine ⟨(show (3:Nat)<=sizeLine by decide),rfl,?_⟩
    unfold zl
    rw [vk hd lR (by simp [kn,q,q2])]
    rfl
   | false=>exact ⟨_,rfl,rfl,Ga (by simp [q2])⟩
  | false=>exact ⟨_,rfl,rfl,Ga (by simp [q])⟩
 ·rintro ρ M' ⟨o4,rfl,rfl,lR⟩
  rw [List.take_length] at lR
  nofun
  rw [aQ hc bw]
  cases q:(c == "own") with
  | true =>
   refine ⟨rfl,?_⟩
   unfold zl
   rw [lR]
   show _=W.d (if (c == "own")=true then _ else _)
   rw [q]
   rfl
  | false =>
   nofun
   refine ⟨(show (0:Nat)<=sizeLine by decide),?_⟩
   nofun
   refine ⟨(show (3:Nat)<=sizeLine by decide),rfl,?_⟩
   unfold zl
   rw [lR]
   show _=W.d (if (c == "own")=true then _ else _)
   rw [q]
   rfl
theorem Br {d:D} (h:tT d):Sm 12 0 d:=by
 rcases h with rfl | ⟨x,rfl,h⟩
 ·exact Sm.az.mono (by decide) (by decide)
 ·rcases h with rfl | rfl | rfl | rfl | rfl <;> exact Sm.str (⋯) ⟨⋯,⋯⟩
theorem Ju {d:D} (h:rJ d):Sm 2 0 d:=by
 obtain ⟨i,rfl,h0,h1⟩:=h
 exact Sm.int h0 h1
theorem Bs {P:Int->Prop} (hP:∀ r,P r->0<=r/\r < 100) {d:D} (h:tS P d):Sm 20 1 d:=by
 obtain ⟨r,c,rfl,h1,h2⟩:=h
 have hc:Sm 3 0 (.str c):=by rcases h2 with rfl | rfl | rfl | rfl <;> exact Sm.str (⋯) ⟨⋯,⋯⟩
 refine (Sm.tup (b:=3) (h:=0) (k:=2) (ds:=[.int r,.str c]) ?_ (ba 2)).mono (by decide) (by decide)
 intro d hd
 simp only [List.mem_cons,List.mem_nil_iff,or_false] at hd
 rcases hd with rfl | rfl
 ·exact (Sm.int (hP r h1).1 (hP r h1).2).mono (by decide) (by decide)
 ·exact hc
theorem Fl {P:Int->Prop} (hP:∀ r,P r->0<=r/\r < 100) {d:D} (h:ig P d):Sm 300 3 (yf d):=by
 obtain ⟨s,c,a,sd,wd,rfl,_,_,ha,hl,jB,hw⟩:=h
 show Sm 300 3 (.tup [a,.tup sd,wd])
 have h1:Sm 69 2 (.tup sd):=Sm.tup (b:=20) (h:=1) (k:=3) (fun x hx=>Bs hP (jB x hx)) hl
 refine (Sm.tup (b:=69) (h:=2) (k:=3) (ds:=[a,.tup sd,wd]) ?_ (ba 3)).mono (by decide) (by decide)
 intro d hd
 simp only [List.mem_cons,List.mem_nil_iff,or_false] at hd
 rcases hd with rfl | rfl | rfl
 ·exact (Ju ha).mono (by decide) (by decide)
 ·exact h1
 ·exact (Br hw).mono (by decide) (by decide)
theorem ne_nil {M:Mem} {n:Nat} {ds:List D} {b h:Nat} (hM:M[n]?=some (.lst ds)) (q:∀ d∈ds,Sm b h d) (hl:ds.length<=1000) (hh:h<=20):aO .ne (.d (.adr n)) (.lv []) M=.ok (!ds.isEmpty) M:=by
 obtain ⟨ps,e,a,l⟩:=Sm.ds q
 have h1:f_ M (.d (.adr n))=some (.list ps):=by
  show cq M 30 (.adr n)=_
  unfold cq
  try simp only [hM]
  rw [e M 29 (by omega)]
  rfl
 have h2:f_ M (.lv [])=some (.list []):=by show (a8 M 30 []).map _=_;unfold a8;rfl
 have h3:=(ny.list (k:=1000) a (by omega)).shaped (by omega)
 have h4:SeqAt.shaped (.list [])=true:=⋯
 unfold aO
 try simp only [h1,h2,h3,h4,and_self,if_true,PyData.eqv.eq_7]
 cases ds with
 | nil =>
  have:ps=[]:=List.eq_nil_of_length_eq_zero l
  subst this
  rw [PyData.eqvAll.eq_1];rfl
 | cons d ds =>
  cases ps with
  | nil=>simp at l
  | cons p ps =>
   have:PyData.eqvAll (p::ps) []=false:=by simp only [PyData.eqvAll]
   rw [this];rfl
def jC (F:Fn):Prop:=∀ (P:Int->Prop) (M:Mem) (rules aG moves:List D) (st:D) (m:Nat) (s:Int) (c:Str),(∀ r,P r->0<=r/\r < 100)->rules[m]?=some (.tup [st,.tup moves])->(∀ y∈moves,ig P y)->moves.length<=28->PyData.strOk c=true ->
 aD (F [.tup [.tup rules,.tup aG],.int m,.int s,.str c] M) fun r M'=>Fr M.length M M'/\r=.d (zl moves s c)
theorem pO {α:Type} {p:α->Bool} {l:List α} {k:Nat} {x:α} (h:l[k]?=some x):(l.take (k+1)).filter p=(l.take k).filter p++(if p x then [x] else []):=by
 rw [aT h,List.filter_append]
 cases q:p x <;> simp [q]
theorem pP {α:Type} {p:α->Bool} {l:List α}:l.find? p=(l.filter p).head?:=by
 induction l with
 | nil=>rfl
 | cons x l ih =>
  cases q:p x
  ·rw [List.find?_cons_of_neg (by simp [q]),List.filter_cons_of_neg (by simp [q])];exact ih
  ·rw [List.find?_cons_of_pos q,List.filter_cons_of_pos q];rfl
theorem Bt {G:aL}:jC (af G 5 nr):=by
 intro P M rules aG moves st m s c hP hm CJ Oc hc
 rw [aU]
 show wSs G nr [some (.tup [.tup rules,.tup aG]),some (.int m),some (.int s),some (.str c),none] M _ _ _ _
 nofun
 rw [jz (M:=M) (ds:=rules) (i:=(m:Nat)) (by omega) (yg hm)]
 nofun
 refine gy (ds:=moves) (fun k M' acc=>M=M'/\acc=((moves.take k).filter (kn s c)).map yf/\acc.length<=k) (by decide) (fun i M' acc _ _=>rfl) ⟨rfl,by simp,ba _⟩ ?_ ?_ rfl
 ·rintro k M' acc d hd ⟨rfl,vm,Gf⟩
  have hk:=(dh.mp hd).1
  refine ⟨aI (by omega),?_⟩
  obtain ⟨s',c',a,sd,wd,rfl,⟨i,rfl,_,_⟩,⟨cx,rfl,Ob⟩,_⟩:=CJ d (jL hd)
  have hn:=pO (p:=kn s c) hd
  nofun
  refine ⟨(show (2:Nat)<=sizeLine by decide),?_⟩
  show eJ (aO .eq (.d (.tup [.int i,.str cx])) (.d (.tup [.int s,.str c])) M) _
  rw [tup_is hc (pN Ob)]
  cases q:(i == s && cx == c) with
  | true =>
   nofun
   refine ⟨rfl,?_,by simp;omega⟩
   rw [hn,if_pos (show kn s c (.tup [.int i,.str cx,a,.tup sd,wd])=true from q),qu,vm]
   rfl
  | false =>
   refine ⟨rfl,?_,by omega⟩
   rw [hn,if_neg (show ¬ kn s c (.tup [.int i,.str cx,a,.tup sd,wd])=true from fun z=>by rw [show kn s c (.tup [.int i,.str cx,a,.tup sd,wd])=false from q] at z;cases z),List.append_nil,vm]
 ·rintro M' told ⟨rfl,vm,Gf⟩
  rw [List.take_length] at vm
  have hM:(M++[MO.lst told])[M.length]?=some (.lst told):=ah
  have SV:∀ d∈told,Sm 300 3 d:=by
   intro d hd
   rw [vm] at hd
   obtain ⟨y,hy,rfl⟩:=la.mp hd
   exact Fl hP (CJ y (List.mem_filter.mp hy |>.1))
  nofun
  refine ⟨(show (0:Nat)<=sizeLine by decide),?_⟩
  nofun
  rw [ne_nil hM SV (by omega) (by decide)]
  have rM:zl moves s c=told.head?.getD (if c == "own" then .az else .tup [.int s,.tup [],.az]):=by
   unfold zl
   rw [pP,vm,List.head?_map]
   cases (moves.filter (kn s c)).head? <;> rfl
  cases told with
  | cons d r =>
   nofun
   rw [aZ hM (i:=0) (x:=d) (y6 0) rfl]
   exact ⟨(Fr.refl _ M).app,by rw [rM];rfl⟩
  | nil =>
   nofun
   rw [aQ hc bw]
   have rM:zl moves s c=if (c == "own")=true then .az else .tup [.int s,.tup [],.az]:=rM
   cases q:(c == "own") with
   | true =>
    rw [q] at rM
    exact ⟨(Fr.refl _ M).app,by rw [rM];rfl⟩
   | false =>
    rw [q] at rM
    nofun
    refine ⟨(show (0:Nat)<=sizeLine by decide),?_⟩
    nofun
    refine ⟨(show (3:Nat)<=sizeLine by decide),(Fr.refl _ M).app,?_⟩
    rw [rM]
    rfl
section
variable {M:Mem} {n:Nat} {ds:List D} {i:Int} {x:D}
abbrev iD (ks:List Int):List D:=ks.map D.int
theorem nz {k:Nat}:∀ (ks:List Int),a8 M k (iD ks)=some (ks.map PyData.int)
 | []=>by show a8 M k []=_;unfold a8;rfl
 | i::ks=>by
  show a8 M k (.int i::iD ks)=_
  unfold a8
  have:cq M k (.int i)=some (.int i):=by cases k <;> (unfold cq;rfl)
  rw [this,nz ks]
  rfl
theorem nA:∀ (ks:List Int),(ks.map PyData.int).all SeqAt.shaped=true
 | []=>rfl
 | i::ks=>by
  show (SeqAt.shaped (.int i) && (ks.map PyData.int).all SeqAt.shaped)=true
  rw [gR,nA ks];rfl
theorem nB {i:Int}:∀ (ks:List Int),iJ (.int i) (ks.map PyData.int)=decide (i∈ks)
 | []=>by simp [iJ]
 | k::ks=>by
  show (PyData.eqv (.int k) (.int i) || iJ (.int i) (ks.map PyData.int))=_
  rw [nB ks,PyData.eqv.eq_5]
  by_cases h:k=i
  ·subst h;simp
  ·have h2:(k == i)=false:=beq_eq_false_iff_ne.mpr h
   rw [h2,Bool.false_or]
   by_cases h3:i∈ks
   ·rw [decide_eq_true h3,decide_eq_true (ix _ h3)]
   ·rw [decide_eq_false h3,decide_eq_false (fun z=>by
     rcases List.mem_cons.mp z with z | z
     ·exact h z.symm
     ·exact h3 z)]
theorem yh {i:Int}:f_ M (.d (.int i))=some (.int i):=by show cq M 30 (.int i)=_;unfold cq;rfl
theorem yi {i:Int} {ks:List Int}:aO .d_ (.d (.int i)) (.d (.tup (iD ks))) M=.ok (!decide (i∈ks)) M:=by
 unfold aO;simp only [yh,bc,nz,gR,nA,and_self,if_true,nB]
end
end Ev
end
section
namespace Ev
open PySem
def rN:List S:=[.ret (.dj [(.bi (.mF .int) [(.var 0)]),(.neg (.bi (.mF .bool) [(.var 0)]))])]
def rO (dZ:Nat):List S:=[.ret (.dj [(.call dZ [(.var 0)]),(.chain .le .lt (.cst (.int 0)) (.var 0) (.var 1))])]
def yj:List S:=[.ret (.dj [(.bi (.mF .str) [(.var 0)]),(.cmp .eq (.bi .len [(.var 0)]) (.cst (.int 1))),(.chain .le .le (.cst (.str "a")) (.var 0) (.cst (.str "z")))])]
def rP:List S:=[.ret (.bi .list1 [(.sub (.sub (.sub (.var 0) (.cst (.int 1))) (.var 1)) (.cst (.int 1)))])]
def rQ (gT:Nat) (pQ:Nat) (dZ:Nat):List S:=[.iff (.d7 [(.neg (.val (.bi (.mF .tuple) [(.var 1)]))),(.val (.cmp .d_ (.bi .len [(.var 1)]) (.tup [(.cst (.int 2)),(.cst (.int 3))])))]) [.ret (.cst (.bl false))] [],.iff (.val (.cmp .eq (.bi .len [(.var 1)]) (.cst (.int 2)))) [.ret (.dj [(.cmp .eq (.sub (.var 1) (.cst (.int 0))) (.cst (.str "own"))),(.call gT [(.sub (.var 1) (.cst (.int 1))),(.bi .len [(.sub (.var 0) (.cst (.int 0)))])])])] [],.iff (.val (.cmp .eq (.sub (.var 1) (.cst (.int 0))) (.cst (.str "hear")))) [.ret (.dj [(.call gT [(.sub (.var 1) (.cst (.int 1))),(.bi .len [(.sub (.var 0) (.cst (.int 0)))])]),(.call pQ [(.sub (.var 1) (.cst (.int 2)))])])] [],.ret (.dj [(.cmp .eq (.sub (.var 1) (.cst (.int 0))) (.cst (.str "come"))),(.call gT [(.sub (.var 1) (.cst (.int 1))),(.bi .len [(.sub (.var 0) (.cst (.int 1)))])]),(.call dZ [(.sub (.var 1) (.cst (.int 2)))])])]
def yk:List S:=[.iff (.val (.cmp .eq (.sub (.var 1) (.cst (.int 0))) (.cst (.str "come")))) [.ret (.sub (.sub (.sub (.var 0) (.cst (.int 1))) (.sub (.var 1) (.cst (.int 1)))) (.cst (.int 1)))] [],.ret (.sub (.var 1) (.cst (.int 1)))]
def Fo (cf:Nat):List S:=[.asg [3] (.call cf [(.var 1),(.var 2)]),.iff (.val (.cmp .eq (.sub (.sub (.sub (.var 0) (.cst (.int 1))) (.var 2)) (.cst (.int 2))) (.cst (.str "row")))) [.asg [3] (.kU (.var 3) none (some (.cst (.int 1))))] [],.ret (.comp .seq [(.var 3)] [1,2] none (.var 1) [none,none,none])]
def Fp (ko:Nat) (kAnswer:Nat) (ym:Nat):List S:=[.iff (.neg (.val (.call ko [(.var 0),(.var 2)]))) [.ret (.cst (.bl false))] [],.iff (.val (.cmp .eq (.sub (.var 2) (.cst (.int 0))) (.cst (.str "own")))) [.ret (.cmp .eW (.call kAnswer [(.var 0),(.sub (.var 2) (.cst (.int 1))),(.sub (.sub (.var 1) (.cst (.int 0))) (.sub (.var 2) (.cst (.int 1)))),(.cst (.str "own"))]) (.cst .az))] [],.iff (.val (.cmp .eq (.sub (.var 2) (.cst (.int 0))) (.cst (.str "come")))) [.ret (.cmp .isin (.sub (.var 2) (.cst (.int 2))) (.call ym [(.var 0),(.var 1),(.sub (.var 2) (.cst (.int 1)))]))] [],.ret (.cst (.bl true))]
def rR (cf:Nat):List S:=[.iff (.val (.cmp .eq (.sub (.var 1) (.cst (.int 0))) (.cst (.str "own")))) [.ret (.cst (.str "own"))] [],.iff (.val (.cmp .eq (.sub (.var 1) (.cst (.int 0))) (.cst (.str "hear")))) [.ret (.sub (.var 1) (.cst (.int 2)))] [],.ret (.sub (.bi .lE [(.call cf [(.var 0),(.sub (.var 1) (.cst (.int 1)))])]) (.sub (.var 1) (.cst (.int 2))))]
def yn:List S:=[.ret (.tup [(.sub (.var 0) (.cst (.int 0))),(.bi .tuple1 [(.comp .seq [(.sub (.var 0) (.cst (.int 1)))] [1] (some (.val (.cmp .ne (.sub (.var 1) (.cst (.int 0))) (.var 2)))) (.var 1) [none,none,some 1])])])]
def yo:List S:=[.ret (.tup [(.bin .add (.sub (.var 0) (.cst (.int 0))) (.cst (.int 1))),(.bin .add (.sub (.var 0) (.cst (.int 1))) (.tup [(.tup [(.sub (.var 0) (.cst (.int 0))),(.var 1)])]))])]
def yp (eC:Nat) (kAnswer:Nat) (kr:Nat) (pR:Nat) (gz:Nat):List S:=[.asg [3] (.call eC [(.var 0),(.var 2)]),.asg [4] (.call kAnswer [(.var 0),(.var 3),(.sub (.sub (.var 1) (.cst (.int 0))) (.var 3)),(.call kr [(.var 1),(.var 2)])]),.asg [5] (.bi .list1 [(.sub (.var 1) (.cst (.int 0)))]),.put (.var 5) (.var 3) (.sub (.var 4) (.cst (.int 0))),.asg [6] (.bi .list1 [(.sub (.var 1) (.cst (.int 1)))]),.iff (.val (.cmp .eq (.sub (.var 2) (.cst (.int 0))) (.cst (.str "come")))) [.put (.var 6) (.sub (.var 2) (.cst (.int 1))) (.call pR [(.sub (.var 6) (.sub (.var 2) (.cst (.int 1)))),(.sub (.var 2) (.cst (.int 2)))])] [],.aX [7,8] .seq [(.sub (.var 4) (.cst (.int 1)))] [.put (.var 6) (.var 7) (.call gz [(.sub (.var 6) (.var 7)),(.var 8)])],.asg [9] (.cst .az),.iff (.val (.cmp .eW (.sub (.var 4) (.cst (.int 2))) (.cst .az))) [.asg [9] (.tup [(.var 3),(.sub (.var 4) (.cst (.int 2)))])] [],.ret (.tup [(.tup [(.bi .tuple1 [(.var 5)]),(.bi .tuple1 [(.var 6)])]),(.var 9)])]
def nF:List S:=[.asg [2] (.lst []),.aX [3] .cB [(.bi .len [(.sub (.var 0) (.cst (.int 1)))])] [.asg [4] (.bi .list1 [(.sub (.sub (.sub (.var 1) (.cst (.int 1))) (.var 3)) (.cst (.int 1)))]),.iff (.val (.cmp .eq (.sub (.sub (.sub (.var 0) (.cst (.int 1))) (.var 3)) (.cst (.int 2))) (.cst (.str "row")))) [.asg [4] (.kU (.var 4) none (some (.cst (.int 1))))] [],.asg [2] (.bin .add (.var 2) (.comp .seq [(.var 4)] [1,2] none (.tup [(.var 3),(.var 1),(.var 2)]) [none,none,none,some 3]))],.ret (.var 2)]
def rS (lS:Nat) (cP:Nat):List S:=[.iff (.val (.cmp .ne (.sub (.var 2) (.cst (.int 0))) (.cst (.str "come")))) [.asg [3] (.sub (.var 2) (.cst (.int 1))),.ret (.call lS [(.var 0),(.var 3),(.sub (.sub (.var 1) (.cst (.int 0))) (.var 3)),(.sub (.zf (.var 2) 2) (.cst (.int (-1))))])] [],.aX [4,5,6] .seq [(.call cP [(.var 0),(.var 1)])] [.iff (.val (.cmp .eq (.tup [(.var 4),(.var 5)]) (.kU (.var 2) (some (.cst (.int 1))) none))) [.asg [3] (.sub (.sub (.sub (.var 0) (.cst (.int 1))) (.var 4)) (.cst (.int 1))),.ret (.call lS [(.var 0),(.var 3),(.sub (.sub (.var 1) (.cst (.int 0))) (.var 3)),(.var 6)])] []],.ret (.cst .az)]
def rT:List S:=[.ret (.ite (.val (.cmp .eq (.sub (.var 1) (.cst (.int 0))) (.cst (.str "come")))) (.sub (.sub (.sub (.var 0) (.cst (.int 1))) (.sub (.var 1) (.cst (.int 1)))) (.cst (.int 1))) (.sub (.var 1) (.cst (.int 1))))]
def rV (bp:Nat) (d4:Nat):List S:=[.asg [3,4,5] (.call bp [(.var 0),(.var 1),(.var 2)]),.asg [6] (.call d4 [(.var 0),(.var 2)]),.asg [7] (.bi .list1 [(.sub (.var 1) (.cst (.int 0)))]),.put (.var 7) (.var 6) (.var 3),.eZ 9 (.comp .seq [(.sub (.var 1) (.cst (.int 1)))] [1] none (.lst [(.sub (.var 1) (.cst (.int 0))),(.bi .list1 [(.sub (.var 1) (.cst (.int 1)))])]) [none,none]),.iff (.val (.cmp .eq (.sub (.var 2) (.cst (.int 0))) (.cst (.str "come")))) [.asg [8] (.sub (.var 9) (.sub (.var 2) (.cst (.int 1)))),.put (.var 8) (.cst (.int 1)) (.comp .seq [(.sub (.var 8) (.cst (.int 1)))] [1] (some (.val (.cmp .ne (.sub (.var 1) (.cst (.int 0))) (.sub (.var 2) (.cst (.int 2)))))) (.var 1) [none,none,some 2])] [],.aX [10,11] .seq [(.var 4)] [.expr (.me .append (.sub (.sub (.var 9) (.var 10)) (.cst (.int 1))) [(.tup [(.sub (.sub (.var 9) (.var 10)) (.cst (.int 0))),(.var 11)])]),.put (.sub (.var 9) (.var 10)) (.cst (.int 0)) (.bin .add (.sub (.sub (.var 9) (.var 10)) (.cst (.int 0))) (.cst (.int 1)))],.asg [12] (.bi .tuple1 [(.comp .seq [(.var 9)] [1] none (.tup [(.sub (.var 1) (.cst (.int 0))),(.bi .tuple1 [(.sub (.var 1) (.cst (.int 1)))])]) [none,none])]),.ret (.tup [(.tup [(.bi .tuple1 [(.var 7)]),(.var 12)]),(.ite (.val (.cmp .oV (.var 5) (.cst .az))) (.cst .az) (.tup [(.var 6),(.var 5)]))])]
def rW (ai:Nat):List S:=[.asg [2] (.lst [(.cst (.int 0)),(.call ai [(.var 0),(.cst (.int 6))]),(.call ai [(.var 0),(.bin .sub (.bin .pow (.cst (.int 10)) (.cst (.int 9))) (.cst (.int 1000)))])]),.asg [3] (.sub (.var 2) (.bin .fdiv (.call ai [(.var 0),(.cst (.int 5))]) (.cst (.int 2)))),.asg [4] (.lst []),.asg [5] (.var 3),.aX [6] .cB [(.bi .min2 [(.var 3),(.call ai [(.var 0),(.cst (.int 4))])])] [.asg [5] (.bin .sub (.bin .sub (.var 5) (.cst (.int 1))) (.bin .mul (.bi .oW [(.cmp .eq (.var 1) (.cst (.str "heap")))]) (.call ai [(.var 0),(.cst (.int 3))]))),.iff (.val (.cmp .ge (.var 5) (.cst (.int 0)))) [.expr (.me .insert (.var 4) [(.cst (.int 0)),(.tup [(.var 5),(.sub (.cst (.str "abcz")) (.call ai [(.var 0),(.cst (.int 4))]))])])] []],.ret (.tup [(.var 3),(.bi .tuple1 [(.var 4)])])]
def nG (bL:Nat) (ai:Nat) (ku:Nat):List S:=[.asg [2] (.call bL [(.var 0),(.cst (.int 5))]),.asg [3] (.bi .tuple1 [(.comp .seq [(.sub (.var 1) (.cst (.int 1)))] [1] none (.tup [(.cst (.int 0)),(.tup [])]) [none,none])]),.asg [4] (.bi .tuple1 [(.comp .seq [(.sub (.var 1) (.cst (.int 0)))] [1] none (.sub (.var 1) (.cst (.int 0))) [none,none])]),.iff (.val (.cmp .gt (.call ai [(.var 2),(.cst (.int 3))]) (.cst (.int 0)))) [.asg [3] (.bi .tuple1 [(.comp .seq [(.sub (.var 1) (.cst (.int 1)))] [1] none (.call ku [(.var 2),(.sub (.var 1) (.cst (.int 2)))]) [none,none,some 2])]),.iff (.val (.cmp .eq (.call ai [(.var 2),(.cst (.int 4))]) (.cst (.int 0)))) [.asg [4] (.bi .tuple1 [(.comp .seq [(.sub (.var 1) (.cst (.int 0)))] [1] none (.call ai [(.var 2),(.cst (.int 100))]) [none,none,some 2])])] []] [],.ret (.tup [(.var 4),(.var 3)])]
def rX (cP:Nat) (bp:Nat) (ai:Nat):List S:=[.eZ 3 (.comp .seq [(.call cP [(.var 1),(.var 2)])] [1,2,3] none (.tup [(.cst (.str "come")),(.var 1),(.var 2)]) [none,none,none,none]),.asg [4] (.lst []),.aX [5] .cB [(.bi .len [(.sub (.var 1) (.cst (.int 0)))])] [.iff (.val (.cmp .eW (.call bp [(.var 1),(.var 2),(.tup [(.cst (.str "own")),(.var 5)])]) (.cst .az))) [.expr (.me .append (.var 4) [(.tup [(.cst (.str "own")),(.var 5)])])] []],.asg [6] (.call ai [(.var 0),(.cst (.int 8))]),.iff (.dj [(.val (.cmp .ne (.var 3) (.lst []))),(.val (.cmp .lt (.var 6) (.cst (.int 4))))]) [.ret (.sub (.var 3) (.call ai [(.var 0),(.bi .len [(.var 3)])]))] [],.iff (.dj [(.val (.cmp .ne (.var 4) (.lst []))),(.val (.cmp .lt (.var 6) (.cst (.int 7))))]) [.ret (.sub (.var 4) (.call ai [(.var 0),(.bi .len [(.var 4)])]))] [],.ret (.tup [(.cst (.str "hear")),(.call ai [(.var 0),(.bi .len [(.sub (.var 1) (.cst (.int 0)))])]),(.sub (.cst (.str "abcz")) (.call ai [(.var 0),(.cst (.int 4))]))])]
end Ev
end
section
namespace Ev
open L2
open PySem PySem.Spec PyProof.Rows
structure Mv where
 s:Int
 c:Str
 a:Int
 sd:List (Int×Str)
 w:Option Str
structure Fm where
 ru:List (Int×List Mv)
 ro:List (Int×Int×Str)
structure Sd where
 st:List Int
 ld:List (Int×List (Int×Str))
def pD (p:Int×Str):D:=.tup [.int p.1,.str p.2]
def Fq:Option Str->D
 | none=>.az
 | some x=>.str x
def CK (m:Mv):D:=.tup [.int m.s,.str m.c,.int m.a,.tup (m.sd.map pD),Fq m.w]
def tY (r:Int×List Mv):D:=.tup [.int r.1,.tup (r.2.map CK)]
def qy (r:Int×Int×Str):D:=.tup [.int r.1,.int r.2.1,.str r.2.2]
def cQ (f:Fm):D:=.tup [.tup (f.ru.map tY),.tup (f.ro.map qy)]
def ff (l:Int×List (Int×Str)):D:=.tup [.int l.1,.tup (l.2.map pD)]
def cF (s:Sd):D:=.tup [.tup (s.st.map D.int),.tup (s.ld.map ff)]
inductive Dn where
 | own (m:Nat) | cG (m:Nat) (c:Str) | a_ (r:Nat) (k:Int)
def bE:Dn->D
 | .own m=>.tup [.str "own",.int m]
 | .cG m c=>.tup [.str "hear",.int m,.str c]
 | .a_ r k=>.tup [.str "come",.int r,.int k]
def cT (s:Str):Prop:=s = "a" \/ s = "b" \/ s = "c" \/ s = "z"
theorem cT.ok {s:Str} (h:cT s):PyData.strOk s=true/\(s == "own")=false:=by
 rcases h with rfl | rfl | rfl | rfl <;> exact ⟨⋯,⋯⟩
def Ft (w:Option Str):Prop:=∀ x,w=some x->x = "x" \/ x = "yes" \/ x = "abcdefgh" \/ x = "own" \/ x = "a"
structure vn (ro:List (Int×Int×Str)) (m:Nat) (y:Mv):Prop where
 s:0<=y.s/\y.s < 100
 c:y.c = "own" \/ y.c = "a" \/ y.c = "b" \/ y.c = "z"
 a:0<=y.a/\y.a < 100
 l:y.sd.length<=3
 sd:∀ p∈y.sd,cT p.2/\0<=p.1/\∃ r,ro[p.1.toNat]?=some r/\r.1=m
 w:Ft y.w
structure yq (n:Nat) (r:Int×Int×Str):Prop where
 a:0<=r.1/\r.1 < n
 b:0<=r.2.1/\r.2.1 < n
 ab:r.1≠r.2.1
 k:r.2.2 = "row" \/ r.2.2 = "heap"
structure bR (f:Fm):Prop where
 l1:1<=f.ru.length
 l4:f.ru.length<=4
 l8:f.ro.length<=8
 ro:∀ r∈f.ro,yq f.ru.length r
 ru:∀ m x,f.ru[m]?=some x->(0<=x.1/\x.1 < 100)/\x.2.length<=28/\∀ y∈x.2,vn f.ro m y
structure eP (N:Nat) (l:Int×List (Int×Str)):Prop where
 s:0<=l.1/\l.1<=1000000000+N
 n:l.2.length<=N
 p:∀ p∈l.2,cT p.2/\0<=p.1/\p.1 < l.1
 r:l.2.Pairwise fun p q=>p.1 < q.1
structure bf (f:Fm) (N:Nat) (s:Sd):Prop where
 ls:s.st.length=f.ru.length
 st:∀ x∈s.st,0<=x/\x < 100
 ll:s.ld.length=f.ro.length
 ld:∀ l∈s.ld,eP N l
def cy (f:Fm):Dn->Prop
 | .own m=>m < f.ru.length
 | .cG m c=>m < f.ru.length/\cT c
 | .a_ r _=>r < f.ro.length
theorem typed {α:Type} {toD:α->D}:∀ {ds:List D} {Q:Nat->α->Prop},(∀ m x,ds[m]?=some x->∃ a,x=toD a/\Q m a)->∃ as:List α,ds=as.map toD/\∀ m a,as[m]?=some a->Q m a
  | [],Q,_=>⟨[],rfl,fun m a h=>by simp at h⟩
  | d::ds,Q,h=>by
    obtain ⟨as,e,q⟩:=typed (toD:=toD) (ds:=ds) (Q:=fun m a=>Q (m+1) a) fun m x hx=>h (m+1) x (by simpa using hx)
    obtain ⟨a,e0,q0⟩:=h 0 d (by simp)
    refine ⟨a::as,by rw [List.map_cons,<- e,e0],fun m b hb=>?_⟩
    cases m with
    | zero => have : a = b := by simpa using hb
              subst this;exact q0
    | succ m=>exact q m b (by simpa using hb)
theorem rY {α:Type} {toD:α->D} {ds:List D} {Q:α->Prop} (h:∀ x∈ds,∃ a,x=toD a/\Q a):∃ as:List α,ds=as.map toD/\∀ a∈as,Q a:=by
 obtain ⟨as,e,q⟩:=typed (toD:=toD) (ds:=ds) (Q:=fun _ a=>Q a) fun m x hx=>h x (jL hx)
 exact ⟨as,e,fun a ha=>by obtain ⟨i,hi,rfl⟩:=List.mem_iff_getElem.mp ha;exact q i _ (eD hi)⟩
theorem rZ {d:D} (h:CH d):∃ f,d=cQ f/\bR f:=by
 obtain ⟨rules,aG,rfl,h1,h4,h8,zY,SW⟩:=h
 obtain ⟨ro,rfl,SX⟩:=rY (toD:=qy) (ds:=aG) (Q:=yq rules.length) fun x hx=>by
  obtain ⟨a,b,k,rfl,a0,a1,b0,b1,ab,hk⟩:=zY x hx
  exact ⟨(a,b,k),rfl,⟨a0,a1⟩,⟨b0,b1⟩,ab,hk⟩
 obtain ⟨ru,e,hr⟩:=typed (toD:=tY) (ds:=rules) (Q:=fun m x=>(0<=x.1/\x.1 < 100)/\x.2.length<=28/\∀ y∈x.2,vn ro m y) fun m x hx=>by
  obtain ⟨st,moves,rfl,⟨i,rfl,i0,i1⟩,hl,hm⟩:=SW m x hx
  obtain ⟨mv,rfl,CJ⟩:=rY (toD:=CK) (ds:=moves) (Q:=vn ro m) fun y hy=>by
   obtain ⟨s,c,a,sd,wd,rfl,⟨s',rfl,s0,s1⟩,⟨c',rfl,hc⟩,⟨a',rfl,a0,a1⟩,hl,jB,hw⟩:=hm y hy
   obtain ⟨SY,rfl,hs⟩:=rY (toD:=pD) (ds:=sd) (Q:=fun p=>cT p.2/\0<=p.1/\∃ r,ro[p.1.toNat]?=some r/\r.1=(m:Int)) fun z hz=>by
    obtain ⟨r,c,rfl,⟨r0,b,k,hr⟩,hc⟩:=jB z hz
    rw [dy] at hr
    cases e:ro[r.toNat]? with
    | none=>rw [e] at hr;cases hr
    | some q =>
     rw [e] at hr
     have hr:qy q=.tup [.int m,b,k]:=e_ hr
     refine ⟨(r,c),rfl,hc,r0,q,e,?_⟩
     unfold qy at hr
     simp only [D.tup.injEq,List.cons.injEq,D.int.injEq] at hr
     exact hr.1
   have Jv:∃ w,wd=Fq w/\Ft w:=by
    rcases hw with rfl | ⟨x,rfl,hx⟩
    ·exact ⟨none,rfl,fun x h=>by cases h⟩
    ·exact ⟨some x,rfl,fun y h=>by cases h;exact hx⟩
   obtain ⟨w,rfl,pM⟩:=Jv
   exact ⟨⟨s',c',a',SY,w⟩,rfl,⟨s0,s1⟩,hc,⟨a0,a1⟩,by simpa using hl,hs,pM⟩
  exact ⟨(i,mv),rfl,⟨i0,i1⟩,by simpa using hl,CJ⟩
 subst e
 rw [aP] at h1 h4
 exact ⟨⟨ru,ro⟩,rfl,h1,h4,by simpa using h8,by simpa using SX,hr⟩
def an (mv:List Mv) (s:Int) (c:Str):Option (Int×List (Int×Str)×Option Str):=match mv.find? fun m=>m.s == s && m.c == c with
 | some m=>some (m.a,m.sd,m.w)
 | none=>if c == "own" then none else some (s,[],none)
def Jw:Option (Int×List (Int×Str)×Option Str)->D
 | none=>.az
 | some (a,sd,w)=>.tup [.int a,.tup (sd.map pD),Fq w]
def sel (o:Str) (ps:List (Int×Str)):List (Int×Str):=if (o == "row")=true then ps.take 1 else ps
def lT (f:Fm) (m:Nat):List Mv:=(f.ru.getD m (0,[])).2
def road (f:Fm) (r:Nat):Int×Int×Str:=f.ro.getD r (0,0,"")
def load (s:Sd) (r:Nat):Int×List (Int×Str):=s.ld.getD r (0,[])
def mc (f:Fm):Dn->Nat
 | .own m=>m
 | .cG m _=>m
 | .a_ r _=>(road f r).2.1.toNat
def cs (f:Fm) (s:Sd):Dn->Option Str
 | .own _=>some "own"
 | .cG _ c=>some c
 | .a_ r k=>((sel (road f r).2.2 (load s r).2).find? fun p=>p.1 == k).map (·.2)
def rp (f:Fm) (s:Sd) (d:Dn):Option (Int×List (Int×Str)×Option Str):=(cs f s d).bind fun c=>an (lT f (mc f d)) (s.st.getD (mc f d) 0) c
def cn (f:Fm) (s:Sd) (d:Dn):Bool:=(rp f s d).isSome
def less (l:Int×List (Int×Str)) (k:Int):Int×List (Int×Str):=(l.1,l.2.filter fun p=>!(p.1 == k))
def more (l:Int×List (Int×Str)) (c:Str):Int×List (Int×Str):=(l.1+1,l.2++[(l.1,c)])
def bT (ld:List (Int×List (Int×Str))):Dn->List (Int×List (Int×Str))
 | .a_ r k=>ld.set r (less (ld.getD r (0,[])) k)
 | _=>ld
def send (ld:List (Int×List (Int×Str))) (sd:List (Int×Str)):List (Int×List (Int×Str)):=sd.foldl (fun ld p=>ld.set p.1.toNat (more (ld.getD p.1.toNat (0,[])) p.2)) ld
def Jx (f:Fm) (s:Sd) (d:Dn) (x:Int×List (Int×Str)×Option Str):Sd:=⟨s.st.set (mc f d) x.1,send (bT s.ld d) x.2.1⟩
def Jy (f:Fm) (d:Dn) (x:Int×List (Int×Str)×Option Str):D:=match x.2.2 with
 | none=>.az
 | some w=>.tup [.int (mc f d),.str w]
theorem kz {α β:Type} {g:α->β} {p:β->Bool} {q:α->Bool} (h:∀ a,p (g a)=q a):∀ l:List α,(l.map g).find? p=(l.find? q).map g
 | []=>rfl
 | a::l=>by
  have:=kz h l
  rw [List.map_cons,List.find?_cons,List.find?_cons,h a,this]
  cases q a <;> rfl
theorem yt {mv:List Mv} {s:Int} {c:Str}:zl (mv.map CK) s c=Jw (an mv s c):=by
 unfold zl an
 rw [kz (q:=fun m=>m.s == s && m.c == c) (fun a=>rfl)]
 cases mv.find? (fun m=>m.s == s && m.c == c) with
 | none =>
  show (if (c == "own")=true then D.az else .tup [.int s,.tup [],.az])=_
  cases hc:(c == "own") <;> rfl
 | some m=>rfl
theorem vn.md {ro:List (Int×Int×Str)} {m:Nat} {y:Mv} (h:vn ro m y):ig (fun r=>0<=r/\r < ro.length) (CK y):=by
 refine ⟨_,_,_,_,_,rfl,⟨_,rfl,h.s⟩,⟨_,rfl,h.c⟩,⟨_,rfl,h.a⟩,by simpa using h.l,?_,?_⟩
 ·intro d hd
  obtain ⟨p,hp,rfl⟩:=la.mp hd
  obtain ⟨h1,h2,r,h3,_⟩:=h.sd p hp
  refine ⟨_,_,rfl,⟨h2,?_⟩,h1⟩
  have:=(dh.mp h3).1
  omega
 ·cases hw:y.w with
  | none=>exact .inl rfl
  | some x=>exact .inr ⟨x,rfl,h.w x hw⟩
theorem bR.at {f:Fm} (h:bR f) {m:Nat} (hm:m < f.ru.length):(f.ru.map tY)[m]?=some (.tup [.int (f.ru.getD m (0,[])).1,.tup ((lT f m).map CK)]):=by
 unfold lT
 rw [dy,qt,eD hm]
 rfl
theorem bR.mv {f:Fm} (h:bR f) {m:Nat} (hm:m < f.ru.length):(lT f m).length<=28/\∀ y∈lT f m,vn f.ro m y:=by
 unfold lT
 rw [qt,eD hm]
 exact (h.ru m _ (eD hm)).2
theorem bR.Pu {f:Fm} (h:bR f) {m:Nat} (hm:m < f.ru.length):∀ y∈(lT f m).map CK,ig (fun r=>0<=r/\r < f.ro.length) y:=by
 intro y hy
 obtain ⟨z,hz,rfl⟩:=la.mp hy
 exact ((h.mv hm).2 z hz).md
theorem bR.rd {f:Fm} (h:bR f) {r:Nat} (hr:r < f.ro.length):(f.ro.map qy)[r]?=some (.tup [.int (road f r).1,.int (road f r).2.1,.str (road f r).2.2])/\yq f.ru.length (road f r):=by
 unfold road
 rw [dy,qt,eD hr]
 exact ⟨rfl,h.ro _ (List.getElem_mem hr)⟩
theorem bf.vp {f:Fm} {N:Nat} {s:Sd} (h:bf f N s) {r:Nat} (hr:r < f.ro.length):(s.ld.map ff)[r]?=some (.tup [.int (load s r).1,.tup ((load s r).2.map pD)])/\eP N (load s r):=by
 have Jz:r < s.ld.length:=by rw [h.ll];exact hr
 unfold load
 rw [dy,qt,eD Jz]
 exact ⟨rfl,h.ld _ (List.getElem_mem Jz)⟩
theorem bf.Gr {f:Fm} {N:Nat} {s:Sd} (h:bf f N s) {m:Nat} (hm:m < f.ru.length):(s.st.map D.int)[m]?=some (.int (s.st.getD m 0))/\0<=s.st.getD m 0/\s.st.getD m 0 < 100:=by
 have K4:m < s.st.length:=by rw [h.ls];exact hm
 rw [dy,qt,eD K4]
 exact ⟨rfl,h.st _ (List.getElem_mem K4)⟩
theorem yq.ok {n:Nat} {r:Int×Int×Str} (h:yq n r):PyData.strOk r.2.2=true:=by
 rcases h.k with e | e <;> rw [e] <;> decide +kernel
theorem cy.mc {f:Fm} (h:bR f) {d:Dn} (k:cy f d):mc f d < f.ru.length:=by
 cases d with
 | own m=>exact k
 | cG m c=>exact k.1
 | a_ r i =>
  have:=(h.rd k).2.b
  show (road f r).2.1.toNat < _
  omega
theorem nI {mv:List Mv} {s:Int} {c:Str} (h:cT c):∃ x,an mv s c=some x:=by
 unfold an
 cases mv.find? (fun m=>m.s == s && m.c == c) with
 | some m=>exact ⟨_,rfl⟩
 | none=>rw [h.ok.2];exact ⟨_,rfl⟩
structure yu (f:Fm) (m:Nat) (x:Int×List (Int×Str)×Option Str):Prop where
 a:0<=x.1/\x.1 < 100
 l:x.2.1.length<=3
 sd:∀ p∈x.2.1,cT p.2/\0<=p.1/\∃ r,f.ro[p.1.toNat]?=some r/\r.1=m
 w:Ft x.2.2
theorem JA {f:Fm} (h:bR f) {m:Nat} (hm:m < f.ru.length) {s:Int} (hs:0<=s/\s < 100) {c:Str} {x:Int×List (Int×Str)×Option Str} (e:an (lT f m) s c=some x):yu f m x:=by
 unfold an at e
 cases q:(lT f m).find? (fun m=>m.s == s && m.c == c) with
 | some y =>
  rw [q] at e
  cases e
  have:=(h.mv hm).2 y (List.mem_of_find?_eq_some q)
  exact ⟨this.a,this.l,this.sd,this.w⟩
 | none =>
  rw [q] at e
  dsimp only at e
  split at e
  ·cases e
  ·cases e
   exact ⟨hs,by simp,(by intro p hp;cases hp),(by intro x h;cases h)⟩
theorem pS {f:Fm} (h:bR f) {N:Nat} {s:Sd} (k:bf f N s) {d:Dn} (hd:cy f d) {x:Int×List (Int×Str)×Option Str} (e:rp f s d=some x):yu f (mc f d) x:=by
 unfold rp at e
 cases q:cs f s d with
 | none=>rw [q] at e;cases e
 | some c=>rw [q] at e;exact JA h (hd.mc h) (k.Gr (hd.mc h)).2 e
theorem bB:PyData.strOk "hear" = true:=⋯
theorem ay:PyData.strOk "come" = true:=⋯
theorem yv:PyData.strOk "row" = true:=⋯
theorem Bu:PyData.strOk "heap" = true:=⋯
theorem r_:(("own" : Str) == "come")=false:=⋯
theorem pT:(("hear" : Str) == "come")=false:=⋯
theorem nJ:(("come" : Str) == "come")=true:=⋯
theorem Fv:(("own" : Str) == "own")=true:=⋯
theorem JB:(("hear" : Str) == "own")=false:=⋯
theorem JC:(("come" : Str) == "own")=false:=⋯
theorem JD:(("hear" : Str) == "hear")=true:=⋯
theorem JE:(("come" : Str) == "hear")=false:=⋯
theorem s1:(1:Nat)<=sizeLine:=by decide
theorem s2:(2:Nat)<=sizeLine:=by decide
theorem s3:(3:Nat)<=sizeLine:=by decide
theorem s0:(0:Nat)<=sizeLine:=by decide
theorem dw {M:Mem} {ds:List D} {m:Nat} {x:D} (h:ds[m]?=some x):cR (.d (.tup ds)) (.d (.int m)) M=.ok (.d x) M:=ie h
def jc (F:Fn):Prop:=∀ (M:Mem) (f:Fm) (d:Dn),bR f->cy f d->aD (F [cQ f,bE d] M) fun r M'=>M=M'/\r=.d (.int (mc f d))
theorem JF {G:aL}:jc (af G 2 yk):=by
 intro M f d hf hd
 rw [aU]
 show wSs G yk [some (cQ f),some (bE d)] M _ _ _ _
 cases d with
 | own m=>nofun;rw [aQ bw ay,r_];exact ⟨rfl,rfl⟩
 | cG m c=>nofun;rw [aQ bB ay,pT];exact ⟨rfl,rfl⟩
 | a_ r k =>
  obtain ⟨h1,h2⟩:=hf.rd hd
  nofun
  rw [aQ ay ay,nJ]
  nofun
  rw [dw h1]
  refine ⟨rfl,?_⟩
  show W.d (D.int _)=_
  have:=h2.b
  congr 2
  show (road f r).2.1=(((road f r).2.1.toNat:Nat):Int)
  omega
theorem Fw {G:aL}:jc (af G 2 rT):=by
 intro M f d hf hd
 rw [aU]
 show wSs G rT [some (cQ f),some (bE d)] M _ _ _ _
 cases d with
 | own m=>nofun;rw [aQ bw ay,r_];exact ⟨rfl,rfl⟩
 | cG m c=>nofun;rw [aQ bB ay,pT];exact ⟨rfl,rfl⟩
 | a_ r k =>
  obtain ⟨h1,h2⟩:=hf.rd hd
  nofun
  rw [aQ ay ay,nJ]
  nofun
  rw [dw h1]
  refine ⟨rfl,?_⟩
  show W.d (D.int _)=_
  have:=h2.b
  congr 2
  show (road f r).2.1=(((road f r).2.1.toNat:Nat):Int)
  omega
def nK (F:Fn):Prop:=∀ (M:Mem) (i:Int),aD (F [.int i] M) fun r M'=>M=M'/\r=.d (.bl true)
theorem Fx {G:aL}:nK (af G 1 rN):=by
 intro M i
 rw [aU]
 show wSs G rN [some (.int i)] M _ _ _ _
 nofun
 exact ⟨rfl,rfl⟩
def se (F:Fn):Prop:=∀ (M:Mem) (i n:Nat),i < n->aD (F [.int i,.int n] M) fun r M'=>M=M'/\r=.d (.bl true)
theorem Fy {G:aL} {dZ:Nat} (hW:nK (G dZ)):se (af G 2 (rO dZ)):=by
 intro M i n h
 rw [aU]
 show wSs G (rO dZ) [some (.int i),some (.int n)] M _ _ _ _
 nofun
 refine (hW M i).imp ?_
 rintro r M1 ⟨rfl,rfl⟩
 nofun
 rw [decide_eq_true (show (i:Int) < n by omega)]
 exact ⟨rfl,rfl⟩
def yw (F:Fn):Prop:=∀ (M:Mem) (c:Str),cT c->aD (F [.str c] M) fun r M'=>M=M'/\r=.d (.bl true)
theorem JG {G:aL}:yw (af G 1 yj):=by
 intro M c h
 rw [aU]
 show wSs G yj [some (.str c)] M _ _ _ _
 rcases h with rfl | rfl | rfl | rfl <;> (nofun;exact ⟨rfl,rfl⟩)
theorem S0 {M:Mem}:aO .d_ (.d (.int 2)) (.d (.tup [.int 2,.int 3])) M=.ok false M:=yi (ks:=[2,3])
theorem Pw {M:Mem}:aO .d_ (.d (.int 3)) (.d (.tup [.int 2,.int 3])) M=.ok false M:=yi (ks:=[2,3])
def sf (F:Fn):Prop:=∀ (M:Mem) (f:Fm) (d:Dn),bR f->cy f d->aD (F [cQ f,bE d] M) fun r M'=>M=M'/\r=.d (.bl true)
theorem Fz {G:aL} {gT pQ dZ:Nat} (hB:se (G gT)) (hS:yw (G pQ)) (hW:nK (G dZ)):sf (af G 2 (rQ gT pQ dZ)):=by
 intro M f d hf hd
 rw [aU]
 show wSs G (rQ gT pQ dZ) [some (cQ f),some (bE d)] M _ _ _ _
 cases d with
 | own m =>
  nofun
  refine ⟨s2,?_⟩
  nofun
  rw [show (([D.str "own",D.int m].length:Nat):Int)=2 from rfl,S0]
  nofun
  rw [aQ bw bw,Fv]
  nofun
  exact hB M m _ (by rw [aP];exact hd)
 | cG m c =>
  nofun
  refine ⟨s2,?_⟩
  nofun
  rw [show (([D.str "hear",D.int m,D.str c].length:Nat):Int)=3 from rfl,Pw]
  nofun
  rw [aQ bB bB,JD]
  nofun
  refine (hB M m _ (by rw [aP];exact hd.1)).imp ?_
  rintro r M1 ⟨rfl,rfl⟩
  nofun
  exact hS M c hd.2
 | a_ r k =>
  nofun
  refine ⟨s2,?_⟩
  nofun
  rw [show (([D.str "come",D.int r,D.int k].length:Nat):Int)=3 from rfl,Pw]
  nofun
  rw [aQ ay bB,JE]
  nofun
  rw [aQ ay ay,nJ]
  nofun
  refine (hB M r _ (by rw [aP];exact hd)).imp ?_
  rintro r M1 ⟨rfl,rfl⟩
  nofun
  exact hW M k
theorem JH {F:Fn} (hA:ik F) {M:Mem} {f:Fm} (hf:bR f) {m:Nat} (hm:m < f.ru.length) {s:Int} {c:Str} (hc:PyData.strOk c=true):aD (F [cQ f,.int m,.int s,.str c] M) fun r M'=>M=M'/\r=.d (Jw (an (lT f m) s c)):=by
 refine (hA _ M (f.ru.map tY) (f.ro.map qy) ((lT f m).map CK) _ m s c (hf.at hm) (hf.Pu hm) hc).imp fun r M' ⟨e1,e2⟩=>⟨e1,?_⟩
 rw [e2,yt]
theorem yx {F:Fn} (hA:jC F) {M:Mem} {f:Fm} (hf:bR f) {m:Nat} (hm:m < f.ru.length) {s:Int} {c:Str} (hc:PyData.strOk c=true):aD (F [cQ f,.int m,.int s,.str c] M) fun r M'=>Ex M M'/\r=.d (Jw (an (lT f m) s c)):=by
 refine (hA _ M (f.ru.map tY) (f.ro.map qy) ((lT f m).map CK) _ m s c ?_ (hf.at hm) (hf.Pu hm) (by rw [aP];exact (hf.mv hm).1) hc).imp fun r M' ⟨e1,e2⟩=>⟨e1,?_⟩
 ·intro r h
  have:=hf.l8
  exact ⟨h.1,by omega⟩
 ·rw [e2,yt]
def kA (F:Fn):Prop:=∀ (M:Mem) (f:Fm) (N:Nat) (s:Sd) (r:Nat),bf f N s->r < f.ro.length->aD (F [cF s,.int r] M) fun o M'=>M=M'/\o=.lv ((load s r).2.map pD)
theorem FA {G:aL}:kA (af G 2 rP):=by
 intro M f N s r hs hr
 rw [aU]
 show wSs G rP [some (cF s),some (.int r)] M _ _ _ _
 nofun
 rw [dw (hs.vp hr).1]
 exact ⟨rfl,rfl⟩
theorem Od {ds:List D}:cutD ds none (some 1)=ds.take 1:=by
 unfold cutD
 have e1:HT.cH ds.length 0 none=0:=rfl
 have e2:HT.cH ds.length ds.length (some 1)=min 1 ds.length:=by
  show (if (1:Int) < 0 then ((1:Int)+(ds.length:Int)).toNat else min (1:Int).toNat ds.length)=min 1 ds.length
  rw [if_neg (by decide)]
  rfl
 rw [e1,e2]
 cases ds <;> simp
theorem JI {M:Mem} {n:Nat} {ds:List D} (h:M[n]?=some (.lst ds)):jX (.d (.adr n)) none (some 1) M=.ok (.lv (ds.take 1)) M:=by
 unfold jX;simp only [bc,h,Od]
theorem Bv {o:Str} {ps:List (Int×Str)} {N:Nat} (h:ps.length<=N):(sel o ps).length<=N:=by
 unfold sel
 split
 ·rw [List.length_take];omega
 ·exact h
theorem tZ {o:Str} {ps:List (Int×Str)} {p:Int×Str} (h:p∈sel o ps):p∈ps:=by
 unfold sel at h
 split at h
 ·exact List.mem_of_mem_take h
 ·exact h
def JJ:D->Option D
 | .tup [.int i,_]=>some (.int i)
 | _=>none
theorem t5:∀ qs:List (Int×Str),(qs.map pD).filterMap JJ=(qs.map (·.1)).map D.int
 | []=>rfl
 | q::qs=>by
  have:=t5 qs
  rw [List.map_cons,List.filterMap_cons,this]
  rfl
def FC (F:Fn):Prop:=∀ (M:Mem) (f:Fm) (N:Nat) (s:Sd) (r:Nat),bR f->bf f N s->N<=900->r < f.ro.length->aD (F [cQ f,cF s,.int r] M) fun o M'=>o=.lv (((sel (road f r).2.2 (load s r).2).map (·.1)).map D.int)/\Ex M M'
theorem pU {G : aL} {M M0 : Mem} {n : Nat} {ρ : En} {qs : List (Int × Str)} (hM : M[n]? = some (.lst (qs.map pD))) (hl : qs.length <= 900) {P : W -> Mem -> Prop} (q : ∀ M', Ex M M' -> P (.lv ((qs.map (·.1)).map D.int)) M') (Oe : ρ.length = 3) {k : Nat} (hk : k = (qs.map pD).length) :
    aD (aK (fun τ M=>bh G none τ M) (fun τ M=>(ev G (.var 1) τ M).bind own) (.at n) [1,2] k 0 ρ M []) P:=by
  refine lN (ds:=qs.map pD) JJ (by decide) (lO hM) (by rw [aP];exact fH (by omega)) ?_ ?_ hk
  · intro i M' d hd f
    rw [dy] at hd
    cases e:qs[i]? with
    | none=>rw [e] at hd;cases hd
    | some p =>
      rw [e] at hd
      cases hd
      rcases ρ with _|⟨a,_|⟨b,_|⟨c,_|_⟩⟩⟩ <;> simp at Oe
      show _/\_
      exact ⟨rfl,f⟩
  · intro M' f
    rw [t5]
    exact q M' f
theorem Of {G:aL} {cf:Nat} (hW:kA (G cf)):FC (af G 4 (Fo cf)):=by
 intro M f N s r hf hs hN hr
 obtain ⟨h1,h2⟩:=hf.rd hr
 obtain ⟨h3,h4⟩:=hs.vp hr
 have h5:=h4.n
 rw [aU]
 show wSs G (Fo cf) [some (cQ f),some (cF s),some (.int r),none] M _ _ _ _
 nofun
 refine (hW M f N s r hs hr).imp ?_
 rintro o M2 ⟨rfl,rfl⟩
 nofun
 have hM:(M++[MO.lst ((load s r).2.map pD)])[M.length]?=some (.lst ((load s r).2.map pD)):=ah
 rw [dw h1]
 nofun
 rw [aQ h2.ok yv]
 cases hq:((road f r).2.2 == "row") with
 | true =>
  nofun
  rw [JI hM]
  nofun
  have FD:((M++[MO.lst ((load s r).2.map pD)])++[MO.lst (((load s r).2.map pD).take 1)])[(M++[MO.lst ((load s r).2.map pD)]).length]?=some (.lst (((load s r).2.take 1).map pD)):=by rw [List.map_take];exact ah
  rw [dr FD]
  refine pU (M0:=M) FD (by rw [List.length_take];omega) (fun M' fr=>?_) rfl (ni FD)
  refine ⟨?_,Ex.trans (Fr.app (Fr.app (Ex.refl M))) fr⟩
  unfold sel
  rw [hq,if_pos rfl]
 | false =>
  nofun
  rw [dr hM]
  refine pU (M0:=M) hM (by omega) (fun M' fr=>?_) rfl (ni hM)
  refine ⟨?_,Ex.trans (Fr.app (Ex.refl M)) fr⟩
  unfold sel
  rw [hq,if_neg (by simp)]
theorem eP.mono {N N2:Nat} {l:Int×List (Int×Str)} (h:eP N l) (k:N<=N2):eP N2 l:=⟨⟨h.s.1,by have:=h.s.2;omega⟩,by have:=h.n;omega,h.p,h.r⟩
theorem eP.less {N:Nat} {l:Int×List (Int×Str)} (h:eP N l) (k:Int):eP N (less l k) :=
 ⟨h.s,Nat.le_trans (List.length_filter_le _ _) h.n,fun p hp=>h.p p (List.mem_filter.mp hp).1,h.r.filter _⟩
theorem eP.more {N:Nat} {l:Int×List (Int×Str)} (h:eP N l) {c:Str} (hc:cT c):eP (N+1) (more l c):=by
 refine ⟨⟨by show 0<=l.1+1;have:=h.s;omega,by show l.1+1<=_;have:=h.s;omega⟩,by show (l.2++_).length<=_;rw [jM];have:=h.n;simp;omega,?_,?_⟩
 ·intro p hp
  rcases je.mp hp with q | q
  ·obtain ⟨a,b,c⟩:=h.p p q
   exact ⟨a,b,by show p.1 < l.1+1;omega⟩
  ·have:p=(l.1,c):=by simpa using q
   subst this
   exact ⟨hc,h.s.1,by show l.1 < l.1+1;omega⟩
 ·show (l.2++[(l.1,c)]).Pairwise _
  rw [List.pairwise_append]
  refine ⟨h.r,List.pairwise_singleton _ _,fun p hp q hq=>?_⟩
  have:q=(l.1,c):=by simpa using hq
  subst this
  exact (h.p p hp).2.2
theorem nN {α:Type} {P:α->Prop} {l:List α} {i:Nat} {x:α} (h:∀ y∈l,P y) (hx:P x):∀ y∈l.set i x,P y:=fun y hy=>by
 rcases List.mem_or_eq_of_mem_set hy with z | z
 ·exact h y z
 ·rw [z];exact hx
theorem eQ {α:Type} {P:α->Prop} {l:List α} {i:Nat} {d:α} (h:∀ y∈l,P y) (hi:i < l.length):P (l.getD i d):=by
 rw [qt,eD hi]
 exact h _ (List.getElem_mem hi)
theorem lU {ld:List (Int×List (Int×Str))} {d:Dn}:(bT ld d).length=ld.length:=by
 cases d <;> simp [bT]
theorem kB {N:Nat} {ld:List (Int×List (Int×Str))} {d:Dn} (h:∀ l∈ld,eP N l) (hd:∀ r k,d=.a_ r k->r < ld.length):∀ l∈bT ld d,eP N l:=by
 cases d with
 | own m=>exact h
 | cG m c=>exact h
 | a_ r k=>exact nN h ((eQ h (hd r k rfl)).less k)
theorem il {sd:List (Int×Str)}:∀ {ld:List (Int×List (Int×Str))},(send ld sd).length=ld.length:=by
 induction sd with
 | nil=>intro ld;rfl
 | cons p sd ih =>
  intro ld
  show (send (ld.set p.1.toNat (more (ld.getD p.1.toNat (0,[])) p.2)) sd).length=_
  rw [ih,List.length_set]
theorem iR {ld:List (Int×List (Int×Str))} {sd:List (Int×Str)} {p:Int×Str}:send ld (sd++[p])=(send ld sd).set p.1.toNat (more ((send ld sd).getD p.1.toNat (0,[])) p.2):=by
 unfold send
 rw [List.foldl_append]
 rfl
theorem jD {N:Nat} {sd:List (Int×Str)}:∀ {ld:List (Int×List (Int×Str))} {n:Nat},(∀ l∈ld,eP N l)->(∀ p∈sd,cT p.2/\p.1.toNat < ld.length)->sd.length<=n->∀ l∈send ld sd,eP (N+n) l:=by
 induction sd generalizing N with
 | nil=>intro ld n h _ _ l hl;exact (h l hl).mono (by omega)
 | cons p sd ih =>
  intro ld n h hp hn
  obtain ⟨n,rfl⟩:∃ m,n=m+1:=⟨n - 1,by simp at hn;omega⟩
  have h0:=hp p List.mem_cons_self
  rw [show N+(n+1)=N+1+n by omega]
  refine ih (N:=N+1) (ld:=ld.set p.1.toNat (more (ld.getD p.1.toNat (0,[])) p.2)) (n:=n) (nN (fun y hy=>(h y hy).mono (by omega)) ((eQ h h0.2).more h0.1)) (fun q hq=>?_) (by simp at hn;omega)
  rw [List.length_set]
  exact hp q (ix _ hq)
theorem yu.in {f:Fm} {m:Nat} {x:Int×List (Int×Str)×Option Str} (h:yu f m x):∀ p∈x.2.1,cT p.2/\p.1.toNat < f.ro.length:=fun p hp=>by
 obtain ⟨a,b,r,c,_⟩:=h.sd p hp
 exact ⟨a,(dh.mp c).1⟩
theorem bf.Jx {f:Fm} {N:Nat} {s:Sd} {d:Dn} (h:bf f N s) (hd:cy f d) {x:Int×List (Int×Str)×Option Str} (hx:yu f (mc f d) x):bf f (N+3) (Jx f s d x):=by
 have hl:(bT s.ld d).length=f.ro.length:=by rw [lU,h.ll]
 refine ⟨by show (s.st.set _ _).length=_;rw [List.length_set];exact h.ls,nN h.st hx.a,by show (send _ _).length=_;rw [il];exact hl,?_⟩
 refine jD (kB h.ld fun r k e=>?_) (fun p hp=>by rw [hl];exact hx.in p hp) hx.l
 subst e
 rw [h.ll]
 exact hd
theorem JK {o:Option (Int×List (Int×Str)×Option Str)}:(!xQ (Jw o))=o.isSome:=by
 cases o with
 | none=>rfl
 | some x=>obtain ⟨a,b,c⟩:=x;rfl
theorem yy {ps:List (Int×Str)} {k:Int}:(ps.find? fun p=>p.1 == k).isSome=decide (k∈ps.map (·.1)):=by
 rw [Bool.eq_iff_iff,List.find?_isSome,decide_eq_true_eq,la]
 constructor
 ·rintro ⟨p,hp,e⟩;exact ⟨p,hp,by simpa using e⟩
 ·rintro ⟨p,hp,e⟩;exact ⟨p,hp,by simpa using e⟩
theorem fV {f:Fm} {s:Sd} {r:Nat} {k:Int}:cs f s (.a_ r k)=((sel (road f r).2.2 (load s r).2).find? fun p=>p.1 == k).map (·.2):=rfl
theorem yz {f:Fm} {N:Nat} {s:Sd} (hs:bf f N s) {r:Nat} (hr:r < f.ro.length) {k:Int} {c:Str} (h:cs f s (.a_ r k)=some c):cT c:=by
 rw [fV] at h
 cases q:(sel (road f r).2.2 (load s r).2).find? (fun p=>p.1 == k) with
 | none=>rw [q] at h;cases h
 | some p =>
  rw [q] at h
  cases h
  exact ((hs.vp hr).2.p p (tZ (List.mem_of_find?_eq_some q))).1
theorem t6 {f:Fm} {N:Nat} {s:Sd} (hs:bf f N s) {r:Nat} (hr:r < f.ro.length) {k:Int}:cn f s (.a_ r k)=decide (k∈(sel (road f r).2.2 (load s r).2).map (·.1)):=by
 rw [<- yy]
 unfold cn rp
 cases q:cs f s (.a_ r k) with
 | none =>
  rw [fV] at q
  cases z:(sel (road f r).2.2 (load s r).2).find? (fun p=>p.1 == k) with
  | none=>rfl
  | some p=>rw [z] at q;cases q
 | some c =>
  obtain ⟨x,hx⟩:=nI (mv:=lT f (mc f (.a_ r k))) (s:=s.st.getD (mc f (.a_ r k)) 0) (yz hs hr q)
  rw [show ((some c).bind fun c=>an (lT f (mc f (.a_ r k))) (s.st.getD (mc f (.a_ r k)) 0) c)=some x from hx]
  rw [fV] at q
  cases z:(sel (road f r).2.2 (load s r).2).find? (fun p=>p.1 == k) with
  | none=>rw [z] at q;cases q
  | some p=>rfl
theorem FE {M:Mem} {i:Int} {ks:List Int}:aO .isin (.d (.int i)) (.lv (iD ks)) M=.ok (decide (i∈ks)) M:=by
 unfold aO;simp only [yh,bc,nz,gR,nA,and_self,if_true,nB]
def FF (F:Fn):Prop:=∀ (M:Mem) (f:Fm) (N:Nat) (s:Sd) (d:Dn),bR f->bf f N s->N<=900->cy f d->aD (F [cQ f,cF s,bE d] M) fun r M'=>Ex M M'/\r=.d (.bl (cn f s d))
theorem Og {G:aL} {ko kAnswer ym:Nat} (hP:sf (G ko)) (hA:ik (G kAnswer)) (hM:FC (G ym)):FF (af G 3 (Fp ko kAnswer ym)):=by
 intro M f N s d hf hs hN hd
 rw [aU]
 show wSs G (Fp ko kAnswer ym) [some (cQ f),some (cF s),some (bE d)] M _ _ _ _
 nofun
 refine (hP M f d hf hd).imp ?_
 rintro r M1 ⟨rfl,rfl⟩
 cases d with
 | own m =>
  nofun
  rw [aQ bw bw,Fv]
  nofun
  rw [dw (hs.Gr hd).1]
  nofun
  refine (JH hA hf hd bw).imp ?_
  rintro r M2 ⟨rfl,rfl⟩
  nofun
  refine ⟨Ex.refl _,?_⟩
  rw [JK]
  rfl
 | cG m c =>
  nofun
  rw [aQ bB bw,JB]
  nofun
  rw [aQ bB ay,pT]
  nofun
  refine ⟨Ex.refl _,?_⟩
  obtain ⟨x,hx⟩:=nI (mv:=lT f m) (s:=s.st.getD m 0) hd.2
  show W.d (.bl true)=.d (.bl (an (lT f m) (s.st.getD m 0) c).isSome)
  rw [hx]
  rfl
 | a_ r k =>
  nofun
  rw [aQ ay bw,JC]
  nofun
  rw [aQ ay ay,nJ]
  nofun
  refine (hM M f N s r hf hs hN hd).imp ?_
  rintro o M2 ⟨rfl,f2⟩
  nofun
  rw [show ((sel (road f r).2.2 (load s r).2).map (·.1)).map D.int=iD ((sel (road f r).2.2 (load s r).2).map (·.1)) from rfl,FE]
  exact ⟨f2,by rw [t6 hs hd]⟩
def K9 (p:Int×Str):Key×D:=(Sum.inl p.1,.str p.2)
theorem Bw {acc:List (Key×D)} {k:Key} {d:D} (h:∀ a∈acc,a.1≠k):putD acc k d=acc++[(k,d)]:=by
 unfold putD
 rw [if_neg]
 intro z
 rw [List.any_eq_true] at z
 obtain ⟨a,ha,e⟩:=z
 exact h a ha (of_decide_eq_true e)
theorem pV:∀ {ps:List (Int×Str)} {acc:List (Key×D)},(∀ p∈ps,∀ a∈acc,a.1≠(Sum.inl p.1:Key))->(ps.Pairwise fun p q=>p.1 < q.1)->u1 acc (ps.map pD)=some (acc++ps.map K9)
 | [],acc,_,_=>by rw [List.map_nil,List.map_nil,List.append_nil];rfl
 | p::ps,acc,h,hr=>by
  obtain ⟨r1,r2⟩:=List.pairwise_cons.mp hr
  show u1 (putD acc (Sum.inl p.1) (.str p.2)) (ps.map pD)=_
  rw [Bw (h p List.mem_cons_self),pV (ps:=ps) ?_ r2,List.append_assoc]
  ·rfl
  ·intro q hq a ha
   rcases je.mp ha with z | z
   ·exact h q (ix _ hq) a z
   ·have:a=(Sum.inl p.1,.str p.2):=by simpa using z
    subst this
    intro e
    have e:=Sum.inl.inj e
    have:=r1 q hq
    omega
theorem vq {M:Mem} {ps:List (Int×Str)} (h:ps.Pairwise fun p q=>p.1 < q.1):iw .lE [.lv (ps.map pD)] M=.ok (.d (.adr M.length)) (M++[.dK (ps.map K9)]):=by
 unfold iw
 simp only [gf,bc]
 rw [pV (acc:=[]) (fun p _ a ha=>by cases ha) h]
 rfl
theorem FG {M:Mem} {n:Nat} {ps:List (Int×Str)} {k:Int} {p:Int×Str} (hM:M[n]?=some (.dK (ps.map K9))) (h:(ps.find? fun p=>p.1 == k)=some p):cR (.d (.adr n)) (.d (.int k)) M=.ok (.d (.str p.2)) M:=by
 have e:bX (ps.map K9) (Sum.inl k:Key)=some (.str p.2):=by
  unfold bX
  rw [kz (q:=fun p=>p.1 == k) (fun a=>by show decide ((Sum.inl a.1:Key)=Sum.inl k)=_;rw [vK]),h]
  rfl
 unfold cR
 simp only [hM,bc,e]
theorem yA {o:Str} {ps:List (Int×Str)} {k:Int} {p:Int×Str} (h:((sel o ps).find? fun p=>p.1 == k)=some p):(ps.find? fun p=>p.1 == k)=some p:=by
 unfold sel at h
 split at h
 ·cases ps with
  | nil=>cases h
  | cons q ps =>
   rw [show (q::ps).take 1=[q] from rfl] at h
   rw [List.find?_cons] at h ⊢
   cases z:(q.1 == k) with
   | true=>rw [z] at h;exact h
   | false=>rw [z] at h;cases h
 ·exact h
def sg (F:Fn):Prop:=∀ (M:Mem) (f:Fm) (N:Nat) (s:Sd) (d:Dn) (c:Str),bR f->bf f N s->cy f d->cs f s d=some c->aD (F [cF s,bE d] M) fun r M'=>Ex M M'/\r=.d (.str c)
theorem FH {G:aL} {cf:Nat} (hW:kA (G cf)):sg (af G 2 (rR cf)):=by
 intro M f N s d c hf hs hd hc
 rw [aU]
 show wSs G (rR cf) [some (cF s),some (bE d)] M _ _ _ _
 cases d with
 | own m =>
  cases hc
  nofun
  rw [aQ bw bw,Fv]
  exact ⟨Ex.refl _,rfl⟩
 | cG m c' =>
  cases hc
  nofun
  rw [aQ bB bw,JB]
  nofun
  rw [aQ bB bB,JD]
  exact ⟨Ex.refl _,rfl⟩
 | a_ r k =>
  nofun
  rw [aQ ay bw,JC]
  nofun
  rw [aQ ay bB,JE]
  nofun
  refine (hW M f N s r hs hd).imp ?_
  rintro o M1 ⟨rfl,rfl⟩
  nofun
  rw [vq (hs.vp hd).2.r]
  nofun
  rw [fV] at hc
  cases q:(sel (road f r).2.2 (load s r).2).find? (fun p=>p.1 == k) with
  | none=>rw [q] at hc;cases hc
  | some p =>
   rw [q] at hc
   cases hc
   rw [FG ah (yA q)]
   exact ⟨(Ex.refl M).app,rfl⟩
def FI (k:Int):D->Option D
 | .tup [.int i,x]=>if (i == k)=true then none else some (.tup [.int i,x])
 | _=>none
theorem pW {k:Int}:∀ ps:List (Int×Str),(ps.map pD).filterMap (FI k)=(ps.filter fun p=>!(p.1 == k)).map pD
 | []=>rfl
 | p::ps=>by
  have:=pW (k:=k) ps
  rw [List.map_cons,List.filterMap_cons,List.filter_cons,this]
  rw [show FI k (pD p)=if (p.1 == k)=true then none else some (pD p) from rfl]
  cases p.1 == k <;> rfl
theorem pX {G : aL} {M : Mem} {it : It} {ρ : En} {ps : List (Int × Str)} {k : Int} {cond : dQ} (hit : ∀ M', Ex M M' -> ∀ i, i <= (ps.map pD).length -> itemAt M' i it = some (ps.map pD)[i]?) (hl : ps.length <= 1000) {P : W -> Mem -> Prop}
    (hc:∀ (M':Mem) (p:Int×Str) (Q:Bool->Mem->Prop),p∈ps->Q (!(p.1 == k)) M'->ic G (some cond) (ρ.set 1 (some (pD p))) M' Q) (Oe:1 < ρ.length)
    (q:∀ M',Ex M M'->P (.lv ((ps.filter fun p=>!(p.1 == k)).map pD)) M') {n:Nat} (hn:n=(ps.map pD).length) :
    aD (aK (fun τ M=>bh G (some cond) τ M) (fun τ M=>(ev G (.var 1) τ M).bind own) it [1] n 0 ρ M []) P:=by
  refine lN (ds:=ps.map pD) (FI k) (by decide) hit (by rw [aP];exact fH hl) ?_ ?_ hn
  · intro i M' d hd f
    rw [dy] at hd
    cases e:ps[i]? with
    | none=>rw [e] at hd;cases hd
    | some p =>
      rw [e] at hd
      cases hd
      show ic G (some cond) (ρ.set 1 (some (pD p))) M' _
      refine hc M' p _ (jL e) ?_
      have hv:∀ Q:D->Prop,Q (pD p)->E5 (ρ.set 1 (some (pD p)))[1]? Q:=fun Q h=>by
        rw [List.getElem?_set_self Oe]
        exact h
      cases z:(p.1 == k) with
      | true =>
        show _/\_
        refine ⟨?_,f⟩
        show (if (p.1 == k)=true then none else _)=_
        rw [z]
        rfl
      | false =>
        show E5 (ρ.set 1 (some (pD p)))[1]? _
        refine hv _ ?_
        refine ⟨?_,f⟩
        show (if (p.1 == k)=true then none else _)=_
        rw [z]
        rfl
  · intro M' f
    rw [pW]
    exact q M' f
def yB (F:Fn):Prop:=∀ (M:Mem) (l:Int×List (Int×Str)) (k:Int),l.2.length<=1000->aD (F [ff l,.int k] M) fun r M'=>Ex M M'/\r=.d (ff (less l k))
theorem JL {G:aL}:yB (af G 2 yn):=by
 intro M l k hl
 rw [aU]
 show wSs G yn [some (ff l),some (.int k)] M _ _ _ _
 nofun
 refine pX (ps:=l.2) (k:=k) (it:=.items (l.2.map pD)) kl hl ?_ ?_ (fun M' f=>?_) rfl
 ·intro M' p Q _ h
  exact h
 ·show 1 < 3
  decide
 nofun
 exact ⟨s2,f,rfl⟩
def t7 (F:Fn):Prop:=∀ (M:Mem) (l:Int×List (Int×Str)) (c:Str),l.2.length<=1000->aD (F [ff l,.str c] M) fun r M'=>M=M'/\r=.d (ff (more l c))
theorem JM {G:aL}:t7 (af G 2 yo):=by
 intro M l c hl
 rw [aU]
 show wSs G yo [some (ff l),some (.str c)] M _ _ _ _
 nofun
 refine ⟨s2,s1,?_⟩
 nofun
 refine ⟨Nat.le_trans (show (l.2.map pD).length+1<=1001 by rw [aP];omega) (by decide),?_⟩
 nofun
 refine ⟨s2,rfl,?_⟩
 show W.d (.tup [.int (l.1+1),.tup (l.2.map pD++[pD (l.1,c)])])=_
 unfold more ff
 rw [qu]
 rfl
theorem JN {ld:List (Int×List (Int×Str))} {r:Nat} (h:r < ld.length):(ld.map ff)[r]?=some (ff (ld.getD r (0,[]))):=by
 rw [dy,qt,eD h]
 rfl
def jd (F:Fn):Prop:=∀ (M:Mem) (f:Fm) (N:Nat) (s:Sd) (d:Dn) (x:Int×List (Int×Str)×Option Str),bR f->bf f N s->N<=900->cy f d->rp f s d=some x->aD (F [cQ f,cF s,bE d] M) fun r M'=>Ex M M'/\r=.d (.tup [cF (Jx f s d x),Jy f d x])
def JO (gz:Nat):List S:=[.aX [7,8] .seq [(.sub (.var 4) (.cst (.int 1)))] [.put (.var 6) (.var 7) (.call gz [(.sub (.var 6) (.var 7)),(.var 8)])],.asg [9] (.cst .az),.iff (.val (.cmp .eW (.sub (.var 4) (.cst (.int 2))) (.cst .az))) [.asg [9] (.tup [(.var 3),(.sub (.var 4) (.cst (.int 2)))])] [],.ret (.tup [(.tup [(.bi .tuple1 [(.var 5)]),(.bi .tuple1 [(.var 6)])]),(.var 9)])]
def FJ (m:Nat):Option Str->D
 | none=>.az
 | some w=>.tup [.int m,.str w]
theorem iS {G : aL} {gz : Nat} (JP : t7 (G gz)) {M0 M : Mem} {n5 n6 m N : Nat} {o0 o1 o2 o7 o8 o9 : Option D} {a : Int} {sd : List (Int × Str)} {w : Option Str} {st : List Int} {ld : List (Int × List (Int × Str))} {nx : En -> Mem -> Prop} {rt : W -> Mem -> Prop} {bk ct : En -> Mem -> Prop}
    (h5:M[n5]?=some (.lst (st.map D.int))) (h6:M[n6]?=some (.lst (ld.map ff))) (iY:n5≠n6) (Px:M0.length<=n6) (fr:Ex M0 M) (Gk:∀ l∈ld,eP N l) (hN:N<=900) (jB:∀ p∈sd,cT p.2/\0<=p.1/\p.1.toNat < ld.length) (h3:sd.length<=3)
    (q:∀ M',Ex M0 M'->rt (.d (.tup [.tup [.tup (st.map D.int),.tup ((send ld sd).map ff)],FJ m w])) M') :
    wSs G (JO gz) [o0,o1,o2,some (.int m),some (.tup [.int a,.tup (sd.map pD),Fq w]),some (.adr n5),some (.adr n6),o7,o8,o9] M nx rt bk ct:=by
  nofun
  refine dJ (ds:=sd.map pD) (fun i ρ M'=>∃ o7 o8,ρ=[o0,o1,o2,some (.int m),some (.tup [.int a,.tup (sd.map pD),Fq w]),some (.adr n5),some (.adr n6),o7,o8,o9]/\M'[n5]?=some (.lst (st.map D.int))/\M'[n6]?=some (.lst ((send ld (sd.take i)).map ff))/\Ex M0 M') ⟨_,_,rfl,h5,h6,fr⟩ ?_ ?_
  · rintro i ρ M' dd bG ⟨o7,o8,rfl,g5,g6,Bx⟩
    rw [dy] at bG
    cases e:sd[i]? with
    | none=>rw [e] at bG;cases bG
    | some p =>
      rw [e] at bG
      cases bG
      obtain ⟨p1,p2,p3⟩:=jB p (jL e)
      have hi:=(dh.mp e).1
      have vG:p.1.toNat < (send ld (sd.take i)).length:=by rw [il];exact p3
      have aV:=jD (n:=i) Gk (fun q hq=>⟨(jB q (List.mem_of_mem_take hq)).1,(jB q (List.mem_of_mem_take hq)).2.2⟩) (by rw [List.length_take];omega:(sd.take i).length<=i)
      have zZ:=eQ (d:=((0:Int),([]:List (Int×Str)))) aV vG
      have K_:=zZ.n
      nofun
      rw [aZ g6 p2 (JN vG)]
      nofun
      refine (JP M' _ p.2 (by omega)).imp ?_
      rintro r M2 ⟨rfl,rfl⟩
      nofun
      rw [ki g6 p2 (by rw [aP];exact vG)]
      refine ⟨_,_,rfl,aw g5 iY,?_,Bx.set Px⟩
      rw [set_same g6,aT e,iR,<- List.map_set]
  · rintro ρ M' ⟨o7,o8,rfl,g5,g6,Bx⟩
    rw [aP,List.take_length] at g6
    cases w with
    | none =>
      nofun
      rw [br g5]
      nofun
      rw [br g6]
      nofun
      exact ⟨s2,s2,q M' Bx⟩
    | some x =>
      nofun
      refine ⟨s2,?_⟩
      nofun
      rw [br g5]
      nofun
      rw [br g6]
      nofun
      exact ⟨s2,s2,q M' Bx⟩
theorem JQ {G:aL} {eC kAnswer kr pR gz:Nat} (Oh:jc (G eC)) (hA:ik (G kAnswer)) (hC:sg (G kr)) (hL:yB (G pR)) (JP:t7 (G gz)):jd (af G 10 (yp eC kAnswer kr pR gz)):=by
 intro M f N s d x hf hs hN hd hx
 have hm:=hd.mc hf
 have By:=pS hf hs hd hx
 obtain ⟨c,hc,Py⟩:∃ c,cs f s d=some c/\an (lT f (mc f d)) (s.st.getD (mc f d) 0) c=some x:=by
  unfold rp at hx
  cases q:cs f s d with
  | none=>rw [q] at hx;cases hx
  | some c=>rw [q] at hx;exact ⟨c,rfl,hx⟩
 have S1:PyData.strOk c=true:=by
  cases d with
  | own m=>cases hc;exact bw
  | cG m c'=>cases hc;exact hd.2.ok.1
  | a_ r k=>exact (yz hs hd hc).ok.1
 obtain ⟨a,sd,w⟩:=x
 rw [aU]
 show wSs G (yp eC kAnswer kr pR gz) [some (cQ f),some (cF s),some (bE d),none,none,none,none,none,none,none] M _ _ _ _
 nofun
 refine (Oh M f d hf hd).imp ?_
 rintro r M1 ⟨rfl,rfl⟩
 nofun
 rw [dw (hs.Gr hm).1]
 nofun
 refine (hC M f N s d c hf hs hd hc).imp ?_
 rintro r M1 ⟨f1,rfl⟩
 nofun
 refine (JH hA hf hm S1).imp ?_
 rintro r M2 ⟨rfl,rfl⟩
 rw [Py]
 nofun
 have eK:mc f d < (s.st.map D.int).length:=by rw [aP,hs.ls];exact hm
 rw [fT ah eK]
 nofun
 have g5:((M1++[MO.lst (s.st.map D.int)]).set M1.length (.lst ((s.st.map D.int).set (mc f d) (.int a))))[M1.length]?=some (.lst ((s.st.set (mc f d) a).map D.int)):=by rw [set_same ah,List.map_set]
 have jo:Ex M ((M1++[MO.lst (s.st.map D.int)]).set M1.length (.lst ((s.st.map D.int).set (mc f d) (.int a)))):=Fr.set (Fr.app f1) f1.1
 have Bl:=f1.1
 generalize (M1++[MO.lst (s.st.map D.int)]).set M1.length (.lst ((s.st.map D.int).set (mc f d) (.int a)))=M5 at g5 jo ⊢
 have g6:(M5++[MO.lst (s.ld.map ff)])[M5.length]?=some (.lst (s.ld.map ff)):=ah
 have Oi:(M5++[MO.lst (s.ld.map ff)])[M1.length]?=some (.lst ((s.st.set (mc f d) a).map D.int)):=av g5
 have iZ:=ak g5
 have z8:=jo.1
 have jB:∀ (ld:List (Int×List (Int×Str))),ld.length=f.ro.length->∀ p∈sd,cT p.2/\0<=p.1/\p.1.toNat < ld.length:=fun ld hl p hp=>by
  obtain ⟨a,b,r,c,_⟩:=By.sd p hp
  exact ⟨a,b,by rw [hl];exact (dh.mp c).1⟩
 have vH:Jy f d (a,sd,w)=FJ (mc f d) w:=by cases w <;> rfl
 rw [vH]
 cases d with
 | own m =>
  nofun
  rw [aQ bw ay,r_]
  refine iS JP (M0:=M) (ld:=s.ld) (N:=N) Oi g6 (by omega) z8 (Fr.app jo) hs.ld hN (jB _ hs.ll) By.l fun M' fr=>⟨fr,rfl⟩
 | cG m c' =>
  nofun
  rw [aQ bB ay,pT]
  refine iS JP (M0:=M) (ld:=s.ld) (N:=N) Oi g6 (by omega) z8 (Fr.app jo) hs.ld hN (jB _ hs.ll) By.l fun M' fr=>⟨fr,rfl⟩
 | a_ r k =>
  have hr:r < s.ld.length:=by rw [hs.ll];exact hd
  have zZ:=eQ (d:=((0:Int),([]:List (Int×Str)))) hs.ld hr
  have K_:=zZ.n
  nofun
  rw [aQ ay ay,nJ]
  nofun
  rw [bA g6 (JN hr)]
  nofun
  refine (hL _ _ k (by omega)).imp ?_
  rintro o M7 ⟨f7,rfl⟩
  nofun
  have Pz:=Ex.get f7 g6
  rw [fT Pz (by rw [aP];exact hr)]
  refine iS JP (M0:=M) (ld:=bT s.ld (.a_ r k)) (N:=N) (aw (Ex.get f7 Oi) (by omega)) ?_ (by omega) z8 ?_ (kB hs.ld fun r' k' e=>by cases e;exact hr) hN (jB _ (by rw [lU];exact hs.ll)) By.l fun M' fr=>⟨fr,rfl⟩
  ·rw [set_same Pz,<- List.map_set]
   rfl
  ·exact Fr.set (Ex.trans (Fr.app jo) f7) z8
def tD (x:Nat×Int×Str):D:=.tup [.int x.1,.int x.2.1,.str x.2.2]
def fl (f:Fm) (s:Sd):Nat->List (Nat×Int×Str)
 | 0=>[]
 | n+1=>fl f s n++(sel (road f n).2.2 (load s n).2).map fun p=>(n,p.1,p.2)
theorem nO {f:Fm} {s:Sd} {x:Nat×Int×Str}:∀ n,x∈fl f s n↔x.1 < n/\(x.2.1,x.2.2)∈sel (road f x.1).2.2 (load s x.1).2
 | 0=>by simp [fl]
 | n+1=>by
  obtain ⟨r,k,c⟩:=x
  show (r,k,c)∈fl f s n++_↔_
  rw [je,nO n,la]
  constructor
  ·rintro (⟨h1,h2⟩|⟨p,hp,e⟩)
   ·exact ⟨by show r < n+1;have:r < n:=h1;omega,h2⟩
   ·cases e
    exact ⟨by show n < n+1;omega,hp⟩
  ·rintro ⟨h1,h2⟩
   by_cases q:r=n
   ·subst q
    exact .inr ⟨(k,c),h2,rfl⟩
   ·exact .inl ⟨by show r < n;have:r < n+1:=h1;omega,h2⟩
theorem sh {f:Fm} {N:Nat} {s:Sd} (hs:bf f N s):∀ n,n<=f.ro.length->(fl f s n).length<=N * n
 | 0,_=>by simp [fl]
 | n+1,h=>by
  have h1:=sh hs n (by omega)
  have h2:=Bv (o:=(road f n).2.2) (hs.vp (r:=n) (by omega)).2.n
  show (fl f s n++_).length<=_
  rw [jM,aP,Nat.mul_succ]
  omega
theorem t8 {M:Mem} {n:Nat} {xs ys:List D} (h:M[n]?=some (.lst xs)) (hl:xs.length+ys.length<=sizeLine):oX .add (.d (.adr n)) (.lv ys) M=.ok (.lv (xs++ys)) M:=by
 unfold oX;simp only [de,h];rw [if_pos hl]
def JR (r:Nat):D->Option D
 | .tup [.int i,x]=>some (.tup [.int r,.int i,x])
 | _=>none
theorem t9 {r:Nat}:∀ qs:List (Int×Str),(qs.map pD).filterMap (JR r)=(qs.map fun p=>(r,p.1,p.2)).map tD
 | []=>rfl
 | q::qs=>by
  have:=t9 (r:=r) qs
  rw [List.map_cons,List.filterMap_cons,this]
  rfl
theorem pY {G : aL} {M : Mem} {n r : Nat} {qs : List (Int × Str)} (hM : M[n]? = some (.lst (qs.map pD))) (hl : qs.length <= 900) {P : W -> Mem -> Prop} (q : ∀ M', Ex M M' -> P (.lv ((qs.map fun p => (r, p.1, p.2)).map tD)) M') {k : Nat} (hk : k = (qs.map pD).length) :
    aD (aK (fun τ M=>bh G none τ M) (fun τ M=>(ev G (.tup [(.var 3),(.var 1),(.var 2)]) τ M).bind own) (.at n) [1,2] k 0 [none,none,none,some (.int r)] M []) P:=by
  refine lN (ds:=qs.map pD) (JR r) (by decide) (lO hM) (by rw [aP];exact fH (by omega)) ?_ ?_ hk
  · intro i M' d hd f
    rw [dy] at hd
    cases e:qs[i]? with
    | none=>rw [e] at hd;cases hd
    | some p =>
      rw [e] at hd
      cases hd
      nofun
      exact ⟨s3,rfl,f⟩
  · intro M' f
    rw [t9]
    exact q M' f
def jE (F:Fn):Prop:=∀ (M:Mem) (f:Fm) (N:Nat) (s:Sd),bR f->bf f N s->N<=900->aD (F [cQ f,cF s] M) fun r M'=>∃ n,r=.d (.adr n)/\M.length<=n/\M'[n]?=some (.lst ((fl f s f.ro.length).map tD))/\Ex M M'
theorem Bz {G:aL}:jE (af G 5 nF):=by
 intro M f N s hf hs hN
 have h8:=hf.l8
 rw [aU]
 show wSs G nF [some (cQ f),some (cF s),none,none,none] M _ _ _ _
 nofun
 refine ⟨s0,?_⟩
 nofun
 refine ⟨⟨by rw [aP];omega,by rw [aP];omega⟩,?_⟩
 refine eB (n:=((f.ro.map qy).length:Int).toNat) (fun i ρ M'=>∃ o3 o4 n,ρ=[some (cQ f),some (cF s),some (.adr n),o3,o4]/\M.length<=n/\M'[n]?=some (.lst ((fl f s i).map tD))/\Ex M M') ⟨_,_,M.length,rfl,ba _,ah,(Ex.refl M).app⟩ ?_ ?_
 ·rintro i ρ M1 hi ⟨o3,o4,n,rfl,Bm,hn,f1⟩
  have hi:i < f.ro.length:=by rw [aP] at hi;omega
  obtain ⟨h1,h2⟩:=hf.rd hi
  obtain ⟨h3,h4⟩:=hs.vp hi
  have h5:=h4.n
  have VI:=sh hs i (by omega)
  rw [show (0:Int)+(i:Int)=((i:Nat):Int) by omega]
  nofun
  rw [dw h3]
  nofun
  have hM:(M1++[MO.lst ((load s i).2.map pD)])[M1.length]?=some (.lst ((load s i).2.map pD)):=ah
  rw [dw h1]
  nofun
  rw [aQ h2.ok yv]
  have JS:M.length<=M1.length:=f1.1
  have VJ:N * i<=900 * 8:=Nat.mul_le_mul hN (by omega)
  cases hq:((road f i).2.2 == "row") with
  | true =>
   nofun
   rw [JI hM]
   nofun
   have FD:((M1++[MO.lst ((load s i).2.map pD)])++[MO.lst (((load s i).2.map pD).take 1)])[(M1++[MO.lst ((load s i).2.map pD)]).length]?=some (.lst (((load s i).2.take 1).map pD)):=by rw [List.map_take];exact ah
   have qv:((M1++[MO.lst ((load s i).2.map pD)])++[MO.lst (((load s i).2.map pD).take 1)])[n]?=some (.lst ((fl f s i).map tD)):=av (av hn)
   have f2:Ex M ((M1++[MO.lst ((load s i).2.map pD)])++[MO.lst (((load s i).2.map pD).take 1)]):=Fr.app (Fr.app f1)
   have Oj:sel (road f i).2.2 (load s i).2=(load s i).2.take 1:=by unfold sel;rw [hq,if_pos rfl]
   rw [dr FD]
   refine pY (r:=i) FD (by rw [List.length_take];omega) (fun M' fr=>?_) (ni FD)
   nofun
   rw [t8 (Ex.get fr qv) (Nat.le_trans (show _<=900 * 8+1000 by simp only [aP,List.length_take];omega) (by decide))]
   have f3:=Ex.trans f2 fr
   refine ⟨_,_,M'.length,rfl,f3.1,?_,Fr.app f3⟩
   rw [<- qu,<- Oj]
   exact ah
  | false =>
   nofun
   have qv:(M1++[MO.lst ((load s i).2.map pD)])[n]?=some (.lst ((fl f s i).map tD)):=av hn
   have Oj:sel (road f i).2.2 (load s i).2=(load s i).2:=by unfold sel;rw [hq,if_neg (by simp)]
   rw [dr hM]
   refine pY (r:=i) hM (by omega) (fun M' fr=>?_) (ni hM)
   nofun
   rw [t8 (Ex.get fr qv) (Nat.le_trans (show _<=900 * 8+1000 by simp only [aP];omega) (by decide))]
   have f3:Ex M M':=Ex.trans (Fr.app f1) fr
   refine ⟨_,_,M'.length,rfl,f3.1,?_,Fr.app f3⟩
   rw [<- qu]
   show _=some (MO.lst ((fl f s i++(sel (road f i).2.2 (load s i).2).map fun p=>(i,p.1,p.2)).map tD))
   rw [Oj]
   exact ah
 ·rintro ρ M1 ⟨o3,o4,n,rfl,Bm,hn,f1⟩
  nofun
  rw [show ((f.ro.map qy).length:Int).toNat=f.ro.length by rw [aP];omega] at hn
  exact ⟨n,rfl,Bm,hn,f1⟩
theorem BA {M:Mem} {a b c d:Int}:aO .eq (.d (.tup [.int a,.int b])) (.d (.tup [.int c,.int d])) M=.ok (a == c && b == d) M:=by
 have h1:∀ (s c:Int),f_ M (.d (.tup [.int s,.int c]))=some (.tuple [.int s,.int c]):=fun s c=>by
  show cq M 30 (.tup [.int s,.int c])=_
  try simp only [cq,a8,Option.map_some]
 have h2:∀ (s c:Int),SeqAt.shaped (.tuple [.int s,.int c])=true:=fun s c=>by
  unfold SeqAt.shaped
  try simp only [PyData.canLay0.eq_6,PyData.canLayAll0.eq_2,PyData.canLayAll0.eq_1,PyData.canLay0.eq_3,PyData.depth.eq_2,PyData.depthAll.eq_2,PyData.depthAll.eq_1,PyData.depth.eq_6]
  rfl
 unfold aO
 try simp only [h1,h2,and_self,if_true,PyData.eqv.eq_8,PyData.eqvAll.eq_2,PyData.eqvAll.eq_1,PyData.eqv.eq_5,Bool.and_true]
theorem JT {M:Mem} {a b:D}:jY (.d (.tup [a,b])) 2 M=.ok (.d (.tup [a])) M:=by
 unfold jY
 have e:cC [a,b] 2=[a]:=by simp [cC,Builtin.Slice.sliceAdjust,Builtin.Slice.slicePlaces]
 try simp only [e]
 rw [if_pos ⟨.inl trivial,(show (1:Nat)<=sizeLine by decide)⟩]
theorem JU {M:Mem} {a b c:D}:jY (.d (.tup [a,b,c])) 2 M=.ok (.d (.tup [a,c])) M:=by
 unfold jY
 have e:cC [a,b,c] 2=[a,c]:=by simp [cC,Builtin.Slice.sliceAdjust,Builtin.Slice.slicePlaces,List.range_succ]
 try simp only [e]
 rw [if_pos ⟨.inl trivial,(show (2:Nat)<=sizeLine by decide)⟩]
theorem lV {k:Int} {c:Str}:∀ {ps:List (Int×Str)},(ps.Pairwise fun p q=>p.1 < q.1)->(k,c)∈ps->(ps.find? fun p=>p.1 == k)=some (k,c)
 | [],_,h=>by cases h
 | p::ps,hr,h=>by
  obtain ⟨r1,r2⟩:=List.pairwise_cons.mp hr
  rw [List.find?_cons]
  rcases List.mem_cons.mp h with z | z
  ·rw [<- z];simp
  ·have:=r1 _ z
   have iY:(p.1 == k)=false:=by
    have:p.1 < k:=this
    simp;omega
   rw [iY]
   exact lV r2 z
theorem yC {o:Str} {ps:List (Int×Str)} (h:ps.Pairwise fun p q=>p.1 < q.1):(sel o ps).Pairwise fun p q=>p.1 < q.1:=by
 unfold sel
 split
 ·exact h.take
 ·exact h
theorem JV {f:Fm} {N:Nat} {s:Sd} (hs:bf f N s) {r:Nat} (hr:r < f.ro.length) {k:Int} {c:Str} (h:(k,c)∈sel (road f r).2.2 (load s r).2):cs f s (.a_ r k)=some c:=by
 rw [fV,lV (yC (hs.vp hr).2.r) h]
 rfl
theorem FK {f:Fm} {s:Sd} {r:Nat} {k:Int} (h:∀ c,(k,c)∉sel (road f r).2.2 (load s r).2):cs f s (.a_ r k)=none:=by
 rw [fV]
 cases q:(sel (road f r).2.2 (load s r).2).find? (fun p=>p.1 == k) with
 | none=>rfl
 | some p =>
  have h1:=List.mem_of_find?_eq_some q
  have h2:p.1=k:=by simpa using List.find?_some q
  obtain ⟨k',c⟩:=p
  cases h2
  exact absurd h1 (h c)
def iT (F:Fn):Prop:=∀ (M:Mem) (f:Fm) (N:Nat) (s:Sd) (d:Dn),bR f->bf f N s->N<=900->cy f d->aD (F [cQ f,cF s,bE d] M) fun r M'=>Ex M M'/\r=.d (Jw (rp f s d))
theorem FL {G:aL} {lS cP:Nat} (hL:jC (G lS)) (hC:jE (G cP)):iT (af G 7 (rS lS cP)):=by
 intro M f N s d hf hs hN hd
 rw [aU]
 show wSs G (rS lS cP) [some (cQ f),some (cF s),some (bE d),none,none,none,none] M _ _ _ _
 cases d with
 | own m =>
  nofun
  rw [pK bw ay,r_]
  nofun
  rw [dw (hs.Gr hd).1]
  nofun
  rw [show jY (.d (bE (.own m))) 2 M=.ok (.d (.tup [.str "own"])) M from JT]
  nofun
  exact yx hL hf hd bw
 | cG m c =>
  nofun
  rw [pK bB ay,pT]
  nofun
  rw [dw (hs.Gr hd.1).1]
  nofun
  rw [show jY (.d (bE (.cG m c))) 2 M=.ok (.d (.tup [.str "hear",.str c])) M from JU]
  nofun
  exact yx hL hf hd.1 hd.2.ok.1
 | a_ r k =>
  have hd:r < f.ro.length:=hd
  nofun
  rw [pK ay ay,nJ]
  nofun
  refine (hC M f N s hf hs hN).imp ?_
  rintro o M1 ⟨n,rfl,Bm,hn,f1⟩
  nofun
  rw [dr hn]
  refine Be (n:=n) (ds:=(fl f s f.ro.length).map tD) (fun j ρ M'=>∃ o3 o4 o5 o6,M1=M'/\ρ=[some (cQ f),some (cF s),some (.tup [.str "come",.int r,.int k]),o3,o4,o5,o6]/\∀ c,(r,k,c)∉(fl f s f.ro.length).take j) (by rintro j ρ M' ⟨_,_,_,_,e,_⟩;rw [<- e];exact hn) ⟨_,_,_,_,rfl,rfl,(by intro s h;cases h)⟩ ?_ ?_
  ·rintro j ρ M' dd bG ⟨o3,o4,o5,o6,rfl,rfl,BB⟩
   rw [dy] at bG
   cases e:(fl f s f.ro.length)[j]? with
   | none=>rw [e] at bG;cases bG
   | some x =>
    rw [e] at bG
    cases bG
    obtain ⟨r',k',c⟩:=x
    obtain ⟨g1,g2⟩:=(nO f.ro.length).mp (jL e)
    have g1:r' < f.ro.length:=g1
    have g2:(k',c)∈sel (road f r').2.2 (load s r').2:=g2
    nofun
    refine ⟨s2,?_⟩
    show eJ (aO .eq (.d (.tup [.int (r':Nat),.int k'])) (.d (.tup [.int (r:Nat),.int k])) M1) _
    rw [BA]
    cases hq:(((r':Int) == (r:Int)) && (k' == k)) with
    | true =>
     rw [bH,beq_iff_eq,beq_iff_eq] at hq
     have er:r'=r:=by omega
     subst er
     obtain ⟨_,rfl⟩:=hq
     obtain ⟨h1,h2⟩:=hf.rd g1
     have hb:=h2.b
     have hm:=cy.mc hf (d:=.a_ r' k') g1
     have em:(road f r').2.1=((mc f (.a_ r' k'):Nat):Int):=by show _=(((road f r').2.1.toNat:Nat):Int);omega
     nofun
     rw [dw h1]
     nofun
     rw [em,dw (hs.Gr hm).1]
     nofun
     refine (yx hL hf hm ((hs.vp g1).2.p _ (tZ g2)).1.ok.1).imp fun o M2 ⟨f2,e2⟩=>⟨Ex.trans f1 f2,?_⟩
     rw [e2]
     unfold rp
     rw [JV hs g1 g2]
     rfl
    | false =>
     refine ⟨_,_,_,_,rfl,rfl,fun c' ux=>?_⟩
     rw [aT e] at ux
     rcases je.mp ux with z | z
     ·exact BB c' z
     ·have z:(r,k,c')=(r',k',c):=by simpa using z
      cases z
      simp at hq
  ·rintro ρ M' ⟨o3,o4,o5,o6,rfl,rfl,BB⟩
   rw [aP,List.take_length] at BB
   refine ⟨f1,?_⟩
   show W.d .az=_
   unfold rp
   rw [FK fun c hc=>BB c ((nO _).mpr ⟨hd,hc⟩)]
   rfl
def d8 (a b:Int):List Int:=(List.range (b - a).toNat).map fun k=>a+((k:Nat):Int)
theorem ip {a b:Int} (h:b<=a):d8 a b=[]:=by
 unfold d8
 rw [show (b - a).toNat=0 by omega];rfl
theorem fW {a b:Int} (h:a < b):d8 a b=a::d8 (a+1) b:=by
 unfold d8
 obtain ⟨n,hn⟩:∃ n,(b - a).toNat=n+1:=⟨(b - a).toNat - 1,by omega⟩
 rw [hn,show (b - (a+1)).toNat=n by omega,List.range_succ_eq_map,List.map_cons,List.map_map]
 refine congr (congrArg List.cons (by simp)) (List.map_congr_left fun k _=>?_)
 show a+((k+1:Nat):Int)=a+1+(k:Int)
 omega
def nums (l:Int×List (Int×Str)):List Int:=l.2.map (·.1)
def Tail (l:Int×List (Int×Str)):Prop:=nums l=d8 (l.1 - (l.2.length:Int)) l.1
def si (F:Fn):Prop:=∀ (M:Mem) (w:Nat) (T:Int) (o:Str),WA M w T->T < 10000->PyData.strOk o=true->aD (F [.adr w,.str o] M) fun r M'=>∃ l,r=.d (ff l)/\eP 4 l/\((o == "heap")=false->Tail l)/\WA M' w (T+20)/\Fr w M M'
theorem FN {G:aL} {ai:Nat} (hD:dv (G ai)):si (af G 7 (rW ai)):=by
 intro M w T o hw hT ho
 rw [aU]
 show wSs G (rW ai) [some (.adr w),some (.str o),none,none,none,none,none] M _ _ _ _
 nofun
 refine (hD M w T 6 hw (by omega) (by omega) (by omega)).imp ?_
 rintro r M1 ⟨a,rfl,a0,a1,vg,f1⟩
 nofun
 refine (hD M1 w _ (10 ^ 9 - 1000) vg (by omega) (by omega) (by omega)).imp ?_
 rintro r M2 ⟨b,rfl,b0,b1,pM,f2⟩
 nofun
 refine ⟨s3,?_⟩
 nofun
 have hA:(M2++[MO.lst [.int 0,.int a,.int b]])[M2.length]?=some (.lst [.int 0,.int a,.int b]):=ah
 have tR:WA (M2++[MO.lst [.int 0,.int a,.int b]]) w (T+1+1):=pM.app
 have f3:Fr w M (M2++[MO.lst [.int 0,.int a,.int b]]):=(f1.trans f2).app
 have JS:M.length<=M2.length:=(f1.trans f2).1
 have zX:=pM.lt
 generalize M2++[MO.lst [.int 0,.int a,.int b]]=M3 at hA tR f3 ⊢
 refine (hD M3 w _ 5 tR (by omega) (by omega) (by omega)).imp ?_
 rintro r M4 ⟨c,rfl,c0,c1,iQ,f4⟩
 nofun
 refine ⟨⟨by omega,by omega⟩,?_⟩
 have S2:=f4.get hA (by omega)
 obtain ⟨d,hd,s,rfl,S3,VL⟩:∃ d,[D.int 0,.int a,.int b][(c / 2).toNat]?=some d/\∃ s:Int,d=.int s/\0<=s/\s < 1000000000:=pick (ds:=[D.int 0,.int a,.int b]) (k:=3) (fun d hd=>by
  simp only [List.mem_cons,List.mem_nil_iff,or_false] at hd
  rcases hd with rfl | rfl | rfl
  ·exact ⟨0,rfl,by omega,by omega⟩
  ·exact ⟨a,rfl,by omega,by omega⟩
  ·exact ⟨b,rfl,by omega,by omega⟩) (by omega) (by omega) rfl
 nofun
 rw [aZ S2 (i:=c / 2) (by omega) hd]
 nofun
 refine ⟨s0,?_⟩
 nofun
 have f5:=f3.trans f4
 refine (hD (M4++[MO.lst []]) w _ 4 iQ.app (by omega) (by omega) (by omega)).imp ?_
 rintro r M5 ⟨g,rfl,g0,g1,kP,f6⟩
 nofun
 have S4:0<=(if g < s then g else s)/\(if g < s then g else s)<=3/\(if g < s then g else s)<=s:=by split <;> omega
 generalize (if g < s then g else s)=mn at S4
 refine ⟨⟨by omega,by omega⟩,?_⟩
 have CB:M.length<=M4.length:=f5.1
 have Jj:=iQ.lt
 refine eB (n:=mn.toNat) (fun i ρ M'=>∃ o2 x6 ls,∃ ps:List (Int×Str),ρ=[some (.adr w),some (.str o),o2,some (.int s),some (.adr M4.length),some (.int ls),x6]/\M'[M4.length]?=some (.lst (ps.map pD))/\ps.length<=i/\(∀ p∈ps,cT p.2/\0<=p.1/\p.1 < s/\ls<=p.1)/\(ps.Pairwise fun p q=>p.1 < q.1)/\ls<=s/\WA M' w (T+5+2 * i)/\Fr w M M'/\((o == "heap")=false->ls=s - (i:Int)/\ps.length=i/\ps.map (·.1)=d8 ls s)) ⟨_,_,_,[],rfl,f6.get ah (by omega),ba _,(by intro p h;cases h),.nil,y6 _,kP.mono (by omega),f5.app.trans f6,fun _=>⟨by omega,rfl,(ip (y6 _)).symm⟩⟩ ?_ ?_
 ·rintro i ρ M6 hi ⟨o2,x6,ls,ps,rfl,hn,oe,JW,La,S5,k0,f7,ht⟩
  nofun
  rw [aQ ho Bu]
  nofun
  refine (hD M6 w _ 3 k0 (by omega) (by omega) (by omega)).imp ?_
  rintro r M7 ⟨h,rfl,h0,h1,Bj,f8⟩
  have Gs:=f8.get hn (by omega)
  nofun
  have ML:0<=(if (o == "heap")=true then (1:Int) else 0)/\(if (o == "heap")=true then (1:Int) else 0)<=1:=by split <;> omega
  refine ⟨.inr ⟨by omega,by omega⟩,?_⟩
  have hmul:0<=(if (o == "heap")=true then (1:Int) else 0) * h:=Int.mul_nonneg ML.1 h0
  have hz:(o == "heap")=false->(if (o == "heap")=true then (1:Int) else 0) * h=0:=fun q=>by rw [q];simp
  generalize (if (o == "heap")=true then (1:Int) else 0) * h=mm at hmul hz
  nofun
  by_cases Ol:0<=ls - 1 - mm
  ·rw [decide_eq_true Ol]
   nofun
   refine ⟨bJ Gs,?_⟩
   nofun
   refine (hD M7 w _ 4 Bj (by omega) (by omega) (by omega)).imp ?_
   rintro r M8 ⟨q,rfl,q0,q1,Jp,f9⟩
   have Lc:=f9.get Gs (by omega)
   obtain ⟨ch,vB,BC⟩:=Ff (M:=M8) q0 q1
   nofun
   rw [vB]
   nofun
   refine ⟨s2,?_⟩
   nofun
   rw [pJ (x:=.tup [.int (ls - 1 - mm),.str ch]) (i:=0) Lc (aI (by rw [aP];omega)) (by omega) (by omega)]
   refine ⟨_,_,_,(ls - 1 - mm,ch)::ps,rfl,?_,by simp;omega,?_,?_,by omega,(Jp.set (by omega)).mono (by omega),((f7.trans f8).trans f9).set (by omega),fun q=>?_⟩
   ·rw [set_same Lc]
    simp [pD]
   ·intro p hp
    rcases List.mem_cons.mp hp with rfl | hp
    ·exact ⟨BC,Ol,by show ls - 1 - mm < s;omega,y6 _⟩
    ·obtain ⟨a1,a2,a3,a4⟩:=JW p hp
     exact ⟨a1,a2,a3,by omega⟩
   ·refine List.pairwise_cons.mpr ⟨fun p hp=>?_,La⟩
    obtain ⟨a1,a2,a3,a4⟩:=JW p hp
    show ls - 1 - mm < p.1
    omega
   ·have z:=hz q
    obtain ⟨t1,t2,t3⟩:=ht q
    refine ⟨by omega,by simp [t2],?_⟩
    show (ls - 1 - mm)::ps.map (·.1)=_
    rw [t3,z,Int.sub_zero,fW (a:=ls - 1) (by omega),show ls - 1+1=ls by omega]
  ·rw [decide_eq_false Ol]
   refine ⟨_,_,_,ps,rfl,Gs,by omega,fun p hp=>?_,La,by omega,Bj.mono (by omega),f7.trans f8,fun q=>by
    have z:=hz q
    obtain ⟨t1,t2,t3⟩:=ht q
    omega⟩
   obtain ⟨a1,a2,a3,a4⟩:=JW p hp
   exact ⟨a1,a2,a3,by omega⟩
 ·rintro ρ M6 ⟨o2,x6,ls,ps,rfl,hn,oe,JW,La,S5,k0,f7,ht⟩
  nofun
  rw [br hn]
  nofun
  refine ⟨s2,(s,ps),rfl,⟨⟨S3,by show s<=_;omega⟩,by show ps.length<=4;omega,fun p hp=>?_,La⟩,fun q=>?_,k0.mono (by omega),f7⟩
  ·obtain ⟨a1,a2,a3,a4⟩:=JW p hp
   exact ⟨a1,a2,a3⟩
  ·obtain ⟨t1,t2,t3⟩:=ht q
   show ps.map (·.1)=d8 (s - (ps.length:Int)) s
   rw [t3,t2,<- t1]
theorem fJ {α:Type} {P:α->Prop} {acc:List α} {x:α} (h:∀ y∈acc,P y) (hx:P x):∀ y∈acc++[x],P y:=by
 intro y hy
 rcases je.mp hy with z | z
 ·exact h y z
 ·have:y=x:=by simpa using z
  subst this;exact hx
theorem pZ {ds:List D} {M:Mem} {i:Nat}:itemAt M i (.items ds)=some ds[i]?:=rfl
def Tl (f:Fm) (s:Sd):Prop:=∀ r,r < f.ro.length->((road f r).2.2 == "heap")=false->Tail (load s r)
def FO (f:Fm) (ls:List (Int×List (Int×Str))):Prop:=∀ (j:Nat) l,ls[j]?=some l->((road f j).2.2 == "heap")=false->Tail l
theorem FO.snoc {f:Fm} {ls:List (Int×List (Int×Str))} {l:Int×List (Int×Str)} (h:FO f ls) (k:((road f ls.length).2.2 == "heap")=false->Tail l):FO f (ls++[l]):=fun j x e q=>by
 rcases Nat.lt_or_ge j ls.length with z | z
 ·rw [uq z] at e;exact h j x e q
 ·rw [List.getElem?_append_right z] at e
  have hj:j=ls.length:=by
   have:=(dh.mp e).1
   simp only [List.length_cons,List.length_nil] at this
   omega
  subst hj
  simp at e
  subst e
  exact k q
theorem FO.tl {f:Fm} {st:List Int} {ls:List (Int×List (Int×Str))} (h:FO f ls) (hl:ls.length=f.ro.length):Tl f ⟨st,ls⟩:=fun r hr q=>h r _ (by
 show ls[r]?=some (ls.getD r (0,[]))
 rw [qt,eD (by omega)];rfl) q
theorem JX:Tail (0,[]):=rfl
def nP (F:Fn):Prop:=∀ (M:Mem) (ns:List Int) (f:Fm),ns.length<=63->bR f->aD (F [.ls (ns.map D.int),cQ f] M) fun r M'=>∃ s,r=.d (cF s)/\bf f 4 s/\Tl f s/\Ex M M'
theorem BD {G:aL} {bL ai ku:Nat} (hW:lP (G bL)) (hD:dv (G ai)) (hL:si (G ku)):nP (af G 5 (nG bL ai ku)):=by
 intro M ns f iG hf
 have h8:=hf.l8
 have h4:=hf.l4
 rw [aU]
 show wSs G (nG bL ai ku) [some (.ls (ns.map D.int)),some (cQ f),none,none,none] M _ _ _ _
 nofun
 refine (hW M ns 5 (by omega) (by omega) iG).imp ?_
 rintro r M1 ⟨rfl,Bl,vg,f1⟩
 nofun
 refine gy (ds:=f.ro.map qy) (fun i M' acc=>M1=M'/\∃ ls:List (Int×List (Int×Str)),acc=ls.map ff/\ls.length=i/\(∀ l∈ls,eP 4 l)/\FO f ls) (by decide) (fun i M' acc _ _=>pZ) ⟨rfl,[],rfl,rfl,(by intro l h;cases h),(by intro j l h;simp at h)⟩ ?_ ?_ rfl
 ·rintro i M' acc d hd ⟨rfl,ls,rfl,lW,CL,vH⟩
  have hi:=(dh.mp hd).1
  rw [aP] at hi
  refine ⟨aI (by rw [aP];omega),?_⟩
  nofun
  refine ⟨s0,s2,rfl,ls++[(0,[])],by simp [ff],by simp [lW],fJ CL ⟨⟨y6 _,by show (0:Int)<=_;omega⟩,by simp,(by intro p h;cases h),.nil⟩,vH.snoc fun _=>JX⟩
 rintro M' acc ⟨rfl,ls,rfl,lW,CL,vH⟩
 rw [aP] at lW
 nofun
 refine gy (ds:=f.ru.map tY) (fun i M' acc=>M1=M'/\∃ st:List Int,acc=st.map D.int/\st.length=i/\∀ l∈st,0<=l/\l < 100) (by decide) (fun i M' acc _ _=>pZ) ⟨rfl,[],rfl,rfl,(by intro l h;cases h)⟩ ?_ ?_ rfl
 ·rintro i M' acc d hd ⟨rfl,st,rfl,tq,CM⟩
  have hi:=(dh.mp hd).1
  rw [aP] at hi
  refine ⟨aI (by rw [aP];omega),?_⟩
  rw [dy,eD hi] at hd
  cases hd
  have hr:=(hf.ru i _ (eD hi)).1
  nofun
  refine ⟨rfl,st++[f.ru[i].1],by simp,by simp [tq],fJ CM hr⟩
 rintro M' acc ⟨rfl,st,rfl,tq,CM⟩
 rw [aP] at tq
 nofun
 refine (hD M1 M.length 0 3 vg (by omega) (by omega) (by omega)).imp ?_
 rintro r M2 ⟨a,rfl,a0,a1,pM,f2⟩
 nofun
 by_cases ha:0 < a
 ·rw [decide_eq_true ha]
  nofun
  refine gy (ds:=f.ro.map qy) (fun i M' acc=>(WA M' M.length (1+20 * i)/\Fr M.length M M')/\∃ ls:List (Int×List (Int×Str)),acc=ls.map ff/\ls.length=i/\(∀ l∈ls,eP 4 l)/\FO f ls) (by decide) (fun i M' acc _ _=>pZ) ⟨⟨pM.mono (by omega),f1.trans f2⟩,[],rfl,rfl,(by intro l h;cases h),(by intro j l h;simp at h)⟩ ?_ ?_ rfl
  ·rintro i M' acc d hd ⟨⟨tR,f3⟩,ls,rfl,lW,CL,vH⟩
   have hi:=(dh.mp hd).1
   rw [aP] at hi
   refine ⟨aI (by rw [aP];omega),?_⟩
   rw [(hf.rd hi).1] at hd
   cases hd
   nofun
   refine (hL M' M.length _ _ tR (by omega) (hf.rd hi).2.ok).imp ?_
   rintro r M4 ⟨l,rfl,hl,ht,iQ,f4⟩
   nofun
   refine ⟨⟨iQ.mono (by omega),f3.trans f4⟩,ls++[l],by simp,by simp [lW],fJ CL hl,vH.snoc (by rw [lW];exact ht)⟩
  rintro M3 acc ⟨⟨tR,f3⟩,ls,rfl,lW,CL,vH⟩
  rw [aP] at lW tR
  nofun
  refine (hD M3 M.length _ 4 tR (by omega) (by omega) (by omega)).imp ?_
  rintro r M4 ⟨b,rfl,b0,b1,iQ,f4⟩
  nofun
  cases hb:(b == (0:Int)) with
  | true =>
   nofun
   refine gy (ds:=f.ru.map tY) (fun i M' acc=>(WA M' M.length (300+i)/\Fr M.length M M')/\∃ st:List Int,acc=st.map D.int/\st.length=i/\∀ l∈st,0<=l/\l < 100) (by decide) (fun i M' acc _ _=>pZ) ⟨⟨iQ.mono (by omega),f3.trans f4⟩,[],rfl,rfl,(by intro l h;cases h)⟩ ?_ ?_ rfl
   ·rintro i M' acc d hd ⟨⟨kP,f5⟩,st,rfl,tq,CM⟩
    have hi:=(dh.mp hd).1
    rw [aP] at hi
    refine ⟨aI (by rw [aP];omega),?_⟩
    nofun
    refine (hD M' M.length _ 100 kP (by omega) (by omega) (by omega)).imp ?_
    rintro r M6 ⟨c,rfl,c0,c1,k0,f6⟩
    nofun
    refine ⟨⟨k0.mono (by omega),f5.trans f6⟩,st++[c],by simp,by simp [tq],fJ CM ⟨c0,c1⟩⟩
   rintro M5 acc ⟨⟨kP,f5⟩,st,rfl,tq,CM⟩
   rw [aP] at tq
   nofun
   exact ⟨s2,⟨st,ls⟩,rfl,⟨tq,CM,lW,CL⟩,vH.tl lW,f5⟩
  | false =>
   nofun
   exact ⟨s2,⟨st,ls⟩,rfl,⟨tq,CM,lW,CL⟩,vH.tl lW,f3.trans f4⟩
 ·rw [decide_eq_false ha]
  nofun
  exact ⟨s2,⟨st,ls⟩,rfl,⟨tq,CM,lW,CL⟩,vH.tl lW,f1.trans f2⟩
abbrev Ld:=List (Int×List (Int×Str))
structure LA (M0 M:Mem) (n7 n9:Nat) (as b:Nat->Nat) (st:List Int) (ld:Ld):Prop where
 h7:M[n7]?=some (.lst (st.map D.int))
 h9:M[n9]?=some (.lst ((List.range ld.length).map fun i=>D.adr (as i)))
 hl:∀ i l,ld[i]?=some l->M[as i]?=some (.lst [.int l.1,.adr (b i)])/\M[b i]?=some (.lst (l.2.map pD))
 d1:∀ i j,i < ld.length->j < ld.length->as i≠b j
 d2:∀ i j,i < ld.length->j < ld.length->i≠j->as i≠as j/\b i≠b j
 d3:∀ i,i < ld.length->as i≠n7/\b i≠n7/\as i≠n9/\b i≠n9
 ge:∀ i,i < ld.length->M0.length<=as i/\M0.length<=b i
 fr:Ex M0 M
section
variable {M0 M:Mem} {n7 n9:Nat} {as b:Nat->Nat} {st:List Int} {ld:Ld}
theorem LA.PB (h:LA M0 M n7 n9 as b st ld) {r:Nat} (hr:r < ld.length):cR (.d (.adr n9)) (.d (.int r)) M=.ok (.d (.adr (as r))) M :=
 bA h.h9 (by rw [dy,List.getElem?_range hr];rfl)
theorem LA.JY (h:LA M0 M n7 n9 as b st ld) {i:Int} (h0:0<=i) (hr:i.toNat < ld.length):cR (.d (.adr n9)) (.d (.int i)) M=.ok (.d (.adr (as i.toNat))) M:=by
 have:=h.PB hr
 rw [Int.toNat_of_nonneg h0] at this
 exact this
theorem LA.ex {M':Mem} (h:LA M0 M n7 n9 as b st ld) (f:Ex M M'):LA M0 M' n7 n9 as b st ld :=
 ⟨Ex.get f h.h7,Ex.get f h.h9,fun i l hi=>⟨Ex.get f (h.hl i l hi).1,Ex.get f (h.hl i l hi).2⟩,h.d1,h.d2,h.d3,h.ge,Ex.trans h.fr f⟩
theorem LA.app (h : LA M0 M n7 n9 as b st ld) {r : Nat} {l : Int × List (Int × Str)} (hr : ld[r]? = some l) (c : Str) :
    LA M0 ((M.set (b r) (.lst (l.2.map pD++[pD (l.1,c)]))).set (as r) (.lst [.int (l.1+1),.adr (b r)])) n7 n9 as b st (ld.set r (more l c)):=by
  have iZ:=(dh.mp hr).1
  obtain ⟨g1,g2⟩:=h.hl r l hr
  obtain ⟨a7,b7,a9,b9⟩:=h.d3 r iZ
  have Gm:=h.d1 r r iZ iZ
  obtain ⟨ga,gb⟩:=h.ge r iZ
  have hlen:(ld.set r (more l c)).length=ld.length:=List.length_set
  refine ⟨aw (aw h.h7 (Ne.symm b7)) (Ne.symm a7),?_,fun i l' hi=>?_,by rw [hlen];exact h.d1,by rw [hlen];exact h.d2,by rw [hlen];exact h.d3,by rw [hlen];exact h.ge,Fr.set (Fr.set h.fr gb) ga⟩
  · rw [hlen]
    exact aw (aw h.h9 (Ne.symm b9)) (Ne.symm a9)
  · have Gu:i < ld.length:=by rw [<- hlen];exact (dh.mp hi).1
    by_cases e:i=r
    · subst e
      rw [List.getElem?_set_self iZ] at hi
      cases hi
      refine ⟨set_same (aw g1 Gm),?_⟩
      refine aw (u:=.lst [.int (l.1+1),.adr (b i)]) (m:=as i) ?_ (Ne.symm Gm)
      rw [set_same g2]
      unfold more
      rw [qu]
      rfl
    · rw [List.getElem?_set_ne (Ne.symm e)] at hi
      obtain ⟨k1,k2⟩:=h.hl i l' hi
      obtain ⟨x1,x2⟩:=h.d2 i r Gu iZ e
      exact ⟨aw (aw k1 (h.d1 i r Gu iZ)) x1,aw (aw k2 x2) (Ne.symm (h.d1 r i iZ Gu))⟩
theorem LA.cut (h : LA M0 M n7 n9 as b st ld) {r : Nat} {l : Int × List (Int × Str)} (hr : ld[r]? = some l) (k : Int) :
    LA M0 ((M++[MO.lst ((less l k).2.map pD)]).set (as r) (.lst [.int l.1,.adr M.length])) n7 n9 as (fun i=>if i=r then M.length else b i) st (ld.set r (less l k)):=by
  have iZ:=(dh.mp hr).1
  obtain ⟨g1,g2⟩:=h.hl r l hr
  obtain ⟨a7,b7,a9,b9⟩:=h.d3 r iZ
  obtain ⟨ga,gb⟩:=h.ge r iZ
  have hlen:(ld.set r (less l k)).length=ld.length:=List.length_set
  have aM:∀ i,i < ld.length->as i < M.length:=fun i hi=>ak (h.hl i _ (eD hi)).1
  have bM:∀ i,i < ld.length->b i < M.length:=fun i hi=>ak (h.hl i _ (eD hi)).2
  have m7:=ak h.h7
  have m9:=ak h.h9
  have VM:=aM r iZ
  refine ⟨aw (av h.h7) (Ne.symm a7),?_,fun i l' hi=>?_,?_,?_,?_,?_,Fr.set (Fr.app h.fr) ga⟩
  · rw [hlen]
    exact aw (av h.h9) (Ne.symm a9)
  · have Gu:i < ld.length:=by rw [<- hlen];exact (dh.mp hi).1
    by_cases e:i=r
    · subst e
      rw [List.getElem?_set_self iZ] at hi
      cases hi
      simp only [if_true]
      exact ⟨set_same (av g1),aw ah (by omega)⟩
    · rw [List.getElem?_set_ne (Ne.symm e)] at hi
      obtain ⟨k1,k2⟩:=h.hl i l' hi
      obtain ⟨x1,x2⟩:=h.d2 i r Gu iZ e
      simp only [if_neg e]
      exact ⟨aw (av k1) x1,aw (av k2) (Ne.symm (h.d1 r i iZ Gu))⟩
  · rw [hlen]
    intro i j hi hj
    have:=aM i hi
    split
    · omega
    · exact h.d1 i j hi hj
  · rw [hlen]
    intro i j hi hj PC
    have:=bM i hi
    have:=bM j hj
    obtain ⟨x1,x2⟩:=h.d2 i j hi hj PC
    refine ⟨x1,?_⟩
    split <;> split <;> first | omega | exact x2
  · rw [hlen]
    intro i hi
    obtain ⟨x1,x2,x3,x4⟩:=h.d3 i hi
    refine ⟨x1,?_,x3,?_⟩
    · split
      · omega
      · exact x2
    · split
      · omega
      · exact x4
  · rw [hlen]
    intro i hi
    obtain ⟨x1,x2⟩:=h.ge i hi
    refine ⟨x1,?_⟩
    have:=h.fr.1
    split
    · exact this
    · exact x2
end
def JZ:List S:=[.aX [10,11] .seq [(.var 4)] [.expr (.me .append (.sub (.sub (.var 9) (.var 10)) (.cst (.int 1))) [(.tup [(.sub (.sub (.var 9) (.var 10)) (.cst (.int 0))),(.var 11)])]),.put (.sub (.var 9) (.var 10)) (.cst (.int 0)) (.bin .add (.sub (.sub (.var 9) (.var 10)) (.cst (.int 0))) (.cst (.int 1)))],.asg [12] (.bi .tuple1 [(.comp .seq [(.var 9)] [1] none (.tup [(.sub (.var 1) (.cst (.int 0))),(.bi .tuple1 [(.sub (.var 1) (.cst (.int 1)))])]) [none,none])]),.ret (.tup [(.tup [(.bi .tuple1 [(.var 7)]),(.var 12)]),(.ite (.val (.cmp .oV (.var 5) (.cst .az))) (.cst .az) (.tup [(.var 6),(.var 5)]))])]
theorem kC {G : aL} {M0 M : Mem} {n7 n9 m N : Nat} {as b : Nat -> Nat} {o0 o1 o2 o3 o8 fI kE PD : Option D} {sd : List (Int × Str)} {w : Option Str} {st : List Int} {ld : Ld} {nx : En -> Mem -> Prop} {rt : W -> Mem -> Prop} {bk ct : En -> Mem -> Prop}
    (hA:LA M0 M n7 n9 as b st ld) (Gk:∀ l∈ld,eP N l) (hN:N<=900) (jB:∀ p∈sd,cT p.2/\0<=p.1/\p.1.toNat < ld.length) (h3:sd.length<=3) (h8:ld.length<=8)
    (q:∀ M',Ex M0 M'->rt (.d (.tup [.tup [.tup (st.map D.int),.tup ((send ld sd).map ff)],FJ m w])) M') :
    wSs G JZ [o0,o1,o2,o3,some (.tup (sd.map pD)),some (Fq w),some (.int m),some (.adr n7),o8,some (.adr n9),fI,kE,PD] M nx rt bk ct:=by
  nofun
  refine dJ (ds:=sd.map pD) (fun i ρ M'=>∃ fI kE,ρ=[o0,o1,o2,o3,some (.tup (sd.map pD)),some (Fq w),some (.int m),some (.adr n7),o8,some (.adr n9),fI,kE,PD]/\LA M0 M' n7 n9 as b st (send ld (sd.take i))) ⟨_,_,rfl,hA⟩ ?_ ?_
  · rintro i ρ M' dd bG ⟨fI,kE,rfl,hA⟩
    rw [dy] at bG
    cases e:sd[i]? with
    | none=>rw [e] at bG;cases bG
    | some p =>
      rw [e] at bG
      cases bG
      obtain ⟨p1,p2,p3⟩:=jB p (jL e)
      have hi:=(dh.mp e).1
      have vG:p.1.toNat < (send ld (sd.take i)).length:=by rw [il];exact p3
      have aV:=jD (n:=i) Gk (fun q hq=>⟨(jB q (List.mem_of_mem_take hq)).1,(jB q (List.mem_of_mem_take hq)).2.2⟩) (by rw [List.length_take];omega:(sd.take i).length<=i)
      have zZ:=eQ (d:=((0:Int),([]:List (Int×Str)))) aV vG
      have K_:=zZ.n
      have sj:(send ld (sd.take i))[p.1.toNat]?=some ((send ld (sd.take i)).getD p.1.toNat (0,[])):=by rw [qt,eD vG];rfl
      have Le:send ld (sd.take (i+1))=(send ld (sd.take i)).set p.1.toNat (more ((send ld (sd.take i)).getD p.1.toNat (0,[])) p.2):=by rw [aT e,iR]
      rw [Le]
      generalize (send ld (sd.take i)).getD p.1.toNat (0,[])=l at zZ K_ sj ⊢
      obtain ⟨g1,g2⟩:=hA.hl _ _ sj
      have Gm:=hA.d1 _ _ vG vG
      nofun
      rw [hA.JY p2 vG]
      nofun
      rw [aZ g1 (i:=1) (x:=.adr (b p.1.toNat)) (by decide) rfl]
      nofun
      refine ⟨bJ g2,?_⟩
      nofun
      rw [hA.JY p2 vG]
      nofun
      rw [aZ g1 (i:=0) (x:=.int l.1) (by decide) rfl]
      nofun
      refine ⟨s2,?_⟩
      nofun
      rw [cz g2 (aI (by rw [aP];omega))]
      nofun
      have k9:(M'.set (b p.1.toNat) (.lst (l.2.map pD++[.tup [.int l.1,.str p.2]])))[n9]?=some (.lst ((List.range (send ld (sd.take i)).length).map fun i=>D.adr (as i))):=aw hA.h9 (Ne.symm (hA.d3 _ vG).2.2.2)
      have ka:(M'.set (b p.1.toNat) (.lst (l.2.map pD++[.tup [.int l.1,.str p.2]])))[as p.1.toNat]?=some (.lst [.int l.1,.adr (b p.1.toNat)]):=aw g1 Gm
      have PF:cR (.d (.adr n9)) (.d (.int p.1)) (M'.set (b p.1.toNat) (.lst (l.2.map pD++[.tup [.int l.1,.str p.2]])))=.ok (.d (.adr (as p.1.toNat))) (M'.set (b p.1.toNat) (.lst (l.2.map pD++[.tup [.int l.1,.str p.2]]))):=aZ k9 p2 (by rw [dy,List.getElem?_range vG];rfl)
      rw [PF]
      nofun
      rw [aZ ka (i:=0) (x:=.int l.1) (by decide) rfl]
      nofun
      rw [PF]
      nofun
      rw [ki (i:=0) ka (by decide) (show 0 < 2 by decide)]
      exact ⟨_,_,rfl,hA.app sj p.2⟩
  · rintro ρ M' ⟨fI,kE,rfl,hA⟩
    rw [aP,List.take_length] at hA
    have aV:=jD (n:=3) Gk (fun q hq=>⟨(jB q hq).1,(jB q hq).2.2⟩) h3
    have hlen:(send ld sd).length=ld.length:=il
    nofun
    rw [dr hA.h9]
    refine gy (ds:=(List.range (send ld sd).length).map fun i=>D.adr (as i)) (fun i M2 acc=>M'=M2/\acc=((send ld sd).take i).map ff) (by decide) (fun i M2 acc h hi=>lO hA.h9 M2 (by rw [<- h.1];exact Ex.refl _) i hi) ⟨rfl,rfl⟩ ?_ ?_ (ni hA.h9)
    · rintro i M2 acc dd bG ⟨rfl,rfl⟩
      have hi:=(dh.mp bG).1
      rw [aP,List.length_range] at hi
      rw [dy,List.getElem?_range hi] at bG
      cases bG
      obtain ⟨g1,g2⟩:=hA.hl i _ (eD hi)
      refine ⟨aI (by rw [aP,List.length_take];omega),?_⟩
      nofun
      rw [aZ g1 (i:=0) (x:=.int (send ld sd)[i].1) (by decide) rfl]
      nofun
      rw [aZ g1 (i:=1) (x:=.adr (b i)) (by decide) rfl]
      nofun
      rw [br g2]
      nofun
      refine ⟨s2,rfl,?_⟩
      rw [aT (eD hi),qu]
      rfl
    rintro M2 acc ⟨rfl,rfl⟩
    rw [aP,List.length_range,List.take_length]
    nofun
    rw [br hA.h7]
    cases w with
    | none =>
      nofun
      exact ⟨s2,s2,q M' hA.fr⟩
    | some x =>
      nofun
      refine ⟨s2,s2,s2,q M' hA.fr⟩
theorem FP {G:aL} {bp d4:Nat} (hA:iT (G bp)) (Oh:jc (G d4)):jd (af G 13 (rV bp d4)):=by
 intro M f N s d x hf hs hN hd hx
 have hm:=hd.mc hf
 have By:=pS hf hs hd hx
 have h8:=hf.l8
 have lW:=hs.ll
 obtain ⟨a,sd,w⟩:=x
 rw [aU]
 show wSs G (rV bp d4) [some (cQ f),some (cF s),some (bE d),none,none,none,none,none,none,none,none,none,none] M _ _ _ _
 nofun
 refine (hA M f N s d hf hs hN hd).imp ?_
 rintro r M1 ⟨f1,e⟩
 rw [hx] at e
 subst e
 nofun
 refine (Oh M1 f d hf hd).imp ?_
 rintro r M2 ⟨rfl,rfl⟩
 nofun
 have eK:mc f d < (s.st.map D.int).length:=by rw [aP,hs.ls];exact hm
 rw [fT ah eK]
 nofun
 have g7:((M1++[MO.lst (s.st.map D.int)]).set M1.length (.lst ((s.st.map D.int).set (mc f d) (.int a))))[M1.length]?=some (.lst ((s.st.set (mc f d) a).map D.int)):=by rw [set_same ah,List.map_set]
 have wN:Ex M ((M1++[MO.lst (s.st.map D.int)]).set M1.length (.lst ((s.st.map D.int).set (mc f d) (.int a)))):=Fr.set (Fr.app f1) f1.1
 have Bl:=f1.1
 have S6:=ak g7
 generalize (M1++[MO.lst (s.st.map D.int)]).set M1.length (.lst ((s.st.map D.int).set (mc f d) (.int a)))=M5 at g7 wN S6 ⊢
 have Om:=wN.1
 have jB:∀ (ld:Ld),ld.length=f.ro.length->∀ p∈sd,cT p.2/\0<=p.1/\p.1.toNat < ld.length:=fun ld hl p hp=>by
  obtain ⟨a,b,r,c,_⟩:=By.sd p hp
  exact ⟨a,b,by rw [hl];exact (dh.mp c).1⟩
 have vH:Jy f d (a,sd,w)=FJ (mc f d) w:=by cases w <;> rfl
 rw [vH]
 refine gy (ds:=s.ld.map ff) (fun i M' acc=>acc=(List.range i).map (fun j=>D.adr (M5.length+2 * j+1))/\M'.length=M5.length+2 * i/\(∀ j l,j < i->s.ld[j]?=some l->M'[M5.length+2 * j+1]?=some (.lst [.int l.1,.adr (M5.length+2 * j)])/\M'[M5.length+2 * j]?=some (.lst (l.2.map pD)))/\Ex M5 M') (by decide) (fun i M' acc _ _=>pZ) ⟨rfl,rfl,(by intro j l h;omega),Ex.refl _⟩ ?_ ?_ rfl
 ·rintro i M' acc dd bG ⟨rfl,hl,hj,fr⟩
  have hi:=(dh.mp bG).1
  rw [aP] at hi
  rw [dy,eD hi] at bG
  cases bG
  refine ⟨aI (by rw [aP,List.length_range];omega),?_⟩
  nofun
  refine ⟨s2,?_⟩
  nofun
  have zc:(M'++[MO.lst (s.ld[i].2.map pD)]).length=M5.length+2 * i+1:=by rw [jM,hl];rfl
  refine ⟨?_,by rw [jM,zc];simp;omega,?_,Fr.app (Fr.app fr)⟩
  ·rw [List.range_succ,qu,zc]
   rfl
  ·intro j l VN Oo
   by_cases e:j=i
   ·subst e
    rw [eD hi] at Oo
    cases Oo
    rw [<- zc,<- hl]
    exact ⟨ah,av ah⟩
   ·obtain ⟨k1,k2⟩:=hj j l (by omega) Oo
    exact ⟨av (av k1),av (av k2)⟩
 rintro M6 acc ⟨rfl,hl,hj,fr⟩
 rw [aP] at hl hj ⊢
 have CN:LA M (M6++[MO.lst ((List.range s.ld.length).map fun j=>D.adr (M5.length+2 * j+1))]) M1.length M6.length (fun j=>M5.length+2 * j+1) (fun j=>M5.length+2 * j) (s.st.set (mc f d) a) s.ld:=by
  refine ⟨av (Ex.get fr g7),ah,fun i l hi=>?_,fun i j hi hj=>?_,fun i j hi hj PC=>⟨?_,?_⟩,fun i hi=>⟨?_,?_,?_,?_⟩,fun i hi=>⟨?_,?_⟩,Fr.app (Ex.trans wN fr)⟩
  ·obtain ⟨k1,k2⟩:=hj i l (dh.mp hi).1 hi
   exact ⟨av k1,av k2⟩
  all_goals (try dsimp only)
  all_goals omega
 cases d with
 | own m =>
  nofun
  rw [aQ bw ay,r_]
  exact kC CN hs.ld hN (jB _ lW) By.l (by omega) fun M2 f2=>⟨f2,rfl⟩
 | cG m c' =>
  nofun
  rw [aQ bB ay,pT]
  exact kC CN hs.ld hN (jB _ lW) By.l (by omega) fun M2 f2=>⟨f2,rfl⟩
 | a_ r k =>
  have hr:r < s.ld.length:=by rw [hs.ll];exact hd
  have zZ:=eQ (d:=((0:Int),([]:List (Int×Str)))) hs.ld hr
  have K_:=zZ.n
  have sj:s.ld[r]?=some (s.ld.getD r (0,[])):=by rw [qt,eD hr];rfl
  have hle:bT s.ld (.a_ r k)=s.ld.set r (less (s.ld.getD r (0,[])) k):=rfl
  nofun
  rw [aQ ay ay,nJ]
  generalize M6++[MO.lst ((List.range s.ld.length).map fun j=>D.adr (M5.length+2 * j+1))]=M7 at CN ⊢
  obtain ⟨as,b,CN⟩:∃ as b,LA M M7 M1.length M6.length as b (s.st.set (mc f (.a_ r k)) a) s.ld:=⟨_,_,CN⟩
  nofun
  rw [CN.PB hr]
  obtain ⟨g1,g2⟩:=CN.hl _ _ sj
  nofun
  rw [aZ g1 (i:=1) (x:=.adr (b r)) (by decide) rfl]
  nofun
  rw [dr g2]
  refine pX (ps:=(s.ld.getD r (0,[])).2) (k:=k) (it:=.at (b r)) (lO g2) (by omega) ?_ ?_ (fun M8 f8=>?_) (ni g2)
  ·intro M' p Q _ h
   exact h
  ·show 1 < 3
   decide
  have PH:=CN.ex f8
  have S7:=(PH.hl _ _ sj).1
  nofun
  rw [ki (i:=1) (av S7) (by decide) (show 1 < 2 by decide)]
  have S8:=PH.cut sj k
  refine kC S8 (kB (d:=.a_ r k) hs.ld fun r' k' e=>by cases e;exact hr) hN (jB _ (by rw [List.length_set];exact lW)) By.l (by rw [List.length_set];omega) fun M2 f2=>⟨f2,rfl⟩
def t_:Dn->PyData
 | .own m=>.tuple [.str "own",.int m]
 | .cG m c=>.tuple [.str "hear",.int m,.str c]
 | .a_ r k=>.tuple [.str "come",.int r,.int k]
theorem J0 {M:Mem} {n:Nat} {d:Dn} (h:1<=n):cq M n (bE d)=some (t_ d):=by
 obtain ⟨n,rfl⟩:∃ m,n=m+1:=⟨n - 1,by omega⟩
 cases d <;> (show cq M (n+1) (.tup _)=_;try simp only [cq,a8,Option.map_some];try rfl)
theorem sk {M:Mem} {n:Nat} (h:1<=n):∀ ds:List Dn,a8 M n (ds.map bE)=some (ds.map t_)
 | []=>by rw [List.map_nil];unfold a8;rfl
 | d::ds=>by
  rw [List.map_cons]
  unfold a8
  rw [J0 h,sk h ds]
  rfl
def J1:Dn->Prop
 | .cG _ c=>PyData.strOk c=true
 | _=>True
theorem cy.s {f:Fm} {d:Dn} (h:cy f d):J1 d:=by
 cases d with
 | own m=>trivial
 | cG m c=>exact h.2.ok.1
 | a_ r k=>trivial
theorem FQ {d:Dn} (h:J1 d):PyData.canLay0 (t_ d)=true/\PyData.depth (t_ d)<=1:=by
 cases d with
 | own m =>
  unfold t_
  simp only [PyData.canLay0.eq_6,PyData.canLayAll0.eq_2,PyData.canLayAll0.eq_1,PyData.canLay0.eq_3,PyData.canLay0.eq_4,bw,PyData.depth.eq_2,PyData.depthAll.eq_2,PyData.depthAll.eq_1,PyData.depth.eq_6,PyData.depth.eq_7]
  decide
 | cG m c =>
  have h:PyData.strOk c=true:=h
  unfold t_
  simp only [PyData.canLay0.eq_6,PyData.canLayAll0.eq_2,PyData.canLayAll0.eq_1,PyData.canLay0.eq_3,PyData.canLay0.eq_4,bB,h,PyData.depth.eq_2,PyData.depthAll.eq_2,PyData.depthAll.eq_1,PyData.depth.eq_6,PyData.depth.eq_7]
  decide
 | a_ r k =>
  unfold t_
  simp only [PyData.canLay0.eq_6,PyData.canLayAll0.eq_2,PyData.canLayAll0.eq_1,PyData.canLay0.eq_3,PyData.canLay0.eq_4,ay,PyData.depth.eq_2,PyData.depthAll.eq_2,PyData.depthAll.eq_1,PyData.depth.eq_6,PyData.depth.eq_7]
  decide
theorem ua:∀ {ds:List Dn},(∀ d∈ds,J1 d)->PyData.canLayAll0 (ds.map t_)=true/\PyData.depthAll (ds.map t_)<=1
 | [],_=>by rw [List.map_nil,PyData.canLayAll0.eq_1,PyData.depthAll.eq_1];decide
 | d::ds,h=>by
  obtain ⟨a1,a2⟩:=FQ (h d List.mem_cons_self)
  obtain ⟨b1,b2⟩:=ua (ds:=ds) fun x hx=>h x (ix _ hx)
  rw [List.map_cons,PyData.canLayAll0.eq_2,PyData.depthAll.eq_2,a1,b1]
  exact ⟨rfl,by omega⟩
theorem yD {ds:List Dn} (h:∀ d∈ds,J1 d):SeqAt.shaped (.list (ds.map t_))=true:=by
 obtain ⟨a,b⟩:=ua h
 unfold SeqAt.shaped
 rw [PyData.canLay0.eq_5,a,PyData.depth.eq_1,Bool.true_and]
 exact decide_eq_true (by omega)
theorem yE {M:Mem} {n:Nat} {ds:List Dn} (hM:M[n]?=some (.lst (ds.map bE))) (h:∀ d∈ds,J1 d):aO .ne (.d (.adr n)) (.lv []) M=.ok (!ds.isEmpty) M:=by
 have h1:f_ M (.d (.adr n))=some (.list (ds.map t_)):=by
  show cq M 30 (.adr n)=_
  unfold cq
  try simp only [hM]
  rw [sk (by decide) ds]
  rfl
 have h2:f_ M (.lv [])=some (.list []):=by show (a8 M 30 []).map _=_;unfold a8;rfl
 have h3:=yD h
 have h4:SeqAt.shaped (.list [])=true:=⋯
 unfold aO
 try simp only [h1,h2,h3,h4,and_self,if_true,PyData.eqv.eq_7]
 cases ds with
 | nil=>rw [List.map_nil,PyData.eqvAll.eq_1];rfl
 | cons d ds =>
  have:PyData.eqvAll (t_ d::ds.map t_) []=false:=by simp only [PyData.eqvAll]
  rw [List.map_cons,this];rfl
def PJ:D->Option D
 | .tup [a,b,_]=>some (.tup [.str "come",a,b])
 | _=>none
def cm (f:Fm) (s:Sd):List Dn:=(fl f s f.ro.length).map fun x=>.a_ x.1 x.2.1
theorem yF:∀ l:List (Nat×Int×Str),(l.map tD).filterMap PJ=(l.map fun x=>Dn.a_ x.1 x.2.1).map bE
 | []=>rfl
 | x::l=>by
  have:=yF l
  rw [List.map_cons,List.filterMap_cons,this]
  rfl
theorem yG {f:Fm} {N:Nat} {s:Sd} (hs:bf f N s) {d:Dn} (h:d∈cm f s):cy f d/\cn f s d=true:=by
 obtain ⟨⟨r,k,c⟩,hx,rfl⟩:=la.mp h
 obtain ⟨h1,h2⟩:=(nO _).mp hx
 refine ⟨h1,?_⟩
 rw [t6 hs h1]
 exact decide_eq_true (la.mpr ⟨_,h2,rfl⟩)
theorem yH {f:Fm} {N:Nat} {s:Sd} (hf:bR f) (hs:bf f N s) (hN:N<=900):(cm f s).length<=7200:=by
 unfold cm
 rw [aP]
 exact Nat.le_trans (sh hs _ (ba _)) (Nat.mul_le_mul hN hf.l8)
theorem BE {G : aL} {M : Mem} {n : Nat} {f : Fm} {s : Sd} (hM : M[n]? = some (.lst ((fl f s f.ro.length).map tD))) (hl : (fl f s f.ro.length).length <= 7200) {P : W -> Mem -> Prop} (q : ∀ M', Ex M M' -> P (.lv ((cm f s).map bE)) M') {k : Nat} (hk : k = ((fl f s f.ro.length).map tD).length) :
    aD (aK (fun τ M=>bh G none τ M) (fun τ M=>(ev G (.tup [(.cst (.str "come")),(.var 1),(.var 2)]) τ M).bind own) (.at n) [1,2,3] k 0 [none,none,none,none] M []) P:=by
  refine lN (ds:=(fl f s f.ro.length).map tD) PJ (by decide) (lO hM) (by rw [aP];exact Nat.le_trans hl (by decide)) ?_ ?_ hk
  · intro i M' d hd fr
    rw [dy] at hd
    cases e:(fl f s f.ro.length)[i]? with
    | none=>rw [e] at hd;cases hd
    | some p =>
      rw [e] at hd
      cases hd
      nofun
      exact ⟨s3,rfl,fr⟩
  · intro M' fr
    rw [yF]
    exact q M' fr
theorem WA.ex {M M':Mem} {w:Nat} {T:Int} (h:WA M w T) (f:Ex M M'):WA M' w T:=h.fr f (by have:=h.lt;omega)
theorem CO {ds:List Dn} {i:Int} (h0:0<=i) (h1:i < ds.length):∃ d,d∈ds/\(ds.map bE)[i.toNat]?=some (bE d):=by
 have hl:i.toNat < ds.length:=by omega
 exact ⟨ds[i.toNat],List.getElem_mem hl,by rw [dy,eD hl];rfl⟩
def so (F:Fn):Prop:=∀ (M:Mem) (w:Nat) (T:Int) (f:Fm) (N:Nat) (s:Sd),WA M w T->T < 10000->bR f->bf f N s->N<=900->aD (F [.adr w,cQ f,cF s] M) fun r M'=>∃ d,r=.d (bE d)/\cy f d/\cn f s d=true/\Fr w M M'
theorem FR {G:aL} {cP bp ai:Nat} (hC:jE (G cP)) (hA:iT (G bp)) (hD:dv (G ai)):so (af G 7 (rX cP bp ai)):=by
  intro M w T f N s hw hT hf hs hN
  have h4:=hf.l4
  have h1:=hf.l1
  have zX:=hw.lt
  rw [aU]
  show wSs G (rX cP bp ai) [some (.adr w),some (cQ f),some (cF s),none,none,none,none] M _ _ _ _
  nofun
  refine (hC M f N s hf hs hN).imp ?_
  rintro o M1 ⟨n,rfl,Bm,hn,f1⟩
  nofun
  rw [dr hn]
  refine BE hn (by have:=yH hf hs hN;unfold cm at this;rw [aP] at this;exact this) (fun M2 f2=>?_) (ni hn)
  have J2:=Ex.trans f1 f2
  nofun
  refine ⟨s0,?_⟩
  nofun
  refine ⟨⟨by rw [aP];omega,by rw [aP];omega⟩,?_⟩
  have vC:(M2++[MO.lst ((cm f s).map bE)])[M2.length]?=some (.lst ((cm f s).map bE)):=ah
  have zc:=J2.1
  have jF:Fr w M (M2++[MO.lst ((cm f s).map bE)]):=Fr.app ((Fr.refl w M).back J2 (.inl (ba _)))
  have pM:WA (M2++[MO.lst ((cm f s).map bE)]) w T:=(hw.ex J2).app
  have hlen:(M2++[MO.lst ((cm f s).map bE)]).length=M2.length+1:=by simp
  generalize (M2++[MO.lst ((cm f s).map bE)])=M3 at vC jF pM hlen ⊢
  generalize M2.length=n3 at vC zc hlen ⊢
  refine eB (n:=((f.ru.map tY).length:Int).toNat) (fun i ρ M'=>∃ o5,∃ ms:List Dn,ρ=[some (.adr w),some (cQ f),some (cF s),some (.adr n3),some (.adr M3.length),o5,none]/\M'[n3]?=some (.lst ((cm f s).map bE))/\M'[M3.length]?=some (.lst (ms.map bE))/\ms.length<=i/\(∀ d∈ms,cy f d/\cn f s d=true)/\WA M' w T/\Fr w M M') ⟨_,[],rfl,av vC,ah,ba _,(by intro d h;cases h),pM.app,jF.app⟩ ?_ ?_
  · rintro i ρ M' hi ⟨o5,ms,rfl,hc,hm,JS,BF,Jv,Bx⟩
    have hi:i < f.ru.length:=by rw [aP] at hi;omega
    have aV:cy f (.own i):=hi
    rw [show (0:Int)+(i:Int)=((i:Nat):Int) by omega]
    nofun
    refine ⟨s2,?_⟩
    nofun
    refine (hA M' f N s (.own i) hf hs hN aV).imp ?_
    rintro r M4 ⟨f4,rfl⟩
    have PK:=Ex.get f4 hc
    have CB:=Ex.get f4 hm
    have fU:=Bx.back f4 (.inl Bx.1)
    have iQ:=Jv.ex f4
    nofun
    rw [JK]
    cases S9:(rp f s (.own i)).isSome with
    | true =>
      nofun
      refine ⟨bJ CB,?_⟩
      nofun
      refine ⟨s2,?_⟩
      nofun
      rw [cz CB (aI (by rw [aP];omega))]
      refine ⟨_,ms++[.own i],rfl,aw PK (by omega),?_,by simp;omega,fJ (x:=Dn.own i) BF ⟨aV,S9⟩,iQ.set (by have:=jF.1;omega),fU.set (by have:=jF.1;omega)⟩
      rw [set_same CB,qu]
      rfl
    | false =>
      exact ⟨_,ms,rfl,PK,CB,by omega,BF,iQ,fU⟩
  rintro ρ M' ⟨o5,ms,rfl,hc,hm,JS,BF,Jv,Bx⟩
  have JS:ms.length<=4:=by rw [aP] at JS;omega
  have KW:=yH hf hs hN
  have VO:=jF.1
  nofun
  refine (hD M' w T 8 Jv (by omega) (by omega) (by omega)).imp ?_
  rintro r M5 ⟨wy,rfl,y0,y1,kP,f5⟩
  have Oq:=f5.get hc (by omega)
  have Ot:=f5.get hm (by omega)
  have jo:=Bx.trans f5
  nofun
  refine ⟨s0,?_⟩
  nofun
  rw [yE Oq fun d hd=>(yG hs hd).1.s]
  have second : wSs G [.iff (.dj [(.val (.cmp .ne (.var 4) (.lst []))), (.val (.cmp .lt (.var 6) (.cst (.int 7))))]) [.ret (.sub (.var 4) (.call ai [(.var 0), (.bi .len [(.var 4)])]))] [], .ret (.tup [(.cst (.str "hear")), (.call ai [(.var 0), (.bi .len [(.sub (.var 1) (.cst (.int 0)))])]), (.sub (.cst (.str "abcz")) (.call ai [(.var 0), (.cst (.int 4))]))])]
      [some (.adr w),some (cQ f),some (cF s),some (.adr n3),some (.adr M3.length),o5,some (.int wy)] M5 (fun ρ M'=>∃ d,W.d D.az=.d (bE d)/\cy f d/\cn f s d=true/\Fr w M M') (fun r M'=>∃ d,r=.d (bE d)/\cy f d/\cn f s d=true/\Fr w M M') (fun _ _=>False) (fun _ _=>False):=by
    have CP : wSs G [.ret (.tup [(.cst (.str "hear")), (.call ai [(.var 0), (.bi .len [(.sub (.var 1) (.cst (.int 0)))])]), (.sub (.cst (.str "abcz")) (.call ai [(.var 0), (.cst (.int 4))]))])]
        [some (.adr w),some (cQ f),some (cF s),some (.adr n3),some (.adr M3.length),o5,some (.int wy)] M5 (fun ρ M'=>∃ d,W.d D.az=.d (bE d)/\cy f d/\cn f s d=true/\Fr w M M') (fun r M'=>∃ d,r=.d (bE d)/\cy f d/\cn f s d=true/\Fr w M M') (fun _ _=>False) (fun _ _=>False):=by
      nofun
      refine (hD M5 w _ ((f.ru.map tY).length:Int) kP (by omega) (by rw [aP];omega) (by rw [aP];omega)).imp ?_
      rintro r M6 ⟨i,rfl,i0,i1,k0,f6⟩
      nofun
      refine (hD M6 w _ 4 k0 (by omega) (by omega) (by omega)).imp ?_
      rintro r M7 ⟨j,rfl,j0,j1,Bj,f7⟩
      obtain ⟨c,hc,BC⟩:=Ff (M:=M7) j0 j1
      nofun
      rw [hc]
      nofun
      rw [aP] at i1
      refine ⟨s3,.cG i.toNat c,?_,⟨by omega,BC⟩,?_,(jo.trans f6).trans f7⟩
      · show W.d (.tup [.str "hear",.int i,.str c])=.d (.tup [.str "hear",.int (i.toNat:Nat),.str c])
        rw [Int.toNat_of_nonneg i0]
      · obtain ⟨x,hx⟩:=nI (mv:=lT f i.toNat) (s:=s.st.getD i.toNat 0) BC
        show (an (lT f i.toNat) (s.st.getD i.toNat 0) c).isSome=true
        rw [hx]
        rfl
    nofun
    refine ⟨s0,?_⟩
    nofun
    rw [yE Ot fun d hd=>(BF d hd).1.s]
    cases ms with
    | nil=>exact CP
    | cons d0 ms =>
      nofun
      by_cases hy:wy < 7
      · rw [decide_eq_true hy]
        nofun
        rw [da Ot]
        nofun
        refine (hD M5 w _ (((d0::ms).map bE).length:Int) kP (by omega) (by rw [aP,List.length_cons];omega) (by rw [aP];omega)).imp ?_
        rintro r M6 ⟨i,rfl,i0,i1,k0,f6⟩
        rw [aP] at i1
        obtain ⟨d,hd,hg⟩:=CO i0 i1
        nofun
        rw [aZ (f6.get Ot (by omega)) i0 hg]
        exact ⟨d,rfl,(BF d hd).1,(BF d hd).2,jo.trans f6⟩
      · rw [decide_eq_false hy]
        exact CP
  cases PL:(cm f s).isEmpty with
  | true=>exact second
  | false =>
    nofun
    by_cases hy:wy < 4
    · rw [decide_eq_true hy]
      nofun
      rw [da Oq]
      nofun
      have S_:0 < (cm f s).length:=by
        cases hz:cm f s with
        | nil=>rw [hz] at PL;cases PL
        | cons a b=>simp
      refine (hD M5 w _ (((cm f s).map bE).length:Int) kP (by omega) (by rw [aP];omega) (by rw [aP];omega)).imp ?_
      rintro r M6 ⟨i,rfl,i0,i1,k0,f6⟩
      rw [aP] at i1
      obtain ⟨d,hd,hg⟩:=CO i0 i1
      nofun
      rw [aZ (f6.get Oq (by omega)) i0 hg]
      exact ⟨d,rfl,(yG hs hd).1,(yG hs hd).2,jo.trans f6⟩
    · rw [decide_eq_false hy]
      exact second
end Ev
end
section
namespace Ev
open PySem
def su (yI:Nat) (p0:Nat):List S:=[.asg [3] (.lst []),.asg [4] (.var 1),.aX [5,6] .enum [(.var 2)] [.iff (.neg (.val (.call yI [(.var 0),(.var 4),(.var 6)]))) [.never] [],.asg [7] (.call p0 [(.var 0),(.var 4),(.var 6)]),.asg [4] (.sub (.var 7) (.cst (.int 0))),.expr (.me .append (.var 3) [(.var 7)])],.ret (.var 3)]
def nQ (bL:Nat) (ai:Nat) (kF:Nat) (bY:Nat):List S:=[.asg [4] (.call bL [(.var 0),(.cst (.int 6))]),.asg [5] (.lst []),.asg [6] (.lst [(.call ai [(.var 4),(.cst (.int 13))]),(.bin .add (.cst (.int 6)) (.call ai [(.var 4),(.cst (.int 13))])),(.bin .sub (.var 3) (.call ai [(.var 4),(.cst (.int 4))]))]),.aX [7] .cB [(.sub (.var 6) (.bin .fdiv (.call ai [(.var 4),(.cst (.int 9))]) (.cst (.int 4))))] [.asg [8] (.call kF [(.call bL [(.var 0),(.bin .add (.cst (.int 7)) (.var 7))]),(.var 1),(.var 2)]),.expr (.me .append (.var 5) [(.var 8)]),.asg [2] (.sub (.call bY [(.var 1),(.var 2),(.var 8)]) (.cst (.int 0)))],.ret (.var 5)]
end Ev
end
section
namespace Ev
open L2
open PySem PySem.Spec PyProof.Rows
def qz (f:Fm) (s:Sd) (d:Dn):Int×List (Int×Str)×Option Str:=(rp f s d).getD (0,[],none)
def bN (f:Fm) (s:Sd) (d:Dn):Sd:=Jx f s d (qz f s d)
def fin (f:Fm) (s:Sd) (ds:List Dn):Sd:=ds.foldl (bN f) s
def tr (f:Fm):Sd->List Dn->List (Sd×Nat×Option Str)
 | _,[]=>[]
 | s,d::ds=>(bN f s d,mc f d,(qz f s d).2.2)::tr f (bN f s d) ds
def cU (f:Fm):Sd->List Dn->Prop
 | _,[]=>True
 | s,d::ds=>(cy f d/\cn f s d=true)/\cU f (bN f s d) ds
theorem nR {f:Fm} {s:Sd} {a b:List Dn}:fin f s (a++b)=fin f (fin f s a) b:=by unfold fin;rw [List.foldl_append]
theorem jG {f:Fm}:∀ {a b:List Dn} {s:Sd},cU f s (a++b)↔cU f s a/\cU f (fin f s a) b
 | [],b,s=>⟨fun h=>⟨trivial,h⟩,fun h=>h.2⟩
 | d::a,b,s=>by
  show _/\cU f (bN f s d) (a++b)↔(_/\cU f (bN f s d) a)/\cU f (fin f (bN f s d) a) b
  rw [jG (a:=a)]
  constructor
  ·rintro ⟨h1,h2,h3⟩;exact ⟨⟨h1,h2⟩,h3⟩
  ·rintro ⟨⟨h1,h2⟩,h3⟩;exact ⟨h1,h2,h3⟩
theorem yJ {f:Fm}:∀ {a b:List Dn} {s:Sd},tr f s (a++b)=tr f s a++tr f (fin f s a) b
 | [],b,s=>rfl
 | d::a,b,s=>by
  show _::tr f (bN f s d) (a++b)=_
  rw [yJ (a:=a)]
  rfl
theorem nS {f:Fm}:∀ {a:List Dn} {s:Sd},(tr f s a).length=a.length
 | [],s=>rfl
 | d::a,s=>by show (tr f (bN f s d) a).length+1=_;rw [nS];rfl
theorem yK {α:Type} {l:List α} {i:Nat} {x:α} (h:l[i]?=some x):l=l.take i++x::l.drop (i+1):=by
 obtain ⟨hi,rfl⟩:=dh.mp h
 rw [<- List.drop_eq_getElem_cons hi,List.take_append_drop]
theorem kG {f:Fm} {s:Sd} {ds:List Dn} {i:Nat} {d:Dn} (h:cU f s ds) (hi:ds[i]?=some d):cy f d/\cn f (fin f s (ds.take i)) d=true:=by
 rw [yK hi,jG] at h
 exact h.2.1
theorem fK {f:Fm} {s:Sd} {ds:List Dn} {i:Nat} (h:cU f s ds):cU f s (ds.take i):=by
 rw [<- List.take_append_drop i ds,jG] at h
 exact h.1
theorem kH {f:Fm} {s:Sd} {d:Dn} (h:cn f s d=true):rp f s d=some (qz f s d):=by
 unfold cn at h
 obtain ⟨x,e⟩:=Option.isSome_iff_exists.mp h
 unfold qz
 rw [e]
 rfl
theorem bf.bN {f:Fm} (hf:bR f) {N:Nat} {s:Sd} {d:Dn} (h:bf f N s) (hd:cy f d) (hc:cn f s d=true):bf f (N+3) (bN f s d):=h.Jx hd (pS hf h hd (kH hc))
theorem bf.fin {f:Fm} (hf:bR f):∀ {ds:List Dn} {N:Nat} {s:Sd},bf f N s->cU f s ds->bf f (N+3 * ds.length) (fin f s ds)
 | [],N,s,h,_=>h
 | d::ds,N,s,h,k=>by
  have:=bf.fin hf (h.bN hf k.1.1 k.1.2) k.2
  rw [show N+3 * (d::ds).length=N+3+3 * ds.length by rw [List.length_cons];omega]
  exact this
def Gv (x:Sd×Nat×Option Str):D:=.tup [cF x.1,FJ x.2.1 x.2.2]
section
variable {G:aL} {b:List S} {tg:List Nat} {ρ:En} {M:Mem} {nx:En->Mem->Prop} {rt:W->Mem->Prop} {bk ct:En->Mem->Prop}
theorem p4 {n : Nat} {ds : List D} (I : Nat -> En -> Mem -> Prop) (hM : ∀ i ρ M, I i ρ M -> M[n]? = some (.lst ds)) (h0 : I 0 ρ M)
    (hs:∀ i ρ M d,ds[i]?=some d->I i ρ M->A_ (bt tg (.tup [.int i,d]) ρ) fun ρ=>wSs G b ρ M (I (i+1)) rt nx (I (i+1))) (he:∀ ρ M,I ds.length ρ M->nx ρ M) {k:Nat} (hk:k=ds.length):e6 (cS (fun ρ M=>cO G b ρ M) (.gI n) tg k 0 ρ M) nx rt bk ct:=by
  subst hk
  have hlen:(ds.mapIdx fun i d=>D.tup [.int (i:Nat),d]).length=ds.length:=by simp
  refine iP (ds:=ds.mapIdx fun i d=>D.tup [.int (i:Nat),d]) I (fun i ρ M h _=>?_) (fun i ρ M d h e=>?_) (fun ρ M h=>he ρ M (by rw [hlen] at h;exact h)) ds.length 0 ρ M h0 (by rw [hlen];omega)
  · unfold itemAt
    simp only [hM i ρ M h]
    rw [List.getElem?_mapIdx]
  · rw [List.getElem?_mapIdx] at e
    cases e3:ds[i]? with
    | none=>rw [e3] at e;cases e
    | some d' =>
      rw [e3] at e;cases e
      have q:=hs i ρ M d' e3 h
      cases e2:bt tg (.tup [.int i,d']) ρ with
      | none=>rw [e2] at q;exact q.elim
      | some c_=>rw [e2] at q;exact ⟨c_,rfl,by rw [pI];exact q⟩
end
theorem yL {M:Mem} {n:Nat} {ds:List D} (hM:M[n]?=some (.lst ds)):fi .enum [.d (.adr n)] M=.ok (.gI n) M:=by
 unfold fi bc;simp only [hM];rfl
theorem p5 {M:Mem} {n:Nat} {ds:List D} (hM:M[n]?=some (.lst ds)):df M (.gI n)=ds.length:=by unfold df;simp only [hM]
theorem Ou {f:Fm} {d:Dn} {x:Int×List (Int×Str)×Option Str}:Jy f d x=FJ (mc f d) x.2.2:=by
 obtain ⟨a,sd,w⟩:=x
 cases w <;> rfl
def sv (F:Fn):Prop:=∀ (M:Mem) (f:Fm) (N:Nat) (s:Sd) (ds:List Dn) (n:Nat),bR f->bf f N s->N+3 * ds.length<=890->cU f s ds->M[n]?=some (.lst (ds.map bE))->aD (F [cQ f,cF s,.adr n] M) fun r M'=>∃ n',r=.d (.adr n')/\M.length<=n'/\M'[n']?=some (.lst ((tr f s ds).map Gv))/\Ex M M'
theorem FT {G:aL} {yI p0:Nat} (hC:FF (G yI)) (hO:jd (G p0)):sv (af G 8 (su yI p0)):=by
 intro M f N s ds n hf hs hN hr hn
 rw [aU]
 show wSs G (su yI p0) [some (cQ f),some (cF s),some (.adr n),none,none,none,none,none] M _ _ _ _
 nofun
 refine ⟨s0,?_⟩
 nofun
 have om:(M++[MO.lst []])[n]?=some (.lst (ds.map bE)):=av hn
 rw [yL om]
 refine p4 (n:=n) (ds:=ds.map bE) (fun i ρ M'=>∃ o5 o6 o7,ρ=[some (cQ f),some (cF s),some (.adr n),some (.adr M.length),some (cF (fin f s (ds.take i))),o5,o6,o7]/\M'[M.length]?=some (.lst ((tr f s (ds.take i)).map Gv))/\Ex M M') (by rintro i ρ M' ⟨_,_,_,_,_,fr⟩;exact Ex.get fr hn) ⟨_,_,_,rfl,ah,(Ex.refl M).app⟩ ?_ ?_ (p5 om)
 ·rintro i ρ M' dd bG ⟨o5,o6,o7,rfl,hL,fr⟩
  rw [dy] at bG
  cases e:ds[i]? with
  | none=>rw [e] at bG;cases bG
  | some d =>
   rw [e] at bG
   cases bG
   have hi:=(dh.mp e).1
   obtain ⟨k1,k2⟩:=kG hr e
   have zm:=bf.fin hf hs (fK (i:=i) hr)
   have Gw:(ds.take i).length=i:=by rw [List.length_take];omega
   rw [Gw] at zm
   have hx:=kH k2
   nofun
   refine (hC M' f _ _ d hf zm (by omega) k1).imp ?_
   rintro r M2 ⟨f2,e2⟩
   rw [k2] at e2
   subst e2
   nofun
   refine (hO M2 f _ _ d _ hf zm (by omega) k1 hx).imp ?_
   rintro r M3 ⟨f3,rfl⟩
   have kI:=Ex.get f3 (Ex.get f2 hL)
   nofun
   refine ⟨bJ kI,?_⟩
   nofun
   rw [cz kI (aI (by rw [aP,nS,Gw];omega))]
   have Le:ds.take (i+1)=ds.take i++[d]:=aT e
   refine ⟨some (.int i),some (bE d),some (.tup [cF (bN f (fin f s (ds.take i)) d),Jy f d (qz f (fin f s (ds.take i)) d)]),?_,?_,Fr.set (Ex.trans (Ex.trans fr f2) f3) (ba _)⟩
   ·rw [Le,nR]
    rfl
   ·rw [set_same kI,Le,yJ,qu,Ou]
    rfl
 ·rintro ρ M' ⟨o5,o6,o7,rfl,hL,fr⟩
  rw [aP,List.take_length] at hL
  nofun
  exact ⟨_,rfl,ba _,hL,fr⟩
theorem CQ {f:Fm}:∀ {ds:List Dn} {s:Sd} {i:Nat} {x:Sd×Nat×Option Str},(tr f s ds)[i]?=some x->x.1=fin f s (ds.take (i+1))
 | [],s,i,x,h=>by simp [tr] at h
 | d::ds,s,0,x,h=>by
  have h:(bN f s d,mc f d,(qz f s d).2.2)=x:=by simpa [tr] using h
  rw [<- h]
  rfl
 | d::ds,s,i+1,x,h=>by
  have h:(tr f (bN f s d) ds)[i]?=some x:=by simpa [tr] using h
  have q:=CQ (ds:=ds) (s:=bN f s d) (i:=i) h
  rw [q]
  rfl
def nU (F:Fn):Prop:=∀ (M:Mem) (ns:List Int) (f:Fm) (s:Sd) (most:Int),ns.length<=63->bR f->bf f 4 s->18<=most->most<=60->aD (F [.ls (ns.map D.int),cQ f,cF s,.int most] M) fun r M'=>∃ n,∃ ds:List Dn,r=.d (.adr n)/\M.length<=n/\M'[n]?=some (.lst (ds.map bE))/\cU f s ds/\(ds.length:Int)<=most/\Ex M M'
theorem BG {G:aL} {bL ai kF bY:Nat} (hW:lP (G bL)) (hD:dv (G ai)) (Ta:so (G kF)) (Tb:jd (G bY)):nU (af G 9 (nQ bL ai kF bY)):=by
 intro M ns f s most iG hf hs VP Bh
 rw [aU]
 show wSs G (nQ bL ai kF bY) [some (.ls (ns.map D.int)),some (cQ f),some (cF s),some (.int most),none,none,none,none,none] M _ _ _ _
 nofun
 refine (hW M ns 6 (by omega) (by omega) iG).imp ?_
 rintro r M1 ⟨rfl,Bl,vg,f1⟩
 nofun
 refine ⟨s0,?_⟩
 nofun
 have Gx:(M1++[MO.lst []])[M1.length]?=some (.lst []):=ah
 refine (hD _ M.length 0 13 vg.app (by omega) (by omega) (by omega)).imp ?_
 rintro r M2 ⟨a,rfl,a0,a1,pM,f2⟩
 nofun
 refine (hD M2 M.length _ 13 pM (by omega) (by omega) (by omega)).imp ?_
 rintro r M3 ⟨b,rfl,b0,b1,tR,f3⟩
 nofun
 refine (hD M3 M.length _ 4 tR (by omega) (by omega) (by omega)).imp ?_
 rintro r M4 ⟨c,rfl,c0,c1,iQ,f4⟩
 nofun
 refine ⟨s3,?_⟩
 nofun
 have vI:M4[M1.length]?=some (.lst []):=f4.get (f3.get (f2.get Gx (by omega)) (by omega)) (by omega)
 have l4:=ak vI
 refine (hD _ M.length _ 9 iQ.app (by omega) (by omega) (by omega)).imp ?_
 rintro r M5 ⟨g,rfl,g0,g1,kP,f5⟩
 have Tc:M5[M4.length]?=some (.lst [.int a,.int (6+b),.int (most - c)]):=f5.get ah (by omega)
 have Gy:M5[M1.length]?=some (.lst []):=f5.get (av vI) (by omega)
 have jo:Ex M M5:=((((f1.app).trans f2).trans f3).trans f4).app.trans f5
 nofun
 refine ⟨⟨by omega,by omega⟩,?_⟩
 obtain ⟨d,hd,j,rfl,j0,j1⟩:∃ d,[D.int a,.int (6+b),.int (most - c)][(g / 4).toNat]?=some d/\∃ j:Int,d=.int j/\0<=j/\j<=most:=pick (ds:=[D.int a,.int (6+b),.int (most - c)]) (k:=3) (fun d hd=>by
  simp only [List.mem_cons,List.mem_nil_iff,or_false] at hd
  rcases hd with rfl | rfl | rfl
  ·exact ⟨_,rfl,by omega,by omega⟩
  ·exact ⟨_,rfl,by omega,by omega⟩
  ·exact ⟨_,rfl,by omega,by omega⟩) (by omega) (by omega) rfl
 nofun
 rw [aZ Tc (i:=g / 4) (by omega) hd]
 nofun
 refine ⟨⟨by omega,by omega⟩,?_⟩
 have hm:M.length<=M1.length:=f1.1
 refine eB (n:=j.toNat) (fun i ρ M'=>∃ o7 o8,∃ ds:List Dn,ρ=[some (.ls (ns.map D.int)),some (cQ f),some (cF (fin f s ds)),some (.int most),some (.adr M.length),some (.adr M1.length),some (.adr M4.length),o7,o8]/\M'[M1.length]?=some (.lst (ds.map bE))/\ds.length=i/\cU f s ds/\Ex M M') ⟨_,_,[],rfl,Gy,rfl,trivial,jo⟩ ?_ ?_
 ·rintro i ρ M6 hi ⟨o7,o8,ds,rfl,Gz,PM,Lf,CG⟩
  have K8:=bf.fin hf hs Lf
  have Td:(i:Int) < 60:=by omega
  nofun
  refine (hW M6 ns (7+(0+(i:Int))) (by omega) (by omega) iG).imp ?_
  rintro r M7 ⟨rfl,Om,Bj,f7⟩
  have l6:=ak Gz
  nofun
  refine (Ta M7 M6.length 0 f _ _ Bj (by omega) hf K8 (by omega)).imp ?_
  rintro r M8 ⟨d,rfl,PN,hd2,f8⟩
  have PQ:Ex M6 M8:=f7.trans f8
  have GA:=Ex.get PQ Gz
  nofun
  refine ⟨bJ GA,?_⟩
  nofun
  rw [cz GA (aI (by rw [aP];omega))]
  nofun
  have hx:=kH hd2
  refine (Tb _ f _ _ d _ hf K8 (by omega) PN hx).imp ?_
  rintro r M9 ⟨f9,rfl⟩
  refine ⟨some (.int (0+(i:Int))),some (bE d),ds++[d],?_,?_,by simp [PM],?_,?_⟩
  ·rw [nR]
   rfl
  ·refine Ex.get f9 ?_
   rw [set_same GA,qu]
   rfl
  ·rw [jG]
   exact ⟨Lf,⟨PN,hd2⟩,trivial⟩
  ·exact Ex.trans (Fr.set (Ex.trans CG PQ) hm) f9
 ·rintro ρ M6 ⟨o7,o8,ds,rfl,Gz,PM,Lf,CG⟩
  exact ⟨_,ds,rfl,hm,Gz,Lf,by omega,CG⟩
end Ev
end
section
namespace Ev
open PySem
end Ev
end
section
namespace Ev
open L2
open PySem PySem.Spec PyProof.Rows
theorem yM {a b c:Int} (h1:a<=b) (h2:b<=c):d8 a b++d8 b c=d8 a c:=by
 obtain ⟨n,hn⟩:∃ n:Nat,b=a+n:=⟨(b - a).toNat,by omega⟩
 subst hn
 clear h1
 induction n generalizing a with
 | zero=>rw [show a+((0:Nat):Int)=a by omega,ip (y6 _)];rfl
 | succ n ih =>
  have e:a+((n+1:Nat):Int)=a+1+(n:Int):=by omega
  rw [e] at h2 ⊢
  rw [fW (a:=a) (b:=a+1+n) (by omega),fW (a:=a) (b:=c) (by omega),List.cons_append,ih h2]
theorem yN {a:Int}:d8 a (a+1)=[a]:=by rw [fW (by omega),ip (by omega)]
theorem kJ {α:Type} {l:List α} {i j:Nat} {x d:α} (h:i < l.length):(l.set i x).getD j d=if i=j then x else l.getD j d:=by
 rw [qt,qt,List.getElem?_set]
 by_cases q:i=j
 ·rw [if_pos q,if_pos q,if_pos (by omega)];rfl
 ·rw [if_neg q,if_neg q]
theorem iU:∀ (sd:List (Int×Str)) (ld:List (Int×List (Int×Str))) (r:Nat),(∀ p∈sd,0<=p.1/\p.1.toNat < ld.length)->(ld.getD r (0,[])).1<=((send ld sd).getD r (0,[])).1/\nums ((send ld sd).getD r (0,[]))=nums (ld.getD r (0,[]))++d8 (ld.getD r (0,[])).1 ((send ld sd).getD r (0,[])).1/\(send ld sd).length=ld.length
 | [],ld,r,_=>⟨y6 _,by rw [show send ld []=ld from rfl,ip (y6 _),List.append_nil],rfl⟩
 | p::sd,ld,r,h=>by
  have hp:=h p (List.mem_cons_self ..)
  have hl:(ld.set p.1.toNat (more (ld.getD p.1.toNat (0,[])) p.2)).length=ld.length:=List.length_set
  obtain ⟨i1,i2,i3⟩:=iU sd (ld.set p.1.toNat (more (ld.getD p.1.toNat (0,[])) p.2)) r fun q hq=>by rw [hl];exact h q (ix _ hq)
  have e:send ld (p::sd)=send (ld.set p.1.toNat (more (ld.getD p.1.toNat (0,[])) p.2)) sd:=rfl
  rw [e,i2,i3]
  rw [kJ hp.2] at i1 ⊢
  by_cases q:p.1.toNat=r
  ·rw [if_pos q] at i1 ⊢
   subst q
   have hm:(more (ld.getD p.1.toNat (0,[])) p.2).1=(ld.getD p.1.toNat (0,[])).1+1:=rfl
   have hn:nums (more (ld.getD p.1.toNat (0,[])) p.2)=nums (ld.getD p.1.toNat (0,[]))++[(ld.getD p.1.toNat (0,[])).1]:=by unfold nums more;rw [qu];rfl
   rw [hm] at i1 ⊢
   rw [hn]
   refine ⟨by omega,?_,hl⟩
   have e2:=yM (a:=(ld.getD p.1.toNat (0,[])).1) (b:=(ld.getD p.1.toNat (0,[])).1+1) (by omega) i1
   rw [yN] at e2
   rw [List.append_assoc,e2]
  ·rw [if_neg q] at i1 ⊢
   exact ⟨i1,rfl,hl⟩
def Ov (s:Sd) (d:Dn) (r:Nat):Int×List (Int×Str):=match d with
 | .a_ q k=>if q=r then less (load s r) k else load s r
 | _=>load s r
theorem sx {f:Fm} {N:Nat} {s:Sd} {d:Dn} (hs:bf f N s) (hd:cy f d) (r:Nat):(bT s.ld d).getD r (0,[])=Ov s d r/\(bT s.ld d).length=s.ld.length:=by
 cases d with
 | own m=>exact ⟨rfl,rfl⟩
 | cG m c=>exact ⟨rfl,rfl⟩
 | a_ q k =>
  have hq:q < s.ld.length:=by rw [hs.ll];exact hd
  refine ⟨?_,List.length_set⟩
  show (s.ld.set q (less (s.ld.getD q (0,[])) k)).getD r (0,[])=_
  rw [kJ hq]
  show _=if q=r then less (load s r) k else load s r
  by_cases z:q=r
  ·subst z;rw [if_pos rfl,if_pos rfl];rfl
  ·rw [if_neg z,if_neg z];rfl
theorem p9 {f : Fm} (hf : bR f) {N : Nat} {s : Sd} {d : Dn} (hs : bf f N s) (hd : cy f d) (hc : cn f s d = true) (r : Nat) :
    (load s r).1<=(load (bN f s d) r).1/\nums (load (bN f s d) r)=nums (Ov s d r)++d8 (load s r).1 (load (bN f s d) r).1:=by
  have ax:=pS hf hs hd (kH hc)
  obtain ⟨e1,e2⟩:=sx hs hd r
  have hb:∀ p∈(qz f s d).2.1,0<=p.1/\p.1.toNat < (bT s.ld d).length:=fun p hp=>by
    obtain ⟨_,h2,x,h3,_⟩:=ax.sd p hp
    refine ⟨h2,?_⟩
    rw [e2,hs.ll]
    exact (dh.mp h3).1
  obtain ⟨i1,i2,_⟩:=iU (qz f s d).2.1 (bT s.ld d) r hb
  have h1:(Ov s d r).1=(load s r).1:=by
    cases d with
    | own m=>rfl
    | cG m c=>rfl
    | a_ q k =>
      show (if q=r then less (load s r) k else load s r).1=_
      split <;> rfl
  rw [e1,h1] at i1 i2
  exact ⟨i1,i2⟩
theorem p_ {f:Fm} {s:Sd} {r:Nat} {k:Int} (hc:cn f s (.a_ r k)=true):k∈nums (load s r)/\(((road f r).2.2 == "row")=true->(load s r).2.head?.map (·.1)=some k):=by
 unfold cn rp at hc
 cases q:cs f s (.a_ r k) with
 | none=>rw [q] at hc;exact absurd hc bO
 | some c =>
  have q:((sel (road f r).2.2 (load s r).2).find? fun p=>p.1 == k).map (·.2)=some c:=q
  cases z:(sel (road f r).2.2 (load s r).2).find? fun p=>p.1 == k with
  | none=>rw [z] at q;cases q
  | some p =>
   have hm:=List.mem_of_find?_eq_some z
   have hk:p.1=k:=eq_of_beq (show (p.1 == k)=true from List.find?_some (p:=fun p:Int×Str=>p.1 == k) z)
   refine ⟨?_,fun ho=>?_⟩
   ·unfold sel at hm
    refine la.mpr ⟨p,?_,hk⟩
    split at hm
    ·exact List.mem_of_mem_take hm
    ·exact hm
   ·unfold sel at hm
    rw [if_pos ho] at hm
    cases hl:(load s r).2 with
    | nil=>rw [hl] at hm;cases hm
    | cons a l =>
     rw [hl] at hm
     have:p=a:=by simpa using hm
     rw [<- this]
     simp [hk]
end Ev
end
section
namespace Ev
open PySem
def ub (eC:Nat):List S:=[.eZ 2 (.comp .seq [(.sub (.var 0) (.cst (.int 0)))] [1] none (.cst (.int 0)) [none,none]),.asg [3] (.lst []),.aX [4] .seq [(.var 1)] [.asg [5] (.call eC [(.var 0),(.var 4)]),.expr (.me .append (.var 3) [(.tup [(.var 5),(.sub (.var 2) (.var 5))])]),.put (.var 2) (.var 5) (.bin .add (.sub (.var 2) (.var 5)) (.cst (.int 1)))],.ret (.var 3)]
def yO:List S:=[.asg [2] (.lst []),.aX [3] .cB [(.bi .len [(.sub (.var 0) (.cst (.int 1)))])] [.aX [4] .kT [(.sub (.sub (.sub (.var 0) (.cst (.int 1))) (.var 3)) (.cst (.int 0))),(.sub (.sub (.sub (.var 1) (.cst (.int 1))) (.var 3)) (.cst (.int 0)))] [.expr (.me .append (.var 2) [(.tup [(.var 3),(.var 4)])])]],.ret (.var 2)]
def qa (cf:Nat) (kK:Nat) (d5:Nat):List S:=[.asg [3] .ji,.aX [4] .cB [(.bi .len [(.sub (.var 0) (.cst (.int 1)))])] [.aX [5,6] .seq [(.call cf [(.var 1),(.var 4)])] [.dput (.var 3) (.tup [(.var 4),(.var 5)]) (.tup [(.cst .az),(.cst .az)])]],.asg [7] (.var 1),.aX [8,9] .enum [(.call kK [(.var 0),(.var 1),(.var 2)])] [.asg [10] (.sub (.var 2) (.var 8)),.iff (.val (.cmp .eq (.sub (.var 10) (.cst (.int 0))) (.cst (.str "come")))) [.asg [11] (.tup [(.sub (.var 10) (.cst (.int 1))),(.sub (.var 10) (.cst (.int 2)))]),.dput (.var 3) (.var 11) (.tup [(.sub (.gc (.var 3) (.var 11)) (.cst (.int 0))),(.var 8)])] [],.aX [11] .seq [(.call d5 [(.var 7),(.sub (.var 9) (.cst (.int 0)))])] [.dput (.var 3) (.var 11) (.tup [(.var 8),(.cst .az)])],.asg [7] (.sub (.var 9) (.cst (.int 0)))],.ret (.var 3)]
def lX (bp:Nat) (bY:Nat):List S:=[.asg [3] .ji,.aX [4] .cB [(.bi .len [(.sub (.var 0) (.cst (.int 1)))])] [.aX [5,6] .seq [(.sub (.sub (.sub (.var 1) (.cst (.int 1))) (.var 4)) (.cst (.int 1)))] [.dput (.var 3) (.tup [(.var 4),(.var 5)]) (.tup [(.cst .az),(.cst .az)])]],.aX [7] .cB [(.bi .len [(.var 2)])] [.iff (.val (.cmp .eq (.sub (.sub (.var 2) (.var 7)) (.cst (.int 0))) (.cst (.str "come")))) [.dput (.var 3) (.kU (.sub (.var 2) (.var 7)) (some (.cst (.int 1))) none) (.tup [(.sub (.gc (.var 3) (.kU (.sub (.var 2) (.var 7)) (some (.cst (.int 1))) none)) (.cst (.int 0))),(.var 7)])] [],.eZ 8 (.comp .seq [(.sub (.var 1) (.cst (.int 1)))] [1] none (.sub (.var 1) (.cst (.int 0))) [none,none]),.aX [4,6] .seq [(.sub (.call bp [(.var 0),(.var 1),(.sub (.var 2) (.var 7))]) (.cst (.int 1)))] [.dput (.var 3) (.tup [(.var 4),(.sub (.var 8) (.var 4))]) (.tup [(.var 7),(.cst .az)]),.put (.var 8) (.var 4) (.bin .add (.sub (.var 8) (.var 4)) (.cst (.int 1)))],.asg [1] (.sub (.call bY [(.var 0),(.var 1),(.sub (.var 2) (.var 7))]) (.cst (.int 0)))],.ret (.var 3)]
def uc (d4:Nat) (eR:Nat) (iq:Nat) (fL:Nat):List S:=[.asg [3] (.comp .seq [(.var 2)] [1] none (.call d4 [(.var 2),(.var 1)]) [none,none,some 0]),.eZ 4 (.comp .cB [(.bi .len [(.var 2)])] [1] none (.tup [(.sub (.var 2) (.var 1)),(.cnt (.kU (.var 2) none (some (.var 1))) (.sub (.var 2) (.var 1)))]) [none,none,some 3]),.asg [5] (.call eR [(.var 0),(.var 1),(.var 2)]),.aX [6] .cB [(.cst (.int 2))] [.asg [7] (.bi .list1 [(.var 2)]),.asg [8] (.call iq [(.var 0),(.var 7)]),.asg [9] (.call fL [(.var 0),(.var 1),(.var 7)]),.iff (.d7 [(.neg (.val (.bi (.mF .list) [(.var 8)]))),(.val (.cmp .ne (.bi .ee [(.var 8)]) (.bi .ee [(.var 4)]))),(.val (.cmp .ne (.var 7) (.var 2)))]) [.ret (.cst (.bl false))] [],.iff (.d7 [(.neg (.val (.bi (.mF .dict) [(.var 9)]))),(.val (.cmp .ne (.jk (.var 9)) (.jk (.var 5))))]) [.ret (.cst (.bl false))] [],.aX [10] .keys [(.var 5)] [.iff (.d7 [(.val (.fB true (.var 10) (.var 9))),(.val (.cmp .ne (.bi .ee [(.gc (.var 9) (.var 10))]) (.bi .ee [(.gc (.var 5) (.var 10))])))]) [.ret (.cst (.bl false))] []],.expr (.me .clear (.var 8) []),.expr (.kW (.var 9))],.ret (.cst (.bl true))]
end Ev
end
section
namespace Ev
open L2
open PySem PySem.Spec PyProof.Rows
abbrev Kv:=List (List Key×D)
abbrev Lm:=Nat->Int->Option (Option Nat×Option Nat)
def k2 (r:Nat) (k:Int):List Key:=[Sum.inl (r:Int),Sum.inl k]
def oD:Option Nat->D
 | none=>.az
 | some n=>.int n
def vJ (x:Option Nat×Option Nat):D:=.tup [oD x.1,oD x.2]
theorem FU {r r':Nat} {k k':Int} (h:k2 r k=k2 r' k'):r=r'/\k=k':=by
 unfold k2 at h
 simp only [List.cons.injEq,Sum.inl.injEq] at h
 exact ⟨by omega,h.2.1⟩
theorem yP {aa:Kv} {k:List Key}:(bX aa k).isSome=true↔k∈aa.map (·.1):=by
 unfold bX
 rw [Option.isSome_map,List.find?_isSome,la]
 constructor
 ·rintro ⟨p,h1,h2⟩;exact ⟨p,h1,of_decide_eq_true h2⟩
 ·rintro ⟨p,h1,h2⟩;exact ⟨p,h1,decide_eq_true h2⟩
theorem get_map {aa:Kv} {k k':List Key} {v:D}:(k≠k'->bX (aa.map fun kv=>if kv.1=k then (kv.1,v) else kv) k'=bX aa k')/\(k=k'->k∈aa.map (·.1)->bX (aa.map fun kv=>if kv.1=k then (kv.1,v) else kv) k'=some v):=by
 induction aa with
 | nil=>exact ⟨fun _=>rfl,fun _ h=>by cases h⟩
 | cons p aa ih =>
  obtain ⟨i1,i2⟩:=ih
  unfold bX at i1 i2 ⊢
  rw [List.map_cons,List.find?_cons,List.find?_cons]
  by_cases hp:p.1=k
  ·rw [if_pos hp]
   refine ⟨fun hk=>?_,fun hk _=>?_⟩
   ·have h1:decide (p.1=k')=false:=decide_eq_false fun h=>hk (hp.symm.trans h)
    simp only [h1]
    exact i1 hk
   ·subst hk
    simp only [hp,decide_true]
    rfl
  ·rw [if_neg hp]
   refine ⟨fun hk=>?_,fun hk hm=>?_⟩
   ·cases q:decide (p.1=k') with
    | true=>rfl
    | false=>exact i1 hk
   ·subst hk
    simp only [decide_eq_false hp]
    refine i2 rfl ?_
    rw [List.map_cons] at hm
    rcases List.mem_cons.mp hm with z | z
    ·exact absurd z.symm hp
    ·exact z
theorem jH {aa:Kv} {k:List Key}:(aa.any fun kv=>decide (kv.1=k))=true↔k∈aa.map (·.1):=by
 rw [List.any_eq_true,la]
 constructor
 ·rintro ⟨p,h1,h2⟩;exact ⟨p,h1,of_decide_eq_true h2⟩
 ·rintro ⟨p,h1,h2⟩;exact ⟨p,h1,decide_eq_true h2⟩
theorem BH {aa:Kv} {k k':List Key} {v:D} (h:k∉aa.map (·.1)):bX (aa++[(k,v)]) k'=if k=k' then some v else bX aa k':=by
 have e:bX (aa++[(k,v)]) k'=((aa.find? fun p=>decide (p.1=k')).or ([(k,v)].find? fun p=>decide (p.1=k'))).map (·.2):=by
  unfold bX
  rw [List.find?_append]
 rw [e]
 by_cases hk:k=k'
 ·subst hk
  rw [if_pos rfl,List.find?_eq_none.mpr (fun p hp q=>h (la.mpr ⟨p,hp,of_decide_eq_true q⟩))]
  simp
 ·rw [if_neg hk]
  have:([(k,v)].find? fun p=>decide (p.1=k'))=none:=by
   rw [List.find?_cons]
   have:decide ((k,v).1=k')=false:=decide_eq_false hk
   simp only [this]
   rfl
  rw [this,Option.or_none]
  rfl
theorem BI {aa:Kv} {k k':List Key} {v:D}:bX (putD aa k v) k'=if k=k' then some v else bX aa k':=by
 unfold putD
 by_cases h:k∈aa.map (·.1)
 ·rw [if_pos (jH.mpr h)]
  by_cases hk:k=k'
  ·rw [get_map.2 hk h,if_pos hk]
  ·rw [get_map.1 hk,if_neg hk]
 ·rw [if_neg (fun z=>h (jH.mp z)),BH h]
theorem ud {aa:Kv} {k:List Key} {v:D} (h:k∈aa.map (·.1)):(putD aa k v).map (·.1)=aa.map (·.1):=by
 unfold putD
 rw [if_pos (jH.mpr h),List.map_map]
 refine List.map_congr_left fun p _=>?_
 show (if p.1=k then (p.1,v) else p).1=p.1
 split <;> rfl
theorem qb {aa:Kv} {k:List Key} {v:D} (h:k∉aa.map (·.1)):(putD aa k v).map (·.1)=aa.map (·.1)++[k]:=by
 unfold putD
 rw [if_neg (fun z=>h (jH.mp z)),qu]
 rfl
theorem fX {aa:Kv} {k:List Key} {v:D}:(putD aa k v).length<=aa.length+1:=by
 unfold putD
 split
 ·rw [aP];omega
 ·rw [jM];exact ba _
structure Rep (aa:Kv) (L:Lm):Prop where
 nd:(aa.map (·.1)).Nodup
 ky:∀ k∈aa.map (·.1),∃ r n x,k=k2 r n/\L r n=some x
 gt:∀ r k,bX aa (k2 r k)=(L r k).map vJ
def putL (L:Lm) (r:Nat) (k:Int) (x:Option Nat×Option Nat):Lm:=fun r' k'=>if r=r'/\k=k' then some x else L r' k'
theorem Rep.nil:Rep [] fun _ _=>none:=⟨List.nodup_nil,fun k h=>(by cases h),fun _ _=>rfl⟩
theorem Rep.put {aa:Kv} {L:Lm} (h:Rep aa L) (r:Nat) (k:Int) (x:Option Nat×Option Nat):Rep (putD aa (k2 r k) (vJ x)) (putL L r k x):=by
 refine ⟨?_,fun key hk=>?_,fun r' k'=>?_⟩
 ·by_cases z:k2 r k∈aa.map (·.1)
  ·rw [ud z];exact h.nd
  ·rw [qb z,List.nodup_append]
   exact ⟨h.nd,by simp,fun a ha b hb e=>z (by rw [<- List.mem_singleton.mp hb,<- e];exact ha)⟩
 ·have hk:key=k2 r k\/key∈aa.map (·.1):=by
   by_cases z:k2 r k∈aa.map (·.1)
   ·rw [ud z] at hk;exact .inr hk
   ·rw [qb z] at hk
    rcases je.mp hk with z | z
    ·exact .inr z
    ·exact .inl (List.mem_singleton.mp z)
  rcases hk with rfl | z
  ·exact ⟨r,k,x,rfl,if_pos ⟨rfl,rfl⟩⟩
  ·obtain ⟨r',k',y,e,q⟩:=h.ky key z
   subst e
   by_cases hc:r=r'/\k=k'
   ·exact ⟨r',k',x,rfl,if_pos hc⟩
   ·exact ⟨r',k',y,rfl,(if_neg hc).trans q⟩
 ·rw [BI]
  unfold putL
  by_cases hc:r=r'/\k=k'
  ·obtain ⟨rfl,rfl⟩:=hc
   rw [if_pos rfl,if_pos ⟨rfl,rfl⟩]
   rfl
  ·rw [if_neg hc,if_neg (fun z=>hc (FU z)),h.gt]
theorem Rep.congr {aa:Kv} {L L':Lm} (h:Rep aa L) (e:∀ r k,L r k=L' r k):Rep aa L':=by
 have:L=L':=by funext r k;exact e r k
 rw [<- this]
 exact h
theorem lY {α:Type} [DecidableEq α]:∀ {a b:List α},a.Nodup->(∀ x∈a,x∈b)->a.length<=b.length
 | [],b,_,_=>Nat.zero_le _
 | x::a,b,h,s=>by
  have hx:=s x List.mem_cons_self
  obtain ⟨h1,h2⟩:=List.nodup_cons.mp h
  have:=lY (a:=a) (b:=b.erase x) h2 fun y hy=>(List.mem_erase_of_ne (show y≠x from fun e=>h1 (by rw [<- e];exact hy))).mpr (s y (ix _ hy))
  rw [List.length_erase_of_mem hx] at this
  have hb:=List.length_pos_of_mem hx
  rw [List.length_cons]
  omega
theorem Rep.mem {aa:Kv} {L:Lm} (h:Rep aa L) {r:Nat} {k:Int}:k2 r k∈aa.map (·.1)↔(L r k).isSome=true:=by
 rw [<- yP,h.gt,Option.isSome_map]
theorem Rep.len {a b:Kv} {L:Lm} (ha:Rep a L) (hb:Rep b L):a.length=b.length:=by
 have key:∀ {a b:Kv},Rep a L->Rep b L->a.length<=b.length:=fun {a b} ha hb=>by
  have:=lY (a:=a.map (·.1)) (b:=b.map (·.1)) ha.nd fun x hx=>by
   obtain ⟨r,k,_,rfl,_⟩:=ha.ky x hx
   exact hb.mem.mpr (ha.mem.mp hx)
  rw [aP,aP] at this
  exact this
 exact Nat.le_antisymm (key ha hb) (key hb ha)
def L0 (f:Fm) (s:Sd):Lm:=fun r k=>if r < f.ro.length/\k∈nums (load s r) then some (none,none) else none
def gA (d:Dn) (i:Nat) (L:Lm):Lm:=match d with
 | .a_ q n=>putL L q n (((L q n).getD (none,none)).1,some i)
 | _=>L
def BJ (s s':Sd) (i:Nat) (L:Lm):Lm:=fun r k=>if (load s r).1<=k/\k < (load s' r).1 then some (some i,none) else L r k
def GB (f:Fm) (s:Sd) (d:Dn) (i:Nat) (L:Lm):Lm:=BJ s (bN f s d) i (gA d i L)
def gU (f:Fm) (s:Sd) (ds:List Dn):Nat->Lm
 | 0=>L0 f s
 | i+1=>match ds[i]? with
  | some d=>GB f (fin f s (ds.take i)) d i (gU f s ds i)
  | none=>gU f s ds i
theorem ir {f:Fm} {s:Sd} {ds:List Dn} {i:Nat} {d:Dn} (h:ds[i]?=some d):gU f s ds (i+1)=GB f (fin f s (ds.take i)) d i (gU f s ds i):=by
 show (match ds[i]? with
  | some d=>GB f (fin f s (ds.take i)) d i (gU f s ds i)
  | none=>gU f s ds i)=_
 rw [h]
theorem nV {f:Fm} {s:Sd} {ds:List Dn} {i:Nat} {d:Dn} (h:ds[i]?=some d):fin f s (ds.take (i+1))=bN f (fin f s (ds.take i)) d:=by
 rw [aT h,nR];rfl
theorem nW {f:Fm} (hf:bR f) {s:Sd} {ds:List Dn} {N:Nat} (hs:bf f N s) (hr:cU f s ds):∀ i,i<=ds.length->∀ r k,r < f.ro.length->k∈nums (load (fin f s (ds.take i)) r)->(gU f s ds i r k).isSome=true
 | 0,_,r,k,h1,h2=>by
  show (if r < f.ro.length/\k∈nums (load s r) then some (none,none) else none:Option (Option Nat×Option Nat)).isSome=true
  rw [if_pos ⟨h1,h2⟩]
  rfl
 | i+1,hi,r,k,h1,h2=>by
  have e:ds[i]?=some ds[i]:=eD (by omega)
  rw [ir e]
  rw [nV e] at h2
  obtain ⟨k1,k2⟩:=kG hr e
  obtain ⟨h3,h4⟩:=p9 hf (bf.fin hf hs (fK (i:=i) hr)) k1 k2 r
  rw [h4] at h2
  show (if _/\_ then some (some i,none) else gA ds[i] i (gU f s ds i) r k).isSome=true
  split
  ·rfl
  ·rename_i hn
   have hk:k∈nums (load (fin f s (ds.take i)) r):=by
    rcases je.mp h2 with z | z
    ·generalize ds[i]=d at z
     cases d with
     | own m=>exact z
     | cG m c=>exact z
     | a_ q n =>
      have z:k∈nums (if q=r then less (load (fin f s (ds.take i)) r) n else load (fin f s (ds.take i)) r):=z
      split at z
      ·unfold nums less at z
       obtain ⟨p,hp,rfl⟩:=la.mp z
       exact la.mpr ⟨p,(List.mem_filter.mp hp).1,rfl⟩
      ·exact z
    ·unfold d8 at z
     obtain ⟨j,hj,rfl⟩:=la.mp z
     rw [List.mem_range] at hj
     exact absurd ⟨by omega,by omega⟩ hn
   have ih:=nW hf hs hr i (by omega) r k h1 hk
   generalize ds[i]=d
   cases d with
   | own m=>exact ih
   | cG m c=>exact ih
   | a_ q n =>
    show (if q=r/\n=k then some _ else gU f s ds i r k).isSome=true
    split
    ·rfl
    ·exact ih
theorem yQ {n:Nat} (h:n<=1000000):n < sizeLine:=Nat.lt_of_le_of_lt h (by decide)
theorem lZ {M:Mem} {n r:Nat} {aa:Kv} {k:Int} {d:D} (hM:M[n]?=some (.dT aa)) (hl:aa.length<=1000000):gq (.d (.adr n)) (.d (.tup [.int r,.int k])) d M=.ok () (M.set n (.dT (putD aa (k2 r k) d))):=by
 unfold gq
 simp only [hM,show qX (.d (.tup [.int r,.int k]))=some (k2 r k) from rfl]
 rw [if_pos (yQ hl)]
theorem ue {M:Mem} {n r:Nat} {aa:Kv} {k:Int} {d:D} (hM:sX M (.d (.adr n))=some aa) (hg:bX aa (k2 r k)=some d):lF (.d (.adr n)) (.d (.tup [.int r,.int k])) M=.ok (.d d) M:=by
 unfold lF
 simp only [hM,show qX (.d (.tup [.int r,.int k]))=some (k2 r k) from rfl,hg]
theorem vt {M:Mem} {n:Nat} {aa:Kv} (hM:M[n]?=some (.dT aa)):sX M (.d (.adr n))=some aa:=by unfold sX;simp only [hM]
theorem J3 {M:Mem} {n:Nat} {aa:Kv} (hM:M[n]?=some (.dF aa)):sX M (.d (.adr n))=some aa:=by unfold sX;simp only [hM]
def GC (p:Nat×Int):D:=.tup [.int p.1,.int p.2]
def k8 (s s':Sd) (r:Nat):List (Nat×Int):=(d8 (load s r).1 (load s' r).1).map fun k=>(r,k)
def uf (s s':Sd) (n:Nat):List (Nat×Int):=(List.range n).flatMap (k8 s s')
theorem qc {s s':Sd} {n:Nat}:uf s s' (n+1)=uf s s' n++k8 s s' n:=by
 unfold uf
 rw [List.range_succ,List.flatMap_append]
 simp
theorem iu {a b:Int}:(d8 a b).length=(b - a).toNat:=by unfold d8;simp
theorem BK {a b:Int} {j:Nat} (h:j < (b - a).toNat):(d8 a b)[j]?=some (a+(j:Int)):=by
 unfold d8
 rw [dy,List.getElem?_range h]
 rfl
theorem qe {a b k:Int}:k∈d8 a b↔a<=k/\k < b:=by
 unfold d8
 rw [la]
 constructor
 ·rintro ⟨j,hj,rfl⟩
  rw [List.mem_range] at hj
  omega
 ·rintro ⟨h1,h2⟩
  exact ⟨(k - a).toNat,List.mem_range.mpr (by omega),by omega⟩
theorem ug {s s':Sd} {n r:Nat} {k:Int}:(r,k)∈uf s s' n↔r < n/\(load s r).1<=k/\k < (load s' r).1:=by
 unfold uf k8
 rw [List.mem_flatMap]
 constructor
 ·rintro ⟨q,hq,h⟩
  obtain ⟨j,hj,e⟩:=la.mp h
  cases e
  exact ⟨List.mem_range.mp hq,qe.mp hj⟩
 ·rintro ⟨h1,h2⟩
  exact ⟨r,List.mem_range.mpr h1,la.mpr ⟨k,qe.mpr h2,rfl⟩⟩
theorem nX {s s':Sd} {B:Nat}:∀ {n:Nat},(∀ r,r < n->(load s' r).1 - (load s r).1<=B)->(uf s s' n).length<=n * B
 | 0,_=>Nat.zero_le _
 | n+1,h=>by
  rw [qc,jM,Nat.add_mul]
  have h1:=nX (n:=n) fun r hr=>h r (by omega)
  have h2:=h n (by omega)
  unfold k8
  rw [aP,iu]
  omega
def nY (F:Fn):Prop:=∀ (M:Mem) (f:Fm) (N N':Nat) (s s':Sd),bR f->bf f N s->bf f N' s'->N<=900->N'<=900->(∀ r,r < f.ro.length->(load s' r).1 - (load s r).1<=900)->aD (F [cF s,cF s'] M) fun r M'=>∃ n,r=.d (.adr n)/\M.length<=n/\M'[n]?=some (.lst ((uf s s' f.ro.length).map GC))/\Ex M M'
theorem FV {G:aL}:nY (af G 5 yO):=by
 intro M f N N' s s' hf hs zm hN VQ hd
 have h8:=hf.l8
 rw [aU]
 show wSs G yO [some (.tup [.tup (s.st.map D.int),.tup (s.ld.map ff)]),some (.tup [.tup (s'.st.map D.int),.tup (s'.ld.map ff)]),none,none,none] M _ _ _ _
 nofun
 refine ⟨s0,?_⟩
 nofun
 have hl:((s.ld.map ff).length:Int).toNat=f.ro.length:=by rw [Int.toNat_natCast,aP,hs.ll]
 refine ⟨⟨by omega,by rw [aP,hs.ll];omega⟩,?_⟩
 rw [hl]
 refine eB (n:=f.ro.length) (fun i ρ M'=>∃ o3 o4,ρ=[some (.tup [.tup (s.st.map D.int),.tup (s.ld.map ff)]),some (.tup [.tup (s'.st.map D.int),.tup (s'.ld.map ff)]),some (.adr M.length),o3,o4]/\M'[M.length]?=some (.lst ((uf s s' i).map GC))/\Ex M M') ⟨_,_,rfl,ah,(Ex.refl M).app⟩ ?_ ?_
 ·rintro i ρ M' hi ⟨o3,o4,rfl,hL,fr⟩
  obtain ⟨e1,l1⟩:=hs.vp hi
  obtain ⟨e2,l2⟩:=zm.vp hi
  rw [show (0:Int)+(i:Int)=((i:Nat):Int) by omega]
  nofun
  rw [ie e1]
  nofun
  rw [ie e2]
  nofun
  have b1:=l1.s
  have b2:=l2.s
  have b3:=hd i hi
  refine ⟨⟨by omega,by omega,by omega,by omega⟩,?_⟩
  refine eB (n:=((load s' i).1 - (load s i).1).toNat) (fun j ρ M'=>∃ o4,ρ=[some (.tup [.tup (s.st.map D.int),.tup (s.ld.map ff)]),some (.tup [.tup (s'.st.map D.int),.tup (s'.ld.map ff)]),some (.adr M.length),some (.int i),o4]/\M'[M.length]?=some (.lst ((uf s s' i++(k8 s s' i).take j).map GC))/\Ex M M') ⟨_,rfl,by rw [List.take_zero,List.append_nil];exact hL,fr⟩ ?_ ?_
  ·rintro j ρ M2 hj ⟨o4,rfl,kL,jF⟩
   have hb:=nX (s:=s) (s':=s') (B:=900) (n:=i) fun r hr=>hd r (by omega)
   have OV:((k8 s s' i).take j).length<=900:=by
    rw [List.length_take]
    unfold k8
    rw [aP,iu]
    omega
   have Pg:i * 900<=8 * 900:=Nat.mul_le_mul_right _ (by omega)
   nofun
   refine ⟨bJ kL,?_⟩
   nofun
   refine ⟨s2,?_⟩
   nofun
   rw [cz kL (yQ (by rw [aP,jM];omega))]
   refine ⟨_,rfl,?_,Fr.set jF (ba _)⟩
   have Te:(k8 s s' i)[j]?=some (i,(load s i).1+(j:Int)):=by
    unfold k8
    rw [dy,BK hj]
    rfl
   rw [set_same kL,aT Te,<- List.append_assoc,qu (l₂:=[_])]
   rfl
  ·rintro ρ M2 ⟨o4,rfl,kL,jF⟩
   refine ⟨_,_,rfl,?_,jF⟩
   rw [qc]
   rw [List.take_of_length_le (by unfold k8;rw [aP,iu];exact ba _)] at kL
   exact kL
 ·rintro ρ M' ⟨o3,o4,rfl,hL,fr⟩
  nofun
  exact ⟨_,rfl,ba _,hL,fr⟩
theorem yR {f:Fm} (hf:bR f) {N:Nat} {s:Sd} {d:Dn} (hs:bf f N s) (hd:cy f d) (hc:cn f s d=true) {r:Nat} (hr:r < f.ro.length):(load (bN f s d) r).1 - (load s r).1<=(N+3:Nat):=by
 obtain ⟨h1,h2⟩:=p9 hf hs hd hc r
 have h3:=((hs.bN hf hd hc).vp hr).2.n
 have h4:=congrArg List.length h2
 rw [jM,iu] at h4
 unfold nums at h4
 rw [aP,aP] at h4
 omega
def Lb (s:Sd) (i j:Nat):Lm:=fun r k=>if (r < i/\k∈nums (load s r))\/(r=i/\k∈(nums (load s i)).take j) then some (none,none) else none
theorem Rep.PR {s:Sd}:Rep [] (Lb s 0 0):=Rep.nil.congr fun r k=>by
 unfold Lb
 rw [if_neg]
 rintro (h | h)
 ·omega
 ·rw [List.take_zero] at h;cases h.2
theorem Rep.PU {aa:Kv} {s:Sd} {i j:Nat} {k:Int} (h:Rep aa (Lb s i j)) (e:(nums (load s i))[j]?=some k):Rep (putD aa (k2 i k) (vJ (none,none))) (Lb s i (j+1)):=(h.put i k (none,none)).congr fun r' k'=>by
 unfold putL Lb
 rw [aT e]
 by_cases hc:i=r'/\k=k'
 ·obtain ⟨rfl,rfl⟩:=hc
  rw [if_pos ⟨rfl,rfl⟩,if_pos (.inr ⟨rfl,je.mpr (.inr List.mem_cons_self)⟩)]
 ·rw [if_neg hc]
  by_cases h2:(r' < i/\k'∈nums (load s r'))\/(r'=i/\k'∈(nums (load s i)).take j)
  ·rw [if_pos h2,if_pos (h2.imp_right fun z=>⟨z.1,je.mpr (.inl z.2)⟩)]
  ·rw [if_neg h2,if_neg]
   rintro (z | ⟨z1,z2⟩)
   ·exact h2 (.inl z)
   ·rcases je.mp z2 with z | z
    ·exact h2 (.inr ⟨z1,z⟩)
    ·exact hc ⟨z1.symm,(List.mem_singleton.mp z).symm⟩
theorem Rep.PV {aa:Kv} {s:Sd} {i j:Nat} (h:Rep aa (Lb s i j)) (e:(nums (load s i)).length<=j):Rep aa (Lb s (i+1) 0):=h.congr fun r k=>by
 unfold Lb
 rw [List.take_of_length_le e,List.take_zero]
 by_cases h2:(r < i/\k∈nums (load s r))\/(r=i/\k∈nums (load s i))
 ·rw [if_pos h2,if_pos]
  rcases h2 with z | ⟨rfl,z⟩
  ·exact .inl ⟨by omega,z.2⟩
  ·exact .inl ⟨by omega,z⟩
 ·rw [if_neg h2,if_neg]
  rintro (⟨z1,z2⟩|⟨_,z⟩)
  ·rcases Nat.lt_or_ge r i with q | q
   ·exact h2 (.inl ⟨q,z2⟩)
   ·have:r=i:=by omega
    subst this
    exact h2 (.inr ⟨rfl,z2⟩)
  ·cases z
theorem Rep.PX {aa:Kv} {f:Fm} {s:Sd} (h:Rep aa (Lb s f.ro.length 0)):Rep aa (L0 f s):=h.congr fun r k=>by
 unfold Lb L0
 by_cases h2:r < f.ro.length/\k∈nums (load s r)
 ·rw [if_pos (.inl h2),if_pos h2]
 ·rw [if_neg h2,if_neg]
  rintro (z | ⟨_,z⟩)
  ·exact h2 z
  ·rw [List.take_zero] at z;cases z
def Ls (L:Lm) (i:Nat) (ps:List (Nat×Int)):Lm:=fun r k=>if (r,k)∈ps then some (some i,none) else L r k
theorem Rep.Tf {aa:Kv} {L:Lm} {i:Nat} (h:Rep aa L):Rep aa (Ls L i []):=h.congr fun r k=>by
 unfold Ls
 rw [if_neg (by simp)]
theorem Rep.Tg {aa:Kv} {L:Lm} {i:Nat} {ps:List (Nat×Int)} {r:Nat} {k:Int} (h:Rep aa (Ls L i ps)):Rep (putD aa (k2 r k) (vJ (some i,none))) (Ls L i (ps++[(r,k)])):=(h.put r k (some i,none)).congr fun r' k'=>by
 unfold putL Ls
 by_cases hc:r=r'/\k=k'
 ·obtain ⟨rfl,rfl⟩:=hc
  rw [if_pos ⟨rfl,rfl⟩,if_pos (je.mpr (.inr List.mem_cons_self))]
 ·rw [if_neg hc]
  by_cases h2:(r',k')∈ps
  ·rw [if_pos h2,if_pos (je.mpr (.inl h2))]
  ·rw [if_neg h2,if_neg]
   intro z
   rcases je.mp z with z | z
   ·exact h2 z
   ·have:=List.mem_singleton.mp z
    cases this
    exact hc ⟨rfl,rfl⟩
theorem qf {f:Fm} {N:Nat} {s:Sd} (hs:bf f N s) {r:Nat} (h:¬ r < f.ro.length):load s r=(0,[]):=by
 unfold load
 rw [qt,List.getElem?_eq_none (by rw [hs.ll];omega)]
 rfl
theorem Rep.Th {aa:Kv} {L:Lm} {i:Nat} {f:Fm} {N N':Nat} {s s':Sd} (hs:bf f N s) (zm:bf f N' s') (h:Rep aa (Ls L i (uf s s' f.ro.length))):Rep aa (BJ s s' i L):=h.congr fun r k=>by
 unfold Ls BJ
 by_cases h2:(load s r).1<=k/\k < (load s' r).1
 ·rw [if_pos h2,if_pos (ug.mpr ⟨?_,h2⟩)]
  rcases Nat.lt_or_ge r f.ro.length with q | q
  ·exact q
  ·rw [qf hs (by omega),qf zm (by omega)] at h2
   have:=h2.1
   have:=h2.2
   omega
 ·rw [if_neg h2,if_neg (fun z=>h2 (ug.mp z).2)]
def eS (F:Fn):Prop:=∀ (M:Mem) (f:Fm) (N:Nat) (s:Sd) (ds:List Dn) (n:Nat),bR f->bf f N s->N+3 * ds.length<=890->ds.length<=60->cU f s ds->M[n]?=some (.lst (ds.map bE))->aD (F [cQ f,cF s,.adr n] M) fun r M'=>∃ n' aa,r=.d (.adr n')/\M.length<=n'/\M'[n']?=some (.dT aa)/\Rep aa (gU f s ds ds.length)/\Ex M M'
def yS (d5:Nat):List S:=[.aX [11] .seq [(.call d5 [(.var 7),(.sub (.var 9) (.cst (.int 0)))])] [.dput (.var 3) (.var 11) (.tup [(.var 8),(.cst .az)])],.asg [7] (.sub (.var 9) (.cst (.int 0)))]
theorem uh {s:Sd} {r j:Nat} {p:Int×Str} (h:(load s r).2[j]?=some p):(nums (load s r))[j]?=some p.1:=by
 unfold nums
 rw [dy,h]
 rfl
theorem qg {l:Int×List (Int×Str)}:(nums l).length=l.2.length:=by unfold nums;rw [aP]
theorem J4 {M:Mem} {n r:Nat} {aa:Kv} {k:Int} {d:D} (hM:M[n]?=some (.dT aa)) (hl:aa.length<=1000000):gq (.d (.adr n)) (.d (GC (r,k))) d M=.ok () (M.set n (.dT (putD aa (k2 r k) d))):=lZ hM hl
theorem BL {G : aL} {d5 : Nat} (hB : nY (G d5)) {M0 M : Mem} {f : Fm} {N : Nat} {s : Sd} {d : Dn} {i nL : Nat} {L : Lm} {aa : Kv} {e0 e1 e2 o4 o5 o6 fI kE : Option D} {w : D} (hf : bR f) (hs : bf f N s) (hN : N + 3 <= 900) (hd : cy f d) (hc : cn f s d = true) (hL : M[nL]? = some (.dT aa)) (hk : aa.length <= 500000) (hr : Rep aa (gA d i L)) (hx : Ex M0 M) (hl : M0.length <= nL)
    {nx:En->Mem->Prop} {rt:W->Mem->Prop} {bk ct:En->Mem->Prop} (hn:∀ M' sy kE,M'[nL]?=some (.dT sy)->sy.length<=aa.length+7200->Rep sy (GB f s d i L)->Fr nL M M'->nx [e0,e1,e2,some (.adr nL),o4,o5,o6,some (cF (bN f s d)),some (.int i),some (.tup [cF (bN f s d),w]),fI,kE] M') :
    wSs G (yS d5) [e0,e1,e2,some (.adr nL),o4,o5,o6,some (cF s),some (.int i),some (.tup [cF (bN f s d),w]),fI,kE] M nx rt bk ct:=by
  have h8:=hf.l8
  have zm:=hs.bN hf hd hc
  have kS:∀ r,r < f.ro.length->(load (bN f s d) r).1 - (load s r).1<=900:=fun r hr=>by have:=yR hf hs hd hc hr;omega
  have tq:=nX (s:=s) (s':=bN f s d) (B:=900) (n:=f.ro.length) kS
  have VR:f.ro.length * 900<=8 * 900:=Nat.mul_le_mul_right _ h8
  nofun
  refine (hB M f N (N+3) s (bN f s d) hf hs zm (by omega) hN kS).imp ?_
  rintro r M1 ⟨n1,rfl,Bl,om,f1⟩
  have Gx:=Ex.get f1 hL
  have lL:=ak hL
  nofun
  rw [dr om]
  refine Be (n:=n1) (ds:=(uf s (bN f s d) f.ro.length).map GC) (fun j ρ M'=>∃ kE GD,ρ=[e0,e1,e2,some (.adr nL),o4,o5,o6,some (cF s),some (.int i),some (.tup [cF (bN f s d),w]),fI,kE]/\M'[n1]?=some (.lst ((uf s (bN f s d) f.ro.length).map GC))/\M'[nL]?=some (.dT GD)/\GD.length<=aa.length+j/\Rep GD (Ls (gA d i L) i ((uf s (bN f s d) f.ro.length).take j))/\Fr nL M M') (by rintro j ρ M' ⟨_,_,_,h,_⟩;exact h) ⟨_,aa,rfl,om,Gx,ba _,hr.Tf,Fr.back (Fr.refl nL M) f1 (.inl (ba _))⟩ ?_ ?_
  · rintro j ρ M2 dd bG ⟨kE,GD,rfl,qv,kL,Bg,zh,jF⟩
    rw [dy] at bG
    cases e:(uf s (bN f s d) f.ro.length)[j]? with
    | none=>rw [e] at bG;cases bG
    | some p =>
      rw [e] at bG
      cases bG
      have hj:=(dh.mp e).1
      obtain ⟨r,k⟩:=p
      nofun
      refine ⟨s2,?_⟩
      nofun
      rw [J4 kL (by omega)]
      refine ⟨_,_,rfl,aw qv (by omega),set_same kL,Nat.le_trans fX (by omega),?_,Fr.Bd jF⟩
      rw [aT e]
      exact zh.Tg
  · rintro ρ M2 ⟨kE,GD,rfl,qv,kL,Bg,zh,jF⟩
    rw [aP] at Bg zh
    rw [List.take_length] at zh
    nofun
    exact hn M2 GD _ kL (by omega) (zh.Th hs zm) jF
theorem yT {G:aL} {cf kK d5:Nat} (hW:kA (G cf)) (hS:sv (G kK)) (hB:nY (G d5)):eS (af G 12 (qa cf kK d5)):=by
 intro M f N s ds n hf hs hN l0 hr hn
 have h8:=hf.l8
 rw [aU]
 show wSs G (qa cf kK d5) [some (.tup [.tup (f.ru.map tY),.tup (f.ro.map qy)]),some (cF s),some (.adr n),none,none,none,none,none,none,none,none,none] M _ _ _ _
 have hl:((f.ro.map qy).length:Int).toNat=f.ro.length:=by rw [Int.toNat_natCast,aP]
 have lM:=ak hn
 nofun
 refine ⟨⟨by omega,by rw [aP];omega⟩,?_⟩
 rw [hl]
 refine eB (n:=f.ro.length) (fun i ρ M'=>∃ o4 o5 o6 aa,ρ=[some (cQ f),some (cF s),some (.adr n),some (.adr M.length),o4,o5,o6,none,none,none,none,none]/\M'[M.length]?=some (.dT aa)/\aa.length<=i * N/\Rep aa (Lb s i 0)/\Ex M M') ⟨_,_,_,[],rfl,ah,Nat.zero_le _,Rep.PR,(Ex.refl M).app⟩ ?_ ?_
 ·rintro i ρ M1 hi ⟨o4,o5,o6,aa,rfl,hL,hk,hR,fr⟩
  have Ti:i * N<=8 * 890:=Nat.mul_le_mul (by omega) (by omega)
  obtain ⟨e1,l1⟩:=hs.vp hi
  have ln:=l1.n
  rw [show (0:Int)+(i:Int)=((i:Nat):Int) by omega]
  nofun
  refine (hW M1 f N s i hs hi).imp ?_
  rintro o M2 ⟨rfl,rfl⟩
  nofun
  refine dJ (ds:=(load s i).2.map pD) (fun j ρ M'=>∃ o5 o6 kv,ρ=[some (cQ f),some (cF s),some (.adr n),some (.adr M.length),some (.int i),o5,o6,none,none,none,none,none]/\M'[M.length]?=some (.dT kv)/\kv.length<=i * N+j/\Rep kv (Lb s i j)/\Ex M M') ⟨_,_,aa,rfl,hL,hk,hR,fr⟩ ?_ ?_
  ·rintro j ρ M2 dd bG ⟨o5,o6,kv,rfl,kL,Bg,BM,jF⟩
   rw [dy] at bG
   cases e:(load s i).2[j]? with
   | none=>rw [e] at bG;cases bG
   | some p =>
    rw [e] at bG
    cases bG
    have hj:=(dh.mp e).1
    obtain ⟨k,c⟩:=p
    nofun
    refine ⟨s2,?_⟩
    nofun
    refine ⟨s2,?_⟩
    nofun
    rw [lZ kL (by omega)]
    exact ⟨_,_,_,rfl,set_same kL,Nat.le_trans fX (by omega),BM.PU (uh e),Fr.set jF (ba _)⟩
  ·rintro ρ M2 ⟨o5,o6,kv,rfl,kL,Bg,BM,jF⟩
   rw [aP] at Bg BM
   exact ⟨_,_,_,kv,rfl,kL,by rw [Nat.add_mul];omega,BM.PV (by rw [qg];exact ba _),jF⟩
 ·rintro ρ M1 ⟨o4,o5,o6,aa,rfl,hL,hk,hR,fr⟩
  have hR:=hR.PX
  have om:=Ex.get fr hn
  have Tj:f.ro.length * N<=8 * 890:=Nat.mul_le_mul h8 (by omega)
  nofun
  refine (hS M1 f N s ds n hf hs hN hr om).imp ?_
  rintro o M2 ⟨n2,rfl,zc,qv,f2⟩
  have Tn:=fr.1
  have lL:=ak hL
  have kL:=Ex.get f2 hL
  nofun
  rw [yL qv]
  refine p4 (n:=n2) (ds:=(tr f s ds).map Gv) (fun i ρ M'=>∃ o4 o5 o6 o8 o9 fI kE aa,ρ=[some (cQ f),some (cF s),some (.adr n),some (.adr M.length),o4,o5,o6,some (cF (fin f s (ds.take i))),o8,o9,fI,kE]/\M'[n2]?=some (.lst ((tr f s ds).map Gv))/\M'[M.length]?=some (.dT aa)/\aa.length<=8000+7201 * i/\Rep aa (gU f s ds i)/\Ex M M') (by rintro i ρ M' ⟨_,_,_,_,_,_,_,_,_,h,_⟩;exact h) ⟨_,_,_,_,_,_,_,aa,rfl,qv,kL,by omega,hR,Ex.trans fr f2⟩ ?_ ?_ (p5 qv)
  ·rintro i ρ M3 dd bG ⟨o4,o5,o6,o8,o9,fI,kE,aa,rfl,qA,kI,HM,ui,gk⟩
   rw [dy] at bG
   cases e:(tr f s ds)[i]? with
   | none=>rw [e] at bG;cases bG
   | some x =>
    rw [e] at bG
    cases bG
    have hx:=CQ e
    have hi:=(dh.mp e).1
    rw [nS] at hi
    have ed:ds[i]?=some ds[i]:=eD hi
    obtain ⟨k1,k2⟩:=kG hr ed
    have FW:=nW hf hs hr i (by omega)
    have Ow:=ir (f:=f) (s:=s) ed
    rw [nV ed] at hx
    have Ox:=nV (f:=f) (s:=s) ed
    have J5:=bf.fin hf hs (fK (i:=i) hr)
    have Gw:(ds.take i).length=i:=by rw [List.length_take];omega
    rw [Gw] at J5
    have To:=Ex.get gk hn
    have vF:(ds.map bE)[i]?=some (bE ds[i]):=by rw [dy,ed];rfl
    obtain ⟨t,m,wd⟩:=x
    have hx:t=bN f (fin f s (ds.take i)) ds[i]:=hx
    subst hx
    generalize Tp:ds[i]=d at *
    have sA:∀ (M4:Mem) (kv:Kv) (fI kE:Option D),M4[M.length]?=some (.dT kv)->kv.length<=8001+7201 * i->Rep kv (gA d i (gU f s ds i))->M4[n2]?=some (.lst ((tr f s ds).map Gv))->Ex M M4->∀ rt bk ct,wSs G (yS d5) [some (cQ f),some (cF s),some (.adr n),some (.adr M.length),o4,o5,o6,some (cF (fin f s (ds.take i))),some (.int i),some (.tup [cF (bN f (fin f s (ds.take i)) d),FJ m wd]),fI,kE] M4 (fun ρ M'=>∃ o4 o5 o6 o8 o9 fI kE aa,ρ=[some (cQ f),some (cF s),some (.adr n),some (.adr M.length),o4,o5,o6,some (cF (fin f s (ds.take (i+1)))),o8,o9,fI,kE]/\M'[n2]?=some (.lst ((tr f s ds).map Gv))/\M'[M.length]?=some (.dT aa)/\aa.length<=8000+7201 * (i+1)/\Rep aa (gU f s ds (i+1))/\Ex M M') rt bk ct:=by
     intro M4 kv fI kE h1 h2 h3 h4 h5 rt bk ct
     refine BL hB hf J5 (by omega) k1 k2 h1 (by omega) h3 h5 (ba _) ?_
     intro M5 Oy kE g1 g2 g3 g4
     rw [Ox,Ow]
     exact ⟨_,_,_,_,_,_,_,Oy,rfl,g4.get h4 (by omega),g1,by omega,g3,Fr.back h5 g4 (.inl (ba _))⟩
    nofun
    rw [bA To vF]
    nofun
    cases d with
    | own m =>
     nofun
     rw [aQ bw ay,r_]
     exact sA M3 aa _ _ kI (by omega) ui qA gk _ _ _
    | cG m c =>
     nofun
     rw [aQ bB ay,pT]
     exact sA M3 aa _ _ kI (by omega) ui qA gk _ _ _
    | a_ r k =>
     have hd:=FW r k k1 (p_ k2).1
     obtain ⟨x,hx⟩:=Option.isSome_iff_exists.mp hd
     have hg:bX aa (Ev.k2 r k)=some (vJ x):=by rw [ui.gt,hx];rfl
     nofun
     rw [aQ ay ay,nJ]
     nofun
     refine ⟨s2,?_⟩
     nofun
     rw [ue (vt kI) hg]
     nofun
     refine ⟨s2,?_⟩
     nofun
     rw [lZ kI (by omega)]
     refine sA (M3.set M.length (.dT (putD aa (Ev.k2 r k) (vJ (x.1,some i))))) _ _ _ (set_same kI) (Nat.le_trans fX (by omega)) ?_ (aw qA (by omega)) (Fr.set gk (ba _)) _ _ _
     have:=ui.put r k (x.1,some i)
     show Rep _ (putL (gU f s ds i) r k (((gU f s ds i r k).getD (none,none)).1,some i))
     rw [hx]
     exact this
  ·rintro ρ M3 ⟨o4,o5,o6,o8,o9,fI,kE,aa,rfl,qA,kI,HM,ui,gk⟩
   rw [aP,nS] at ui
   nofun
   exact ⟨_,aa,rfl,ba _,kI,ui,gk⟩
abbrev J6:=List (Int×List (Int×Str))
def Lq (s:Sd) (ld:J6) (i:Nat) (L:Lm):Lm:=fun r k=>if (load s r).1<=k/\k < (ld.getD r (0,[])).1 then some (some i,none) else L r k
theorem Rep.Tq {aa:Kv} {s:Sd} {ld:J6} {i:Nat} {L:Lm} (h:Rep aa L) (e:∀ r,(ld.getD r (0,[])).1=(load s r).1):Rep aa (Lq s ld i L):=h.congr fun r k=>by
 unfold Lq
 rw [e,if_neg (by omega)]
theorem Rep.Tr {aa:Kv} {s:Sd} {ld:J6} {i r:Nat} {c:Str} {L:Lm} (h:Rep aa (Lq s ld i L)) (hr:r < ld.length) (hm:(load s r).1<=(ld.getD r (0,[])).1):Rep (putD aa (k2 r (ld.getD r (0,[])).1) (vJ (some i,none))) (Lq s (ld.set r (more (ld.getD r (0,[])) c)) i L):=(h.put r (ld.getD r (0,[])).1 (some i,none)).congr fun r' k'=>by
 unfold putL Lq
 rw [kJ hr]
 by_cases hc:r=r'/\(ld.getD r (0,[])).1=k'
 ·obtain ⟨rfl,rfl⟩:=hc
  rw [if_pos ⟨rfl,rfl⟩,if_pos rfl,if_pos ⟨hm,by show _ < (ld.getD r (0,[])).1+1;omega⟩]
 ·rw [if_neg hc]
  by_cases Jz:r=r'
  ·subst Jz
   rw [if_pos rfl]
   have hk:(ld.getD r (0,[])).1≠k':=fun z=>hc ⟨rfl,z⟩
   by_cases h2:(load s r).1<=k'/\k' < (ld.getD r (0,[])).1
   ·rw [if_pos h2,if_pos ⟨h2.1,by show _ < (ld.getD r (0,[])).1+1;omega⟩]
   ·rw [if_neg h2,if_neg]
    rintro ⟨z1,z2⟩
    have z2:k' < (ld.getD r (0,[])).1+1:=z2
    exact h2 ⟨z1,by omega⟩
  ·rw [if_neg Jz]
def iV (l:Int×List (Int×Str)):D:=.int l.1
def Oz:D->Option D
 | .tup (x::_)=>some x
 | _=>none
theorem uj:∀ ld:J6,(ld.map ff).filterMap Oz=ld.map iV
 | []=>rfl
 | l::ld=>by
  show D.int l.1::(ld.map ff).filterMap Oz=_
  rw [uj ld]
  rfl
theorem sC {ld:J6} {r:Nat} (h:r < ld.length):(ld.map iV)[r]?=some (.int (ld.getD r (0,[])).1):=by
 rw [dy,qt,eD h]
 rfl
theorem um {a b c:D}:cutD [a,b,c] (some 1) none=[b,c]:=rfl
def sD (bp bY:Nat):List S:=[.eZ 8 (.comp .seq [(.sub (.var 1) (.cst (.int 1)))] [1] none (.sub (.var 1) (.cst (.int 0))) [none,none]),.aX [4,6] .seq [(.sub (.call bp [(.var 0),(.var 1),(.sub (.var 2) (.var 7))]) (.cst (.int 1)))] [.dput (.var 3) (.tup [(.var 4),(.sub (.var 8) (.var 4))]) (.tup [(.var 7),(.cst .az)]),.put (.var 8) (.var 4) (.bin .add (.sub (.var 8) (.var 4)) (.cst (.int 1)))],.asg [1] (.sub (.call bY [(.var 0),(.var 1),(.sub (.var 2) (.var 7))]) (.cst (.int 0)))]
theorem BN {G : aL} {bp bY : Nat} (hA : iT (G bp)) (hO : jd (G bY)) {M : Mem} {f : Fm} {N : Nat} {s : Sd} {ds : List Dn} {d : Dn} {i n nL : Nat} {L : Lm} {aa : Kv} {o4 o5 o6 o8 : Option D} (hf : bR f) (hs : bf f N s) (hN : N + 3 <= 900) (hd : cy f d) (hc : cn f s d = true) (he : ds[i]? = some d) (hn : M[n]? = some (.lst (ds.map bE))) (hL : M[nL]? = some (.dT aa)) (hk : aa.length <= 500000) (hr : Rep aa (gA d i L))
    {nx:En->Mem->Prop} {rt:W->Mem->Prop} {bk ct:En->Mem->Prop} (hx:∀ M' sy o4 o6 o8,M'[nL]?=some (.dT sy)->sy.length<=aa.length+3->Rep sy (GB f s d i L)->Fr nL M M'->nx [some (cQ f),some (cF (bN f s d)),some (.adr n),some (.adr nL),o4,o5,o6,some (.int i),o8] M') :
    wSs G (sD bp bY) [some (cQ f),some (cF s),some (.adr n),some (.adr nL),o4,o5,o6,some (.int i),o8] M nx rt bk ct:=by
  have h8:=hf.l8
  have vF:(ds.map bE)[i]?=some (bE d):=by rw [dy,he];rfl
  have OA:=kH hc
  have ax:=pS hf hs hd OA
  have Ts:n≠nL:=fun z=>by rw [z,hL] at hn;cases hn
  show wSs G (sD bp bY) [some (cQ f),some (.tup [.tup (s.st.map D.int),.tup (s.ld.map ff)]),some (.adr n),some (.adr nL),o4,o5,o6,some (.int i),o8] M nx rt bk ct
  nofun
  refine lN (ds:=s.ld.map ff) Oz (by decide) kl (fH (by rw [aP,hs.ll];omega)) ?_ ?_ rfl
  · intro j M' dd bG fr
    obtain ⟨l,hl,rfl⟩:=la.mp (jL bG)
    nofun
    exact ⟨rfl,fr⟩
  intro M1 f1
  rw [uj]
  nofun
  have DW:(M1++[MO.lst (s.ld.map iV)])[M1.length]?=some (.lst (s.ld.map iV)):=ah
  have om:(M1++[MO.lst (s.ld.map iV)])[n]?=some (.lst (ds.map bE)):=av (Ex.get f1 hn)
  have Gx:(M1++[MO.lst (s.ld.map iV)])[nL]?=some (.dT aa):=av (Ex.get f1 hL)
  have CF:Ex M (M1++[MO.lst (s.ld.map iV)]):=Fr.app f1
  have lM:=f1.1
  have lL:=ak hL
  have ln:=ak hn
  generalize M1++[MO.lst (s.ld.map iV)]=M2 at DW om Gx CF
  generalize VS:M1.length=nC at DW
  have e1:s.ld.map iV=(bT s.ld d).map iV:=by
    cases d with
    | own m=>rfl
    | cG m c=>rfl
    | a_ q k =>
      have hq:q < s.ld.length:=by rw [hs.ll];exact hd
      show _=(s.ld.set q (less (s.ld.getD q (0,[])) k)).map iV
      rw [List.map_set]
      refine (List.ext_getElem? fun j=>?_)
      rw [List.getElem?_set]
      by_cases z:q=j
      · subst z
        rw [if_pos rfl,if_pos (by rw [aP];exact hq),sC hq]
        rfl
      · rw [if_neg z]
  have e2:∀ r,((bT s.ld d).getD r (0,[])).1=(load s r).1:=fun r=>by
    rw [(sx hs hd r).1]
    cases d with
    | own m=>rfl
    | cG m c=>rfl
    | a_ q k =>
      show (if q=r then less (load s r) k else load s r).1=_
      split <;> rfl
  have lW:(bT s.ld d).length=f.ro.length:=by rw [(sx hs hd 0).2,hs.ll]
  have hb:∀ p∈(qz f s d).2.1,0<=p.1/\p.1.toNat < (bT s.ld d).length:=fun p hp=>by
    obtain ⟨_,h2,x,h3,_⟩:=ax.sd p hp
    refine ⟨h2,?_⟩
    rw [lW]
    exact (dh.mp h3).1
  rw [bA om vF]
  nofun
  refine (hA M2 f N s d hf hs (by omega) hd).imp ?_
  rintro o M3 ⟨f3,rfl⟩
  rw [OA]
  have z_:=Ex.get f3 DW
  have qA:=Ex.get f3 om
  have kI:=Ex.get f3 Gx
  have gk:=Ex.trans CF f3
  have Tt:qz f s d=((qz f s d).1,(qz f s d).2.1,(qz f s d).2.2):=rfl
  have eK:bN f s d=⟨s.st.set (mc f d) (qz f s d).1,send (bT s.ld d) (qz f s d).2.1⟩:=rfl
  have Py:=ax.l
  generalize jB:(qz f s d).2.1=sd at *
  rw [Tt,e1] at *
  nofun
  refine dJ (ds:=sd.map pD) (fun j ρ M'=>∃ o4 o6 kv,ρ=[some (cQ f),some (cF s),some (.adr n),some (.adr nL),o4,o5,o6,some (.int i),some (.adr nC)]/\M'[nL]?=some (.dT kv)/\M'[nC]?=some (.lst ((send (bT s.ld d) (sd.take j)).map iV))/\kv.length<=aa.length+j/\Rep kv (Lq s (send (bT s.ld d) (sd.take j)) i (gA d i L))/\M'[n]?=some (.lst (ds.map bE))/\Fr nL M M') ⟨_,_,aa,rfl,kI,z_,ba _,hr.Tq e2,qA,Fr.back (Fr.refl nL M) gk (.inl (ba _))⟩ ?_ ?_
  · rintro j ρ M4 dd bG ⟨o4,o6,kv,rfl,vI,uP,Gd,J7,vh,fU⟩
    rw [dy] at bG
    cases e:sd[j]? with
    | none=>rw [e] at bG;cases bG
    | some p =>
      rw [e] at bG
      cases bG
      have hj:=(dh.mp e).1
      obtain ⟨b0,b1⟩:=hb p (jL e)
      obtain ⟨r,c⟩:=p
      obtain ⟨r,rfl⟩:∃ q:Nat,r=q:=⟨r.toNat,by omega⟩
      have b1:r < (bT s.ld d).length:=by simpa using b1
      obtain ⟨m1,_,m3⟩:=iU (sd.take j) (bT s.ld d) r fun q hq=>hb q (List.mem_of_mem_take hq)
      rw [e2] at m1
      have Lg:r < (send (bT s.ld d) (sd.take j)).length:=by rw [m3];exact b1
      have Bm:nC≠nL:=fun z=>by rw [z,vI] at uP;cases uP
      have J8:=iR (ld:=bT s.ld d) (sd:=sd.take j) (p:=((r:Int),c))
      rw [<- aT e] at J8
      have J8:send (bT s.ld d) (sd.take (j+1))=(send (bT s.ld d) (sd.take j)).set r (more ((send (bT s.ld d) (sd.take j)).getD r (0,[])) c):=J8
      rw [J8]
      generalize send (bT s.ld d) (sd.take j)=ld at *
      nofun
      refine ⟨s2,?_⟩
      nofun
      rw [bA uP (sC Lg)]
      nofun
      refine ⟨s2,?_⟩
      nofun
      rw [lZ vI (by omega)]
      have DX:(M4.set nL (.dT (putD kv (k2 r (ld.getD r (0,[])).1) (.tup [.int i,.az]))))[nC]?=some (.lst (ld.map iV)):=aw uP Bm
      nofun
      rw [bA DX (sC Lg)]
      nofun
      rw [fT DX (by rw [aP];exact Lg)]
      refine ⟨_,_,_,rfl,aw (set_same vI) (Ne.symm Bm),?_,Nat.le_trans fX (by omega),J7.Tr Lg m1,aw (aw vh Ts) (by omega),Fr.set (Fr.Bd fU) (by omega)⟩
      rw [set_same DX,List.map_set]
      rfl
  · rintro ρ M4 ⟨o4,o6,kv,rfl,vI,uP,Gd,J7,vh,fU⟩
    rw [aP] at Gd J7
    rw [List.take_length] at J7
    nofun
    rw [bA vh vF]
    nofun
    refine (hO M4 f N s d _ hf hs (by omega) hd OA).imp ?_
    rintro o M5 ⟨f5,rfl⟩
    have Gy:=Ex.get f5 vI
    refine hx M5 kv _ _ _ Gy (by omega) ?_ (Fr.back fU f5 (.inl fU.1))
    show Rep kv (BJ s (bN f s d) i (gA d i L))
    rw [eK]
    exact J7
theorem vv {G:aL} {bp bY:Nat} (hA:iT (G bp)) (hO:jd (G bY)):eS (af G 9 (lX bp bY)):=by
 intro M f N s ds n hf hs hN l0 hr hn
 have h8:=hf.l8
 rw [aU]
 show wSs G (lX bp bY) [some (.tup [.tup (f.ru.map tY),.tup (f.ro.map qy)]),some (.tup [.tup (s.st.map D.int),.tup (s.ld.map ff)]),some (.adr n),none,none,none,none,none,none] M _ _ _ _
 have hl:((f.ro.map qy).length:Int).toNat=f.ro.length:=by rw [Int.toNat_natCast,aP]
 have lM:=ak hn
 nofun
 refine ⟨⟨by omega,by rw [aP];omega⟩,?_⟩
 rw [hl]
 refine eB (n:=f.ro.length) (fun i ρ M'=>∃ o4 o5 o6 aa,ρ=[some (cQ f),some (.tup [.tup (s.st.map D.int),.tup (s.ld.map ff)]),some (.adr n),some (.adr M.length),o4,o5,o6,none,none]/\M'[M.length]?=some (.dT aa)/\aa.length<=i * N/\Rep aa (Lb s i 0)/\Ex M M') ⟨_,_,_,[],rfl,ah,Nat.zero_le _,Rep.PR,(Ex.refl M).app⟩ ?_ ?_
 ·rintro i ρ M1 hi ⟨o4,o5,o6,aa,rfl,hL,hk,hR,fr⟩
  have Ti:i * N<=8 * 890:=Nat.mul_le_mul (by omega) (by omega)
  obtain ⟨e1,l1⟩:=hs.vp hi
  have ln:=l1.n
  rw [show (0:Int)+(i:Int)=((i:Nat):Int) by omega]
  nofun
  rw [ie e1]
  nofun
  refine dJ (ds:=(load s i).2.map pD) (fun j ρ M'=>∃ o5 o6 kv,ρ=[some (cQ f),some (.tup [.tup (s.st.map D.int),.tup (s.ld.map ff)]),some (.adr n),some (.adr M.length),some (.int i),o5,o6,none,none]/\M'[M.length]?=some (.dT kv)/\kv.length<=i * N+j/\Rep kv (Lb s i j)/\Ex M M') ⟨_,_,aa,rfl,hL,hk,hR,fr⟩ ?_ ?_
  ·rintro j ρ M2 dd bG ⟨o5,o6,kv,rfl,kL,Bg,BM,jF⟩
   rw [dy] at bG
   cases e:(load s i).2[j]? with
   | none=>rw [e] at bG;cases bG
   | some p =>
    rw [e] at bG
    cases bG
    have hj:=(dh.mp e).1
    obtain ⟨k,c⟩:=p
    nofun
    refine ⟨s2,?_⟩
    nofun
    refine ⟨s2,?_⟩
    nofun
    rw [lZ kL (by omega)]
    exact ⟨_,_,_,rfl,set_same kL,Nat.le_trans fX (by omega),BM.PU (uh e),Fr.set jF (ba _)⟩
  ·rintro ρ M2 ⟨o5,o6,kv,rfl,kL,Bg,BM,jF⟩
   rw [aP] at Bg BM
   exact ⟨_,_,_,kv,rfl,kL,by rw [Nat.add_mul];omega,BM.PV (by rw [qg];exact ba _),jF⟩
 ·rintro ρ M1 ⟨o4,o5,o6,aa,rfl,hL,hk,hR,fr⟩
  have hR:=hR.PX
  have om:=Ex.get fr hn
  have Tj:f.ro.length * N<=8 * 890:=Nat.mul_le_mul h8 (by omega)
  have Tn:=fr.1
  have lL:=ak hL
  nofun
  rw [da om]
  nofun
  refine ⟨⟨by omega,by rw [aP];omega⟩,?_⟩
  rw [show (((ds.map bE).length:Nat):Int).toNat=ds.length by rw [Int.toNat_natCast,aP]]
  refine eB (n:=ds.length) (fun i ρ M'=>∃ o4 o5 o6 o7 o8 aa,ρ=[some (cQ f),some (cF (fin f s (ds.take i))),some (.adr n),some (.adr M.length),o4,o5,o6,o7,o8]/\M'[n]?=some (.lst (ds.map bE))/\M'[M.length]?=some (.dT aa)/\aa.length<=8000+4 * i/\Rep aa (gU f s ds i)/\Ex M M') ⟨_,_,_,_,_,aa,rfl,om,hL,by omega,hR,fr⟩ ?_ ?_
  ·rintro i ρ M3 hi ⟨o4,o5,o6,o7,o8,aa,rfl,qA,kI,HM,ui,gk⟩
   have ed:ds[i]?=some ds[i]:=eD hi
   obtain ⟨k1,k2⟩:=kG hr ed
   have FW:=nW hf hs hr i (by omega)
   have Ow:=ir (f:=f) (s:=s) ed
   have Ox:=nV (f:=f) (s:=s) ed
   have J5:=bf.fin hf hs (fK (i:=i) hr)
   have Gw:(ds.take i).length=i:=by rw [List.length_take];omega
   rw [Gw] at J5
   have vF:(ds.map bE)[i]?=some (bE ds[i]):=by rw [dy,ed];rfl
   generalize Tp:ds[i]=d at *
   have sA:∀ (M4:Mem) (kv:Kv),M4[M.length]?=some (.dT kv)->kv.length<=8001+4 * i->Rep kv (gA d i (gU f s ds i))->M4[n]?=some (.lst (ds.map bE))->Ex M M4->∀ rt bk ct,wSs G (sD bp bY) [some (cQ f),some (cF (fin f s (ds.take i))),some (.adr n),some (.adr M.length),o4,o5,o6,some (.int i),o8] M4 (fun ρ M'=>∃ o4 o5 o6 o7 o8 aa,ρ=[some (cQ f),some (cF (fin f s (ds.take (i+1)))),some (.adr n),some (.adr M.length),o4,o5,o6,o7,o8]/\M'[n]?=some (.lst (ds.map bE))/\M'[M.length]?=some (.dT aa)/\aa.length<=8000+4 * (i+1)/\Rep aa (gU f s ds (i+1))/\Ex M M') rt bk ct:=by
    intro M4 kv h1 h2 h3 h4 h5 rt bk ct
    refine BN hA hO hf J5 (by omega) k1 k2 ed h4 h1 (by omega) h3 ?_
    intro M5 Oy o4 o6 o8 g1 g2 g3 g4
    rw [Ox,Ow]
    exact ⟨_,_,_,_,_,Oy,rfl,g4.get h4 (by omega),g1,by omega,g3,Fr.back h5 g4 (.inl (ba _))⟩
   rw [show (0:Int)+(i:Int)=((i:Nat):Int) by omega]
   nofun
   rw [bA qA vF]
   nofun
   cases d with
   | own m =>
    nofun
    rw [aQ bw ay,r_]
    exact sA M3 aa kI (by omega) ui qA gk _ _ _
   | cG m c =>
    nofun
    rw [aQ bB ay,pT]
    exact sA M3 aa kI (by omega) ui qA gk _ _ _
   | a_ r k =>
    have hd:=FW r k k1 (p_ k2).1
    obtain ⟨x,hx⟩:=Option.isSome_iff_exists.mp hd
    have hg:bX aa (Ev.k2 r k)=some (vJ x):=by rw [ui.gt,hx];rfl
    have vF:(ds.map bE)[i]?=some (.tup [.str "come",.int r,.int k]):=vF
    nofun
    rw [aQ ay ay,nJ]
    nofun
    rw [bA qA vF]
    nofun
    rw [um,ue (vt kI) hg]
    nofun
    refine ⟨s2,?_⟩
    nofun
    rw [bA qA vF]
    nofun
    rw [um,lZ kI (by omega)]
    refine sA (M3.set M.length (.dT (putD aa (Ev.k2 r k) (vJ (x.1,some i))))) _ (set_same kI) (Nat.le_trans fX (by omega)) ?_ (aw qA (by omega)) (Fr.set gk (ba _)) _ _ _
    have:=ui.put r k (x.1,some i)
    show Rep _ (putL (gU f s ds i) r k (((gU f s ds i r k).getD (none,none)).1,some i))
    rw [hx]
    exact this
  ·rintro ρ M3 ⟨o4,o5,o6,o7,o8,aa,rfl,qA,kI,HM,ui,gk⟩
   nofun
   exact ⟨_,aa,rfl,ba _,kI,ui,gk⟩
def qB (f:Fm) (ds:List Dn):List Nat:=ds.map (mc f)
def Lh (f:Fm) (ds:List Dn) (i:Nat):D:=.tup [.int (mc f (ds.getD i (.own 0))),.int ((qB f (ds.take i)).count (mc f (ds.getD i (.own 0))):Nat)]
def jm (f:Fm) (ds:List Dn) (i:Nat):List D:=(List.range i).map (Lh f ds)
def jn (f:Fm) (ds:List Dn) (i:Nat):List D:=(List.range f.ru.length).map fun m=>D.int ((qB f (ds.take i)).count m:Nat)
theorem qh {f:Fm} {ds:List Dn} {i:Nat}:jm f ds (i+1)=jm f ds i++[Lh f ds i]:=by
 unfold jm
 rw [List.range_succ,qu]
 rfl
theorem jI {f:Fm} {ds:List Dn} {i:Nat}:(jm f ds i).length=i:=by unfold jm;rw [aP,List.length_range]
theorem nZ {f:Fm} {ds:List Dn} {i m:Nat} (h:m < f.ru.length):(jn f ds i)[m]?=some (.int ((qB f (ds.take i)).count m:Nat)):=by
 unfold jn
 rw [dy,List.getElem?_range h]
 rfl
theorem jJ {f:Fm} {ds:List Dn} {i:Nat}:(jn f ds i).length=f.ru.length:=by unfold jn;rw [aP,List.length_range]
theorem yU {f:Fm} {ds:List Dn} {i:Nat} {d:Dn} (e:ds[i]?=some d):qB f (ds.take (i+1))=qB f (ds.take i)++[mc f d]:=by
 unfold qB
 rw [aT e,qu]
 rfl
theorem yV {f:Fm} {ds:List Dn} {i:Nat} {d:Dn} (e:ds[i]?=some d):(jn f ds i).set (mc f d) (.int (((qB f (ds.take i)).count (mc f d):Nat)+1:Int))=jn f ds (i+1):=by
 refine List.ext_getElem? fun m=>?_
 rw [List.getElem?_set,jJ]
 by_cases hm:m < f.ru.length
 ·rw [nZ hm,nZ hm,yU e,List.count_append]
  by_cases z:mc f d=m
  ·subst z
   rw [if_pos rfl,if_pos hm,List.count_singleton_self]
   rfl
  ·rw [if_neg z,List.count_singleton,if_neg (by simpa using z)]
   rfl
 ·have h1:(jn f ds i)[m]?=none:=List.getElem?_eq_none (by rw [jJ];omega)
  have h2:(jn f ds (i+1))[m]?=none:=List.getElem?_eq_none (by rw [jJ];omega)
  rw [h1,h2]
  by_cases z:mc f d=m
  ·rw [if_pos z,if_neg (by omega)]
  ·rw [if_neg z]
theorem yW {f:Fm} {ds:List Dn}:(f.ru.map tY).filterMap (fun _=>some (D.int 0))=jn f ds 0:=by
 unfold jn
 rw [List.take_zero,List.filterMap_map]
 show f.ru.filterMap (fun _=>some (D.int 0))=(List.range f.ru.length).map fun m=>D.int 0
 refine List.ext_getElem? fun j=>?_
 rw [show (fun _:Int×List Mv=>some (D.int 0))=some∘(fun _=>D.int 0) from rfl,List.filterMap_eq_map,dy,dy]
 rcases Nat.lt_or_ge j f.ru.length with h | h
 ·rw [List.getElem?_range h,eD h]
  rfl
 ·rw [List.getElem?_eq_none (l:=f.ru) h,List.getElem?_eq_none (l:=List.range f.ru.length) (by rw [List.length_range];exact h)]
  rfl
theorem yX {f:Fm} {ds:List Dn} {i:Nat} {d:Dn} (e:ds[i]?=some d):Lh f ds i=.tup [.int (mc f d),.int ((qB f (ds.take i)).count (mc f d):Nat)]:=by
 unfold Lh
 rw [qt,e]
 rfl
inductive FX (M:Mem) (ds:List Dn):D->Prop where
 | l {n:Nat} (h:M[n]?=some (.lst (ds.map bE))):FX M ds (.adr n)
 | t:FX M ds (.tup (ds.map bE))
def jK (F:Fn):Prop:=∀ (M:Mem) (f:Fm) (ds:List Dn) (x:D),bR f->(∀ d∈ds,cy f d)->ds.length<=60->FX M ds x->aD (F [cQ f,x] M) fun r M'=>∃ n',r=.d (.adr n')/\M.length<=n'/\M'[n']?=some (.lst (jm f ds ds.length))/\Ex M M'
def FY (eC:Nat):List S:=[.asg [5] (.call eC [(.var 0),(.var 4)]),.expr (.me .append (.var 3) [(.tup [(.var 5),(.sub (.var 2) (.var 5))])]),.put (.var 2) (.var 5) (.bin .add (.sub (.var 2) (.var 5)) (.cst (.int 1)))]
theorem BO {G:aL} {eC:Nat} (hM:jc (G eC)):jK (af G 6 (ub eC)):=by
 intro M f ds x hf hd l0 hx
 have h4:=hf.l4
 rw [aU]
 show wSs G (ub eC) [some (.tup [.tup (f.ru.map tY),.tup (f.ro.map qy)]),some x,none,none,none,none] M _ _ _ _
 nofun
 refine lN (ds:=f.ru.map tY) (fun _=>some (.int 0)) (by decide) kl (fH (by rw [aP];omega)) ?_ ?_ rfl
 ·intro j M' dd bG fr
  nofun
  exact ⟨rfl,fr⟩
 intro M1 f1
 rw [yW (ds:=ds)]
 nofun
 refine ⟨s0,?_⟩
 nofun
 have lM:=f1.1
 have hC:(M1++[MO.lst (jn f ds 0)]++[MO.lst []])[M1.length]?=some (.lst (jn f ds 0)):=av ah
 have hE:(M1++[MO.lst (jn f ds 0)]++[MO.lst []])[(M1++[MO.lst (jn f ds 0)]).length]?=some (.lst (jm f ds 0)):=ah
 have fr:Ex M (M1++[MO.lst (jn f ds 0)]++[MO.lst []]):=Fr.app (Fr.app f1)
 have iY:M1.length≠(M1++[MO.lst (jn f ds 0)]).length:=by rw [jM];simp
 have hle:M.length<=(M1++[MO.lst (jn f ds 0)]).length:=by rw [jM];omega
 generalize (M1++[MO.lst (jn f ds 0)]).length=nE at hE iY hle ⊢
 generalize M1++[MO.lst (jn f ds 0)]++[MO.lst []]=M2 at hC hE fr ⊢
 generalize M1.length=nC at hC iY lM ⊢
 have step:∀ (i:Nat) (ρ:En) (M':Mem) (dd:D) (rt:W->Mem->Prop) (bk:En->Mem->Prop),(ds.map bE)[i]?=some dd->(∃ o4 o5,ρ=[some (cQ f),some x,some (.adr nC),some (.adr nE),o4,o5]/\M'[nC]?=some (.lst (jn f ds i))/\M'[nE]?=some (.lst (jm f ds i))/\Ex M M')->A_ (bt [4] dd ρ) fun ρ=>wSs G (FY eC) ρ M' (fun ρ M'=>∃ o4 o5,ρ=[some (cQ f),some x,some (.adr nC),some (.adr nE),o4,o5]/\M'[nC]?=some (.lst (jn f ds (i+1)))/\M'[nE]?=some (.lst (jm f ds (i+1)))/\Ex M M') rt bk (fun ρ M'=>∃ o4 o5,ρ=[some (cQ f),some x,some (.adr nC),some (.adr nE),o4,o5]/\M'[nC]?=some (.lst (jn f ds (i+1)))/\M'[nE]?=some (.lst (jm f ds (i+1)))/\Ex M M'):=by
  rintro i ρ M3 dd rt bk bG ⟨o4,o5,rfl,z_,BP,gk⟩
  rw [dy] at bG
  cases e:ds[i]? with
  | none=>rw [e] at bG;cases bG
  | some d =>
   rw [e] at bG
   cases bG
   have hi:=(dh.mp e).1
   have PY:=hd d (jL e)
   have hm:=PY.mc hf
   nofun
   refine (hM M3 f d hf PY).imp ?_
   rintro r M4 ⟨rfl,rfl⟩
   nofun
   refine ⟨bJ BP,?_⟩
   nofun
   rw [bA z_ (nZ hm)]
   nofun
   refine ⟨s2,?_⟩
   nofun
   rw [cz BP (aI (by rw [jI];omega))]
   have uP:(M3.set nE (.lst (jm f ds i++[.tup [.int (mc f d),.int ((qB f (ds.take i)).count (mc f d):Nat)]])))[nC]?=some (.lst (jn f ds i)):=aw z_ iY
   nofun
   rw [bA uP (nZ hm)]
   nofun
   rw [fT uP (by rw [jJ];exact hm),yV e]
   refine ⟨_,_,rfl,set_same uP,aw ?_ (Ne.symm iY),Fr.set (Fr.set gk hle) lM⟩
   rw [set_same BP,qh,yX e]
 cases hx with
 | l h =>
  rename_i n
  have J8:n≠nC/\n≠nE:=by have:=ak h;omega
  have h2:=Ex.get fr h
  rw [dr h2]
  refine Be (n:=n) (ds:=ds.map bE) (fun i ρ M'=>∃ o4 o5,ρ=[some (cQ f),some (.adr n),some (.adr nC),some (.adr nE),o4,o5]/\M'[nC]?=some (.lst (jn f ds i))/\M'[nE]?=some (.lst (jm f ds i))/\Ex M M') (by rintro i ρ M' ⟨_,_,_,_,_,h3⟩;exact Ex.get h3 h) ⟨_,_,rfl,hC,hE,fr⟩ (fun i ρ M' dd h1 h2=>step i ρ M' dd _ _ h1 h2) ?_
  rintro ρ M3 ⟨o4,o5,rfl,z_,BP,gk⟩
  rw [aP] at BP
  nofun
  exact ⟨_,rfl,hle,BP,gk⟩
 | t =>
  refine dJ (ds:=ds.map bE) (fun i ρ M'=>∃ o4 o5,ρ=[some (cQ f),some (.tup (ds.map bE)),some (.adr nC),some (.adr nE),o4,o5]/\M'[nC]?=some (.lst (jn f ds i))/\M'[nE]?=some (.lst (jm f ds i))/\Ex M M') ⟨_,_,rfl,hC,hE,fr⟩ (fun i ρ M' dd h1 h2=>step i ρ M' dd _ _ h1 h2) ?_
  rintro ρ M3 ⟨o4,o5,rfl,z_,BP,gk⟩
  rw [aP] at BP
  nofun
  exact ⟨_,rfl,hle,BP,gk⟩
theorem qj {M:Mem} {a b:Nat} {P:PyData} (h1:f_ M (.d (.adr a))=some P) (h2:f_ M (.d (.adr b))=some P) (hs:SeqAt.shaped P=true):aO .ne (.d (.adr a)) (.d (.adr b)) M=.ok false M/\aO .eq (.d (.adr a)) (.d (.adr b)) M=.ok true M:=by
 have hc:P.canLay0=true:=by
  unfold SeqAt.shaped at hs
  exact ((bH _ _).mp hs).1
 have hr:PyData.eqv P P=true:=SeqAt.eqv_refl _ hc
 constructor
 ·unfold aO
  simp only [h1,h2,hs,and_self,if_true,hr]
  rfl
 ·unfold aO
  simp only [h1,h2,hs,and_self,if_true,hr]
theorem yY {M:Mem} {n:Nat} {ds:List Dn} (hM:M[n]?=some (.lst (ds.map bE))):f_ M (.d (.adr n))=some (.list (ds.map t_)):=by
 show cq M 30 (.adr n)=_
 unfold cq
 simp only [hM]
 rw [sk (by decide) ds]
 rfl
theorem yZ {P:D->Prop} {a b:D} (ha:P a) (hb:P b):∀ d∈[a,b],P d:=fun d hd=>by
 simp only [List.mem_cons,List.mem_nil_iff,or_false] at hd
 rcases hd with rfl | rfl <;> assumption
theorem CS {f:Fm} (hf:bR f) {ds:List Dn} (hd:∀ d∈ds,cy f d) (l0:ds.length<=60):∀ d∈jm f ds ds.length,Sm 11 1 d:=fun d bG=>by
 have h4:=hf.l4
 obtain ⟨i,hi,rfl⟩:=la.mp bG
 rw [List.mem_range] at hi
 have e:ds[i]?=some ds[i]:=eD hi
 have hm:=(hd _ (jL e)).mc hf
 rw [yX e]
 have hc:=List.count_le_length (a:=mc f ds[i]) (l:=qB f (ds.take i))
 have hl:(qB f (ds.take i)).length<=60:=by unfold qB;rw [aP,List.length_take];omega
 exact Sm.tup (b:=2) (h:=0) (k:=2) (yZ (Sm.int (by omega) (by omega)) (Sm.int (by omega) (by omega))) (ba 2)
theorem iW {f:Fm} {s:Sd} {ds:List Dn}:∀ {i r:Nat} {k:Int} {x:Option Nat×Option Nat},gU f s ds i r k=some x->(∀ a,x.1=some a->a < i)/\∀ a,x.2=some a->a < i
 | 0,r,k,x,h=>by
  have h:(if r < f.ro.length/\k∈nums (load s r) then some (none,none) else none:Option (Option Nat×Option Nat))=some x:=h
  split at h
  ·cases h;exact ⟨fun a z=>(by cases z),fun a z=>(by cases z)⟩
  ·cases h
 | i+1,r,k,x,h=>by
  cases e:ds[i]? with
  | none =>
   have q:gU f s ds (i+1)=gU f s ds i:=by
    show (match ds[i]? with
     | some d=>GB f (fin f s (ds.take i)) d i (gU f s ds i)
     | none=>gU f s ds i)=_
    rw [e]
   rw [q] at h
   obtain ⟨h1,h2⟩:=iW h
   exact ⟨fun a z=>Nat.lt_succ_of_lt (h1 a z),fun a z=>Nat.lt_succ_of_lt (h2 a z)⟩
  | some d =>
   rw [ir e] at h
   have old:∀ {r k x},gU f s ds i r k=some x->(∀ a,x.1=some a->a < i+1)/\∀ a,x.2=some a->a < i+1:=fun {r k x} h=>by
    obtain ⟨h1,h2⟩:=iW h
    exact ⟨fun a z=>Nat.lt_succ_of_lt (h1 a z),fun a z=>Nat.lt_succ_of_lt (h2 a z)⟩
   have h:(if (load (fin f s (ds.take i)) r).1<=k/\k < (load (bN f (fin f s (ds.take i)) d) r).1 then some (some i,none) else gA d i (gU f s ds i) r k)=some x:=h
   split at h
   ·cases h
    exact ⟨fun a z=>(by cases z;omega),fun a z=>(by cases z)⟩
   ·cases d with
    | own m=>exact old h
    | cG m c=>exact old h
    | a_ q n =>
     have h:(if q=r/\n=k then some (((gU f s ds i q n).getD (none,none)).1,some i) else gU f s ds i r k)=some x:=h
     split at h
     ·cases h
      refine ⟨fun a z=>?_,fun a z=>(by cases z;omega)⟩
      cases w:gU f s ds i q n with
      | none=>rw [w] at z;cases z
      | some y=>rw [w] at z;exact (old w).1 a z
     ·exact old h
theorem J9 {x:Option Nat} {n:Nat} (h:∀ a,x=some a->a < n) (hn:n<=60):Sm 4 0 (oD x):=by
 cases x with
 | none=>exact Sm.az
 | some a=>exact (Sm.int (i:=(a:Int)) (by omega) (by have:=h a rfl;omega)).mono (by decide) (by decide)
theorem J_ {f:Fm} {s:Sd} {ds:List Dn} {r:Nat} {k:Int} {x:Option Nat×Option Nat} (l0:ds.length<=60) (h:gU f s ds ds.length r k=some x):Sm 15 1 (vJ x):=by
 obtain ⟨h1,h2⟩:=iW h
 exact Sm.tup (b:=4) (h:=0) (k:=2) (yZ (J9 h1 l0) (J9 h2 l0)) (ba 2)
theorem Ka {n d:Nat} {i:Nat} (h:i<=n):HT.cH n d (some (i:Int))=i:=by
 show (if ((i:Nat):Int) < 0 then (((i:Nat):Int)+(n:Int)).toNat else min ((i:Nat):Int).toNat n)=i
 rw [if_neg (by omega)]
 omega
theorem qo {M:Mem} {n i:Nat} {ds:List D} (h:M[n]?=some (.lst ds)) (hi:i<=ds.length):jX (.d (.adr n)) none (some (i:Int)) M=.ok (.lv (ds.take i)) M:=by
 have e:Ev.cutD ds none (some (i:Int))=ds.take i:=by
  unfold Ev.cutD
  rw [Ka hi,show HT.cH ds.length 0 none=0 from rfl,List.drop_zero,Nat.sub_zero]
 unfold jX;simp only [bc,h,e]
def mI (f:Fm) (d:Dn):D:=.int (mc f d)
theorem uo {f:Fm}:∀ ds:List Dn,fb (ds.map (mI f))=some (ds.map fun d=>(mc f d:Int))
 | []=>rfl
 | d::ds=>by
  show (fb (ds.map (mI f))).map _=_
  rw [uo ds]
  rfl
theorem qq {f:Fm} {m:Nat}:∀ ds:List Dn,(ds.map fun d=>(mc f d:Int)).count (m:Int)=(qB f ds).count m
 | []=>rfl
 | d::ds=>by
  unfold qB
  rw [List.map_cons,List.map_cons,List.count_cons,List.count_cons]
  have:=qq (f:=f) (m:=m) ds
  unfold qB at this
  rw [this]
  congr 1
  by_cases h:mc f d=m
  ·rw [h];simp
  ·rw [if_neg (by simp;omega),if_neg (by simp;omega)]
theorem FZ {M:Mem} {f:Fm} {ds:List Dn} {m:Nat}:mG (.lv (ds.map (mI f))) (.d (.int m)) M=.ok (.d (.int ((qB f ds).count m:Nat))) M:=by
 unfold mG
 simp only [show de M (.lv (ds.map (mI f)))=some (ds.map (mI f)) from rfl,uo,qq]
theorem is_list {M:Mem} {n:Nat} {ds:List D} (h:M[n]?=some (.lst ds)):iw (.mF .list) [.d (.adr n)] M=.ok (.d (.bl true)) M:=by
 unfold iw wZ;simp only [h];rfl
theorem BQ {M:Mem} {n:Nat} {aa:Kv} (h:M[n]?=some (.dT aa)):iw (.mF .dict) [.d (.adr n)] M=.ok (.d (.bl true)) M:=by
 unfold iw wZ;simp only [h];rfl
theorem len_T {M:Mem} {n:Nat} {aa:Kv} (hM:sX M (.d (.adr n))=some aa):lG (.d (.adr n)) M=.ok (.d (.int aa.length)) M:=by
 unfold lG;simp only [hM]
theorem Kb {M:Mem} {n r:Nat} {aa:Kv} {k:Int} (hM:sX M (.d (.adr n))=some aa) (hg:(bX aa (k2 r k)).isSome=true):i_ true (.d (.tup [.int r,.int k])) (.d (.adr n)) M=.ok (.d (.bl false)) M:=by
 unfold i_
 simp only [hM,show qX (.d (.tup [.int r,.int k]))=some (k2 r k) from rfl,hg]
 rfl
theorem Kc {M:Mem} {n:Nat} {aa:Kv} (h:M[n]?=some (.dT aa)):oZ (.d (.adr n)) M=.ok (.d .az) (M.set n (.dT [])):=by
 unfold oZ;simp only [h]
theorem BR {M:Mem} {n:Nat} {ds:List D} (h:M[n]?=some (.lst ds)):qw .clear (.d (.adr n)) [] M=.ok (.d .az) (M.set n (.lst [])):=by
 unfold qw;simp only [h]
theorem y2 {M:Mem} {f:Fm} {ds:List Dn} {a b:Nat} (hf:bR f) (hd:∀ d∈ds,cy f d) (l0:ds.length<=60) (ha:M[a]?=some (.lst (jm f ds ds.length))) (hb:M[b]?=some (.lst (jm f ds ds.length))):aO .eq (.d (.adr a)) (.d (.adr b)) M=.ok true M:=by
 obtain ⟨ps,e,q,l⟩:=Sm.ds (CS hf hd l0)
 have hp:∀ n,M[n]?=some (.lst (jm f ds ds.length))->f_ M (.d (.adr n))=some (.list ps):=fun n hn=>by
  show cq M 30 (.adr n)=_
  unfold cq
  simp only [hn]
  rw [e M 29 (by decide)]
  rfl
 exact (qj (hp a ha) (hp b hb) ((ny.list (k:=60) q (by rw [l,jI];exact l0)).shaped (by decide))).2
def vA (M:Mem) (n:Nat) (aa:Kv):Prop:=M[n]?=some (.dT aa)\/M[n]?=some (.dF aa)
theorem vA.ex {M M':Mem} {n:Nat} {aa:Kv} (h:vA M n aa) (e:Ex M M'):vA M' n aa:=h.imp (Ex.get e) (Ex.get e)
theorem vA.lt {M:Mem} {n:Nat} {aa:Kv} (h:vA M n aa):n < M.length:=h.elim ak ak
theorem vA.app {M X:Mem} {n:Nat} {aa:Kv} (h:vA M n aa):vA (M++X) n aa:=h.imp av av
theorem vA.dt {M:Mem} {n:Nat} {aa:Kv} (h:vA M n aa):sX M (.d (.adr n))=some aa:=h.elim vt J3
def dc (M:Mem) (n:Nat) (aa:Kv):Mem:=M.set n (.dF aa)
theorem Kd {M:Mem} {n:Nat} {aa:Kv} (h:vA M n aa):∃ M',fi .keys [.d (.adr n)] M=.ok (.items (aa.map iK)) M'/\Fr n M M'/\M'[n]?=some (.dF aa):=by
 rcases h with h | h
 ·exact ⟨M.set n (.dF aa),by unfold fi;simp only [h],Fr.Bd (Fr.refl n M),set_same h⟩
 ·exact ⟨M,by unfold fi;simp only [h],Fr.refl n M,h⟩
theorem y3 {f:Fm} {s:Sd} {ds:List Dn} (h:cU f s ds):∀ d∈ds,cy f d:=fun d hd=>by
 obtain ⟨i,hi,rfl⟩:=List.mem_iff_getElem.mp hd
 exact (kG h (eD hi)).1
def n_ (F:Fn):Prop:=∀ (M:Mem) (f:Fm) (s:Sd) (ds:List Dn) (n:Nat),bR f->bf f 4 s->ds.length<=60->cU f s ds->M[n]?=some (.lst (ds.map bE))->aD (F [cQ f,cF s,.adr n] M) fun r M'=>r=.d (.bl true)/\Ex M M'
theorem BS {G:aL} {d4 eR iq fL:Nat} (hM:jc (G d4)) (Tu:eS (G eR)) (Li:jK (G iq)) (Tv:eS (G fL)):n_ (af G 11 (uc d4 eR iq fL)):=by
 intro M f s ds n hf hs l0 hr hn
 have h4:=hf.l4
 have CT:=y3 hr
 rw [aU]
 show wSs G (uc d4 eR iq fL) [some (cQ f),some (cF s),some (.adr n),none,none,none,none,none,none,none,none] M _ _ _ _
 nofun
 rw [dr hn]
 refine gy (ds:=ds.map bE) (fun i M' acc=>acc=(ds.take i).map (mI f)/\M=M') (by decide) (fun i M' acc ⟨_,e⟩ _=>by subst e;exact lO hn _ (Ex.refl _) _ (by assumption)) ⟨rfl,rfl⟩ ?_ ?_ ?_
 ·rintro i M' acc dd bG ⟨rfl,rfl⟩
  rw [dy] at bG
  cases e:ds[i]? with
  | none=>rw [e] at bG;cases bG
  | some d =>
   rw [e] at bG
   cases bG
   refine ⟨aI (by rw [aP,List.length_take];omega),?_⟩
   nofun
   refine (hM _ f d hf (CT d (jL e))).imp ?_
   rintro r M4 ⟨rfl,rfl⟩
   exact ⟨by rw [aT e,qu];rfl,rfl⟩
 rotate_left
 ·exact ni hn
 rintro M' acc ⟨rfl,rfl⟩
 rw [aP,List.take_length]
 nofun
 have Bh:(M++[MO.lst (ds.map (mI f))])[M.length]?=some (.lst (ds.map (mI f))):=ah
 have om:(M++[MO.lst (ds.map (mI f))])[n]?=some (.lst (ds.map bE)):=av hn
 have CF:Ex M (M++[MO.lst (ds.map (mI f))]):=Fr.app (Ex.refl M)
 generalize VT:M.length=nM at Bh ⊢
 generalize M++[MO.lst (ds.map (mI f))]=M1 at Bh om CF ⊢
 rw [da om]
 nofun
 refine ⟨⟨by omega,by rw [aP];omega⟩,?_⟩
 rw [show (((ds.map bE).length:Nat):Int).toNat=ds.length by rw [Int.toNat_natCast,aP]]
 refine CA (n:=ds.length) (fun i M' acc=>acc=jm f ds i/\M1=M') (by decide) ⟨rfl,rfl⟩ ?_ ?_
 ·rintro i M' acc hi ⟨rfl,rfl⟩
  have ed:ds[i]?=some ds[i]:=eD hi
  have BF:(ds.map (mI f))[i]?=some (.int (mc f ds[i])):=by rw [dy,ed];rfl
  refine ⟨aI (by rw [jI];omega),?_⟩
  rw [show (0:Int)+(i:Int)=((i:Nat):Int) by omega]
  nofun
  rw [bA Bh BF]
  nofun
  rw [qo Bh (by rw [aP];omega)]
  nofun
  refine ⟨rfl,?_⟩
  nofun
  rw [bA Bh BF]
  nofun
  rw [<- List.map_take,FZ]
  nofun
  refine ⟨s2,?_⟩
  exact ⟨by rw [qh,yX ed],rfl⟩
 rintro M' acc ⟨rfl,rfl⟩
 nofun
 have hd2:(M1++[MO.lst (jm f ds ds.length)])[M1.length]?=some (.lst (jm f ds ds.length)):=ah
 have qv:(M1++[MO.lst (jm f ds ds.length)])[n]?=some (.lst (ds.map bE)):=av om
 have jF:Ex M (M1++[MO.lst (jm f ds ds.length)]):=Fr.app CF
 generalize Pa:M1.length=nD at hd2 ⊢
 generalize M1++[MO.lst (jm f ds ds.length)]=M2 at hd2 qv jF ⊢
 refine (Tu M2 f 4 s ds n hf hs (by omega) l0 hr qv).imp ?_
 rintro r M3 ⟨nL,aa,rfl,KU,kI,hR,f3⟩
 have Nl:=Ex.get f3 hd2
 have qA:=Ex.get f3 qv
 have gk:=Ex.trans jF f3
 have lM:=CF.1
 have VU:=ak hd2
 have ln:=ak hn
 obtain ⟨ex,hex,Ke⟩:=ye (CS hf CT l0) (by rw [jI];omega) (by decide) (by decide)
 nofun
 refine ⟨by decide,?_⟩
 refine eB (n:=2) (fun i ρ M'=>∃ o6 o7 o8 o9 fI,ρ=[some (cQ f),some (cF s),some (.adr n),some (.adr nM),some (.adr nD),some (.adr nL),o6,o7,o8,o9,fI]/\M'[nD]?=some (.lst (jm f ds ds.length))/\M'[n]?=some (.lst (ds.map bE))/\vA M' nL aa/\Ex M M') ⟨_,_,_,_,_,rfl,Nl,qA,.inl kI,gk⟩ ?_ ?_
 ·rintro i ρ M4 hi ⟨o6,o7,o8,o9,fI,rfl,OB,vh,vI,fU⟩
  nofun
  rw [xU vh]
  nofun
  have Lj:(M4++[MO.lst (ds.map bE)])[M4.length]?=some (.lst (ds.map bE)):=ah
  have PZ:(M4++[MO.lst (ds.map bE)])[nD]?=some (.lst (jm f ds ds.length)):=av OB
  have K5:(M4++[MO.lst (ds.map bE)])[n]?=some (.lst (ds.map bE)):=av vh
  have Gy:vA (M4++[MO.lst (ds.map bE)]) nL aa:=vI.app
  have jo:Ex M (M4++[MO.lst (ds.map bE)]):=Fr.app fU
  have Tw:=fU.1
  have Tz:=vI.lt
  have TB:=ak OB
  have P0:(M4++[MO.lst (ds.map bE)]).length=M4.length+1:=by rw [jM];rfl
  generalize VW:M4.length=nH at Lj Tw Tz TB P0 ⊢
  generalize M4++[MO.lst (ds.map bE)]=M5 at Lj PZ K5 Gy jo P0 ⊢
  refine (Li M5 f ds (.adr nH) hf CT l0 (.l Lj)).imp ?_
  rintro r M6 ⟨nE,rfl,Px,P1,f6⟩
  have P2:=Ex.get f6 Lj
  have TC:=Ex.get f6 PZ
  have Pp:=Ex.get f6 K5
  have Gz:=Gy.ex f6
  have CG:=Ex.trans jo f6
  have VX:=ak P1
  nofun
  refine (Tv M6 f 4 s ds nH hf hs (by omega) l0 hr P2).imp ?_
  rintro r M7 ⟨nT,TH,rfl,Om,OC,P4,f7⟩
  have Kg:=Ex.get f7 P1
  have TJ:=Ex.get f7 P2
  have P5:=Ex.get f7 TC
  have Gs:=Ex.get f7 Pp
  have P6:=Gz.ex f7
  have wN:=Ex.trans CG f7
  nofun
  rw [is_list Kg]
  nofun
  rw [Ke M7 nE Kg]
  nofun
  rw [Ke M7 nD P5]
  nofun
  rw [pK hex hex,beq_self_eq_true]
  nofun
  rw [(qj (yY TJ) (yY Gs) (yD fun d hd=>(CT d hd).s)).1]
  nofun
  rw [BQ OC]
  nofun
  rw [len_T (vt OC)]
  nofun
  rw [len_T P6.dt,P4.len hR]
  nofun
  rw [beq_self_eq_true]
  nofun
  obtain ⟨M8,e8,Fi,GA⟩:=Kd P6
  have P7:nT≠nL:=by omega
  have P8:nE≠nL:=by omega
  rw [e8]
  have OD:=Fi.get OC P7
  have Lk:=Fi.get Kg P8
  have TK:=Fi.get P5 (by omega)
  have Lc:=Fi.get Gs (by omega)
  have TL:Ex M M8:=Fr.back wN Fi (.inl (by omega))
  refine dJ (ds:=aa.map iK) (fun j ρ M'=>∃ fI,ρ=[some (cQ f),some (cF s),some (.adr n),some (.adr nM),some (.adr nD),some (.adr nL),some (.int (0+i)),some (.adr nH),some (.adr nE),some (.adr nT),fI]/\M8=M') ⟨_,rfl,rfl⟩ ?_ ?_
  ·rintro j ρ M9 dd bG ⟨fI,rfl,rfl⟩
   rw [dy] at bG
   cases e:aa[j]? with
   | none=>rw [e] at bG;cases bG
   | some p =>
    rw [e] at bG
    cases bG
    obtain ⟨r,k,x,ek,hx⟩:=hR.ky p.1 (la.mpr ⟨p,jL e,rfl⟩)
    have TM:iK p=.tup [.int r,.int k]:=by unfold iK;rw [ek];rfl
    have g1:bX aa (k2 r k)=some (vJ x):=by rw [hR.gt,hx];rfl
    have g2:bX TH (k2 r k)=some (vJ x):=by rw [P4.gt,hx];rfl
    obtain ⟨y,hy,P9⟩:=Bp (J_ l0 hx) (by decide) (by decide)
    rw [TM]
    nofun
    rw [Kb (vt OD) (by rw [g2];rfl)]
    nofun
    rw [ue (vt OD) g2]
    nofun
    rw [P9]
    nofun
    rw [ue (J3 GA) g1]
    nofun
    rw [P9]
    nofun
    rw [pK hy hy,beq_self_eq_true]
    exact ⟨_,rfl,rfl⟩
  ·rintro ρ M9 ⟨fI,rfl,rfl⟩
   nofun
   refine ⟨bJ Lk,?_⟩
   nofun
   rw [BR Lk]
   nofun
   rw [Kc (aw OD (by omega))]
   exact ⟨_,_,_,_,_,rfl,aw (aw TK (by omega)) (by omega),aw (aw Lc (by omega)) (by omega),.inr (aw (aw GA (Ne.symm P8)) (Ne.symm P7)),Fr.set (Fr.set TL (by omega)) (by omega)⟩
 ·rintro ρ M4 ⟨o6,o7,o8,o9,fI,rfl,OB,vh,vI,fU⟩
  nofun
  exact ⟨rfl,fU⟩
end Ev
end
section
namespace e9
open Ev PySem
abbrev Fu:=List D->Mem->Out W
abbrev c0 (l:List Fu):=l
def n0:List Str:=["thing"]
def b0:List S:=rN
def f0:Fu:=af (tab (c0 [])) 1 b0
abbrev c1 (l:List Fu):=c0 (f0::l)
def n1:List Str:=["thing","bound"]
def b1:List S:=rO 0
def f1:Fu:=af (tab (c1 [])) 2 b1
abbrev c2 (l:List Fu):=c1 (f1::l)
def n2:List Str:=["thing"]
def b2:List S:=yj
def f2:Fu:=af (tab (c2 [])) 1 b2
abbrev c3 (l:List Fu):=c2 (f2::l)
def n3:List Str:=["form","m","state","cause","move"]
def b3:List S:=nk
def f3:Fu:=af (tab (c3 [])) 5 b3
abbrev c4 (l:List Fu):=c3 (f3::l)
def n4:List Str:=["stand","road"]
def b4:List S:=rP
def f4:Fu:=af (tab (c4 [])) 2 b4
abbrev c5 (l:List Fu):=c4 (f4::l)
def n5:List Str:=["form","thing"]
def b5:List S:=rQ 1 2 0
def f5:Fu:=af (tab (c5 [])) 2 b5
abbrev c6 (l:List Fu):=c5 (f5::l)
def n6:List Str:=["form","deed"]
def b6:List S:=yk
def f6:Fu:=af (tab (c6 [])) 2 b6
abbrev c7 (l:List Fu):=c6 (f6::l)
def n7:List Str:=["form","stand","road","waiting"]
def b7:List S:=Fo 4
def f7:Fu:=af (tab (c7 [])) 4 b7
abbrev c8 (l:List Fu):=c7 (f7::l)
def n8:List Str:=["form","stand","thing"]
def b8:List S:=Fp 5 3 7
def f8:Fu:=af (tab (c8 [])) 3 b8
abbrev c9 (l:List Fu):=c8 (f8::l)
def n9:List Str:=["stand","deed"]
def b9:List S:=rR 4
def f9:Fu:=af (tab (c9 [])) 2 b9
abbrev Ll (l:List Fu):=c9 (f9::l)
def TN:List Str:=["letters","k"]
def P_:List S:=yn
def TQ:Fu:=af (tab (Ll [])) 2 P_
abbrev Ln (l:List Fu):=Ll (TQ::l)
def TR:List Str:=["letters","sign"]
def Qa:List S:=yo
def TU:Fu:=af (tab (Ln [])) 2 Qa
abbrev Lo (l:List Fu):=Ln (TU::l)
def TV:List Str:=["form","stand","deed","m","reply","states","roads","road","sign","told"]
def Qb:List S:=yp 6 3 9 10 11
def J2:Fu:=af (tab (Lo [])) 10 Qb
abbrev Lp (l:List Fu):=Lo (J2::l)
def TX:List Str:=["form","stand","deeds","behind","now","number","deed","step"]
def Qc:List S:=su 8 12
def TY:Fu:=af (tab (Lp [])) 8 Qc
abbrev Lr (l:List Fu):=Lp (TY::l)
def TZ:List Str:=["form","deeds","counts","events","deed","m"]
def Qd:List S:=[.eZ 2 (.comp .seq [(.sub (.var 0) (.cst (.int 0)))] [1] none (.cst (.int 0)) [none,none]),.asg [3] (.lst []),.aX [4] .seq [(.var 1)] [.asg [5] (.call 6 [(.var 0),(.var 4)]),.expr (.me .append (.var 3) [(.tup [(.var 5),(.sub (.var 2) (.var 5))])]),.put (.var 2) (.var 5) (.bin .add (.sub (.var 2) (.var 5)) (.cst (.int 1)))],.ret (.var 3)]
def T1:Fu:=af (tab (Lr [])) 6 Qd
abbrev Lu (l:List Fu):=Lr (T1::l)
def T3:List Str:=["ahead","behind","letters","road","k"]
def Qe:List S:=[.asg [2] (.lst []),.aX [3] .cB [(.bi .len [(.sub (.var 0) (.cst (.int 1)))])] [.aX [4] .kT [(.sub (.sub (.sub (.var 0) (.cst (.int 1))) (.var 3)) (.cst (.int 0))),(.sub (.sub (.sub (.var 1) (.cst (.int 1))) (.var 3)) (.cst (.int 0)))] [.expr (.me .append (.var 2) [(.tup [(.var 3),(.var 4)])])]],.ret (.var 2)]
def T4:Fu:=af (tab (Lu [])) 5 Qe
abbrev Lv (l:List Fu):=Lu (T4::l)
def T5:List Str:=["form","stand","deeds","letters","road","k","sign","ahead","number","step","deed","letter"]
def Qf:List S:=[.asg [3] .ji,.aX [4] .cB [(.bi .len [(.sub (.var 0) (.cst (.int 1)))])] [.aX [5,6] .seq [(.call 4 [(.var 1),(.var 4)])] [.dput (.var 3) (.tup [(.var 4),(.var 5)]) (.tup [(.cst .az),(.cst .az)])]],.asg [7] (.var 1),.aX [8,9] .enum [(.call 13 [(.var 0),(.var 1),(.var 2)])] [.asg [10] (.sub (.var 2) (.var 8)),.iff (.val (.cmp .eq (.sub (.var 10) (.cst (.int 0))) (.cst (.str "come")))) [.asg [11] (.tup [(.sub (.var 10) (.cst (.int 1))),(.sub (.var 10) (.cst (.int 2)))]),.dput (.var 3) (.var 11) (.tup [(.sub (.gc (.var 3) (.var 11)) (.cst (.int 0))),(.var 8)])] [],.aX [11] .seq [(.call 15 [(.var 7),(.sub (.var 9) (.cst (.int 0)))])] [.dput (.var 3) (.var 11) (.tup [(.var 8),(.cst .az)])],.asg [7] (.sub (.var 9) (.cst (.int 0)))],.ret (.var 3)]
def T6:Fu:=af (tab (Lv [])) 12 Qf
abbrev Lw (l:List Fu):=Lv (T6::l)
def T7:List Str:=["_law_script","_law_k","_law_cell"]
def Qg:List S:=xW
def T8:Fu:=af (tab (Lw [])) 3 Qg
abbrev Lx (l:List Fu):=Lw (T8::l)
def T9:List Str:=["_law_well_here","_law_many","_law_turn","_law_left","_law_here","_law_mixed"]
def Qh:List S:=tP
def T_:Fu:=af (tab (Lx [])) 6 Qh
abbrev Ly (l:List Fu):=Lx (T_::l)
def Ua:List Str:=["_law_well_here","_law_machines","_law_roads_here","_law_many","_law_k","_law_one","_law_other"]
def Qi:List S:=rE 18
def Ub:Fu:=af (tab (Ly [])) 7 Qi
abbrev Lz (l:List Fu):=Ly (Ub::l)
def Uc:List Str:=["_law_well_here","_law_some","_law_many","_law_k","_law_state"]
def Qj:List S:=nq 18
def Ud:Fu:=af (tab (Lz [])) 5 Qj
abbrev LB (l:List Fu):=Lz (Ud::l)
def Ue:List Str:=["_law_well_here","_law_ways","_law_sends_here","_law_k","_law_road"]
def Qk:List S:=rF 18
def Ug:Fu:=af (tab (LB [])) 5 Qk
abbrev LC (l:List Fu):=LB (Ug::l)
def Uh:List Str:=["_law_well_here","_law_some","_law_ways","_law_words","_law_moves_here","_law_state","_law_cause","_law_after","_law_sends_here","_law_word","_law_at"]
def Ql:List S:=rG 18 21
def Ui:Fu:=af (tab (LC [])) 11 Ql
abbrev LD (l:List Fu):=LC (Ui::l)
def Uj:List Str:=["_law_script","_law_well_here","_law_machines","_law_roads_here","_law_rules","_law_m","_law_some","_law_ways","_law_start"]
def Qm:List S:=tQ 17 18 19 20 22
def Uk:Fu:=af (tab (LD [])) 9 Qm
abbrev LF (l:List Fu):=LD (Uk::l)
def Ul:List Str:=["_law_form_here","_law_m","_law_state","_law_cause","_law_told"]
def Qn:List S:=nr
def Um:Fu:=af (tab (LF [])) 5 Qn
abbrev LG (l:List Fu):=LF (Um::l)
def Uo:List Str:=["_law_form_here","_law_stand_here","_law_found","_law_road","_law_waiting"]
def Qo:List S:=nF
def Up:Fu:=af (tab (LG [])) 5 Qo
abbrev LH (l:List Fu):=LG (Up::l)
def Uq:List Str:=["_law_form_here","_law_stand_here","_law_deed","_law_m","_law_road","_law_number","_law_sign"]
def Qp:List S:=rS 24 25
def Ur:Fu:=af (tab (LH [])) 7 Qp
abbrev LI (l:List Fu):=LH (Ur::l)
def Us:List Str:=["_law_form_here","_law_deed"]
def Qq:List S:=rT
def Ut:Fu:=af (tab (LI [])) 2 Qq
abbrev LJ (l:List Fu):=LI (Ut::l)
def Uu:List Str:=["_law_form_here","_law_stand_here","_law_deed","_law_after","_law_sends_here","_law_word","_law_m","_law_states_here","_law_load_here","_law_loads","_law_road","_law_sign","_law_roads_here"]
def Qr:List S:=rV 26 27
def Uv:Fu:=af (tab (LJ [])) 13 Qr
abbrev LK (l:List Fu):=LJ (Uv::l)
def Uw:List Str:=["_law_well_here","_law_order","_law_some","_law_sent","_law_waiting","_law_least","_law_k"]
def Qs:List S:=rW 18
def Ux:Fu:=af (tab (LK [])) 7 Qs
abbrev LL (l:List Fu):=LK (Ux::l)
def Uy:List Str:=["_law_script","_law_form_here","_law_well_here","_law_loads","_law_states_here"]
def Qt:List S:=nG 17 18 29
def Uz:Fu:=af (tab (LL [])) 5 Qt
abbrev LM (l:List Fu):=LL (Uz::l)
def UA:List Str:=["_law_well_here","_law_form_here","_law_stand_here","_law_some","_law_owns","_law_m","_law_way"]
def Qu:List S:=rX 25 26 18
def UB:Fu:=af (tab (LM [])) 7 Qu
abbrev LN (l:List Fu):=LM (UB::l)
def UC:List Str:=["_law_script","_law_form_here","_law_stand_here","_law_most","_law_well_here","_law_deeds_here","_law_many","_law_k","_law_deed"]
def Qv:List S:=nQ 17 18 31 28
def UD:Fu:=af (tab (LN [])) 9 Qv
abbrev LO (l:List Fu):=LN (UD::l)
def UE:List Str:=["_law_form_here","_law_stand_here","_law_deeds_here","_law_found","_law_road","_law_number","_law_sign","_law_k","_law_counts"]
def Qw:List S:=[.asg [3] .ji,.aX [4] .cB [(.bi .len [(.sub (.var 0) (.cst (.int 1)))])] [.aX [5,6] .seq [(.sub (.sub (.sub (.var 1) (.cst (.int 1))) (.var 4)) (.cst (.int 1)))] [.dput (.var 3) (.tup [(.var 4),(.var 5)]) (.tup [(.cst .az),(.cst .az)])]],.aX [7] .cB [(.bi .len [(.var 2)])] [.iff (.val (.cmp .eq (.sub (.sub (.var 2) (.var 7)) (.cst (.int 0))) (.cst (.str "come")))) [.dput (.var 3) (.kU (.sub (.var 2) (.var 7)) (some (.cst (.int 1))) none) (.tup [(.sub (.gc (.var 3) (.kU (.sub (.var 2) (.var 7)) (some (.cst (.int 1))) none)) (.cst (.int 0))),(.var 7)])] [],.eZ 8 (.comp .seq [(.sub (.var 1) (.cst (.int 1)))] [1] none (.sub (.var 1) (.cst (.int 0))) [none,none]),.aX [4,6] .seq [(.sub (.call 26 [(.var 0),(.var 1),(.sub (.var 2) (.var 7))]) (.cst (.int 1)))] [.dput (.var 3) (.tup [(.var 4),(.sub (.var 8) (.var 4))]) (.tup [(.var 7),(.cst .az)]),.put (.var 8) (.var 4) (.bin .add (.sub (.var 8) (.var 4)) (.cst (.int 1)))],.asg [1] (.sub (.call 28 [(.var 0),(.var 1),(.sub (.var 2) (.var 7))]) (.cst (.int 0)))],.ret (.var 3)]
def UG:Fu:=af (tab (LO [])) 9 Qw
abbrev LP (l:List Fu):=LO (UG::l)
def UH:List Str:=["_law_form_here","_law_stand_here","_law_deeds_here","_law_machines","_law_due","_law_letters_here","_law_turn","_law_handed","_law_found","_law_told","_law_letter"]
def Qx:List S:=[.asg [3] (.comp .seq [(.var 2)] [1] none (.call 27 [(.var 2),(.var 1)]) [none,none,some 0]),.eZ 4 (.comp .cB [(.bi .len [(.var 2)])] [1] none (.tup [(.sub (.var 2) (.var 1)),(.cnt (.kU (.var 2) none (some (.var 1))) (.sub (.var 2) (.var 1)))]) [none,none,some 3]),.asg [5] (.call 33 [(.var 0),(.var 1),(.var 2)]),.aX [6] .cB [(.cst (.int 2))] [.asg [7] (.bi .list1 [(.var 2)]),.asg [8] (.call 14 [(.var 0),(.var 7)]),.asg [9] (.call 16 [(.var 0),(.var 1),(.var 7)]),.iff (.d7 [(.neg (.val (.bi (.mF .list) [(.var 8)]))),(.val (.cmp .ne (.bi .ee [(.var 8)]) (.bi .ee [(.var 4)]))),(.val (.cmp .ne (.var 7) (.var 2)))]) [.ret (.cst (.bl false))] [],.iff (.d7 [(.neg (.val (.bi (.mF .dict) [(.var 9)]))),(.val (.cmp .ne (.jk (.var 9)) (.jk (.var 5))))]) [.ret (.cst (.bl false))] [],.aX [10] .keys [(.var 5)] [.iff (.d7 [(.val (.fB true (.var 10) (.var 9))),(.val (.cmp .ne (.bi .ee [(.gc (.var 9) (.var 10))]) (.bi .ee [(.gc (.var 5) (.var 10))])))]) [.ret (.cst (.bl false))] []],.expr (.me .clear (.var 8) []),.expr (.kW (.var 9))],.ret (.cst (.bl true))]
def UI:Fu:=af (tab (LP [])) 11 Qx
abbrev LQ (l:List Fu):=LP (UI::l)
def UJ:List Str:=["_law_script","_law_form_here","_law_stand_here","_law_deeds_here"]
def LR:List S:=[.asg [1] (.call 23 [(.var 0)]),.asg [2] (.call 30 [(.var 0),(.var 1)]),.asg [3] (.call 32 [(.var 0),(.var 1),(.var 2),(.cst (.int 60))]),.iff (.d7 [(.neg (.val (.call 34 [(.var 1),(.var 2),(.lst [])]))),(.neg (.val (.call 34 [(.var 1),(.var 2),(.var 3)])))]) [.ret (.cst (.bl false))] [],.ret (.dj [(.call 34 [(.var 1),(.var 2),(.kU (.var 3) none (some (.bin .fdiv (.bi .len [(.var 3)]) (.cst (.int 2)))))]),(.cmp .eq (.call 14 [(.var 1),(.bi .tuple1 [(.var 3)])]) (.call 14 [(.var 1),(.var 3)]))])]
def Kh:Fu:=af (tab (LQ [])) 4 LR
def gs:List (Str×Int):=[]
def fs:List (Str×Nat):=[(("is_whole" : Str),1),(("is_below" : Str),2),(("is_sign" : Str),1),(("answer" : Str),4),(("waits" : Str),2),(("is_plain" : Str),2),(("machine_of" : Str),2),(("may_come" : Str),3),(("can" : Str),3),(("cause_of" : Str),2),(("less_letter" : Str),2),(("more_letter" : Str),2),(("outcome" : Str),3),(("steps" : Str),3),(("events_of" : Str),2),(("sent_between" : Str),2),(("letters_of" : Str),3),(("_law_well" : Str),2),(("_law_draw" : Str),2),(("_law_roads" : Str),2),(("_law_states" : Str),1),(("_law_sends" : Str),2),(("_law_moves" : Str),3),(("_law_form" : Str),1),(("_law_answer" : Str),4),(("_law_comes" : Str),2),(("_law_answered" : Str),3),(("_law_machine" : Str),2),(("_law_done" : Str),3),(("_law_load" : Str),2),(("_law_stand" : Str),2),(("_law_next" : Str),3),(("_law_deeds" : Str),4),(("_law_letters" : Str),3),(("_law_right" : Str),3),(("law" : Str),1)]
end e9
end
section
namespace e9
open L2 Ev
open PySem PySem.Spec PyProof.Rows
theorem F0 {G:aL} (hF:yb (G 23)) (Js:nP (G 30)) (UK:nU (G 32)) (hR:n_ (G 34)) (Li:jK (G 14)) (ns:List Int) (iG:ns.length<=63):aD (af G 4 LR [.ls (ns.map D.int)] []) fun r _=>r=.d (.bl true):=by
 rw [aU]
 show wSs G LR [some (.ls (ns.map D.int)),none,none,none] [] _ _ _ _
 nofun
 refine (hF [] ns iG).imp ?_
 rintro r M1 ⟨d,rfl,hd,f1⟩
 obtain ⟨f,rfl,hf⟩:=rZ hd
 nofun
 refine (Js M1 ns f iG hf).imp ?_
 rintro r M2 ⟨s,rfl,hs,ht,f2⟩
 nofun
 refine (UK M2 ns f s 60 iG hf hs (by omega) (by omega)).imp ?_
 rintro r M3 ⟨nD,ds,rfl,VY,UL,F1,UM,f3⟩
 have l0:ds.length<=60:=by omega
 have CT:=y3 F1
 nofun
 refine ⟨s0,?_⟩
 nofun
 refine (hR _ f s [] M3.length hf hs (by decide) trivial ah).imp ?_
 rintro r M4 ⟨rfl,f4⟩
 have Qy:M4[nD]?=some (.lst (ds.map bE)):=Ex.get f4 (av UL)
 nofun
 refine (hR M4 f s ds nD hf hs l0 F1 Qy).imp ?_
 rintro r M5 ⟨rfl,f5⟩
 have OE:=Ex.get f5 Qy
 nofun
 rw [da OE]
 nofun
 refine ⟨by decide,?_⟩
 nofun
 rw [show (((ds.map bE).length:Nat):Int) / 2=((ds.length / 2:Nat):Int) by rw [aP];omega,qo OE (by rw [aP];omega),<- List.map_take]
 nofun
 refine (hR _ f s (ds.take (ds.length / 2)) M5.length hf hs (by rw [List.length_take];omega) (fK F1) ah).imp ?_
 rintro r M6 ⟨rfl,f6⟩
 have Qz:M6[nD]?=some (.lst (ds.map bE)):=Ex.get f6 (av OE)
 nofun
 rw [br Qz]
 nofun
 refine (Li M6 f ds (.tup (ds.map bE)) hf CT l0 .t).imp ?_
 rintro r M7 ⟨n7,rfl,Om,Kg,f7⟩
 have UN:=Ex.get f7 Qz
 nofun
 refine (Li M7 f ds (.adr nD) hf CT l0 (.l UN)).imp ?_
 rintro r M8 ⟨n8,rfl,VZ,Lk,f8⟩
 have OF:=Ex.get f8 Kg
 nofun
 rw [(y2 hf CT l0 OF Lk)]
theorem y4:∀ ns:List Int,ns.length<=63->∃ M,Kh [.ls (ns.map D.int)] []=.ok (.d (.bl true)) M:=by
 intro ns iG
 have h0:∀ l,nK (tab (c1 l) 0):=fun l=>Fx
 have h1:∀ l,se (tab (c2 l) 1):=fun l=>Fy (h0 _)
 have h2:∀ l,yw (tab (c3 l) 2):=fun l=>JG
 have h3:∀ l,ik (tab (c4 l) 3):=fun l=>Bq
 have h4:∀ l,kA (tab (c5 l) 4):=fun l=>FA
 have h5:∀ l,sf (tab (c6 l) 5):=fun l=>Fz (h1 _) (h2 _) (h0 _)
 have h6:∀ l,jc (tab (c7 l) 6):=fun l=>JF
 have h7:∀ l,FC (tab (c8 l) 7):=fun l=>Of (h4 _)
 have h8:∀ l,FF (tab (c9 l) 8):=fun l=>Og (h5 _) (h3 _) (h7 _)
 have h9:∀ l,sg (tab (Ll l) 9):=fun l=>FH (h4 _)
 have UO:∀ l,yB (tab (Ln l) 10):=fun l=>JL
 have UP:∀ l,t7 (tab (Lo l) 11):=fun l=>JM
 have UQ:∀ l,jd (tab (Lp l) 12):=fun l=>JQ (h6 _) (h3 _) (h9 _) (UO _) (UP _)
 have UR:∀ l,sv (tab (Lr l) 13):=fun l=>FT (h8 _) (UQ _)
 have QA:∀ l,jK (tab (Lu l) 14):=fun l=>BO (h6 _)
 have Hn:∀ l,nY (tab (Lv l) 15):=fun l=>FV
 have US:∀ l,eS (tab (Lw l) 16):=fun l=>yT (h4 _) (UR _) (Hn _)
 have OG:∀ l,lP (tab (Lx l) 17):=fun l=>Jh
 have BU:∀ l,dv (tab (Ly l) 18):=fun l=>Fd
 have UT:∀ l,rH (tab (Lz l) 19):=fun l=>Fe (BU _)
 have UU:∀ l,jA (tab (LB l) 20):=fun l=>Bk (BU _)
 have UW:∀ l,rK (tab (LC l) 21):=fun l=>Fg (BU _)
 have UX:∀ l,nu (tab (LD l) 22):=fun l=>Fh (BU _) (UW _)
 have UY:∀ l,yb (tab (LF l) 23):=fun l=>Jt (OG _) (BU _) (UT _) (UU _) (UX _)
 have UZ:∀ l,jC (tab (LG l) 24):=fun l=>Bt
 have QB:∀ l,jE (tab (LH l) 25):=fun l=>Bz
 have OH:∀ l,iT (tab (LI l) 26):=fun l=>FL (UZ _) (QB _)
 have QC:∀ l,jc (tab (LJ l) 27):=fun l=>Fw
 have Oc:∀ l,jd (tab (LK l) 28):=fun l=>FP (OH _) (QC _)
 have U0:∀ l,si (tab (LL l) 29):=fun l=>FN (BU _)
 have U1:∀ l,nP (tab (LM l) 30):=fun l=>BD (OG _) (BU _) (U0 _)
 have U2:∀ l,so (tab (LN l) 31):=fun l=>FR (QB _) (OH _) (BU _)
 have U3:∀ l,nU (tab (LO l) 32):=fun l=>BG (OG _) (BU _) (U2 _) (Oc _)
 have U4:∀ l,eS (tab (LP l) 33):=fun l=>vv (OH _) (Oc _)
 have U5:∀ l,n_ (tab (LQ l) 34):=fun l=>BS (QC _) (U4 _) (QA _) (US _)
 obtain ⟨r,M,e,q⟩:=EO (F0 (G:=tab (LQ [])) (UY _) (U1 _) (U3 _) (U5 _) (QA _) ns iG)
 subst q
 exact ⟨M,e⟩
end e9
end
section
namespace e9
open L2 Ev PySem PySem.Spec PyProof.Rows
def top (i:Nat):Stmt:=PySem.Challenge.pw_cutstand_k09_events_and_letters.main.body.getD i (.Pass ⟨0,0,0,0⟩)
abbrev s0:=top 4
abbrev s1:=top 5
abbrev s2:=top 6
abbrev s3:=top 8
abbrev s4:=top 10
abbrev s5:=top 12
abbrev s6:=top 13
abbrev s7:=top 15
abbrev s8:=top 14
abbrev s9:=top 17
abbrev Kz:=top 18
abbrev M_:=top 19
abbrev QD:=top 16
abbrev QE:=top 20
abbrev QF:=top 22
abbrev QG:=top 24
abbrev QH:=top 23
abbrev QI:=top 26
abbrev QJ:=top 27
abbrev QK:=top 28
abbrev QL:=top 29
abbrev QM:=top 30
abbrev QN:=top 31
abbrev QO:=top 32
abbrev QP:=top 33
abbrev QQ:=top 34
abbrev QR:=top 35
abbrev QS:=top 36
abbrev QT:=top 37
abbrev QU:=top 38
abbrev QV:=top 39
abbrev QW:=top 40
abbrev QX:=top 41
abbrev QY:=top 42
abbrev QZ:=top 43
abbrev OI:=top 44
abbrev m0:Value:=(.str "cutstand.kinds" 232)
abbrev m1:Value:=(.str "cutstand.forms" 256)
abbrev m2:Value:=(.str "cutstand.stands" 269)
abbrev m3:Value:=(.str "cutstand.plain" 279)
abbrev m4:Value:=(.str "cutstand.pasts" 364)
abbrev m5:Value:=(.str "law_cutstand_k09_events_and_letters" 401)
def en (P:Params) (k:Str) (t:Nat) (v:Value):DictEntry:=⟨PyData.keyHash P k,.str k t,v⟩
def co (a:Array Value):Obj:=⟨.type "code",none,.fields a,#[]⟩
def cp (n:Nat):Value:=.str "/claim/cut.py" n
def iv (n:Nat):Value:=.int n 0
def Kf (P:Params):PySem.W.Frag:=[(3,⟨(.type "dict"),none,.dict #[en P "__name__" 165 (.str "law_cutstand_k09_events_and_letters" 401),en P "__doc__" 166 .none,en P "__package__" 167 .none,en P "__loader__" 168 (.builtin "__main__.__loader__#opaque"),en P "__spec__" 169 .none,en P "__annotations__" 170 (.ref 6),en P "__builtins__" 171 (.ref 4),en P "__file__" 173 (cp 172),en P "__cached__" 174 .none,en P "CutError" 206 (.ref 24),en P "NoDeed" 231 (.ref 44),en P "is_whole" 240 (.ref 53),en P "is_below" 248 (.ref 60),en P "is_sign" 255 (.ref 67),en P "answer" 268 (.ref 74),en P "waits" 278 (.ref 81),en P "is_plain" 288 (.ref 88),en P "machine_of" 296 (.ref 95),en P "can" 305 (.ref 102),en P "may_come" 311 (.ref 107),en P "outcome" 327 (.ref 114),en P "cause_of" 335 (.ref 121),en P "less_letter" 341 (.ref 126),en P "more_letter" 349 (.ref 133),en P "steps" 363 (.ref 140),en P "events_of" 371 (.ref 145),en P "letters_of" 389 (.ref 152),en P "sent_between" 400 (.ref 159),en P "_law_well" 411 (.ref 166),en P "_law_draw" 423 (.ref 173),en P "_law_roads" 436 (.ref 180),en P "_law_states" 447 (.ref 187),en P "_law_sends" 458 (.ref 194),en P "_law_moves" 475 (.ref 201),en P "_law_form" 481 (.ref 206),en P "_law_answer" 487 (.ref 211),en P "_law_comes" 493 (.ref 216),en P "_law_answered" 506 (.ref 223),en P "_law_machine" 514 (.ref 230),en P "_law_done" 520 (.ref 235),en P "_law_load" 533 (.ref 242),en P "_law_stand" 539 (.ref 247),en P "_law_next" 545 (.ref 252),en P "_law_deeds" 560 (.ref 259),en P "_law_letters" 566 (.ref 264),en P "_law_right" 572 (.ref 269),en P "law" 582 (.ref 276)] 47,#[]⟩),(52,co #[(.str "is_whole" 234),(.str "is_whole" 235),(cp 236),(iv 9),(iv 1),(iv 0),(iv 0),(iv 3),(.ref 47),(.bool true),(iv 181),(.ref 48),.none,(.ref 49),(.ref 50),(.ref 51),(iv 238),(iv 9),(cp 239)]),(53,fo (fq "is_whole" s0 m0 (.ref 52))),(59,co #[(.str "is_below" 241),(.str "is_below" 242),(cp 243),(iv 11),(iv 2),(iv 0),(iv 0),(iv 3),(.ref 54),(.bool true),(iv 181),(.ref 55),.none,(.ref 56),(.ref 57),(.ref 58),(iv 246),(iv 11),(cp 247)]),(60,fo (fq "is_below" s1 m0 (.ref 59))),(66,co #[(.str "is_sign" 249),(.str "is_sign" 250),(cp 251),(iv 13),(iv 1),(iv 0),(iv 0),(iv 3),(.ref 61),(.bool true),(iv 181),(.ref 62),.none,(.ref 63),(.ref 64),(.ref 65),(iv 253),(iv 13),(cp 254)]),(67,fo (fq "is_sign" s2 m0 (.ref 66))),(73,co #[(.str "answer" 258),(.str "answer" 259),(cp 260),(iv 16),(iv 4),(iv 0),(iv 0),(iv 3),(.ref 68),(.bool true),(iv 181),(.ref 69),.none,(.ref 70),(.ref 71),(.ref 72),(iv 266),(iv 16),(cp 267)]),(74,fo (fq "answer" s3 m1 (.ref 73))),(80,co #[(.str "waits" 271),(.str "waits" 272),(cp 273),(iv 24),(iv 2),(iv 0),(iv 0),(iv 3),(.ref 75),(.bool true),(iv 181),(.ref 76),.none,(.ref 77),(.ref 78),(.ref 79),(iv 276),(iv 24),(cp 277)]),(81,fo (fq "waits" s4 m2 (.ref 80))),(87,co #[(.str "is_plain" 281),(.str "is_plain" 282),(cp 283),(iv 27),(iv 2),(iv 0),(iv 0),(iv 3),(.ref 82),(.bool true),(iv 181),(.ref 83),.none,(.ref 84),(.ref 85),(.ref 86),(iv 286),(iv 27),(cp 287)]),(88,fo (fq "is_plain" s5 m3 (.ref 87))),(94,co #[(.str "machine_of" 289),(.str "machine_of" 290),(cp 291),(iv 35),(iv 2),(iv 0),(iv 0),(iv 3),(.ref 89),(.bool true),(iv 181),(.ref 90),.none,(.ref 91),(.ref 92),(.ref 93),(iv 294),(iv 35),(cp 295)]),(95,fo (fq "machine_of" s6 m3 (.ref 94))),(101,co #[(.str "can" 297),(.str "can" 298),(cp 299),(iv 39),(iv 3),(iv 0),(iv 0),(iv 3),(.ref 96),(.bool true),(iv 181),(.ref 97),.none,(.ref 98),(.ref 99),(.ref 100),(iv 303),(iv 39),(cp 304)]),(102,fo (fq "can" s8 m3 (.ref 101))),(106,co #[(.str "may_come" 306),(.str "may_come" 307),(cp 308),(iv 47),(iv 3),(iv 0),(iv 0),(iv 3),(.ref 103),(.bool true),(iv 181),(.ref 104),.none,.none,.none,(.ref 105),(iv 309),(iv 47),(cp 310)]),(107,fo (fq "may_come" s7 m3 (.ref 106))),(113,co #[(.str "outcome" 312),(.str "outcome" 313),(cp 314),(iv 52),(iv 3),(iv 0),(iv 0),(iv 3),(.ref 108),(.bool true),(iv 181),(.ref 109),.none,(.ref 110),(.ref 111),(.ref 112),(iv 325),(iv 52),(cp 326)]),(114,fo (fq "outcome" QD m3 (.ref 113))),(120,co #[(.str "cause_of" 328),(.str "cause_of" 329),(cp 330),(iv 66),(iv 2),(iv 0),(iv 0),(iv 3),(.ref 115),(.bool true),(iv 181),(.ref 116),.none,(.ref 117),(.ref 118),(.ref 119),(iv 333),(iv 66),(cp 334)]),(121,fo (fq "cause_of" s9 m3 (.ref 120))),(125,co #[(.str "less_letter" 336),(.str "less_letter" 337),(cp 338),(iv 72),(iv 2),(iv 0),(iv 0),(iv 3),(.ref 122),(.bool true),(iv 181),(.ref 123),.none,.none,.none,(.ref 124),(iv 339),(iv 72),(cp 340)]),(126,fo (fq "less_letter" Kz m3 (.ref 125))),(132,co #[(.str "more_letter" 342),(.str "more_letter" 343),(cp 344),(iv 74),(iv 2),(iv 0),(iv 0),(iv 3),(.ref 127),(.bool true),(iv 181),(.ref 128),.none,(.ref 129),(.ref 130),(.ref 131),(iv 347),(iv 74),(cp 348)]),(133,fo (fq "more_letter" M_ m3 (.ref 132))),(139,co #[(.str "steps" 350),(.str "steps" 351),(cp 352),(iv 76),(iv 3),(iv 0),(iv 0),(iv 3),(.ref 134),(.bool true),(iv 181),(.ref 135),.none,(.ref 136),(.ref 137),(.ref 138),(iv 361),(iv 76),(cp 362)]),(140,fo (fq "steps" QE m3 (.ref 139))),(144,co #[(.str "events_of" 366),(.str "events_of" 367),(cp 368),(iv 87),(iv 2),(iv 0),(iv 0),(iv 3),(.ref 141),(.bool true),(iv 181),(.ref 142),.none,.none,.none,(.ref 143),(iv 369),(iv 87),(cp 370)]),(145,fo (fq "events_of" QF m4 (.ref 144))),(151,co #[(.str "letters_of" 372),(.str "letters_of" 373),(cp 374),(iv 95),(iv 3),(iv 0),(iv 0),(iv 3),(.ref 146),(.bool true),(iv 181),(.ref 147),.none,(.ref 148),(.ref 149),(.ref 150),(iv 387),(iv 95),(cp 388)]),(152,fo (fq "letters_of" QH m4 (.ref 151))),(158,co #[(.str "sent_between" 390),(.str "sent_between" 391),(cp 392),(iv 110),(iv 2),(iv 0),(iv 0),(iv 3),(.ref 153),(.bool true),(iv 181),(.ref 154),.none,(.ref 155),(.ref 156),(.ref 157),(iv 398),(iv 110),(cp 399)]),(159,fo (fq "sent_between" QG m4 (.ref 158))),(165,co #[(.str "_law_well" 403),(.str "_law_well" 404),(cp 405),(iv 117),(iv 2),(iv 0),(iv 0),(iv 3),(.ref 160),(.bool true),(iv 181),(.ref 161),.none,(.ref 162),(.ref 163),(.ref 164),(iv 409),(iv 117),(cp 410)]),(166,fo (fq "_law_well" QI m5 (.ref 165))),(172,co #[(.str "_law_draw" 412),(.str "_law_draw" 413),(cp 414),(iv 122),(iv 2),(iv 0),(iv 0),(iv 3),(.ref 167),(.bool true),(iv 181),(.ref 168),.none,(.ref 169),(.ref 170),(.ref 171),(iv 421),(iv 122),(cp 422)]),(173,fo (fq "_law_draw" QJ m5 (.ref 172))),(179,co #[(.str "_law_roads" 424),(.str "_law_roads" 425),(cp 426),(iv 132),(iv 2),(iv 0),(iv 0),(iv 3),(.ref 174),(.bool true),(iv 181),(.ref 175),.none,(.ref 176),(.ref 177),(.ref 178),(iv 434),(iv 132),(cp 435)]),(180,fo (fq "_law_roads" QK m5 (.ref 179))),(186,co #[(.str "_law_states" 437),(.str "_law_states" 438),(cp 439),(iv 141),(iv 1),(iv 0),(iv 0),(iv 3),(.ref 181),(.bool true),(iv 181),(.ref 182),.none,(.ref 183),(.ref 184),(.ref 185),(iv 445),(iv 141),(cp 446)]),(187,fo (fq "_law_states" QL m5 (.ref 186))),(193,co #[(.str "_law_sends" 448),(.str "_law_sends" 449),(cp 450),(iv 149),(iv 2),(iv 0),(iv 0),(iv 3),(.ref 188),(.bool true),(iv 181),(.ref 189),.none,(.ref 190),(.ref 191),(.ref 192),(iv 456),(iv 149),(cp 457)]),(194,fo (fq "_law_sends" QM m5 (.ref 193))),(200,co #[(.str "_law_moves" 459),(.str "_law_moves" 460),(cp 461),(iv 155),(iv 3),(iv 0),(iv 0),(iv 3),(.ref 195),(.bool true),(iv 181),(.ref 196),.none,(.ref 197),(.ref 198),(.ref 199),(iv 473),(iv 155),(cp 474)]),(201,fo (fq "_law_moves" QN m5 (.ref 200))),(205,co #[(.str "_law_form" 476),(.str "_law_form" 477),(cp 478),(iv 167),(iv 1),(iv 0),(iv 0),(iv 3),(.ref 202),(.bool true),(iv 181),(.ref 203),.none,.none,.none,(.ref 204),(iv 479),(iv 167),(cp 480)]),(206,fo (fq "_law_form" QO m5 (.ref 205))),(210,co #[(.str "_law_answer" 482),(.str "_law_answer" 483),(cp 484),(iv 179),(iv 4),(iv 0),(iv 0),(iv 3),(.ref 207),(.bool true),(iv 181),(.ref 208),.none,.none,.none,(.ref 209),(iv 485),(iv 179),(cp 486)]),(211,fo (fq "_law_answer" QP m5 (.ref 210))),(215,co #[(.str "_law_comes" 488),(.str "_law_comes" 489),(cp 490),(iv 184),(iv 2),(iv 0),(iv 0),(iv 3),(.ref 212),(.bool true),(iv 181),(.ref 213),.none,.none,.none,(.ref 214),(iv 491),(iv 184),(cp 492)]),(216,fo (fq "_law_comes" QQ m5 (.ref 215))),(222,co #[(.str "_law_answered" 494),(.str "_law_answered" 495),(cp 496),(iv 192),(iv 3),(iv 0),(iv 0),(iv 3),(.ref 217),(.bool true),(iv 181),(.ref 218),.none,(.ref 219),(.ref 220),(.ref 221),(iv 504),(iv 192),(cp 505)]),(223,fo (fq "_law_answered" QR m5 (.ref 222))),(229,co #[(.str "_law_machine" 507),(.str "_law_machine" 508),(cp 509),(iv 201),(iv 2),(iv 0),(iv 0),(iv 3),(.ref 224),(.bool true),(iv 181),(.ref 225),.none,(.ref 226),(.ref 227),(.ref 228),(iv 512),(iv 201),(cp 513)]),(230,fo (fq "_law_machine" QS m5 (.ref 229))),(234,co #[(.str "_law_done" 515),(.str "_law_done" 516),(cp 517),(iv 203),(iv 3),(iv 0),(iv 0),(iv 3),(.ref 231),(.bool true),(iv 181),(.ref 232),.none,.none,.none,(.ref 233),(iv 518),(iv 203),(cp 519)]),(235,fo (fq "_law_done" QT m5 (.ref 234))),(241,co #[(.str "_law_load" 521),(.str "_law_load" 522),(cp 523),(iv 217),(iv 2),(iv 0),(iv 0),(iv 3),(.ref 236),(.bool true),(iv 181),(.ref 237),.none,(.ref 238),(.ref 239),(.ref 240),(iv 531),(iv 217),(cp 532)]),(242,fo (fq "_law_load" QU m5 (.ref 241))),(246,co #[(.str "_law_stand" 534),(.str "_law_stand" 535),(cp 536),(iv 227),(iv 2),(iv 0),(iv 0),(iv 3),(.ref 243),(.bool true),(iv 181),(.ref 244),.none,.none,.none,(.ref 245),(iv 537),(iv 227),(cp 538)]),(247,fo (fq "_law_stand" QV m5 (.ref 246))),(251,co #[(.str "_law_next" 540),(.str "_law_next" 541),(cp 542),(iv 236),(iv 3),(iv 0),(iv 0),(iv 3),(.ref 248),(.bool true),(iv 181),(.ref 249),.none,.none,.none,(.ref 250),(iv 543),(iv 236),(cp 544)]),(252,fo (fq "_law_next" QW m5 (.ref 251))),(258,co #[(.str "_law_deeds" 546),(.str "_law_deeds" 547),(cp 548),(iv 248),(iv 4),(iv 0),(iv 0),(iv 3),(.ref 253),(.bool true),(iv 181),(.ref 254),.none,(.ref 255),(.ref 256),(.ref 257),(iv 558),(iv 248),(cp 559)]),(259,fo (fq "_law_deeds" QX m5 (.ref 258))),(263,co #[(.str "_law_letters" 561),(.str "_law_letters" 562),(cp 563),(iv 257),(iv 3),(iv 0),(iv 0),(iv 3),(.ref 260),(.bool true),(iv 181),(.ref 261),.none,.none,.none,(.ref 262),(iv 564),(iv 257),(cp 565)]),(264,fo (fq "_law_letters" QY m5 (.ref 263))),(268,co #[(.str "_law_right" 567),(.str "_law_right" 568),(cp 569),(iv 271),(iv 3),(iv 0),(iv 0),(iv 3),(.ref 265),(.bool true),(iv 181),(.ref 266),.none,.none,.none,(.ref 267),(iv 570),(iv 271),(cp 571)]),(269,fo (fq "_law_right" QZ m5 (.ref 268))),(275,co #[(.str "law" 573),(.str "law" 574),(cp 575),(iv 289),(iv 1),(iv 0),(iv 0),(iv 3),(.ref 270),(.bool true),(iv 181),(.ref 271),.none,(.ref 272),(.ref 273),(.ref 274),(iv 580),(iv 289),(cp 581)]),(276,fo (fq "law" OI m5 (.ref 275)))]
def ads:List Addr:=[3,52,53,59,60,66,67,73,74,80,81,87,88,94,95,101,102,106,107,113,114,120,121,125,126,132,133,139,140,144,145,151,152,158,159,165,166,172,173,179,180,186,187,193,194,200,201,205,206,210,211,215,216,222,223,229,230,234,235,241,242,246,247,251,252,258,259,263,264,268,269,275,276]
theorem U6 {P:Params} {h:Heap} {mg:Str->Option Value} (X:(Kf P).In h) (G:h.Ns mainGlobals mg):∀ b∈bW,mg b=none:=by
 have z:bW.all (fun b=>match PySem.W.nsIn (Kf P) mainGlobals b with | some none=>true | _=>false)=true:=nofun
 intro b hb
 have q:=List.all_eq_true.mp z b hb
 split at q
 ·rename_i e;exact PySem.W.mg_none_of X G e
 ·cases q
abbrev AL (l:PySem.W.OpenLaw) (w:World) (mg:Str->Option Value) (base:Heap) (i:Nat):=All l.prog w (Kf w.params) mg base i (fs.take i)
theorem all_mk {l : PySem.W.OpenLaw} {w : World} {h : Heap} {mg : Str -> Option Value} {fa : Addr} (X : (Kf w.params).In h) (G : h.Ns mainGlobals mg) (U7 : mg "law" = some (.ref fa))
    : ∃ fd:FuncData,(∀ (s:Shared) (v:Value),BindsTo s fd ⟨[v],[]⟩ [("_law_script",v)])/\∀ base:Heap,(Kf w.params).In base->base.Ns mainGlobals mg->fw l.prog w (Kf w.params) mg base uN 36 fa fd ["_law_script"] (AI (Kf w.params) 1 Kh):=by
  have W:Cw (Kf w.params) h mg gs:=⟨X,G,U6 X G,EM X G (nofun)⟩
  cases U7.symm.trans (PySem.W.mg_of X G (show PySem.W.nsIn (Kf w.params) mainGlobals "law" = some (some (.ref 276)) by kernel_rfl))
  refine ⟨fq "law" OI m5 (.ref 275),fun s v=>.of_eq rfl,fun base _ _=>?_⟩
  have A0:AL l w mg base 0 []:=All.nil
  have A1:AL l w mg base 1 (c1 []):=nx "is_whole" 53 s0 n0 ["thing"] b0 m0 (.ref 52) W A0 (nofun) (nofun) (nofun) (nofun) (⋯) fun _=>rfl
  have A2:AL l w mg base 2 (c2 []):=nx "is_below" 60 s1 n1 ["thing","bound"] b1 m0 (.ref 59) W A1 (nofun) (nofun) (nofun) (nofun) (⋯) fun _ _=>rfl
  have A3:AL l w mg base 3 (c3 []):=nx "is_sign" 67 s2 n2 ["thing"] b2 m0 (.ref 66) W A2 (nofun) (nofun) (nofun) (nofun) (⋯) fun _=>rfl
  have A4:AL l w mg base 4 (c4 []):=nx "answer" 74 s3 n3 ["form","m","state","cause"] b3 m1 (.ref 73) W A3 (nofun) (nofun) (nofun) (nofun) (⋯) fun _ _ _ _=>rfl
  have A5:AL l w mg base 5 (c5 []):=nx "waits" 81 s4 n4 ["stand","road"] b4 m2 (.ref 80) W A4 (nofun) (nofun) (nofun) (nofun) (⋯) fun _ _=>rfl
  have A6:AL l w mg base 6 (c6 []):=nx "is_plain" 88 s5 n5 ["form","thing"] b5 m3 (.ref 87) W A5 (nofun) (nofun) (nofun) (nofun) (⋯) fun _ _=>rfl
  have A7:AL l w mg base 7 (c7 []):=nx "machine_of" 95 s6 n6 ["form","deed"] b6 m3 (.ref 94) W A6 (nofun) (nofun) (nofun) (nofun) (⋯) fun _ _=>rfl
  have A8:AL l w mg base 8 (c8 []):=nx "may_come" 107 s7 n7 ["form","stand","road"] b7 m3 (.ref 106) W A7 (nofun) (nofun) (nofun) (nofun) (⋯) fun _ _ _=>rfl
  have A9:AL l w mg base 9 (c9 []):=nx "can" 102 s8 n8 ["form","stand","thing"] b8 m3 (.ref 101) W A8 (nofun) (nofun) (nofun) (nofun) (⋯) fun _ _ _=>rfl
  have U8:AL l w mg base 10 (Ll []):=nx "cause_of" 121 s9 n9 ["stand","deed"] b9 m3 (.ref 120) W A9 (nofun) (nofun) (nofun) (nofun) (⋯) fun _ _=>rfl
  have U9:AL l w mg base 11 (Ln []):=nx "less_letter" 126 Kz TN ["letters","k"] P_ m3 (.ref 125) W U8 (nofun) (nofun) (nofun) (nofun) (⋯) fun _ _=>rfl
  have U_:AL l w mg base 12 (Lo []):=nx "more_letter" 133 M_ TR ["letters","sign"] Qa m3 (.ref 132) W U9 (nofun) (nofun) (nofun) (nofun) (⋯) fun _ _=>rfl
  have Va:AL l w mg base 13 (Lp []):=nx "outcome" 114 QD TV ["form","stand","deed"] Qb m3 (.ref 113) W U_ (nofun) (nofun) (nofun) (nofun) (⋯) fun _ _ _=>rfl
  have Vb:AL l w mg base 14 (Lr []):=nx "steps" 140 QE TX ["form","stand","deeds"] Qc m3 (.ref 139) W Va (nofun) (nofun) (nofun) (nofun) (⋯) fun _ _ _=>rfl
  have Vc:AL l w mg base 15 (Lu []):=nx "events_of" 145 QF TZ ["form","deeds"] Qd m4 (.ref 144) W Vb (nofun) (nofun) (nofun) (nofun) (⋯) fun _ _=>rfl
  have Vd:AL l w mg base 16 (Lv []):=nx "sent_between" 159 QG T3 ["ahead","behind"] Qe m4 (.ref 158) W Vc (nofun) (nofun) (nofun) (nofun) (⋯) fun _ _=>rfl
  have Ve:AL l w mg base 17 (Lw []):=nx "letters_of" 152 QH T5 ["form","stand","deeds"] Qf m4 (.ref 151) W Vd (nofun) (nofun) (nofun) (nofun) (⋯) fun _ _ _=>rfl
  have Vf:AL l w mg base 18 (Lx []):=nx "_law_well" 166 QI T7 ["_law_script","_law_k"] Qg m5 (.ref 165) W Ve (nofun) (nofun) (nofun) (nofun) (⋯) fun _ _=>rfl
  have Vg:AL l w mg base 19 (Ly []):=nx "_law_draw" 173 QJ T9 ["_law_well_here","_law_many"] Qh m5 (.ref 172) W Vf (nofun) (nofun) (nofun) (nofun) (⋯) fun _ _=>rfl
  have Vh:AL l w mg base 20 (Lz []):=nx "_law_roads" 180 QK Ua ["_law_well_here","_law_machines"] Qi m5 (.ref 179) W Vg (nofun) (nofun) (nofun) (nofun) (⋯) fun _ _=>rfl
  have Vi:AL l w mg base 21 (LB []):=nx "_law_states" 187 QL Uc ["_law_well_here"] Qj m5 (.ref 186) W Vh (nofun) (nofun) (nofun) (nofun) (⋯) fun _=>rfl
  have Vj:AL l w mg base 22 (LC []):=nx "_law_sends" 194 QM Ue ["_law_well_here","_law_ways"] Qk m5 (.ref 193) W Vi (nofun) (nofun) (nofun) (nofun) (⋯) fun _ _=>rfl
  have Vk:AL l w mg base 23 (LD []):=nx "_law_moves" 201 QN Uh ["_law_well_here","_law_some","_law_ways"] Ql m5 (.ref 200) W Vj (nofun) (nofun) (nofun) (nofun) (⋯) fun _ _ _=>rfl
  have Vl:AL l w mg base 24 (LF []):=nx "_law_form" 206 QO Uj ["_law_script"] Qm m5 (.ref 205) W Vk (nofun) (nofun) (nofun) (nofun) (⋯) fun _=>rfl
  have Vm:AL l w mg base 25 (LG []):=nx "_law_answer" 211 QP Ul ["_law_form_here","_law_m","_law_state","_law_cause"] Qn m5 (.ref 210) W Vl (nofun) (nofun) (nofun) (nofun) (⋯) fun _ _ _ _=>rfl
  have Vn:AL l w mg base 26 (LH []):=nx "_law_comes" 216 QQ Uo ["_law_form_here","_law_stand_here"] Qo m5 (.ref 215) W Vm (nofun) (nofun) (nofun) (nofun) (⋯) fun _ _=>rfl
  have Vo:AL l w mg base 27 (LI []):=nx "_law_answered" 223 QR Uq ["_law_form_here","_law_stand_here","_law_deed"] Qp m5 (.ref 222) W Vn (nofun) (nofun) (nofun) (nofun) (⋯) fun _ _ _=>rfl
  have Vp:AL l w mg base 28 (LJ []):=nx "_law_machine" 230 QS Us ["_law_form_here","_law_deed"] Qq m5 (.ref 229) W Vo (nofun) (nofun) (nofun) (nofun) (⋯) fun _ _=>rfl
  have Vq:AL l w mg base 29 (LK []):=nx "_law_done" 235 QT Uu ["_law_form_here","_law_stand_here","_law_deed"] Qr m5 (.ref 234) W Vp (nofun) (nofun) (nofun) (nofun) (⋯) fun _ _ _=>rfl
  have Vr:AL l w mg base 30 (LL []):=nx "_law_load" 242 QU Uw ["_law_well_here","_law_order"] Qs m5 (.ref 241) W Vq (nofun) (nofun) (nofun) (nofun) (⋯) fun _ _=>rfl
  have Vs:AL l w mg base 31 (LM []):=nx "_law_stand" 247 QV Uy ["_law_script","_law_form_here"] Qt m5 (.ref 246) W Vr (nofun) (nofun) (nofun) (nofun) (⋯) fun _ _=>rfl
  have Vt:AL l w mg base 32 (LN []):=nx "_law_next" 252 QW UA ["_law_well_here","_law_form_here","_law_stand_here"] Qu m5 (.ref 251) W Vs (nofun) (nofun) (nofun) (nofun) (⋯) fun _ _ _=>rfl
  have Vu:AL l w mg base 33 (LO []):=nx "_law_deeds" 259 QX UC ["_law_script","_law_form_here","_law_stand_here","_law_most"] Qv m5 (.ref 258) W Vt (nofun) (nofun) (nofun) (nofun) (⋯) fun _ _ _ _=>rfl
  have Vv:AL l w mg base 34 (LP []):=nx "_law_letters" 264 QY UE ["_law_form_here","_law_stand_here","_law_deeds_here"] Qw m5 (.ref 263) W Vu (nofun) (nofun) (nofun) (nofun) (⋯) fun _ _ _=>rfl
  have Vw:AL l w mg base 35 (LQ []):=nx "_law_right" 269 QZ UH ["_law_form_here","_law_stand_here","_law_deeds_here"] Qx m5 (.ref 268) W Vv (nofun) (nofun) (nofun) (nofun) (⋯) fun _ _ _=>rfl
  exact xP "law" 276 OI UJ ["_law_script"] LR m5 (.ref 275) W Vw (nofun) (nofun) (nofun) (⋯)
theorem F2 {K:PySem.W.Frag} {H:Hp} {a:Addr} {xs:List V} (hO:z0 H) (h:d9 K H a xs):oU K H a xs:=by
 rcases h with (h | ⟨o,h⟩) | h
 ·rcases hO a with q | ⟨o,ys,q⟩
  ·rw [q] at h;cases h
  ·rw [q] at h;cases h
 ·exact .inl ⟨o,h⟩
 ·exact .inr h
theorem qr {K:PySem.W.Frag} {H:Hp} {ads:List Addr}:∀ (ns:List Int),aA K ads H (ns.map D.int) (ns.map V.int)
 | []=>by unfold aA;rfl
 | i::ns=>by
  show aA K ads H (D.int i::ns.map D.int) (V.int i::ns.map V.int)
  unfold aA
  exact ⟨_,_,rfl,by unfold RD;rfl,qr ns⟩
theorem walk {l : PySem.W.OpenLaw} {q : Program} {loose : List Str} {XP : (Str -> Option Value) -> Heap -> Prop} {YP : World -> Heap -> Prop} {d : DefRec} {K : Params -> PySem.W.Frag} (OJ : ∀ ns : List Int, ns.length <= 63 -> ∃ M, Kh [.ls (ns.map D.int)] [] = .ok (.d (.bl true)) M) (hn : l.most = some 63) (B8 : d.params.defaults = [])
    (hY:∀ (w:World) (h:Heap),YP w h->(K w.params).In h)
    (F:∀ (w:World) (mg:Str->Option Value) (fa:Addr) (h:Heap),(K w.params).In h->h.Ns mainGlobals mg->mg d.name=some (.ref fa) ->
      ∃ fd:FuncData,(∀ (s:Shared) (u:Value),BindsTo s fd ⟨[u],[]⟩ [("_law_script",u)])/\∀ base:Heap,(K w.params).In base->base.Ns mainGlobals mg->fw l.prog w (K w.params) mg base uN 36 fa fd ["_law_script"] (AI (K w.params) 1 Kh)) :
    PySem.W.WalkO q loose XP YP l.row.toRowW d [] (fun f vs=>PySem.call f vs) :=
  L2.z3 (n:=63) (k:=36) (x := "_law_script") (CX:=fun _=>uN) (sp:=fun w=>AI (K w.params) 1 Kh) hn (by decide) B8 ⟨rfl,by decide,by decide,rfl⟩ hY F (fun w H a ns hl hO hS=>by
    obtain ⟨M,hM⟩:=OJ ns hl
    refine ⟨[],[],[.ls (ns.map D.int)],⟨List.nodup_nil,rfl,fun n o a e _=>by simp at e⟩,.one ?_,rfl,?_⟩
    · unfold RD
      exact ⟨a,_,rfl,F2 hO hS,qr ns⟩
    · rw [hM]
      intro v H' ao _ _ r
      have r:RD (K w.params) ao H' (.bl true) v:=r
      unfold RD at r
      exact r) fun _ _ _ _ _ z=>z
def vw:Program:={ PySem.Challenge.pw_cutstand_k09_events_and_letters with main:={ PySem.Challenge.pw_cutstand_k09_events_and_letters.main with body:=[top 1,top 2,top 4,top 5,top 6,top 8,top 10,top 12,top 13,top 14,top 15,top 16,top 17,top 18,top 19,top 20,top 22,top 23,top 24,top 26,top 27,top 28,top 29,top 30,top 31,top 32,top 33,top 34,top 35,top 36,top 37,top 38,top 39,top 40,top 41,top 42,top 43,top 44] } }
def hk:PySem.W.Hook:=PySem.W.kHook Kf ads (fun _=>nofun)
theorem Vx:PySem.W.LeftO PySem.Challenge.pw_cutstand_k09_events_and_letters vw [] (fun s=>PySem.W.xlAt vw [] s && PySem.W.recOk [] s) (PySem.W.Hook.obs hk) (PySem.W.Hook.val hk) 3332:=by
 intro w
 kernel_rfl
theorem F3:PySem.W.OpenLaw.wellSaid PySem.Challenge.rw_cutstand_k09_events_and_letters=true:=nofun
end e9
end
open PySem PySem.W PyProof.Rows
set_option maxRecDepth 100000 in
set_option maxHeartbeats 0 in
theorem PySem.Challenge.cw_cutstand_k09_events_and_letters_holds : PySem.Challenge.rw_cutstand_k09_events_and_letters.Holds := by
 refine holds_law e9.F3 fun F3=>?_
 refine holds_open (q:=e9.vw) (loose:=[]) (Xt:=fun s=>xlAt e9.vw [] s && recOk [] s) (XP:=XL e9.vw []) (Yf:=Hook.obs e9.hk) (Ya:=Hook.val e9.hk) (YP:=Hook.says e9.hk) (N:=3332) e9.Vx (Hook.of e9.hk) (Hook.keeps e9.hk) (fun s e=>xl_of s (Bool.and_eq_true_iff.mp e).1) XL.keeps (by rfl) (by rfl) (by rfl) (fun s e=>recFacts_of (Bool.and_eq_true_iff.mp e).2) (by rfl) F3 (⋯) ⟨rfl,rfl,rfl,rfl,rfl,⋯⟩ ?hw ?hc
 case hw=>w_witness2
 case hc=>exact e9.walk (l:=PySem.Challenge.rw_cutstand_k09_events_and_letters) (K:=e9.Kf) e9.y4 rfl rfl (fun w h Y=>kIn_of Y) fun w mg fa h KX G Hw=>e9.all_mk KX G Hw
#print axioms PySem.Challenge.cw_cutstand_k09_events_and_letters_holds
