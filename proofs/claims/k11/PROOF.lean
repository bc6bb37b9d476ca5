import PyProof.Rows.All
import Wide.All
import OpenK.AllK
import Wide.FinOn
import Lean
import PyProof.EqAt
import PyProof.EqKinds
import PyProof.TupleCall
import PyProof.ZipIter
import PyProof.ListRange
import PyProof.TupleOfSeq
import PyProof.Rows.CallKwBuiltin
import PyProof.Rows.Range3
import KE.KFind
import PyProof.IsRules
import PyProof.DictIter
import PyProof.DictWalks
import PyProof.DictTruth
import PyProof.MeetsSeq
import PyProof.DictValues
import PyProof.Rows.SortWalk
import PySem.Challenge.RW_cutstand_k11_clocks
set_option Elab.async false
set_option linter.all false
set_option maxRecDepth 100000
set_option maxHeartbeats 4000000
local macro_rules
  | `(⋯) => `(by decide +kernel)
  | `(nofun) => `(by kernel_rfl)
  | `(∅) => `(by omega)
  | `(tactic| omega) => `(tactic| first | with_reducible assumption | decide +kernel | lia | omega (config := {}))
abbrev dU:=@List.getElem?_eq_some_iff
abbrev dM:=@List.getElem?_eq_getElem
abbrev ee:=@PySem.Heap.get?_push_of_some
abbrev cH:=@Bool.false_ne_true
abbrev aX:=@List.length_map
abbrev cu:=@Bool.and_eq_true
abbrev bJ:=@Nat.le_refl
abbrev sk:=@List.getD_eq_getElem?_getD
abbrev ja:=@List.mem_cons_of_mem
abbrev gU:=@List.mem_of_getElem?
abbrev dG:=@List.getElem?_map
abbrev eU:=@Option.some.inj
abbrev DA:=@Int.le_refl
abbrev jE:=@PySem.Heap.get?_push_size
abbrev gZ:=@List.mem_map
abbrev gV:=@List.length_append
abbrev iq:=@List.size_toArray
abbrev fk:=@List.mem_append
abbrev iN:=@List.map_append
abbrev uU:=@List.getElem?_append_left
set_option autoImplicit true
noncomputable section
section
namespace L2
open PySem PySem.Spec PyProof.Rows
abbrev bA:=Sum Int Str
noncomputable def g8:bA->Value->Bool
 | .inl k,v=>Value.isInt k v
 | .inr x,v=>Value.isStrOf x v
noncomputable def SA(w:World):bA->Int
 | .inl k=>hashInt k
 | .inr x=>hashStr w x
theorem bZ:∀{k:bA}{v:Value},g8 k v=true->(∃i t,k=Sum.inl i/\v=Value.int i t)\/(∃x t,k=Sum.inr x/\v=Value.str x t)
 | .inl i,v,h=>by
  obtain⟨t,e⟩:=Value.isInt_shape (k:=i) (v:=v) h;exact .inl ⟨i,t,rfl,e⟩
 | .inr x,v,h=>by
  obtain⟨t,e⟩:=Value.isStrOf_shape (x:=x) (v:=v) h;exact .inr ⟨x,t,rfl,e⟩
theorem oX(i:Int)(t:Tok):g8 (.inl i) (.int i t)=true:=by simp[g8,Value.isInt]
theorem oY(x:Str)(t:Tok):g8 (.inr x) (.str x t)=true:=by simp[g8,Value.isStrOf]
theorem zZ(a b:Int):decide ((Sum.inl a:bA)=Sum.inl b)=(a==b):=by
 by_cases e:a=b
 ·subst e;simp
 ·have h:¬(Sum.inl a:bA)=Sum.inl b:=λq=>e (Sum.inl.inj q);rw[decide_eq_false h];exact(beq_eq_false_iff_ne.mpr e).symm
theorem HP(a b:Str):decide ((Sum.inr a:bA)=Sum.inr b)=decide (a=b):=by
 by_cases e:a=b
 ·subst e;simp
 ·have h:¬(Sum.inr a:bA)=Sum.inr b:=λq=>e (Sum.inr.inj q);rw[decide_eq_false h,decide_eq_false e]
theorem HQ(a:Int)(b:Str):decide ((Sum.inl a:bA)=Sum.inr b)=false:=decide_eq_false (λq=>nomatch q)
theorem HR(a:Str)(b:Int):decide ((Sum.inr a:bA)=Sum.inl b)=false:=decide_eq_false (λq=>nomatch q)
def bt(prog:Program)(w:World):PySem.KeyKind prog w bA where
 is:=g8
 hash:=SA w
 inj:=λv a b ha hb=>by
  rcases bZ ha with⟨i,t,rfl,rfl⟩|⟨x,t,rfl,rfl⟩
  ·rcases bZ hb with⟨j,u,rfl,e⟩|⟨y,u,rfl,e⟩
   ·injection e with e1 _;rw[e1]
   ·exact nomatch e
  ·rcases bZ hb with⟨j,u,rfl,e⟩|⟨y,u,rfl,e⟩
   ·exact nomatch e
   ·injection e with e1 _;rw[e1]
 byValue:=λk v h=>by
  rcases bZ h with⟨i,t,rfl,rfl⟩|⟨x,t,rfl,rfl⟩<;>rfl
 pyHash:=λhv h=>by
  rcases bZ hv with⟨i,t,rfl,rfl⟩|⟨x,t,rfl,rfl⟩
  ·exact wpAny_pyHash_int h
  ·exact wpAny_pyHash_str h
 eqBool:=λhu hv h=>by
  rcases bZ hu with⟨i,t,rfl,rfl⟩|⟨x,t,rfl,rfl⟩
  ·rcases bZ hv with⟨j,u,rfl,rfl⟩|⟨y,u,rfl,rfl⟩
   ·rw[zZ]at h;exact wpAny_eqBool_int h
   ·rw[HQ]at h;exact SeqAt.EqAt.int_str i t y u _ _ _ _ h
  ·rcases bZ hv with⟨j,u,rfl,rfl⟩|⟨y,u,rfl,rfl⟩
   ·rw[HR]at h;exact SeqAt.EqAt.str_int x t j u _ _ _ _ h
   ·rw[HP]at h;exact wpAny_eqBool_str h
 «strs»:=λk x t v h=>by
  rcases bZ h with⟨i,u,rfl,e⟩|⟨y,u,rfl,e⟩
  ·exact nomatch e
  ·injection e with e1 _;subst e1;cases v<;>rfl
theorem so(prog:Program)(w:World)(i:Int)(t:Tok):(bt prog w).is (.inl i) (.int i t)=true:=oX i t
theorem su(prog:Program)(w:World)(x:Str)(t:Tok):(bt prog w).is (.inr x) (.str x t)=true:=oY x t
inductive V where
 | aQ | bl (b:Bool) | int (i:Int) | str (x:Str) | MM (b:Array UInt8) | L4 (b:UInt64) | ref (a:Addr) | ty (n:String)
 deriving DecidableEq
noncomputable def RelV:V->Value->Prop
 | .aQ,u=>u=Value.none
 | .bl b,u=>u=Value.bool b
 | .int i,u=>∃t,u=Value.int i t
 | .str x,u=>∃t,u=Value.str x t
 | .MM b,u=>∃t,u=Value.bytes b t
 | .L4 b,u=>∃t,u=Value.float b t
 | .ref a,u=>u=Value.ref a
 | .ty n,u=>u=Value.type n
abbrev aN:List V->List Value->Prop:=Paired RelV
theorem aN.length(r:aN xs us):xs.length=us.length:=Paired.length r
theorem aN.get:∀{xs:List V}{us:List Value}{i:Nat}{x:V},aN xs us->xs[i]?=some x->∃u,us[i]?=some u/\RelV x u
 | _,_,_,_,.nil,e=>by simp at e
 | _,_,0,_,.cons r _,e=>by simp at e;subst e;exact⟨_,rfl,r⟩
 | _,_,i+1,x,.cons _ t,e=>by
  obtain⟨u,h1,h2⟩:=aN.get (i:=i) (x:=x) t (by simpa using e);exact⟨u,by simpa using h1,h2⟩
theorem aN.set(r:RelV x u):∀{xs:List V}{us:List Value}(i:Nat),aN xs us->aN (xs.set i x) (us.set i u)
 | _,_,_,.nil=>.nil
 | _,_,0,.cons _ t=>.cons r t
 | _,_,i+1,.cons q t=>.cons q (aN.set r i t)
theorem aN.append:∀{xs ys:List V}{us ws:List Value},aN xs us->aN ys ws->aN (xs++ys) (us++ws)
 | _,_,_,_,.nil,s=>s
 | _,_,_,_,.cons r t,s=>.cons r (aN.append t s)
theorem aN.take:∀{xs:List V}{us:List Value}(n:Nat),aN xs us->aN (xs.take n) (us.take n)
 | _,_,0,_=>.nil
 | _,_,_+1,.nil=>.nil
 | _,_,n+1,.cons r t=>.cons r (aN.take n t)
theorem aN.drop:∀{xs:List V}{us:List Value}(n:Nat),aN xs us->aN (xs.drop n) (us.drop n)
 | _,_,0,r=>r
 | _,_,_+1,.nil=>.nil
 | _,_,n+1,.cons _ t=>aN.drop n t
def jb:Option V->Option Value->Prop
 | some v,some u=>RelV v u
 | none,none=>True
 | _,_=>False
def KV{κ:Type}:List (κ×V)->List (κ×Value)->Prop:=Paired λ(p:κ×V) (q:κ×Value)=>p.1=q.1/\RelV p.2 q.2
def kV:bA->V
 | .inl i=>.int i
 | .inr x=>.str x
inductive HO where
 | lst (xs:List V)
 | tup (xs:List V)
 | dK (ag:List (bA×V)) | dT (ag:List (List bA×V))
 | set (S:Int->Bool) (n:Nat)
 | ins (C dx:Addr) (fs:List (Str×V))
 | own (x:Addr)
 | xd (fs:List (Str×V))
 | met (f x:Addr)
 | ku (lo hi:Int)
 | ef (o:Obj) (u:HO)
 | HS (ps:Array Value)
 | ext (φ:Heap->Prop)
abbrev Hp:=Addr->Option HO
noncomputable def upd(H:Hp)(a:Addr)(o:HO):Hp:=λb=>if b=a then some o else H b
theorem bj:upd H a o a=some o:=by unfold upd;rw[if_pos rfl]
theorem az(h:b≠a):upd H a o b=H b:=by unfold upd;rw[if_neg h]
theorem MN{H:Hp}{a b:Addr}{o u:HO}(h:H a=some o)(h':H b=some u)(d:o≠u):a≠b:=by
 intro e;subst e;rw[h]at h';exact d (eU h')
theorem fm{H:Hp}{a b:Addr}{o:HO}(h:H a=some o)(h':H b=none):a≠b:=by
 intro e;subst e;rw[h]at h';cases h'
section
variable (P:Program) (w:World)
def bN(H:Hp)(h:Heap)(a:Addr):HO->Prop
  | .lst xs=>xs.length<=sizeLine/\∃(aC:List Value) (n:Nat),aN xs aC/\h.get? a=some { cls:=.type "list",data:=.seq aC.toArray n }
  | .tup xs=>xs.length<=sizeLine/\∃aC:List Value,aN xs aC/\IsTup h a aC.toArray
  | .dK ag=>ag.length<=sizeLine/\(a==sysModules)=false/\∃vs,KV ag vs/\h.DictOf (bt P w) a vs
  | .dT ag => ag.length <= sizeLine /\ (a == sysModules) = false /\ ∃ xs : List (List bA × Addr × Value),
      Paired (λ(p:List bA×V) (q:List bA×Addr×Value)=>p.1=q.1/\H q.2.1=some (.tup (p.1.map kV))/\RelV p.2 q.2.2) ag xs /\
      ∃o es ep,h.get? a=some o/\o.ExactDict/\o.data=.dict es ep/\es.toList=xs.map (entryOfKey (tupleKind (bt P w)))/\(xs.map (·.1)).Nodup
  | .set S n=>h.SetOf (intKind P w) a S n
  | .ins C dx fs => H dx = some (.own a) /\ fs.length <= 1000 /\ dx ≠ a /\ h.get? a = some (PySem.W.instObj C dx) /\
      ∃mA,h.Ns1 dx mA/\(∀f,jb (fs.lookup f) (mA f))/\PySem.Within mA (fs.map (·.1))
  | .own _=>∃o,h.get? a=some o
  | .xd fs=>∃mA,h.Ns1 a mA/\∀f,jb (fs.lookup f) (mA f)
  | .ku lo hi=>∃t u v,h.get? a=some { cls:=.type "range",data:=.fields #[.int lo t,.int hi u,.int 1 v] }
  | .ef o u=>h.get? a=some o/\bN H h a u
  | .HS ps=>h.get? a=some { cls:=.none,data:=.fields ps }
  | .met f x=>h.get? a=some (PySem.W.methodObj (.ref f) (.ref x))
  | .ext φ=>φ h/\(∃o,h.get? a=some o)/\∀h1 h2:Heap,φ h1->(∀o,h1.get? a=some o->h2.get? a=some o)->φ h2
def jc(H:Hp)(h:Heap):Prop:=∀a o,H a=some o->bN P w H h a o
end
section
variable {P:Program} {w:World} {H H':Hp} {h h':Heap} {a:Addr} {o:HO}
theorem bN.lt(x:bN P w H h a o):a<h.objs.size:=by
 cases o with
 | lst xs=>obtain⟨_,_,_,_,e⟩:=x;exact Heap.lt_size e
 | tup xs=>obtain⟨_,_,_,p⟩:=x;exact p.lt
 | dK ag=>obtain⟨_,_,_,_,o,_,_,e,_⟩:=x;exact Heap.lt_size e
 | dT ag=>obtain⟨_,_,_,_,o,_,_,e,_⟩:=x;exact Heap.lt_size e
 | set S n=>obtain⟨o,_,_,_,e,_⟩:=x;exact Heap.lt_size e
 | ins C dx fs=>obtain⟨_,_,_,e,_⟩:=x;exact Heap.lt_size e
 | own y=>obtain⟨_,e⟩:=x;exact Heap.lt_size e
 | xd fs=>obtain⟨_,⟨_,_,_,e,_⟩,_⟩:=x;exact Heap.lt_size e
 | ku lo hi=>obtain⟨_,_,_,e⟩:=x;exact Heap.lt_size e
 | ef ob u=>obtain⟨e,_⟩:=x;exact Heap.lt_size e
 | HS ps=>exact Heap.lt_size (show h.get? a=some _ from x)
 | met f y=>exact Heap.lt_size (show h.get? a=some _ from x)
 | ext φ=>obtain⟨_,⟨_,e⟩,_⟩:=x;exact Heap.lt_size e
theorem Paired.HU{α β:Type}{F G:α->β->Prop}:∀{MP:List α}{l₂:List β},Paired F MP l₂->(∀a b,F a b->G a b)->Paired G MP l₂
 | _,_,.nil,_=>.nil
 | _,_,.cons r t,f=>.cons (f _ _ r) (Paired.HU t f)
theorem bN.yI (x : bN P w H h a o) (k : ∀ b u, (b = a \/ H b = some (.own a)) -> h.get? b = some u -> h'.get? b = some u)
    (ho:∀b,H b=some (.own a)->H' b=some (.own a)) (ht:∀b xs,H b=some (.tup xs)->H' b=some (.tup xs)):bN P w H' h' a o:=by
  induction o with
  | lst xs=>obtain⟨z,aC,n,r,e⟩:=x;exact⟨z,aC,n,r,k _ _ (.inl rfl) e⟩
  | tup xs=>obtain⟨z,aC,r,ob,e,c⟩:=x;exact⟨z,aC,r,ob,k _ _ (.inl rfl) e,c⟩
  | dK ag=>obtain⟨z,y,vs,r,ob,es,ep,e,c⟩:=x;exact⟨z,y,vs,r,ob,es,ep,k _ _ (.inl rfl) e,c⟩
  | dT ag =>
    obtain⟨z,y,xs,r,ob,es,ep,e,c⟩:=x;exact⟨z,y,xs,Paired.HU r λp q z=>⟨z.1,ht _ _ z.2.1,z.2.2⟩,ob,es,ep,k _ _ (.inl rfl) e,c⟩
  | set S n=>obtain⟨ob,es,ep,t,e,c⟩:=x;exact⟨ob,es,ep,t,k _ _ (.inl rfl) e,c⟩
  | ins C dx fs =>
    obtain⟨d,z,ne,e,mA,⟨od,es,ep,e2,c⟩,r⟩:=x;exact⟨ho _ d,z,ne,k _ _ (.inl rfl) e,mA,⟨od,es,ep,k _ _ (.inr d) e2,c⟩,r⟩
  | own y=>obtain⟨ob,e⟩:=x;exact⟨ob,k _ _ (.inl rfl) e⟩
  | xd fs=>obtain⟨mA,⟨od,es,ep,e,c⟩,r⟩:=x;exact⟨mA,⟨od,es,ep,k _ _ (.inl rfl) e,c⟩,r⟩
  | ku lo hi=>obtain⟨t,u,v,e⟩:=x;exact⟨t,u,v,k _ _ (.inl rfl) e⟩
  | ef ob u ih=>obtain⟨e,q⟩:=x;exact⟨k _ _ (.inl rfl) e,ih q⟩
  | HS ps =>
    have e:h.get? a=some { cls:=.none,data:=.fields ps }:=x;show h'.get? a=some { cls:=.none,data:=.fields ps };exact k a _ (.inl rfl) e
  | met f y =>
    have e:h.get? a=some (PySem.W.methodObj (.ref f) (.ref y)):=x;show h'.get? a=some (PySem.W.methodObj (.ref f) (.ref y));exact k a _ (.inl rfl) e
  | ext φ=>obtain⟨p,⟨o,e⟩,st⟩:=x;exact⟨st _ _ p λo q=>k _ _ (.inl rfl) q,⟨o,k _ _ (.inl rfl) e⟩,st⟩
theorem jc.lt(x:jc P w H h)(e:H a=some o):a<h.objs.size:=(x a o e).lt
theorem jc.fresh(x:jc P w H h)(e:h.objs.size<=a):H a=none:=by
 cases q:H a with
 | none=>rfl
 | some u=>exact absurd (Nat.lt_of_lt_of_le (x.lt q) e) (Nat.lt_irrefl _)
theorem jc.kept(x:jc P w H h)(k:∀b u,h.get? b=some u->h'.get? b=some u):jc P w H h':=λa o e =>
 (x a o e).yI (λb u _ q=>k b u q) (λ_ q=>q) λ_ _ q=>q
theorem jc.laid(x:jc P w H h)(k:∀b u,h.get? b=some u->h'.get? b=some u)(hp:h.objs.size<=a)(new:bN P w (upd H a o) h' a o):jc P w (upd H a o) h':=λb u e=>by
 have hn:=x.fresh hp;by_cases hb:b=a
 ·subst hb;rw[bj]at e;cases e;exact new
 ·rw[az hb]at e;exact(x b u e).yI (λc v _ q=>k c v q) (λc q=>by rw[az (fm q hn)];exact q) λc xs q=>by rw[az (fm q hn)];exact q
end
noncomputable def Rd(H:Hp)(a:Addr)(u:HO):Prop:=H a=some u\/∃o,H a=some (.ef o u)
theorem Rd.ok(r:Rd H a u)(x:jc P w H h):bN P w H h a u:=by
 rcases r with r | ⟨o,r⟩
 ·exact x a u r
 ·obtain⟨_,q⟩:=x a _ r;exact q
noncomputable def MQ:Option HO->Prop
 | some (.lst _)=>True
 | some (.dK _)=>True
 | some (.dT _)=>True
 | some (.set _ _)=>True
 | some (.ins _ _ _)=>True
 | some (.ext _)=>True
 | _=>False
section
variable {P:Program} {w:World} {H:Hp} {h h':Heap} {x e:Addr} {o':HO}
theorem jc.write (ok : jc P w H h) (mu : MQ (H x)) (he : e = x \/ H e = some (.own x)) (k : ∀ b u, b ≠ e -> h.get? b = some u -> h'.get? b = some u) (L5 : ∃ u, h'.get? e = some u)
    (new:bN P w (upd H x o') h' x o'):jc P w (upd H x o') h':=λb u q=>by
  have MR:∀c y,H c=some (.own y)->c≠x:=λc y r z=>by subst z;rw[r]at mu;exact mu
  have SD:∀c xs,H c=some (.tup xs)->c≠x:=λc xs r z=>by subst z;rw[r]at mu;exact mu
  by_cases hb:b=x
  · subst hb;rw[bj]at q;cases q;exact new
  · rw[az hb]at q;by_cases HV:b=e
    · have q' : H b = some (.own x) := by
        rcases he with z | z
        · exact absurd (HV.trans z) hb
        · rw[HV];exact z
      rw[q]at q';cases q';obtain⟨v,hv⟩:=L5;exact⟨v,by rw[HV];exact hv⟩
    · refine(ok b u q).yI (λc v hc r=>k c v ?_ r) (λc r=>by rw[az (MR c b r)];exact r) λc xs r=>by rw[az (SD c xs r)];exact r
      rcases hc with rfl | hc
      · exact HV
      · rintro rfl;rcases he with z | z
        · exact MR c b hc z
        · rw[hc]at z;cases z;exact hb rfl
end
structure Un (fs ex:List Addr) (H H':Hp) (h h':Heap):Prop where
 keep:∀b o,h.get? b=some o->H b=none->b∉fs->b∉ex->h'.get? b=some o
 slot:∀b o,h.get? b=some o->H b=none->b∈fs->b∉ex->∃sl,h'.get? b=some { o with slots:=sl }
 free:∀b o,h.get? b=some o->H b=none->b∉ex->H' b=none
 there:∀b o,h.get? b=some o->b∉ex->∃o',h'.get? b=some o'
 gx:∀b xs,H b=some (.tup xs)->H' b=some (.tup xs)
 pW:∀b o u,H b=some (.ef o u)->H' b=some (.ef o u)
 sv:∀b ps,H b=some (.HS ps)->∃more,H' b=some (.HS (ps++more))
section
variable {fs Yb ex ex':List Addr} {H H1 H2:Hp} {h h1 h2 h':Heap} {a x e:Addr} {o:HO}
theorem Un.any(u:Un fs ex H H1 h h1)(q:h.get? b=some ob)(n:H b=none)(hx:b∉ex):∃sl,h1.get? b=some { ob with slots:=sl }:=by
 by_cases hb:b∈fs
 ·exact u.slot b ob q n hb hx
 ·exact⟨ob.slots,u.keep b ob q n hb hx⟩
theorem Un.kept(k:∀b u,h.get? b=some u->h'.get? b=some u):Un fs ex H H h h' :=
 ⟨λb ob q _ _ _=>k b ob q,λb ob q _ _ _=>⟨ob.slots,k b ob q⟩,λ_ _ _ n _=>n,λb ob q _=>⟨ob,k b ob q⟩,λ_ _ q=>q,λ_ _ _ q=>q,λ_ ps q=>⟨#[],by rw[q];simp⟩⟩
theorem Un.refl:Un fs ex H H h h:=Un.kept λ_ _ q=>q
theorem Un.laid(k:∀b u,h.get? b=some u->h'.get? b=some u)(hp:h.objs.size<=a)(hn:H a=none):Un fs ex H (upd H a o) h h' where
 keep:=λb u q _ _ _=>k b u q
 slot:=λb u q _ _ _=>⟨u.slots,k b u q⟩
 free:=λb u q n _=>by rw[az (Nat.ne_of_lt (Nat.lt_of_lt_of_le (Heap.lt_size q) hp))];exact n
 there:=λb u q _=>⟨u,k b u q⟩
 gx:=λb xs q=>by rw[az (fm q hn)];exact q
 pW:=λb u xs q=>by rw[az (fm q hn)];exact q
 sv:=λb ps q=>⟨#[],by rw[az (fm q hn),q];simp⟩
theorem Un.write(mu:MQ (H x))(he:e=x\/H e=some (.own x))(k:∀b u,b≠e->h.get? b=some u->h'.get? b=some u)(L5:∃u,h'.get? e=some u):Un fs ex H (upd H x o) h h':=by
 have hx:∀b,H b=none->b≠x:=λb n z=>by subst z;rw[n]at mu;exact mu
 have hb:∀b,H b=none->b≠e:=λb n z=>by
  subst z;rcases he with r | r
  ·exact hx b n r
  ·rw[n]at r;cases r
 have hm:∀b u,H b=some u->¬MQ (some u)->b≠x:=λb u q nm z=>by subst z;rw[q]at mu;exact nm mu
 refine⟨λb u q n _ _=>k b u (hb b n) q,λb u q n _ _=>⟨u.slots,k b u (hb b n) q⟩,λb u q n _=>by rw[az (hx b n)];exact n,λb u q _=>?_,
  λb xs q=>by rw[az (hm b _ q λz=>z)];exact q,λb u xs q=>by rw[az (hm b _ q λz=>z)];exact q,λb ps q=>⟨#[],by rw[az (hm b _ q λz=>z),q];simp⟩⟩
 by_cases HV:b=e
 ·subst HV;exact L5
 ·exact⟨u,k b u HV q⟩
end
noncomputable def QI(h:Heap)(H:Hp):List Addr:=(List.range h.objs.size).filter λa=>(H a).isSome
def pX(h:Heap)(H:Hp):Heap:=PySem.W.hideAll h (QI h H)
theorem yJ(h:Heap)(H:Hp):(pX h H).objs.size=h.objs.size:=PySem.W.hideAll_size _ _
theorem z0(e:h.get? b=some o)(n:H b=none):(pX h H).get? b=some o :=
 PySem.W.hideAll_get _ e λhm=>by
  have q:(H b).isSome=true:=(List.mem_filter.mp hm).2;rw[n]at q;simp at q
theorem DO(e:(pX h H).get? b=some o):h.get? b=some o/\H b=none:=by
 have e':h.get? b=some o:=PySem.W.of_hideAll (QI h H) e;refine⟨e',?_⟩
 cases q:H b with
 | none=>rfl
 | some x =>
  have hm:b∈QI h H:=List.mem_filter.mpr ⟨List.mem_range.mpr (Heap.lt_size e'),by simp[q]⟩;have z:(pX h H).get? b=none:=PySem.W.hideAll_none (QI h H) hm;rw[z]at e;cases e
noncomputable def DP(g h:Heap)(L:Addr):List (Addr×Obj):=(List.range h.objs.size).filterMap λa=>if a=L\/(g.get? a).isSome=true then none else (h.get? a).map λo=>(a,o)
def eV(g h:Heap)(L d:Addr):List (Addr×Obj):=(DP g h L).filter λp=>decide (p.1≠d)
structure Mod (K:PySem.W.Frag) (mg:Str->Option Value) (base:Heap):Prop where
 SE:K.In base
 glob:base.Ns mainGlobals mg
 blt:∃mb,base.Ns builtinsNs mb/\∀x:Str,x≠ "__name__" -> mb x=bootBuiltins x
 nolimit:base.NoLimit
structure Cx where
 prog:Program
 w:World
 K:PySem.W.Frag
 mg:Str->Option Value
 base:Heap
 A:Around
 N:List Str
 eW:Shared
 sA:Hp
 env:Env
 outer:List Env
 stack:List Env
 ex:List Addr
 fn:Str->Bool
 calm:Bool
 pn:List (Addr×Obj)
 xe:Value->Shared->Prop
def z9(l:List Env):List Addr:=l.filterMap (·.frame)
abbrev Cx.fs(X:Cx):List Addr:=z9 X.outer
noncomputable def SF(sc:Scope)(x:Str):Prop:=sc.names.lookup x=some .local\/sc.names.lookup x=some .cell\/sc.names.lookup x=some .free
noncomputable def Loc(sc:Scope)(x:Str):Prop:=sc.names.lookup x=some .local\/sc.names.lookup x=some .cell
noncomputable def Look(env:Env)(h:Heap)(m:Str->Option Value)(x:Str)(u:Value):Prop :=
 (env.kindOf x=some .local/\m x=some u)\/((env.kindOf x=some .cell\/env.kindOf x=some .free)/\∃c,env.cells.lookup x=some c/\h.IsCell c (some u))
structure Cx.Ok (X:Cx):Prop where
 mod:Mod X.K X.mg X.base
 kind:X.env.scope.kind=.function
 glob:X.env.globals=mainGlobals
 blt:X.env.builtins=builtinsNs
 above:X.eW.heap.objs.size<=X.env.locals
 inj:∀x y c,X.env.cells.lookup x=some c->X.env.cells.lookup y=some c->x=y
 has:∀x,(X.env.kindOf x=some .cell\/X.env.kindOf x=some .free)->∃c,X.env.cells.lookup x=some c
 HW:∀x c,X.fn x=true->X.env.cells.lookup x=some c->X.eW.heap.objs.size<=c
 hd:X.calm=true->X.A.handled=none
 frames:X.A.frames=some X.stack
 QJ:X.stack=X.outer\/(X.stack=X.env::X.outer/\X.env.frame=some X.env.locals)
 SG:∀b∈X.ex,b≠X.env.locals/\∀x c,X.env.cells.lookup x=some c->c≠b
 bs:∀b o,X.base.get? b=some o->X.eW.heap.get? b=some o/\X.sA b=none
 GU:X.base.objs.size<=X.eW.heap.objs.size
 z_:∀b o,X.base.get? b=some o->b∉X.ex
 Aa:∀b∈X.ex,b∉X.fs
 mE:X.eW.heap.FunFrames X.base X.outer
 L6:∀b∈X.fs,X.sA b=none
structure Inv (X:Cx) (aa:List (Addr×Obj)) (σ:List (Option V)) (H:Hp) (s:Shared):Prop where
 ok:X.Ok
 os:s.os=X.eW.os
 bare:AllBare s.gens
 base:Un X.fs X.ex X.sA H X.eW.heap s.heap
 loc:∃m,s.heap.Ns X.env.locals m/\∀(i:Nat)(x:Str)(v:V),X.N[i]?=some x->σ[i]?=some (some v)->SF X.env.scope x->∃u,RelV v u/\Look X.env s.heap m x u
 cell:∀x c,X.env.cells.lookup x=some c->∃v,s.heap.IsCell c v
 free:H X.env.locals=none
 iO:∀x c,X.env.cells.lookup x=some c->H c=none
 pin:∀p∈X.pn++aa,s.heap.get? p.1=some p.2/\H p.1=none/\p.1≠X.env.locals/\p.1∉X.fs/\∀v,p.2.data≠.cell v
 bF:jc X.prog X.w H s.heap
 len:σ.length=X.N.length
section
variable {X:Cx} {aa:List (Addr×Obj)} {σ:List (Option V)} {H H':Hp} {s:Shared} {h':Heap}
theorem Cx.Ok.SH(ok:X.Ok)(e:X.base.get? b=some o):b∉X.fs:=λhb=>by
 have:=(ok.mE.mem hb).1;rw[e]at this;cases this
theorem Inv.bs(I:Inv X aa σ H s):∀b o,X.base.get? b=some o->s.heap.get? b=some o/\H b=none:=λb o e =>
 ⟨I.base.keep b o (I.ok.bs b o e).1 (I.ok.bs b o e).2 (I.ok.SH e) (I.ok.z_ b o e),I.base.free b o (I.ok.bs b o e).1 (I.ok.bs b o e).2 (I.ok.z_ b o e)⟩
theorem Inv.bk(I:Inv X aa σ H s):∀b o,X.base.get? b=some o->s.heap.get? b=some o:=λb o e=>(I.bs b o e).1
theorem Inv.mod(I:Inv X aa σ H s):Mod X.K X.mg X.base:=I.ok.mod
theorem Inv.sC(I:Inv X aa σ H s):X.K.In s.heap:=I.ok.mod.SE.keeps I.bk
theorem Inv.lt(I:Inv X aa σ H s):X.env.locals<s.heap.objs.size:=let ⟨_,hn,_⟩:=I.loc;hn.lt
theorem Inv.sz(I:Inv X aa σ H s):X.eW.heap.objs.size<=s.heap.objs.size:=Nat.le_trans I.ok.above (Nat.le_of_lt I.lt)
theorem Inv.MS(I:Inv X aa σ H s)(h:s.heap.objs.size<=a):a∉X.fs:=λhb=>by
 obtain⟨_,o,ho,_⟩:=I.ok.mE.mem hb;exact absurd (Nat.lt_of_lt_of_le (Heap.lt_size ho) (Nat.le_trans I.sz h)) (Nat.lt_irrefl _)
theorem Inv.HX(I:Inv X aa σ H s):∀x c,X.env.cells.lookup x=some c->c≠X.env.locals:=λx c e z=>by
 obtain⟨v,o,ho,hd⟩:=I.cell x c e;obtain⟨m,⟨o',es,ep,wW,MT,_⟩,_⟩:=I.loc;rw[z,wW]at ho;cases ho;rw[MT]at hd;cases hd
theorem Inv.mE(I:Inv X aa σ H s):s.heap.FunFrames X.base X.outer:=by
 have all:∀(l:List Env),(∀b∈z9 l,b∈X.fs)->X.eW.heap.FunFrames X.base l->s.heap.FunFrames X.base l:=by
  intro l
  induction l with
  | nil=>intro _ _;trivial
  | cons env r ih =>
   intro hs hl;obtain⟨hk,⟨L,o,hf,hn,ho,hd⟩,hr⟩:=hl;have hL:L∈X.fs:=hs L (by unfold z9;rw[List.filterMap_cons,hf];exact List.mem_cons_self);obtain⟨sl,e⟩:=I.base.slot L o ho (I.ok.L6 L hL) hL λz=>I.ok.Aa L z hL;exact⟨hk,⟨L,_,hf,hn,e,hd⟩,ih (λb hb=>hs b (by unfold z9;rw[List.filterMap_cons,hf];exact ja _ hb)) hr⟩
 exact all X.outer (λ_ hb=>hb) I.ok.mE
theorem Inv.stack(I:Inv X aa σ H s):s.heap.FunFrames X.base X.stack:=by
 rcases I.ok.QJ with e | ⟨e,hf⟩
 ·rw[e];exact I.mE
 ·rw[e];obtain⟨m,hn,_⟩:=I.loc;refine .cons (by rw[I.ok.kind];decide) hf hn ?_ I.mE;exact Heap.get?_none_of_le (Nat.le_trans I.ok.GU I.ok.above)
theorem Inv.uZ(I:Inv X aa σ H s):∀b∈z9 X.stack,b∈X.env.locals::X.fs:=λb hb=>by
 rcases I.ok.QJ with e | ⟨e,hf⟩
 ·rw[e]at hb;exact ja _ hb
 ·rw[e]at hb;unfold z9 at hb;rw[List.filterMap_cons,hf]at hb;exact hb
theorem Inv.wX(I:Inv X aa σ H s):∀b∈z9 X.stack,H b=none:=λb hb=>by
 rcases List.mem_cons.mp (I.uZ b hb)with e | hb
 ·rw[e];exact I.free
 ·obtain⟨_,o,ho,_⟩:=I.ok.mE.mem hb;exact I.base.free b o ho (I.ok.L6 b hb) λz=>I.ok.Aa b z hb
theorem Inv.step {t' : Nat}  {ch : List Addr} (I : Inv X aa σ H s)
    (zR:∀b∈ch,(b∈X.ex\/X.eW.heap.objs.size<=b)/\b≠X.env.locals/\(∀x c,X.env.cells.lookup x=some c->c≠b)/\∀p∈X.pn++aa,p.1≠b)
    (keep:∀b o,b≠X.env.locals->b∉X.fs->b∉ch->s.heap.get? b=some o->H b=none->h'.get? b=some o)
    (slot:∀b o,b≠X.env.locals->b∈X.fs->b∉ch->s.heap.get? b=some o->H b=none->∃sl,h'.get? b=some { o with slots:=sl }) (free:∀b o,b∉ch->s.heap.get? b=some o->H b=none->H' b=none)
    (there:∀b o,b∉ch->s.heap.get? b=some o->∃o',h'.get? b=some o')
    (gx:∀b xs,H b=some (.tup xs)->H' b=some (.tup xs)) (pW:∀b o u,H b=some (.ef o u)->H' b=some (.ef o u)) (sv:∀b ps,H b=some (.HS ps)->∃more,H' b=some (.HS (ps++more)))
    (ns:∀m,s.heap.Ns X.env.locals m->h'.Ns X.env.locals m) (bF:jc X.prog X.w H' h') (hg:AllBare g') :
    Inv X aa σ H' { s with heap:=h',gens:=g',drawn:=d',toks:=t' }:=by
  have VS:∀b o,X.eW.heap.get? b=some o->b≠X.env.locals:=λb o e=>Nat.ne_of_lt (Nat.lt_of_lt_of_le (Heap.lt_size e) I.ok.above)
  have QK:∀b o,X.eW.heap.get? b=some o->b∉X.ex->b∉ch:=λb o e hx hb=>by
    rcases(zR b hb).1 with z | z
    · exact hx z
    · exact absurd (Nat.lt_of_lt_of_le (Heap.lt_size e) z) (Nat.lt_irrefl _)
  have cellK:∀x c,X.env.cells.lookup x=some c->∀v,s.heap.IsCell c v->h'.IsCell c v:=λx c e v ⟨o,ho,hd⟩=>by
    have MU:c∉ch:=λz=>(zR c z).2.2.1 x c e rfl;by_cases hc:c∈X.fs
    · obtain⟨sl,q⟩:=slot c o (I.HX x c e) hc MU ho (I.iO x c e);exact⟨_,q,hd⟩
    · exact⟨o,keep c o (I.HX x c e) hc MU ho (I.iO x c e),hd⟩
  refine⟨I.ok,I.os,hg,⟨λb o e n hb hx=>?_,λb o e n hb hx=>?_,λb o e n hx=>?_,λb o e hx=>?_,λb xs e=>gx b xs (I.base.gx b xs e),λb o xs e=>pW b o xs (I.base.pW b o xs e),λb ps e=>?_⟩,?_,λx c e=>?_,?_,λx c e=>?_,λp hp=>?_,bF,I.len⟩
  · exact keep b o (VS b o e) hb (QK b o e hx) (I.base.keep b o e n hb hx) (I.base.free b o e n hx)
  · obtain⟨sl,e1⟩:=I.base.slot b o e n hb hx;obtain⟨Yc,e2⟩:=slot b _ (VS b o e) hb (QK b o e hx) e1 (I.base.free b o e n hx);exact⟨Yc,e2⟩
  · obtain⟨o',e1⟩:=I.base.there b o e hx;exact free b o' (QK b o e hx) e1 (I.base.free b o e n hx)
  · obtain⟨o',e1⟩:=I.base.there b o e hx;exact there b o' (QK b o e hx) e1
  · obtain⟨m1,e1⟩:=I.base.sv b ps e;obtain⟨m2,e2⟩:=sv b _ e1;exact⟨m1++m2,by rw[e2,Array.append_assoc]⟩
  · obtain⟨m,hn,hl⟩:=I.loc;refine⟨m,ns m hn,λi x v e1 e2 e3=>?_⟩;obtain⟨u,r,l⟩:=hl i x v e1 e2 e3;refine⟨u,r,?_⟩;rcases l with l | ⟨k,c,e,z⟩
    · exact .inl l
    · exact .inr ⟨k,c,e,cellK x c e _ z⟩
  · obtain⟨v,z⟩:=I.cell x c e;exact⟨v,cellK x c e v z⟩
  · obtain⟨m,⟨o,_,_,ho,_⟩,_⟩:=I.loc;exact free _ o (λz=>(zR _ z).2.1 rfl) ho I.free
  · obtain⟨v,o,ho,hd⟩:=I.cell x c e;exact free c o (λz=>(zR c z).2.2.1 x c e rfl) ho (I.iO x c e)
  · obtain⟨e,n,ne,nf,d⟩:=I.pin p hp;have MU:p.1∉ch:=λz=>(zR p.1 z).2.2.2 p hp rfl;exact⟨keep p.1 p.2 ne nf MU e n,free p.1 p.2 MU e n,ne,nf,d⟩
theorem Inv.un{t':Nat}(I:Inv X aa σ H s)(u:Un X.fs [] H H' s.heap h')(bF:jc X.prog X.w H' h'):Inv X aa σ H' { s with heap:=h',toks:=t' }:=by
 obtain⟨m,⟨o,es,ep,ho,r⟩,_⟩:=id I.loc;obtain⟨sl,hL⟩:=u.any ho I.free (by simp)
 exact I.step (g':=s.gens) (d':=s.drawn) (ch:=[]) (λ_ z=>nomatch z) (λb o _ hb _ e n=>u.keep b o e n hb (by simp)) (λb o _ hb _ e n=>u.slot b o e n hb (by simp)) (λb o _ e n=>u.free b o e n (by simp)) (λb o _ e=>u.there b o e (by simp)) u.gx u.pW u.sv (λm' hm=>by
  obtain⟨o',SI,SJ,wW,r'⟩:=hm;rw[ho]at wW;cases wW;exact⟨_,SI,SJ,hL,r'⟩) bF I.bare
theorem Inv.call {t' : Nat}  {ch : List Addr} (I : Inv X aa σ H s) (u : Un (z9 X.stack) ch H H' s.heap h') (bF : jc X.prog X.w H' h') (hg : AllBare g')
    (zR:∀b∈ch,(b∈X.ex\/X.eW.heap.objs.size<=b)/\b≠X.env.locals/\(∀x c,X.env.cells.lookup x=some c->c≠b)/\∀p∈X.pn++aa,p.1≠b) :
    Inv X aa σ H' { s with heap:=h',gens:=g',drawn:=d',toks:=t' }:=by
  obtain⟨m,⟨o,es,ep,ho,r⟩,_⟩:=id I.loc;obtain⟨sl,hL⟩:=u.any ho I.free λz=>(zR _ z).2.1 rfl
  exact I.step (ch:=ch) zR (λb o hL hb hc e n=>u.keep b o e n (λz=>(List.mem_cons.mp (I.uZ b z)).elim hL hb) hc) (λb o _ _ hc e n=>u.any e n hc) (λb o hc e n=>u.free b o e n hc) (λb o hc e=>u.there b o e hc) u.gx u.pW u.sv (λm' hm=>by
    obtain⟨o',SI,SJ,wW,r'⟩:=hm;rw[ho]at wW;cases wW;exact⟨_,SI,SJ,hL,r'⟩) bF hg
theorem Inv.turned {t' : Nat}  (I : Inv X aa σ H s) (k : ∀ b o, b ≠ it -> s.heap.get? b = some o -> h'.get? b = some o) (hn : H it = none) (hL : it ≠ X.env.locals)
    (h1:it∈X.ex\/X.eW.heap.objs.size<=it) (h2:∀x c,X.env.cells.lookup x=some c->c≠it) (h3:∀p∈X.pn++aa,p.1≠it):Inv X aa σ H { s with heap:=h',toks:=t' }:=by
  have MV:∀b u,H b=some u->b≠it:=λb u e z=>by rw[z,hn]at e;cases e
  refine I.step (g':=s.gens) (d':=s.drawn) (ch:=[it]) (λb hb=>?_) (λb o _ _ hc e _=>k b o (λz=>hc (by simp[z])) e) (λb o _ _ hc e _=>⟨o.slots,k b o (λz=>hc (by simp[z])) e⟩) (λ_ _ _ _ n=>n)
    (λb o hc e=>⟨o,k b o (λz=>hc (by simp[z])) e⟩) (λ_ _ e=>e) (λ_ _ _ e=>e) (λb ps e=>⟨#[],by rw[e];simp⟩) (λm hm=>?_) (λb u e=>?_) I.bare
  · have e:b=it:=by simpa using hb
    subst e;exact⟨h1,hL,h2,h3⟩
  · obtain⟨o,es,ep,ho,r⟩:=hm;exact⟨o,es,ep,k _ o (Ne.symm hL) ho,r⟩
  · refine(I.bF b u e).yI (λc v hc q=>k c v ?_ q) (λ_ q=>q) λ_ _ q=>q;rcases hc with z | z
    · rw[z];exact MV b u e
    · exact MV c _ z
theorem Inv.tok(I:Inv X aa σ H s)(t:Nat):Inv X aa σ H { s with toks:=t }:=I.un (h':=s.heap) (t':=t) Un.refl I.bF
theorem Inv.kept(I:Inv X aa σ H s)(k:∀b u,s.heap.get? b=some u->h'.get? b=some u):Inv X aa σ H { s with heap:=h',toks:=t' }:=I.un (Un.kept k) (I.bF.kept k)
theorem Inv.laid (I : Inv X aa σ H s) (k : ∀ b u, s.heap.get? b = some u -> h'.get? b = some u) (hp : s.heap.objs.size <= a) (new : bN X.prog X.w (upd H a o) h' a o) :
    Inv X aa σ (upd H a o) { s with heap:=h',toks:=t' }:=I.un (Un.laid k hp (I.bF.fresh hp)) (I.bF.laid k hp new)
theorem Inv.write (I : Inv X aa σ H s) (mu : MQ (H x)) (he : e = x \/ H e = some (.own x)) (k : ∀ b u, b ≠ e -> s.heap.get? b = some u -> h'.get? b = some u) (L5 : ∃ u, h'.get? e = some u)
    (new:bN X.prog X.w (upd H x o) h' x o):Inv X aa σ (upd H x o) { s with heap:=h',toks:=t' }:=I.un (Un.write mu he k L5) (I.bF.write mu he k L5 new)
theorem Inv.pY(I:Inv X aa σ H s)(h:∀p∈MW,s.heap.get? p.1=some p.2/\H p.1=none/\p.1≠X.env.locals/\p.1∉X.fs/\∀v,p.2.data≠.cell v):Inv X MW σ H s :=
 ⟨I.ok,I.os,I.bare,I.base,I.loc,I.cell,I.free,I.iO,λp hp=>(fk.mp hp).elim (λz=>I.pin p (List.mem_append_left _ z)) (h p),I.bF,I.len⟩
theorem sD{N:List Str}(hN:N.Nodup){i j:Nat}{x:Str}(a:N[i]?=some x)(b:N[j]?=some x):i=j:=by
 obtain⟨h1,e1⟩:=dU.mp a;obtain⟨h2,e2⟩:=dU.mp b;exact(List.getElem_inj hN).mp (e1.trans e2.symm)
theorem yK {i : Nat} {x : Str} {v : V}  (I : Inv X aa σ H s) (hN : X.N.Nodup) (hi : X.N[i]? = some x) (hx : Loc X.env.scope x) (r : RelV v u)
    (h:∀s',Inv X aa (σ.set i (some v)) H s'->(∃a,Heap.SameBut a s.heap s'.heap/\(a=X.env.locals\/X.env.cells.lookup x=some a))->Q () s') (hf:X.fn x=true\/X.env.scope.names.lookup x=some .local:=by first | exact .inl rfl | exact .inr rfl | assumption):wpAny M A (storeName X.env x u) Q E s:=by
  obtain⟨m,hn,hl⟩:=id I.loc;have SM:(X.env.scope.kind == .class||(X.env.scope.kind == .module&&X.env.locals != X.env.globals))=false:=by rw[I.ok.kind];rfl
  have MX:i<σ.length:=by rw[I.len];exact(dU.mp hi).1
  have HX:=I.HX
  have tracked:∀{a:Addr}{h':Heap},(∃o,s.heap.get? a=some o/\H a=none)->Heap.SameBut a s.heap h'->jc X.prog X.w H h':=λ{a h'} ha hs b ob e=>by
    obtain⟨_,_,sE⟩:=ha;refine(I.bF b ob e).yI (λc w' hc q=>(hs.2 c ?_).trans q) (λ_ q=>q) λ_ _ q=>q;rintro rfl;rcases hc with rfl | hc
    · rw[sE]at e;cases e
    · rw[sE]at hc;cases hc
  rcases hx with hk | hk
  · refine wpAny_storeName_local hk hn (λh' Yd hs=>?_) SM;obtain⟨oL,_,_,Ye,_⟩:=id hn;refine h _ ⟨I.ok,I.os,I.bare,⟨λb o e n hb hx=>?_,λb o e n hb hx=>?_,I.base.free,λb o e hx=>?_,I.base.gx,I.base.pW,I.base.sv⟩,⟨_,Yd,λj y v' e1 e2 e3=>?_⟩,λy c e=>?_,I.free,I.iO,λp hp=>?_,tracked ⟨oL,Ye,I.free⟩ hs,by simpa using I.len⟩ ⟨_,hs,.inl rfl⟩
    · exact(hs.2 b (Nat.ne_of_lt (Nat.lt_of_lt_of_le (Heap.lt_size e) I.ok.above))).trans (I.base.keep b o e n hb hx)
    · obtain⟨sl,e1⟩:=I.base.slot b o e n hb hx;exact⟨sl,(hs.2 b (Nat.ne_of_lt (Nat.lt_of_lt_of_le (Heap.lt_size e) I.ok.above))).trans e1⟩
    · obtain⟨o',e1⟩:=I.base.there b o e hx;exact⟨o',(hs.2 b (Nat.ne_of_lt (Nat.lt_of_lt_of_le (Heap.lt_size e) I.ok.above))).trans e1⟩
    · by_cases hj:j=i
      · subst hj;rw[hi]at e1;cases e1;rw[List.getElem?_set_self MX]at e2;cases e2;exact⟨u,r,.inl ⟨hk,by simp⟩⟩
      · rw[List.getElem?_set_ne (Ne.symm hj)]at e2;obtain⟨u',r',q⟩:=hl j y v' e1 e2 e3;refine⟨u',r',?_⟩;rcases q with⟨k,e⟩|⟨k,c,e,z⟩
        · refine .inl ⟨k,?_⟩;have:y≠x:=λe=>hj (sD hN e1 (e▸hi));simp[this,e]
        · exact .inr ⟨k,c,e,z.sameBut hs (HX y c e)⟩
    · obtain⟨w',z⟩:=I.cell y c e;exact⟨w',z.sameBut hs (HX y c e)⟩
    · obtain⟨e,n,ne,nf,d⟩:=I.pin p hp;exact⟨(hs.2 p.1 ne).trans e,n,ne,nf,d⟩
  · have SN : X.fn x = true := by
      rcases hf with z | z
      · exact z
      · rw[z]at hk;cases hk
    obtain⟨c,hc⟩:=I.ok.has x (.inl hk);obtain⟨w',z⟩:=I.cell x c hc;refine wpAny_storeName_cell I.ok.kind hk hc z (λh' lR hs=>?_);obtain⟨oc,VT,SO⟩:=id z;refine h { s with heap:=h' } ⟨I.ok,I.os,I.bare,⟨λb o e n hb hx=>?_,λb o e n hb hx=>?_,I.base.free,λb o e hx=>?_,I.base.gx,I.base.pW,I.base.sv⟩,⟨m,hn.sameBut hs (Ne.symm (HX x c hc)),λj y v' e1 e2 e3=>?_⟩,λy c' e=>?_,I.free,I.iO,λp hp=>?_,tracked ⟨oc,VT,I.iO x c hc⟩ hs,by simpa using I.len⟩ ⟨c,hs,.inr hc⟩
    · exact(hs.2 b (Nat.ne_of_lt (Nat.lt_of_lt_of_le (Heap.lt_size e) (I.ok.HW x c SN hc)))).trans (I.base.keep b o e n hb hx)
    · obtain⟨sl,e1⟩:=I.base.slot b o e n hb hx;exact⟨sl,(hs.2 b (Nat.ne_of_lt (Nat.lt_of_lt_of_le (Heap.lt_size e) (I.ok.HW x c SN hc)))).trans e1⟩
    · obtain⟨o',e1⟩:=I.base.there b o e hx;exact⟨o',(hs.2 b (Nat.ne_of_lt (Nat.lt_of_lt_of_le (Heap.lt_size e) (I.ok.HW x c SN hc)))).trans e1⟩
    · by_cases hj:j=i
      · subst hj;rw[hi]at e1;cases e1;rw[List.getElem?_set_self MX]at e2;cases e2;exact⟨u,r,.inr ⟨.inl hk,c,hc,lR⟩⟩
      · rw[List.getElem?_set_ne (Ne.symm hj)]at e2;obtain⟨u',r',q⟩:=hl j y v' e1 e2 e3;refine⟨u',r',?_⟩;rcases q with q | ⟨k,c',e,z'⟩
        · exact .inl q
        · refine .inr ⟨k,c',e,z'.sameBut hs ?_⟩;rintro rfl;exact hj (sD hN e1 (I.ok.inj _ _ _ e hc▸hi))
    · by_cases VU:c'=c
      · subst VU;exact⟨_,lR⟩
      · obtain⟨w2,z2⟩:=I.cell y c' e;exact⟨w2,z2.sameBut hs VU⟩
    · obtain⟨e,n,ne,nf,d⟩:=I.pin p hp;refine⟨(hs.2 p.1 ?_).trans e,n,ne,nf,d⟩;intro q;rw[q,VT]at e;have q':oc=p.2:=eU e;exact d w' (by rw[<- q'];exact SO)
theorem Ab {x : Str}  (I : Inv X aa σ H s) (hN : X.N.Nodup) (hi : X.N[i]? = some x) (hx : Loc X.env.scope x) (r : RelV v u)
    (h:∀s',Inv X aa (σ.set i (some v)) H s'->Q () s') (hf:X.fn x=true\/X.env.scope.names.lookup x=some .local:=by first | exact .inl rfl | exact .inr rfl | assumption):wpAny M A (storeName X.env x u) Q E s :=
  yK I hN hi hx r (λs' I' _=>h s' I') hf
theorem Inv.MY (I : Inv X aa σ H s) (ho : s'.os = s.os) (u : Un (z9 X.stack) ch H H' s.heap s'.heap) (bF : jc X.prog X.w H' s'.heap) (hg : AllBare s'.gens)
    (zR:∀b∈ch,(b∈X.ex\/X.eW.heap.objs.size<=b)/\b≠X.env.locals/\(∀x c,X.env.cells.lookup x=some c->c≠b)/\∀p∈X.pn++aa,p.1≠b):Inv X aa σ H' s':=by
  obtain⟨h',g',d',t',o'⟩:=s';have e:o'=s.os:=ho;subst e;exact I.call (g':=g') (t':=t') (d':=d') u bF hg zR
end
abbrev XK:=Value->Option Addr->Hp->Prop
abbrev St:=List (Option V)
abbrev VK:=V->Hp->Prop
abbrev TE:=St->Hp->VK->Prop
abbrev TT:=St->Hp->(Bool->Hp->Prop)->Prop
abbrev TA:=St->Hp->(List V->Hp->Prop)->Prop
structure Ends where
 nx:St->Hp->Prop
 rt:VK
 bk:St->Hp->Prop:=λ_ _=>False
 ct:St->Hp->Prop:=λ_ _=>False
abbrev TS:=Ends->St->Hp->Prop
def EP(X:Cx)(aa:List (Addr×Obj))(σ:St)(Q:VK)(u:Value)(s':Shared):Prop:=∃v H',Inv X aa σ H' s'/\RelV v u/\Q v H'
noncomputable def TP(X:Cx)(aa:List (Addr×Obj))(σ:St)(Q:Bool->Hp->Prop)(b:Bool)(s':Shared):Prop:=∃H',Inv X aa σ H' s'/\Q b H'
noncomputable def AP(X:Cx)(aa:List (Addr×Obj))(σ:St)(Q:List V->Hp->Prop)(us:List Value)(s':Shared):Prop:=∃vs H',Inv X aa σ H' s'/\aN vs us/\Q vs H'
def SP(X:Cx)(aa:List (Addr×Obj))(D:Ends)(f:Flow)(s':Shared):Prop :=
 match f with
 | .next=>∃cI H',Inv X aa cI H' s'/\D.nx cI H'
 | .brk=>∃cI H',Inv X aa cI H' s'/\D.bk cI H'
 | .cont=>∃cI H',Inv X aa cI H' s'/\D.ct cI H'
 | .ret u=>∃v cI H',Inv X aa cI H' s'/\RelV v u/\D.rt v H'
def PE(X:Cx)(e:Expr)(t:TE):Prop :=
 ∀(aa:List (Addr×Obj))(s:Shared)(σ:St)(H:Hp)(Q:VK),Inv X aa σ H s->t σ H Q->wpAny (model X.prog X.w) X.A (eval e X.env) (EP X aa σ Q) X.xe s
def PT(X:Cx)(e:Expr)(t:TT):Prop :=
 ∀(aa:List (Addr×Obj))(s:Shared)(σ:St)(H:Hp)(Q:Bool->Hp->Prop),Inv X aa σ H s->t σ H Q->wpAny (model X.prog X.w) X.A (isTrue e X.env (eval e X.env)) (TP X aa σ Q) X.xe s
def PW(X:Cx)(e:Expr)(t:TT):Prop :=
 ∀(mF:Sem Value)(aa:List (Addr×Obj))(s:Shared)(σ:St)(H:Hp)(Q:Bool->Hp->Prop),Inv X aa σ H s->t σ H Q->wpAny (model X.prog X.w) X.A (isTrue e X.env mF) (TP X aa σ Q) X.xe s
theorem PW.pt(h:PW X e t):PT X e t:=h _
def PA(X:Cx)(es:List Expr)(t:TA):Prop :=
 ∀(pos:Pos)(aa:List (Addr×Obj))(s:Shared)(σ:St)(H:Hp)(Q:List V->Hp->Prop),Inv X aa σ H s->t σ H Q->wpAny (model X.prog X.w) X.A (spliced (backTo pos (starEach es X.env))) (AP X aa σ Q) X.xe s
def PS(X:Cx)(st:Stmt)(t:TS):Prop :=
 ∀(aa:List (Addr×Obj))(s:Shared)(σ:St)(H:Hp)(D:Ends),Inv X aa σ H s->t D σ H->wpAny (model X.prog X.w) X.A (exec st X.env) (SP X aa D) X.xe s
def pZ(X:Cx)(st:List Stmt)(t:TS):Prop :=
 ∀(aa:List (Addr×Obj))(s:Shared)(σ:St)(H:Hp)(D:Ends),Inv X aa σ H s->t D σ H->wpAny (model X.prog X.w) X.A (execs st X.env) (SP X aa D) X.xe s
theorem cv{α:Type}{t:Sem α}{Q Q':α->Shared->Prop}{M:Model}{A:Around}{E:Value->Shared->Prop}{s:Shared}(h:wpAny M A t Q E s)(hQ:∀a s,Q a s->Q' a s):wpAny M A t Q' E s:=wpAny_mono h hQ λ_ _ x=>x
section
variable {X:Cx}
theorem bin {a b : Expr} {ta tb : TE} (ha : PE X a ta) (hb : PE X b tb) {aa : List (Addr × Obj)} {s : Shared} {σ : St} {H : Hp} {R : V -> V -> Hp -> Prop} (I : Inv X aa σ H s) (h : ta σ H fun x H1 => tb σ H1 fun y H2 => R x y H2)
    {α:Type} {Q:α->Shared->Prop} {f:Value->Value->Sem α}
    (hf:∀v u s2 x y H2,Inv X aa σ H2 s2->RelV x v->RelV y u->R x y H2->wpAny (model X.prog X.w) X.A (f v u) Q X.xe s2) :
    wpAny (model X.prog X.w) X.A (eval a X.env) (λv bQ=>wpAny (model X.prog X.w) X.A (eval b X.env) (λu yL=>wpAny (model X.prog X.w) X.A (f v u) Q X.xe yL) X.xe bQ) X.xe s:=by
  refine cv (ha aa s σ H _ I h) ?_;rintro v s1 ⟨x,H1,I1,r1,q1⟩;refine cv (hb aa s1 σ H1 _ I1 q1) ?_;rintro u s2 ⟨y,H2,I2,r2,q2⟩;exact hf v u s2 x y H2 I2 r1 r2 q2
noncomputable def SQ(i:Nat):TE:=λσ H Q=>∃v,σ[i]?=some (some v)/\Q v H
def tC(v:V):TE:=λ_ H Q=>Q v H
theorem HY{i:Nat}{x:Str}{pos:Pos}(hN:X.N[i]?=some x)(hv:SF X.env.scope x) (hd:(x==("__debug__" : Str))=false:=by decide) (GV:(x==("__classdict__" : Str))=false:=by decide):PE X (.Name x pos) (SQ i):=by
 intro aa s σ H Q I h;obtain⟨v,e,h⟩:=h;obtain⟨m,hn,hl⟩:=I.loc;obtain⟨u,r,l⟩:=hl i x v hN e hv;have fin:EP X aa σ Q u s:=⟨v,H,I,r,h⟩;rcases l with⟨hk,hm⟩|⟨hk,c,hc,wY⟩
 ·exact wpAny_Name (wpAny_loadName_local I.ok.kind hk hn hm fin) hd
 ·rcases hk with hk | hk
  ·exact wpAny_Name (wpAny_loadName_cell I.ok.kind hk hc wY fin) hd
  ·exact wpAny_Name (wpAny_loadName_free I.ok.kind hk hc wY fin GV) hd
theorem p0 {i j pos}:PE X (.Constant (.int i) j pos) (tC (.int i)):=λ_ _ _ H _ I h=>wpAny_Constant_int ⟨.int i,H,I.tok _,⟨_,rfl⟩,h⟩
theorem GW {b j pos}:PE X (.Constant (.bool b) j pos) (tC (.bl b)):=λ_ _ _ H _ I h=>Constant_bool ⟨.bl b,H,I,rfl,h⟩
theorem HZ {j pos}:PE X (.Constant .none j pos) (tC .aQ):=λ_ _ _ H _ I h=>Constant_none ⟨.aQ,H,I,rfl,h⟩
theorem Ac {x j pos}:PE X (.Constant (.str x) j pos) (tC (.str x)):=λ_ _ _ H _ I h=>Calls.Constant_str ⟨.str x,H,I.tok _,⟨_,rfl⟩,h⟩
noncomputable def Gl(X:Cx)(x:Str):Prop:=X.env.kindOf x=some .globalImplicit
theorem wZ {x : Str}  (I : Inv X aa σ H s) (hg : Gl X x) (hm : X.mg x = some u) (h : Q u s)
    (hd:(x==("__debug__" : Str))=false:=by decide):wpAny (model X.prog X.w) X.A (eval (.Name x pos) X.env) Q E s :=
  Calls.Name_function_global I.ok.kind hg (Calls.loadGlobal_global (by rw[I.ok.glob];exact I.mod.glob.keeps I.bk) hm h) hd
theorem jd {x : Str}  (I : Inv X aa σ H s) (hg : Gl X x) (hm : X.mg x = none) (hv : bootBuiltins x = some u) (h : Q u s)
    (hn:x≠ "__name__" := by decide) (hd:(x==("__debug__" : Str))=false:=by decide):wpAny (model X.prog X.w) X.A (eval (.Name x pos) X.env) Q E s:=by
  obtain⟨mb,h1,h2⟩:=I.mod.blt;exact Calls.Name_function_global I.ok.kind hg (Calls.loadGlobal_builtin (by rw[I.ok.glob];exact I.mod.glob.keeps I.bk) hm (by rw[I.ok.blt];exact h1.keeps I.bk) ((h2 x hn).trans hv) h) hd
theorem DQ{x:Str}{v:V}{u:Value}{pos:Pos}(hg:Gl X x)(hm:X.mg x=some u)(r:RelV v u) (hd:(x==("__debug__" : Str))=false:=by decide):PE X (.Name x pos) (tC v) :=
 λ_ _ _ H _ I h=>wZ I hg hm ⟨v,H,I,r,h⟩ hd
theorem DR{x:Str}{v:V}{u:Value}{pos:Pos}(hg:Gl X x)(hm:X.mg x=none)(hv:bootBuiltins x=some u)(r:RelV v u) (hn:x≠ "__name__" := by decide) (hd:(x==("__debug__" : Str))=false:=by decide):PE X (.Name x pos) (tC v) :=
 λ_ _ _ H _ I h=>jd I hg hm hv ⟨v,H,I,r,h⟩ hn hd
variable {a b:Expr} {ta tb:TE} {pos:Pos}
variable {tA QL:TT} {eV:List Expr}
noncomputable def SS(t u:TT):TT:=λσ H Q=>t σ H λc H1=>if c=true then u σ H1 Q else Q false H1
noncomputable def Yg(t u:TT):TT:=λσ H Q=>t σ H λc H1=>if c=true then Q true H1 else u σ H1 Q
def SU(t:TT):TT:=λσ H Q=>t σ H λc H1=>Q (!c) H1
theorem DS(ha:PT X a tA):PW X (.BoolOp .And [a] pos) tA:=by
 intro wh aa s σ H Q I h;refine isTrue_and (cv (ha aa s σ H Q I h) λc s1 e=>?_)
 cases c with
 | true=>exact isTrue_and_nil e
 | false=>exact e
theorem H_(ha:PT X a tA):PW X (.BoolOp .Or [a] pos) tA:=by
 intro wh aa s σ H Q I h;refine isTrue_or (cv (ha aa s σ H Q I h) λc s1 e=>?_)
 cases c with
 | false=>exact isTrue_or_nil e
 | true=>exact e
theorem Ia(ha:PT X a tA)(hb:PW X (.BoolOp .And (b::eV) pos) QL):PW X (.BoolOp .And (a::b::eV) pos) (SS tA QL):=by
 intro wh aa s σ H Q I h;refine isTrue_and (cv (ha aa s σ H _ I h) ?_);rintro c s1 ⟨H1,I1,q1⟩
 cases c with
 | true=>exact hb wh aa s1 σ H1 Q I1 q1
 | false=>exact⟨H1,I1,q1⟩
theorem MZ(ha:PT X a tA)(hb:PW X (.BoolOp .Or (b::eV) pos) QL):PW X (.BoolOp .Or (a::b::eV) pos) (Yg tA QL):=by
 intro wh aa s σ H Q I h;refine isTrue_or (cv (ha aa s σ H _ I h) ?_);rintro c s1 ⟨H1,I1,q1⟩
 cases c with
 | true=>exact⟨H1,I1,q1⟩
 | false=>exact hb wh aa s1 σ H1 Q I1 q1
theorem Ib(ha:PT X a tA):PT X (.UnaryOp .Not a pos) (SU tA):=by
 intro aa s σ H Q I h;exact isTrue_not (ha aa s σ H (λc H1=>Q (!c) H1) I h)
noncomputable def M_(ta tb:TE):TE:=λσ H Q=>ta σ H λx H1=>∃c,x=.bl c/\if c=true then tb σ H1 Q else Q (.bl false) H1
noncomputable def SV(ta tb:TE):TE:=λσ H Q=>ta σ H λx H1=>∃c,x=.bl c/\if c=true then Q (.bl true) H1 else tb σ H1 Q
noncomputable def Na(ta:TE):TE:=λσ H Q=>ta σ H λx H1=>∃c,x=.bl c/\Q (.bl (!c)) H1
theorem Ad {op}  (h:PE X a t):PE X (.BoolOp op [a] pos) t:=λaa s σ H Q I hw=>BoolOp_one (h aa s σ H Q I hw)
theorem Ic(ha:PE X a ta)(hb:PE X (.BoolOp .And (b::eV) pos) tb):PE X (.BoolOp .And (a::b::eV) pos) (M_ ta tb):=by
 intro aa s σ H Q I h;refine BoolOp_and (cv (ha aa s σ H _ I h) ?_);rintro v s1 ⟨x,H1,I1,r1,q1⟩;obtain⟨c,rfl,q1⟩:=q1;cases r1;refine wpAny_truthy_bool ?_
 cases c with
 | true=>exact hb aa s1 σ H1 Q I1 q1
 | false=>exact⟨.bl false,H1,I1,rfl,q1⟩
theorem Nb(ha:PE X a ta)(hb:PE X (.BoolOp .Or (b::eV) pos) tb):PE X (.BoolOp .Or (a::b::eV) pos) (SV ta tb):=by
 intro aa s σ H Q I h;refine BoolOp_or (cv (ha aa s σ H _ I h) ?_);rintro v s1 ⟨x,H1,I1,r1,q1⟩;obtain⟨c,rfl,q1⟩:=q1;cases r1;refine wpAny_truthy_bool ?_
 cases c with
 | false=>exact hb aa s1 σ H1 Q I1 q1
 | true=>exact⟨.bl true,H1,I1,rfl,q1⟩
theorem Ie(ha:PE X a ta):PE X (.UnaryOp .Not a pos) (Na ta):=by
 intro aa s σ H Q I h;refine UnaryOp_ (cv (ha aa s σ H _ I h) ?_);rintro v s1 ⟨x,H1,I1,r1,q1⟩;obtain⟨c,rfl,q1⟩:=q1;cases r1;exact not_of (wpAny_truthy_bool ⟨.bl (!c),H1,I1,rfl,q1⟩)
noncomputable def Yh(t:TT)(ta tb:TE):TE:=λσ H Q=>t σ H λc H1=>if c=true then ta σ H1 Q else tb σ H1 Q
theorem Ae(hc:PT X c tA)(ha:PE X a ta)(hb:PE X b tb):PE X (.IfExp c a b pos) (Yh tA ta tb):=by
 intro aa s σ H Q I h;refine wpAny_IfExp (cv (hc aa s σ H _ I h) ?_);rintro d s1 ⟨H1,I1,q1⟩
 cases d with
 | true=>exact ha aa s1 σ H1 Q I1 q1
 | false=>exact hb aa s1 σ H1 Q I1 q1
end
def eG(K:PySem.W.Frag)(H:Hp)(a:Addr)(xs:List V):Prop :=
 Rd H a (.lst xs) \/
  ∃(o:Obj) (aC:Array Value) (n:Nat),K.lookup a=some o/\o.cls=.type "list" /\ o.dict=none/\o.data=.seq aC n/\aC.size<=sizeLine/\aN xs aC.toList
def fz(K:PySem.W.Frag)(H:Hp)(a:Addr)(xs:List V):Prop :=
 Rd H a (.tup xs) \/
  ∃(o:Obj) (aC:Array Value) (n:Nat),K.lookup a=some o/\o.cls=.type "tuple" /\ o.data=.seq aC n/\aC.size<=sizeLine/\aN xs aC.toList
noncomputable def SW:Value->Option V
 | .none=>some .aQ
 | .bool b=>some (.bl b)
 | .int i _=>some (.int i)
 | .str x _=>some (.str x)
 | .bytes b _=>some (.MM b)
 | .float b _=>some (.L4 b)
 | .ref a=>some (.ref a)
 | .type n=>some (.ty n)
 | _=>none
theorem RelV.abs(r:RelV x u):SW u=some x:=by
 cases x with
 | aQ=>cases r;rfl
 | bl _=>cases r;rfl
 | int _=>obtain⟨t,rfl⟩:=r;rfl
 | str _=>obtain⟨t,rfl⟩:=r;rfl
 | MM _=>obtain⟨t,rfl⟩:=r;rfl
 | L4 _=>obtain⟨t,rfl⟩:=r;rfl
 | ref _=>cases r;rfl
 | ty _=>cases r;rfl
theorem RelV.inj(r:RelV x u)(q:RelV y u):x=y:=eU (r.abs.symm.trans q.abs)
theorem aN.inj:∀{xs ys:List V}{us:List Value},aN xs us->aN ys us->xs=ys
 | _,_,_,.nil,.nil=>rfl
 | _,_,_,.cons r t,.cons r' t'=>by rw[r.inj r',aN.inj t t']
section
variable {X:Cx} {aa:List (Addr×Obj)} {σ:St} {H:Hp} {s:Shared} {a:Addr} {xs ys:List V}
theorem eG.of{K:PySem.W.Frag}(h:H a=some (.lst xs)):eG K H a xs:=.inl (.inl h)
theorem fz.of{K:PySem.W.Frag}(h:H a=some (.tup xs)):fz K H a xs:=.inl (.inl h)
theorem Inv.list(I:Inv X aa σ H s)(h:eG X.K H a xs):∃aC:List Value,aN xs aC/\PlainL s.heap a aC.toArray/\xs.length<=sizeLine:=by
 rcases h with h | ⟨o,aC,n,hk,hc,hd,hs,hz,r⟩
 ·obtain⟨z,aC,n,r,e⟩:=h.ok I.bF;exact⟨aC,r,⟨_,n,e,rfl,rfl,rfl⟩,z⟩
 ·refine⟨aC.toList,r,⟨o,n,I.sC a o hk,hc,hd,by simpa using hs⟩,?_⟩;have e:=r.length;simp only[Array.length_toList]at e;omega
theorem Inv.tuple(I:Inv X aa σ H s)(h:fz X.K H a xs):∃aC:List Value,aN xs aC/\IsTup s.heap a aC.toArray/\xs.length<=sizeLine:=by
 rcases h with h | ⟨o,aC,n,hk,hc,hs,hz,r⟩
 ·obtain⟨z,aC,r,p⟩:=h.ok I.bF;exact⟨aC,r,p,z⟩
 ·refine⟨aC.toList,r,⟨o,I.sC a o hk,hc,n,by simpa using hs⟩,?_⟩;have e:=r.length;simp only[Array.length_toList]at e;omega
theorem Inv.mG(I:Inv X aa σ H s)(h:eG X.K H a xs)(h':eG X.K H a ys):xs=ys:=by
 obtain⟨aC,r,⟨o,n,e,_,_,d⟩,_⟩:=I.list h;obtain⟨its',r',⟨o',n',e',_,_,d'⟩,_⟩:=I.list h';rw[e]at e';cases e';rw[d]at d';injection d' with d1 _;have:aC=its':=by simpa using congrArg Array.toList d1
 subst this;exact r.inj r'
theorem Inv.kz(I:Inv X aa σ H s)(h:fz X.K H a xs)(h':fz X.K H a ys):xs=ys:=by
 obtain⟨aC,r,⟨o,e,_,n,d⟩,_⟩:=I.tuple h;obtain⟨its',r',⟨o',e',_,n',d'⟩,_⟩:=I.tuple h';rw[e]at e';cases e';rw[d]at d';injection d' with d1 _;have:aC=its':=by simpa using congrArg Array.toList d1
 subst this;exact r.inj r'
end
abbrev Cx.oK(X:Cx)(E:Value->Shared->Prop):Cx:={ X with xe:=E }
abbrev Cx.Nc(X:Cx):Cx:=X.oK λ_ _=>False
theorem Cx.Ok.oK{X:Cx}(ok:X.Ok)(E:Value->Shared->Prop):(X.oK E).Ok :=
 ⟨ok.mod,ok.kind,ok.glob,ok.blt,ok.above,ok.inj,ok.has,ok.HW,ok.hd,ok.frames,ok.QJ,ok.SG,ok.bs,ok.GU,ok.z_,ok.Aa,ok.mE,ok.L6⟩
theorem Cx.Ok.g9{X:Cx}{E:Value->Shared->Prop}(ok:(X.oK E).Ok):X.Ok :=
 ⟨ok.mod,ok.kind,ok.glob,ok.blt,ok.above,ok.inj,ok.has,ok.HW,ok.hd,ok.frames,ok.QJ,ok.SG,ok.bs,ok.GU,ok.z_,ok.Aa,ok.mE,ok.L6⟩
section
variable {X:Cx} {aa:List (Addr×Obj)} {σ:St} {H:Hp} {s:Shared} {E:Value->Shared->Prop}
theorem Inv.oK(I:Inv X aa σ H s)(E:Value->Shared->Prop):Inv (X.oK E) aa σ H s:=⟨I.ok.oK E,I.os,I.bare,I.base,I.loc,I.cell,I.free,I.iO,I.pin,I.bF,I.len⟩
theorem Inv.g9(I:Inv (X.oK E) aa σ H s):Inv X aa σ H s:=⟨I.ok.g9,I.os,I.bare,I.base,I.loc,I.cell,I.free,I.iO,I.pin,I.bF,I.len⟩
theorem SP.g9(h:SP (X.oK E) aa D f s'):SP X aa D f s':=by
 cases f with
 | next=>obtain⟨cI,H',I,q⟩:=h;exact⟨cI,H',I.g9,q⟩
 | brk=>obtain⟨cI,H',I,q⟩:=h;exact⟨cI,H',I.g9,q⟩
 | cont=>obtain⟨cI,H',I,q⟩:=h;exact⟨cI,H',I.g9,q⟩
 | ret u=>obtain⟨v,cI,H',I,r,q⟩:=h;exact⟨v,cI,H',I.g9,r,q⟩
theorem pZ.Nc{st:List Stmt}(h:pZ X.Nc st t):pZ X st t:=λaa s σ H D I hw =>
 wpAny_mono (h aa s σ H D (I.oK _) hw) (λ_ _ q=>q.g9) λ_ _ z=>False.elim z
end
section
variable {X:Cx} {st:Stmt} {eV:List Stmt} {t u:TS} {e:Expr} {te:TE} {pos:Pos}
def GX:TS:=λD σ H=>D.nx σ H
def Nd(t u:TS):TS:=λD σ H=>t { D with nx:=u D } σ H
theorem DT:pZ X [] GX:=λ_ _ σ H _ I h=>wpAny_execs_nil ⟨σ,H,I,h⟩
theorem Af(h1:PS X st t)(h2:pZ X eV u):pZ X (st::eV) (Nd t u):=by
 intro aa s σ H D I h;refine wpAny_execs_cons (cv (h1 aa s σ H { D with nx:=u D } I h) λf s1 q=>?_)
 cases f with
 | next =>
  obtain⟨cI,H',I',q⟩:=q;exact h2 aa s1 cI H' D I' q
 | ret v=>exact q
 | brk=>exact q
 | cont=>exact q
def Ig:TS:=λD σ H=>D.bk σ H
def Nf:TS:=λD σ H=>D.ct σ H
theorem DU:PS X (.Pass pos) GX:=λ_ _ σ H _ I h=>wpAny_Pass ⟨σ,H,I,h⟩
theorem Ag:PS X (.Break pos) Ig:=λ_ _ σ H _ I h=>wpAny_Break ⟨σ,H,I,h⟩
theorem sF:PS X (.Continue pos) Nf:=λ_ _ σ H _ I h=>wpAny_Continue ⟨σ,H,I,h⟩
theorem Inv.quiet(I:Inv X aa σ H s):interactive X.env=false:=by simp[interactive,I.ok.kind]
def Ng(te:TE):TS:=λD σ H=>te σ H λ_ H1=>D.nx σ H1
theorem DV(he:PE X e te)(hs:swapsWith e none pos.line X.env=pure false:=by rfl):PS X (.Expr e pos) (Ng te):=by
 intro aa s σ H D I h;exact wpAny_Expr_any (cv (he aa s σ H _ I h) λv s1 ⟨x,H1,I1,r1,q1⟩=>⟨σ,H1,I1,q1⟩) I.quiet hs
def SX(te:TE):TS:=λD σ H=>te σ H D.rt
theorem Ih(he:PE X e te):PS X (.Return (some e) pos) (SX te):=by
 intro aa s σ H D I h;exact wpAny_Return_some (cv (he aa s σ H _ I h) λv s1 ⟨x,H1,I1,r1,q1⟩=>⟨x,σ,H1,I1,r1,q1⟩)
def Nh:TS:=λD _ H=>D.rt .aQ H
theorem DW:PS X (.Return none pos) Nh:=λ_ _ σ H _ I h=>wpAny_Return_none ⟨.aQ,σ,H,I,rfl,h⟩
noncomputable def SY(c:TT)(t u:TS):TS:=λD σ H=>c σ H λb H1=>if b=true then t D σ H1 else u D σ H1
theorem Ni(hc:PT X c tc)(ha:pZ X a t)(hb:pZ X b u):PS X (.If c a b pos) (SY tc t u):=by
 intro aa s σ H D I h;refine wpAny_If (cv (hc aa s σ H _ I h) ?_);rintro d s1 ⟨H1,I1,q1⟩
 cases d with
 | true=>exact ha aa s1 σ H1 D I1 q1
 | false=>exact hb aa s1 σ H1 D I1 q1
def Ii:TS:=λ_ _ _=>False
theorem Ah:PS X st Ii:=λ_ _ _ _ _ _ h=>h.elim
end
abbrev TG:=V->St->Hp->(St->Hp->Prop)->Prop
abbrev L7:=List V->St->Hp->(St->Hp->Prop)->Prop
def PG(X:Cx)(mH:Expr)(t:TG):Prop :=
 ∀(aa:List (Addr×Obj))(s:Shared)(σ:St)(H:Hp)(v:V)(u:Value)(Q:St->Hp->Prop),Inv X aa σ H s->RelV v u->t v σ H Q ->
  wpAny (model X.prog X.w) X.A (assign mH X.env u) (λ_ s'=>∃cI H',Inv X aa cI H' s'/\Q cI H') X.xe s
noncomputable def L8(X:Cx)(ts:List Expr)(t:L7):Prop :=
 ∀(aa:List (Addr×Obj))(s:Shared)(σ:St)(H:Hp)(vs:List V)(us:List Value)(Q:St->Hp->Prop),Inv X aa σ H s->aN vs us->t vs σ H Q ->
  wpAny (model X.prog X.w) X.A (assignInOrder ((assignEach ts X.env).map (·.2)) us) (λ_ s'=>∃cI H',Inv X aa cI H' s'/\Q cI H') X.xe s
abbrev Ij:=V->V->V->Hp->(Hp->Prop)->Prop
def DX(X:Cx)(t:Ij):Prop :=
 ∀(aa:List (Addr×Obj))(s:Shared)(σ:St)(H:Hp)(o i v:V)(ov iv u:Value)(Q:Hp->Prop),Inv X aa σ H s->RelV o ov->RelV i iv->RelV v u->t o i v H Q ->
  wpAny (model X.prog X.w) X.A (setItem ov iv u) (λ_ s'=>∃H',Inv X aa σ H' s'/\Q H') X.xe s
section
variable {X:Cx} {pos:Pos}
def GY(i:Nat):TG:=λv σ H Q=>Q (σ.set i (some v)) H
theorem p4{x:Str}(hN:X.N.Nodup)(hi:X.N[i]?=some x)(hx:Loc X.env.scope x)(hf:X.fn x=true\/X.env.scope.names.lookup x=some .local:=by first | exact .inl rfl | exact .inr rfl | assumption):PG X (.Name x pos) (GY i):=by
 intro aa s σ H v u Q I r h;exact wpAny_assign_Name (Ab I hN hi hx r (λs' I'=>⟨_,H,I',h⟩) hf)
def Nj:L7:=λvs σ H Q=>vs=[]/\Q σ H
noncomputable def GZ(t:TG)(u:L7):L7:=λvs σ H Q=>∃v r,vs=v::r/\t v σ H λcI H'=>u r cI H' Q
theorem DY:L8 X [] Nj:=by
 intro aa s σ H vs us Q I r h;obtain⟨e,h⟩:=h;subst e;cases r;exact assignInOrder_nil ⟨σ,H,I,h⟩
theorem Ai (h1 : PG X e t) (h2 : L8 X es u)
    (hs:(assignEach (e::es) X.env).map (·.2)=assign e X.env::(assignEach es X.env).map (·.2):=by rfl):L8 X (e::es) (GZ t u):=by
  intro aa s σ H vs us Q I r h;obtain⟨v,vr,e1,h⟩:=h;subst e1
  cases r with
  | cons r rr =>
    rw[hs];refine assignInOrder_cons (cv (h1 aa s σ H _ _ _ I r h) ?_);rintro _ s1 ⟨Ik,H1,I1,q1⟩;exact h2 aa s1 Ik H1 _ _ Q I1 rr q1
def S0(K:PySem.W.Frag)(n:Nat)(t:L7):TG:=λv σ H Q=>∃a xs,v=.ref a/\fz K H a xs/\xs.length=n/\t xs σ H Q
theorem Il (hc : X.calm = true) (h : L8 X es t)
    (hn:(assignEach es X.env).length=n:=by rfl) (eJ:(assignEach es X.env).findIdx? (·.1)=none:=by rfl):PG X (.Tuple es k pos) (S0 X.K n t):=by
  intro aa s σ H v u Q I r hw;obtain⟨a,xs,e1,hq,hl,hw⟩:=hw;subst e1;cases r;obtain⟨aC,rv,ht,hz⟩:=I.tuple hq;refine assign_Tuple_tuple (I.ok.hd hc) ht (by simp[hn,<- hl,rv.length]) eJ λh' hx=>?_;have I1:Inv X aa σ H { s with heap:=h' }:=I.kept (t':=s.toks) λb o e=>hx b o (Nat.ne_of_lt (Heap.lt_size e)) e;exact h aa _ σ H xs _ Q I1 (by simpa using rv) hw
noncomputable def S1(to ti:TE)(t:Ij):TG:=λv σ H Q=>to σ H λo H1=>ti σ H1 λi H2=>t o i v H2 λH3=>Q σ H3
theorem Aj (ho : PE X o to) (hi : PE X i ti) (hs : DX X t)
    (ha:∀v,assign (.Subscript o i pos) X.env v=(do
      let ov <- holding [v] (eval o X.env)
      let iv <- holding [v,ov] (eval i X.env)
      standAt pos
      holding [v,ov,iv] (setItem ov iv v)
      release [v,ov,iv] []):=by intro _;rfl):PG X (.Subscript o i pos) (S1 to ti t):=by
  intro aa s σ H v u Q I r h;rw[ha];refine wpAny_bind (wpAny_holding (cv (ho aa s σ H _ I h) ?_));rintro ov s1 ⟨x,H1,I1,r1,q1⟩;refine wpAny_bind (wpAny_holding (cv (hi aa s1 σ H1 _ I1 q1) ?_));rintro iv s2 ⟨y,H2,I2,r2,q2⟩;refine wpAny_bind (wpAny_standAt (wpAny_bind (wpAny_holding (cv (hs aa s2 σ H2 x y v ov iv u _ I2 r1 r2 r q2) ?_))));rintro _ s3 ⟨H3,I3,q3⟩;exact wpAny_release ⟨σ,H3,I3,q3⟩
noncomputable def Nk(te:TE)(g:TG):TS:=λD σ H=>te σ H λx H1=>g x σ H1 D.nx
theorem p5 (he : PE X e te) (hg : PG X tg g) (hs : swapsWithSole [tg] e pos.line X.env = pure false := by rfl) (hw : swappedStores [tg] e X.env = pure none := by rfl)
    (h1:(assignEach [tg] X.env).map (·.2)=[assign tg X.env]:=by rfl):PS X (.Assign [tg] e pos) (Nk te g):=by
  intro aa s σ H D I h;refine wpAny_Assign_stores (cv (he aa s σ H _ I h) ?_) hs hw;rintro v s1 ⟨x,H1,I1,r1,q1⟩;rw[h1];exact cv (hg aa s1 σ H1 x v _ I1 r1 q1) λ_ s2 q=>q
end
section
variable {X:Cx} {pos:Pos}
noncomputable def Im(c:TT)(tb:TS):TS:=λD σ H=>∃W:Nat->St->Hp->Prop,(∃m,W m σ H)/\∀m σ H,W m σ H ->
 c σ H λb H1=>if b=true then ∃N:St->Hp->Prop,(∀cI H',N cI H'->∃m',m'<m/\W m' cI H')/\tb { D with nx:=N,ct:=N,bk:=D.nx } σ H1 else D.nx σ H1
theorem Ak(hp:PassesOwn (model X.prog X.w) X.A X.env X.xe)(hc:PT X c tc)(hb:pZ X body tb):PS X (.While c body [] pos) (Im tc tb):=by
 intro aa s σ H D I h;obtain⟨W,⟨m0,w0⟩,u3⟩:=h;refine wpAny_While (codeAny_whileLoop (λn s'=>∃cI H',Inv X aa cI H' s'/\W n cI H') ?_ m0 ⟨σ,H,I,w0⟩);rintro n s1 ⟨Ik,H1,I1,w1⟩;refine wpAny_passesOwn hp (cv (hc aa s1 Ik H1 _ I1 (u3 n Ik H1 w1)) ?_);rintro b s2 ⟨H2,I2,q2⟩
 cases b with
 | true =>
  obtain⟨N,hN,q2⟩:=q2;rw[if_pos rfl];refine wpAny_passesOwn hp (cv (hb aa s2 Ik H2 _ I2 q2) λf s3 q3=>?_)
  cases f with
  | next =>
   obtain⟨u4,H3,I3,n3⟩:=q3;obtain⟨m',hm,w3⟩:=hN u4 H3 n3;exact⟨m',hm,u4,H3,I3,w3⟩
  | cont =>
   obtain⟨u4,H3,I3,n3⟩:=q3;obtain⟨m',hm,w3⟩:=hN u4 H3 n3;exact⟨m',hm,u4,H3,I3,w3⟩
  | brk=>exact q3
  | ret v=>exact q3
 | false =>
  rw[if_neg cH];exact wpAny_execs_nil ⟨Ik,H2,I2,q2⟩
end
structure It where
 go:Nat->Hp->Prop
 L9:Nat->Hp->V->Hp->Prop
 stop:Nat->Hp->Prop
noncomputable def kA(X:Cx)(aa:List (Addr×Obj))(H:Hp)(b:Addr):Prop :=
 H b=none/\b≠X.env.locals/\b∉X.fs/\(b∈X.ex\/X.eW.heap.objs.size<=b)/\(∀x c,X.env.cells.lookup x=some c->c≠b)/\∀p∈X.pn++aa,p.1≠b
theorem Inv.u5(I:Inv X aa σ H s)(hb:s.heap.objs.size<=b)(hn:H' b=none):kA X aa H' b:=by
 refine⟨hn,Nat.ne_of_gt (Nat.lt_of_lt_of_le I.lt hb),I.MS hb,.inr (Nat.le_trans I.sz hb),λx c e z=>?_,λp hp z=>?_⟩
 ·obtain⟨v,q⟩:=I.cell x c e;exact absurd (Nat.lt_of_lt_of_le q.lt (by rw[z];exact hb)) (Nat.lt_irrefl _)
 ·exact absurd (Nat.lt_of_lt_of_le (Heap.lt_size (I.pin p hp).1) (by rw[z];exact hb)) (Nat.lt_irrefl _)
structure sG (P:Program) (w:World) (K:PySem.W.Frag) (tg:Expr) (J:It) (fp:List Addr) (it:Addr) (tn:Nat->Heap->Prop):Prop where
 mem:it∈fp
 obj:∀i h,tn i h->∀b∈fp,∃o,h.get? b=some o/\∀v,o.data≠.cell v
 keep:∀i h h',tn i h->(∀b∈fp,∀o,h.get? b=some o->h'.get? b=some o)->tn i h'
 item:∀(X:Cx),X.prog=P->X.w=w->X.K=K->X.calm=true->∀(i:Nat)(aa:List (Addr×Obj))(s:Shared)(σ:St)(H:Hp)(E:Value->Shared->Prop),Inv X aa σ H s->(∀b∈fp,kA X aa H b)->tn i s.heap->J.go i H ->
  wpAny (model P w) X.A (pyNext (.ref it)) (λr s1=>∃u,r=some u /\
   wpAny (model P w) X.A (letOwnedTupleGo tg (.ref it) u) (λ_ s2=>∃x H',Inv X aa σ H' s2/\RelV x u/\J.L9 i H x H'/\tn (i+1) s2.heap/\∀b∈fp,H' b=none) E s1) E s
 done:∀(X:Cx),X.prog=P->X.w=w->X.K=K->X.calm=true->∀(i:Nat)(aa:List (Addr×Obj))(s:Shared)(σ:St)(H:Hp)(E:Value->Shared->Prop),Inv X aa σ H s->(∀b∈fp,kA X aa H b)->tn i s.heap->J.stop i H ->
  wpAny (model P w) X.A (pyNext (.ref it)) (λr s1=>r=none/\Inv X aa σ H s1) E s
 self:∀(A:Around)(i:Nat)(s:Shared)(Q:Value->Shared->Prop)(E:Value->Shared->Prop),tn i s.heap->Q (.ref it) s->wpAny (model P w) A (pyIter (.ref it)) Q E s
abbrev TI:=St->Hp->(It->Hp->Prop)->Prop
def QM(X:Cx)(aa:List (Addr×Obj))(σ:St)(tg:Expr)(R:It->Hp->Prop)(QN:Value)(s2:Shared):Prop :=
 ∃(it:Addr) (fp:List Addr) (tn:Nat->Heap->Prop) (J:It) (H':Hp),QN=.ref it/\Inv X aa σ H' s2/\sG X.prog X.w X.K tg J fp it tn/\tn 0 s2.heap/\(∀b∈fp,kA X aa H' b)/\R J H'
def PI(X:Cx)(tg aK:Expr)(wi:TI):Prop :=
 ∀(aa:List (Addr×Obj))(s:Shared)(σ:St)(H:Hp)(R:It->Hp->Prop),Inv X aa σ H s->wi σ H R ->
  wpAny (model X.prog X.w) X.A (eval aK X.env) (λv s1=>wpAny (model X.prog X.w) X.A (pyIter v) (QM X aa σ tg R) X.xe s1) X.xe s
theorem w4 (ho : s.heap.get? it = some o) (hc : o.cls = .type n) (hd : o.data = .fields vs)
    (hn:["enumerate","zip","dict_itemiterator","dict_reverseitemiterator","odict_iterator","itertools.zip_longest","itertools.pairwise"].contains n=false) (hQ:Q () s):wpAny M A (letOwnedTupleGo tg (.ref it) u) Q E s:=by
  unfold letOwnedTupleGo
  cases tg<;>first
    | exact wpAny_pure hQ
    | (cases u <;> first
        | exact wpAny_pure hQ
        | (refine wpAny_bind (wpAny_load ho ?_)
           rw[hc,hd];show wpAny M A (if (["enumerate","zip","dict_itemiterator","dict_reverseitemiterator","odict_iterator","itertools.zip_longest","itertools.pairwise"].contains n&&vs[0]? == some (rawInt _))=true then _ else _) Q E s;rw[if_neg (by intro h;rw[hn,Bool.false_and]at h;cases h)];exact wpAny_pure hQ))
def S2(K:PySem.W.Frag)(a:Addr):It :=
 ⟨λi H=>∃xs x,eG K H a xs/\xs[i]?=some x,λi H x H'=>H'=H/\∀xs,eG K H a xs->xs[i]?=some x,λi H=>∃xs,eG K H a xs/\xs.length<=i⟩
def S3(K:PySem.W.Frag)(a:Addr):It :=
 ⟨λi H=>∃xs x,fz K H a xs/\xs[i]?=some x,λi H x H'=>H'=H/\∀xs,fz K H a xs->xs[i]?=some x,λi H=>∃xs,fz K H a xs/\xs.length<=i⟩
noncomputable def Nl(lo:Int)(n:Nat):It:=⟨λi _=>i<n,λi H x H'=>H'=H/\x=.int (lo+i),λi _=>n<=i⟩
theorem yM{P:Program}{w:World}{K:PySem.W.Frag}{tg:Expr}(a it:Addr):sG P w K tg (S2 K a) [it] it (λi h=>h.IsListIter it a i) where
 mem:=by simp
 obj:=λi h st b hb=>by
  have e:b=it:=by simpa using hb
  subst e;obtain⟨o,e,c,d⟩:=st;exact⟨o,e,λv z=>by rw[d]at z;cases z⟩
 keep:=λi h h' st k=>st.at λo e=>k it (by simp) o e
 item:=by
  intro X hP hw hK hc i aa s σ H E I hf st hg;subst hP hw hK;obtain⟨xs,x,hq,hx⟩:=hg;obtain⟨aC,rv,p,hz⟩:=I.list hq;obtain⟨u,hu,ru⟩:=rv.get hx;obtain⟨f0,f1,f2,f3,f4,f5⟩:=hf it (by simp);refine wpAny_pyNext_list_item st p.isList (x:=u) (by simpa using hu) λh' Al sb=>?_;have I1:Inv X aa σ H { s with heap:=h' }:=I.turned (t':=s.toks) (λb o hb e=>(sb.2 b hb).trans e) f0 f1 f3 f4 f5;obtain⟨o,e,c,d⟩:=id Al;exact⟨u,rfl,w4 (s:={ s with heap:=h' }) e c d (by decide) ⟨x,H,I1,ru,⟨rfl,λys hy=>by rw[I.mG hy hq];exact hx⟩,Al,λb hb=>(hf b hb).1⟩⟩
 done:=by
  intro X hP hw hK hc i aa s σ H E I hf st hg;subst hP hw hK;obtain⟨xs,hq,hx⟩:=hg;obtain⟨aC,rv,p,hz⟩:=I.list hq;obtain⟨f0,f1,f2,f3,f4,f5⟩:=hf it (by simp);have hl:=rv.length;exact wpAny_pyNext_list_end (I.ok.hd hc) st p.isList (by simp;omega) λh' eb=>⟨rfl,I.turned (t':=s.toks) (λb o hb e=>eb b o hb e) f0 f1 f3 f4 f5⟩
 self:=λ_ _ _ _ _ st h=>wpAny_pyIter_listiter st h
theorem u6{P:Program}{w:World}{K:PySem.W.Frag}{tg:Expr}(a it:Addr):sG P w K tg (S3 K a) [it] it (λi h=>h.IsTupleIter it a i) where
 mem:=by simp
 obj:=λi h st b hb=>by
  have e:b=it:=by simpa using hb
  subst e;obtain⟨o,e,c,d⟩:=st;exact⟨o,e,λv z=>by rw[d]at z;cases z⟩
 keep:=λi h h' st k=>st.at λo e=>k it (by simp) o e
 item:=by
  intro X hP hw hK hc i aa s σ H E I hf st hg;subst hP hw hK;obtain⟨xs,x,hq,hx⟩:=hg;obtain⟨aC,rv,p,hz⟩:=I.tuple hq;obtain⟨u,hu,ru⟩:=rv.get hx;obtain⟨f0,f1,f2,f3,f4,f5⟩:=hf it (by simp);refine wpAny_pyNext_tuple_item st (show s.heap.IsTuple a aC.toArray from p) (x:=u) (by simpa using hu) λh' Al sb=>?_;have I1:Inv X aa σ H { s with heap:=h' }:=I.turned (t':=s.toks) (λb o hb e=>(sb.2 b hb).trans e) f0 f1 f3 f4 f5;obtain⟨o,e,c,d⟩:=id Al;exact⟨u,rfl,w4 (s:={ s with heap:=h' }) e c d (by decide) ⟨x,H,I1,ru,⟨rfl,λys hy=>by rw[I.kz hy hq];exact hx⟩,Al,λb hb=>(hf b hb).1⟩⟩
 done:=by
  intro X hP hw hK hc i aa s σ H E I hf st hg;subst hP hw hK;obtain⟨xs,hq,hx⟩:=hg;obtain⟨aC,rv,p,hz⟩:=I.tuple hq;obtain⟨f0,f1,f2,f3,f4,f5⟩:=hf it (by simp);have hl:=rv.length;exact wpAny_pyNext_tuple_end (I.ok.hd hc) st (show s.heap.IsTuple a aC.toArray from p) (by simp;omega) λh' eb=>⟨rfl,I.turned (t':=s.toks) (λb o hb e=>eb b o hb e) f0 f1 f3 f4 f5⟩
 self:=λ_ _ _ _ _ st h=>wpAny_pyIter_tupleiter st h
theorem u7{P:Program}{w:World}{K:PySem.W.Frag}{tg:Expr}(it:Addr)(lo:Int)(n:Nat):sG P w K tg (Nl lo n) [it] it (λi h=>IsRangeIter h it (lo+(i:Nat)*1) ((n:Int)-(i:Nat)) 1) where
 mem:=by simp
 obj:=λi h st b hb=>by
  have e:b=it:=by simpa using hb
  subst e
  exact⟨_,st,λv z=>by
   have z':Data.fields _=Data.cell v:=z;cases z'⟩
 keep:=λi h h' st k=>k it (by simp) _ st
 item:=by
  intro X hP hw hK hc i aa s σ H E I hf st hg;subst hP hw hK;obtain⟨f0,f1,f2,f3,f4,f5⟩:=hf it (by simp);have W:=Walks.range (prog:=X.prog) (w:=X.w) (I.ok.hd hc) it lo 1 n;refine W.item i s _ _ hg st λv h' tk hv Al kk=>?_;obtain⟨t,rfl⟩:=hv;have I1:Inv X aa σ H { s with heap:=h',toks:=tk }:=I.turned (λb o hb e=>kk b o (by simpa using hb) e) f0 f1 f3 f4 f5;refine⟨_,rfl,w4 (s:={ s with heap:=h',toks:=tk }) (n := "range_iterator") Al rfl rfl (by decide) ⟨.int (lo+i),H,I1,⟨t,?_⟩,⟨rfl,rfl⟩,Al,λb hb=>(hf b hb).1⟩⟩;rw[Int.mul_one]
 done:=by
  intro X hP hw hK hc i aa s σ H E I hf st hg;subst hP hw hK;obtain⟨f0,f1,f2,f3,f4,f5⟩:=hf it (by simp);exact wpAny_pyNext_range_end (I.ok.hd hc) st (by have:n<=i:=hg;omega) λh' eb=>⟨rfl,I.turned (t':=s.toks) (λb o hb e=>eb b o hb e) f0 f1 f3 f4 f5⟩
 self:=λ_ _ _ _ _ st h=>wpAny_pyIter_rangeiter st h
section
variable {X:Cx} {tg:Expr}
def Nm(K:PySem.W.Frag)(tl:TE):TI:=λσ H R=>tl σ H λx H1=>∃a,x=.ref a/\(∃xs,eG K H1 a xs)/\R (S2 K a) H1
def S4(K:PySem.W.Frag)(tl:TE):TI:=λσ H R=>tl σ H λx H1=>∃a,x=.ref a/\(∃xs,fz K H1 a xs)/\R (S3 K a) H1
theorem p9{l:Expr}{tl:TE}(hl:PE X l tl):PI X tg l (Nm X.K tl):=by
 intro aa s σ H R I h;refine cv (hl aa s σ H _ I h) ?_;rintro v s1 ⟨x,H1,I1,r1,q1⟩;obtain⟨a,e,⟨xs,hq⟩,q⟩:=q1;subst e;cases r1;obtain⟨aC,rv,p,hz⟩:=I1.list hq;refine wpAny_pyIter_list p.isList ?_;refine⟨s1.heap.objs.size,[s1.heap.objs.size],_,_,H1,rfl,I1.kept (t':=s1.toks) λb o e=>ee _ e,yM a _,⟨_,jE _ rfl,rfl,rfl⟩,λb hb=>?_,q⟩;have e:b=s1.heap.objs.size:=by simpa using hb
 subst e;exact I1.u5 (bJ _) (I1.bF.fresh (bJ _))
theorem Io{l:Expr}{tl:TE}(hl:PE X l tl):PI X tg l (S4 X.K tl):=by
 intro aa s σ H R I h;refine cv (hl aa s σ H _ I h) ?_;rintro v s1 ⟨x,H1,I1,r1,q1⟩;obtain⟨a,e,⟨xs,hq⟩,q⟩:=q1;subst e;cases r1;obtain⟨aC,rv,p,hz⟩:=I1.tuple hq;refine wpAny_pyIter_tuple (show s1.heap.IsTuple a aC.toArray from p) ?_;refine⟨s1.heap.objs.size,[s1.heap.objs.size],_,_,H1,rfl,I1.kept (t':=s1.toks) λb o e=>ee _ e,u6 a _,⟨_,jE _ rfl,rfl,rfl⟩,λb hb=>?_,q⟩;have e:b=s1.heap.objs.size:=by simpa using hb
 subst e;exact I1.u5 (bJ _) (I1.bF.fresh (bJ _))
theorem sH {lo hi : Int}  {tk : Nat} (I : Inv X aa σ H s) (h1 : -(2 ^ 62) <= lo) (h2 : lo < 2 ^ 62) (h3 : -(2 ^ 62) <= hi) (h4 : hi < 2 ^ 62)
    (q:R (Nl lo (hi-lo).toNat) H):wpAny (model X.prog X.w) X.A (pyIter (.ref s.heap.objs.size)) (QM X aa σ tg R) E { s with heap:=s.heap.push { cls:=.type "range",data:=.fields #[.int lo t,.int hi u,.int 1 v] },toks:=tk }:=by
  refine wpAny_pyIter_range (IsRange.new ..) (small_one h1 h2 h3 h4) ?_;have I1:Inv X aa σ H { s with heap:=s.heap.push { cls:=.type "range",data:=.fields #[.int lo t,.int hi u,.int 1 v] },toks:=tk }:=I.kept λb o e=>ee _ e
  refine⟨(s.heap.push { cls:=.type "range",data:=.fields #[.int lo t,.int hi u,.int 1 v] }).objs.size,[(s.heap.push { cls:=.type "range",data:=.fields #[.int lo t,.int hi u,.int 1 v] }).objs.size],_,_,H,rfl,
    I1.kept (t':=tk) λb o e=>ee _ e,u7 _ lo (hi-lo).toNat,?_,λb hb=>?_,q⟩
  · have e1:lo+((0:Nat):Int)*1=lo:=by simp
    have e2:(((hi-lo).toNat:Nat):Int)-((0:Nat):Int)=Builtin.Range.rangeSize lo hi 1:=by rw[rangeSize_one];split<;>omega
    show IsRangeIter _ _ (lo+((0:Nat):Int)*1) ((((hi-lo).toNat:Nat):Int)-((0:Nat):Int)) 1;rw[e1,e2];exact jE _ rfl
  · have e:b=(s.heap.push { cls:=.type "range",data:=.fields #[.int lo t,.int hi u,.int 1 v] }).objs.size:=by simpa using hb
    subst e;exact I1.u5 (bJ _) (I1.bF.fresh (bJ _))
def Nn(ta:TA):TI:=λσ H R=>ta σ H λvs H1=>∃j:Int,vs=[.int j]/\-(2 ^ 62)<=j/\j<2 ^ 62/\R (Nl 0 j.toNat) H1
def Np(ta:TA):TI:=λσ H R=>ta σ H λvs H1=>∃i j:Int,vs=[.int i,.int j]/\(-(2 ^ 62)<=i/\i<2 ^ 62/\-(2 ^ 62)<=j/\j<2 ^ 62)/\R (Nl i (j-i).toNat) H1
theorem yN{a:Expr}{ta:TA}{p pos:Pos} (hg:Gl X "range") (hm:X.mg "range" = none) (ha:PA X [a] ta) (hs:starEach [a] X.env=[(false,eval a X.env)]:=by rfl):PI X tg (.Call (.Name "range" p) [a] [] pos) (Nn ta):=by
 intro aa s σ H R I h;refine Call_ (jd I hg hm boot_range (PyProof.Rows.callWith_type1 (cv (ha pos aa s σ H _ I h) ?_) hs rfl));rintro us s1 ⟨vs,H1,I1,r1,q1⟩;obtain⟨j,e,q1,q2,q⟩:=q1;subst e
 cases r1 with
 | cons r rr =>
  cases rr;obtain⟨t,rfl⟩:=r;exact call_range_1 (sH I1 (∅) (∅) q1 q2 (by simpa using q))
theorem yO {a b : Expr} {ta : TA} {p pos : Pos} (hg : Gl X "range") (hm : X.mg "range" = none) (ha : PA X [a, b] ta) (hs : starEach [a, b] X.env = [(false, eval a X.env), (false, eval b X.env)] := by rfl) (p_ : starEach [b] X.env = [(false, eval b X.env)] := by rfl) :
    PI X tg (.Call (.Name "range" p) [a,b] [] pos) (Np ta):=by
  intro aa s σ H R I h;refine Call_ (jd I hg hm boot_range (PyProof.Rows.callWith_type1 (cv (ha pos aa s σ H _ I h) ?_) (by rw[hs,p_]) (by rw[p_];rfl)));rintro us s1 ⟨vs,H1,I1,r1,q1⟩;obtain⟨i,j,e,⟨q1,q2,q3,q4⟩,q⟩:=q1;subst e
  cases r1 with
  | cons r rr =>
    cases rr with
    | cons r' rr =>
      cases rr;obtain⟨t,rfl⟩:=r;obtain⟨t',rfl⟩:=r';exact call_range_2 (sH I1 q1 q2 q3 q4 q)
noncomputable def S5(wi:TI)(g:TG)(tb:TS):TS:=λD σ H=>wi σ H λJ H1=>∃W:Nat->Nat->St->Hp->Prop,(∃m,W 0 m σ H1)/\∀i m σ H,W i m σ H ->
 (J.stop i H/\D.nx σ H)\/(J.go i H/\∃N:St->Hp->Prop,(∀cI H',N cI H'->∃m',m'<m/\W (i+1) m' cI H')/\∀x H',J.L9 i H x H'->g x σ H' λw6 H2=>tb { D with nx:=N,ct:=N,bk:=D.nx } w6 H2)
noncomputable def kB(fp:List Addr)(h:Heap):List (Addr×Obj):=fp.filterMap λb=>(h.get? b).map λo=>(b,o)
theorem gy(hb:b∈fp)(e:h.get? b=some o):(b,o)∈kB fp h:=List.mem_filterMap.mpr ⟨b,hb,by rw[e];rfl⟩
theorem yP(hp:p∈kB fp h):p.1∈fp/\h.get? p.1=some p.2:=by
 obtain⟨b,hb,e⟩:=List.mem_filterMap.mp hp
 cases q:h.get? b with
 | none=>rw[q]at e;cases e
 | some o =>
  rw[q]at e;have e':(b,o)=p:=eU e;subst e';exact⟨hb,q⟩
theorem Inv.pinned(I:Inv X aa σ H s)(hf:∀b∈fp,kA X aa H b)(ho:∀b∈fp,∃o,s.heap.get? b=some o/\∀v,o.data≠.cell v):Inv X (aa++kB fp s.heap) σ H s :=
 I.pY λp hp=>(fk.mp hp).elim (λz=>I.pin p (List.mem_append_right _ z)) λz=>by
  obtain⟨hb,e⟩:=yP z;obtain⟨f0,f1,f2,_⟩:=hf p.1 hb;obtain⟨o,e',d⟩:=ho p.1 hb;rw[e]at e';cases e';exact⟨e,f0,f1,f2,d⟩
theorem Inv.g_(I:Inv X (aa++pl) σ H s):Inv X aa σ H s:=I.pY λp hp=>I.pin p (List.mem_append_right _ (List.mem_append_left _ hp))
theorem Iq (hp : PassesOwn (model X.prog X.w) X.A X.env X.xe) (hc : X.calm = true) (hi : PI X tg aK wi) (hg : PG X tg g) (hb : pZ X body tb)
    (hs:∀x,foldedSetIterable aK X.env x=pure x:=by intro _;rfl):PS X (.For tg aK body [] pos) (S5 wi g tb):=by
  intro aa s σ H D I h;refine wpAny_For (cv (hi aa s σ H _ I h) λv s1 h1=>cv h1 λQN s2 h2=>?_) hs;obtain⟨it,fp,tn,J,H2,e,I2,T,yQ,f2,W,⟨m0,w0⟩,u3⟩:=h2;subst e;have Ir:∀{H':Hp},(∀b∈fp,H' b=none)->∀b∈fp,kA X aa H' b:=λhn b hb=>⟨hn b hb,(f2 b hb).2⟩;refine codeAny_forLoop_any (λn s'=>∃i cI H',Inv X aa cI H' s'/\tn i s'.heap/\(∀b∈fp,H' b=none)/\W i n cI H') ?_ m0 ⟨0,σ,H2,I2,yQ,λb hb=>(f2 b hb).1,w0⟩;rintro n s3 ⟨i,u4,H3,I3,QO,lJ,w3⟩;rcases u3 i n u4 H3 w3 with⟨stop,qn⟩|⟨go,N,hN,step⟩
  · refine wpAny_passesOwn hp (cv (T.done X rfl rfl rfl hc i aa s3 u4 H3 X.xe I3 (Ir lJ) QO stop) ?_);rintro r s4 ⟨rfl,I4⟩;exact wpAny_execs_nil ⟨u4,H3,I4,qn⟩
  · refine wpAny_passesOwn hp (cv (T.item X rfl rfl rfl hc i aa s3 u4 H3 X.xe I3 (Ir lJ) QO go) ?_);rintro r s4 ⟨u,rfl,h4⟩;refine wpAny_passesOwn hp (cv h4 ?_);rintro _ s5 ⟨x,H5,I5,r5,y5,L_,lr⟩;have Yi:=I5.pinned (Ir lr) (T.obj _ _ L_);refine wpAny_passesOwn hp (cv (hg _ s5 u4 H5 x u _ Yi r5 (step x H5 y5)) ?_);rintro _ s6 ⟨Yj,H6,I6,q6⟩;refine wpAny_passesOwn hp (cv (hb _ s6 Yj H6 _ I6 q6) λf s7 q7=>?_)
    have again:∀{Am:St}{H7:Hp},Inv X (aa++kB fp s5.heap) Am H7 s7->N Am H7->∃m,m<n/\∃i cI H',Inv X aa cI H' s7/\tn i s7.heap/\(∀b∈fp,H' b=none)/\W i m cI H':=λ{Am H7} I7 n7=>by
      obtain⟨m',hm,w7⟩:=hN Am H7 n7;refine⟨m',hm,i+1,Am,H7,I7.g_,T.keep _ _ _ L_ λb hb o e=>(I7.pin (b,o) (List.mem_append_right _ (List.mem_append_right _ (gy hb e)))).1,λb hb=>?_,w7⟩;obtain⟨o,e,d⟩:=T.obj _ _ L_ b hb;exact(I7.pin (b,o) (List.mem_append_right _ (List.mem_append_right _ (gy hb e)))).2.1
    cases f with
    | next=>obtain⟨Am,H7,I7,n7⟩:=q7;exact again I7 n7
    | cont=>obtain⟨Am,H7,I7,n7⟩:=q7;exact again I7 n7
    | brk=>obtain⟨Am,H7,I7,q7⟩:=q7;exact⟨Am,H7,I7.g_,q7⟩
    | ret v=>obtain⟨x7,Am,H7,I7,r7,q7⟩:=q7;exact⟨x7,Am,H7,I7.g_,r7,q7⟩
end
abbrev R2:=V->V->Hp->VK->Prop
def iL(X:Cx)(f:Value->Value->Sem Value)(r:R2):Prop :=
 ∀(aa:List (Addr×Obj))(s:Shared)(σ:St)(H:Hp)(x y:V)(v u:Value)(Q:VK),Inv X aa σ H s->RelV x v->RelV y u->r x y H Q ->
  wpAny (model X.prog X.w) X.A (f v u) (EP X aa σ Q) X.xe s
def S6(X:Cx)(f:Value->Sem Value)(r:V->Hp->VK->Prop):Prop :=
 ∀(aa:List (Addr×Obj))(s:Shared)(σ:St)(H:Hp)(x:V)(v:Value)(Q:VK),Inv X aa σ H s->RelV x v->r x H Q ->
  wpAny (model X.prog X.w) X.A (f v) (EP X aa σ Q) X.xe s
def dN(X:Cx)(f:Value)(r:List V->Hp->VK->Prop):Prop :=
 ∀(aa:List (Addr×Obj))(s:Shared)(σ:St)(H:Hp)(xs:List V)(us:List Value)(Q:VK),Inv X aa σ H s->aN xs us->r xs H Q ->
  wpAny (model X.prog X.w) X.A (call f us) (EP X aa σ Q) X.xe s
def S7(X:Cx)(r:V->Hp->(Bool->Hp->Prop)->Prop):Prop :=
 ∀(aa:List (Addr×Obj))(s:Shared)(σ:St)(H:Hp)(x:V)(v:Value)(Q:Bool->Hp->Prop),Inv X aa σ H s->RelV x v->r x H Q ->
  wpAny (model X.prog X.w) X.A (truthy v) (TP X aa σ Q) X.xe s
noncomputable def DB(r:R2)(ta tb:TE):TE:=λσ H Q=>ta σ H λx H1=>tb σ H1 λy H2=>r x y H2 Q
noncomputable def Yk(r:V->Hp->VK->Prop)(ta:TE):TE:=λσ H Q=>ta σ H λx H1=>r x H1 Q
noncomputable def rI(C:Int->Int->Prop)(g:Int->Int->V):R2:=λx y H Q=>∃i j,x=.int i/\y=.int j/\C i j/\Q (g i j) H
noncomputable def G0(g:Int->Int->V):R2:=λx y H Q=>∃i j,x=.int i/\y=.int j/\Q (g i j) H
noncomputable def rU(g:Int->V):V->Hp->VK->Prop:=λx H Q=>∃i,x=.int i/\Q (g i) H
section
variable {X:Cx} {a b c:Expr} {ta tb tc:TE} {pos:Pos}
theorem Iu (ha : PE X a ta) (hb : PE X b tb) {aa : List (Addr × Obj)} {s : Shared} {σ : St} {H : Hp} {R : V -> V -> Hp -> Prop} (I : Inv X aa σ H s)
    (h:ta σ H λx H1=>tb σ H1 λy H2=>R x y H2) {Q:Value->Shared->Prop} {f:Value->Value->Sem Value}
    (hf:∀v u s2 x y H2,Inv X aa σ H2 s2->RelV x v->RelV y u->R x y H2->wpAny (model X.prog X.w) X.A (f v u) Q X.xe s2) :
    wpAny (model X.prog X.w) X.A (eval a X.env) (λv bQ=>wpAny (model X.prog X.w) X.A (eval b X.env) (λu yL=>wpAny (model X.prog X.w) X.A (f v u) Q X.xe yL) X.xe bQ) X.xe s:=by
  refine cv (ha aa s σ H _ I h) ?_;rintro v s1 ⟨x,H1,I1,r1,q1⟩;refine cv (hb aa s1 σ H1 _ I1 q1) ?_;rintro u s2 ⟨y,H2,I2,r2,q2⟩;exact hf v u s2 x y H2 I2 r1 r2 q2
theorem Nq{op:Operator}{r:R2}(ho:iL X (binaryOp op) r)(ha:PE X a ta)(hb:PE X b tb):PE X (.BinOp a op b pos) (DB r ta tb):=by
 intro aa s σ H Q I h;exact wpAny_BinOp (Iu ha hb I h λv u s2 x y H2 I2 rx ry q=>ho aa s2 σ H2 x y v u Q I2 rx ry q)
theorem G1(ho:S6 X (unaryOp op) r)(ha:PE X a ta):PE X (.UnaryOp op a pos) (Yk r ta):=by
 intro aa s σ H Q I h;exact UnaryOp_ (cv (ha aa s σ H _ I h) λv s1 ⟨x,H1,I1,r1,q1⟩=>ho aa s1 σ H1 x v Q I1 r1 q1)
theorem QP {f : Value -> Value -> Sem Value} {C : Int -> Int -> Prop} {g : Int -> Int -> Int}
    (rule:∀(i j:Int)(t u:Tok)(s:Shared)(Q:Value->Shared->Prop)(E:Value->Shared->Prop),C i j->Q (.int (g i j) s.toks) { s with toks:=s.toks+1 }->wpAny (model X.prog X.w) X.A (f (.int i t) (.int j u)) Q E s) :
    iL X f (rI C λi j=>.int (g i j)):=by
  intro aa s σ H x y v u Q I rx ry h;obtain⟨i,j,rfl,rfl,hc,q⟩:=h;obtain⟨t,rfl⟩:=rx;obtain⟨t',rfl⟩:=ry;exact rule i j t t' s _ _ hc ⟨.int (g i j),H,I.tok _,⟨_,rfl⟩,q⟩
theorem Nr {f : Value -> Value -> Sem Value} {g : Int -> Int -> Int}
    (rule:∀(i j:Int)(t u:Tok)(s:Shared)(Q:Value->Shared->Prop)(E:Value->Shared->Prop),Q (.int (g i j) s.toks) { s with toks:=s.toks+1 }->wpAny (model X.prog X.w) X.A (f (.int i t) (.int j u)) Q E s) :
    iL X f (G0 λi j=>.int (g i j)):=by
  intro aa s σ H x y v u Q I rx ry h;obtain⟨i,j,rfl,rfl,q⟩:=h;obtain⟨t,rfl⟩:=rx;obtain⟨t',rfl⟩:=ry;exact rule i j t t' s _ _ ⟨.int (g i j),H,I.tok _,⟨_,rfl⟩,q⟩
theorem DZ {f : Value -> Value -> Sem Value} {g : Int -> Int -> Bool}
    (rule:∀(i j:Int)(t u:Tok)(s:Shared)(Q:Value->Shared->Prop)(E:Value->Shared->Prop),Q (.bool (g i j)) s->wpAny (model X.prog X.w) X.A (f (.int i t) (.int j u)) Q E s) :
    iL X f (G0 λi j=>.bl (g i j)):=by
  intro aa s σ H x y v u Q I rx ry h;obtain⟨i,j,rfl,rfl,q⟩:=h;obtain⟨t,rfl⟩:=rx;obtain⟨t',rfl⟩:=ry;exact rule i j t t' s _ _ ⟨.bl (g i j),H,I,rfl,q⟩
def S8(i j:Int):Prop:=0<j/\j<1073741824
def S9(i j:Int):Prop:=0<=j/\j<=1000000/\i.natAbs<2 ^ 64
noncomputable def Iv(i j:Int):Prop:=(-(2 ^ 64)<i/\i<2 ^ 64)\/(-(2 ^ 64)<j/\j<2 ^ 64)
theorem Iv.ok(h:Iv i j):IntMulOk i j:=by
 rcases h with⟨h1,h2⟩|⟨h1,h2⟩
 ·exact .of_left (intBits_le_64 h1 h2)
 ·exact .of_right (intBits_le_64 h1 h2)
theorem Iw:iL X (binaryOp .Add) (G0 λi j=>.int (i+j)):=Nr λ_ _ _ _ _ _ _ q=>add_int q
theorem Iy:iL X (binaryOp .Sub) (G0 λi j=>.int (i-j)):=Nr λ_ _ _ _ _ _ _ q=>sub_int q
theorem Iz:iL X (binaryOp .Mult) (rI Iv λi j=>.int (i*j)):=QP λ_ _ _ _ _ _ _ hc q=>mul_int q hc.ok
theorem D0:iL X (binaryOp .FloorDiv) (rI S8 λi j=>.int (i / j)):=QP λi j _ _ _ _ _ hc q=>by
 have h1:(0:Int)<j:=hc.1;have h2:j<1073741824:=hc.2;exact floordiv_int (∅) (by rw[Int.fdiv_eq_ediv_of_nonneg i (∅)];exact q) (.inl (PyProof.noPylong_small (∅)))
theorem IA:iL X (binaryOp .Mod) (rI (λ_ j=>0<j) λi j=>.int (i % j)):=QP λi j _ _ _ _ _ hc q=>by
 have h1:(0:Int)<j:=hc;exact mod_int' (∅) (by rw[Int.fmod_eq_emod_of_nonneg i (∅)];exact q)
theorem IB:iL X (binaryOp .Pow) (rI S9 λi j=>.int (i ^ j.toNat)):=QP λ_ _ _ _ _ _ _ hc q=>pow_int_small hc.1 hc.2.1 hc.2.2 q
theorem Yl {f : Value -> Sem Value} {g : Int -> Int}
    (rule:∀(i:Int)(t:Tok)(s:Shared)(Q:Value->Shared->Prop)(E:Value->Shared->Prop),Q (.int (g i) s.toks) { s with toks:=s.toks+1 }->wpAny (model X.prog X.w) X.A (f (.int i t)) Q E s) :
    S6 X f (rU λi=>.int (g i)):=by
  intro aa s σ H x v Q I rx h;obtain⟨i,rfl,q⟩:=h;obtain⟨t,rfl⟩:=rx;exact rule i t s _ _ ⟨.int (g i),H,I.tok _,⟨_,rfl⟩,q⟩
theorem An:S6 X (unaryOp .USub) (rU λi=>.int (-i)):=Yl λ_ _ _ _ _ q=>neg_int q
end
section
variable {X:Cx} {a b c:Expr} {ta tb tc:TE} {pos:Pos}
theorem mK(I:Inv X aa σ H s)(q:Q (.bl k) H)(e:k=k'):EP X aa σ Q (.bool k') s:=by
 subst e;exact⟨.bl k,H,I,rfl,q⟩
theorem Nt:iL X (compareOp .Lt) (G0 λi j=>.bl (decide (i<j))):=DZ λ_ _ _ _ _ _ _ q=>lt_int q
theorem Nu:iL X (compareOp .LtE) (G0 λi j=>.bl (decide (i<=j))):=DZ λ_ _ _ _ _ _ _ q=>le_int q
theorem Nv:iL X (compareOp .Gt) (G0 λi j=>.bl (decide (j<i))):=DZ λ_ _ _ _ _ _ _ q=>gt_int q
theorem Nw:iL X (compareOp .GtE) (G0 λi j=>.bl (decide (j<=i))):=DZ λ_ _ _ _ _ _ _ q=>ge_int q
theorem yR:iL X (compareOp .Lt) (λx y H Q=>∃i j,x=.str i/\y=.str j/\Q (.bl (decide (i.cps.toList<j.cps.toList))) H):=by
 intro aa s σ H x y v u Q I rx ry h;obtain⟨i,j,rfl,rfl,q⟩:=h;obtain⟨t,rfl⟩:=rx;obtain⟨t',rfl⟩:=ry;exact lt_str (mK I q rfl)
theorem IC:iL X (compareOp .Is) (λx y H Q=>y=.aQ/\Q (.bl (decide (x=.aQ))) H):=by
 intro aa s σ H x y v u Q I rx ry h;obtain⟨rfl,q⟩:=h;cases ry;refine is_none_gen (mK I q ?_)
 cases x<;>first
  | (cases rx;rfl)
  | (obtain⟨t,rfl⟩:=rx;rfl)
theorem D1:iL X (compareOp .IsNot) (λx y H Q=>y=.aQ/\Q (.bl (!decide (x=.aQ))) H):=by
 intro aa s σ H x y v u Q I rx ry h;obtain⟨rfl,q⟩:=h;cases ry;refine isnot_none_gen (mK I q ?_)
 cases x<;>first
  | (cases rx;rfl)
  | (obtain⟨t,rfl⟩:=rx;rfl)
theorem lS{op:CmpOp}{r:R2}(ho:iL X (compareOp op) r)(ha:PE X a ta)(hb:PE X b tb)(hm:behindInMarks op b=false):PE X (.Compare a [op] [b] pos) (DB r ta tb):=by
 intro aa s σ H Q I h;exact wpAny_Compare1 (Iu ha hb I h λv u s2 x y H2 I2 rx ry q=>ho aa s2 σ H2 x y v u Q I2 rx ry q) hm
noncomputable def hG(t:TE):TT:=λσ H Q=>t σ H λx H'=>∃k,x=.bl k/\Q k H'
theorem lV(ho:iL X (compareOp op) r)(ha:PE X a ta)(hb:PE X b tb)(hm:behindInMarks op b=false):PT X (.Compare a [op] [b] pos) (hG (DB r ta tb)):=by
 intro aa s σ H Q I h
 refine wpAny_isTrue_Compare1 (cv (ha aa s σ H _ I h) λv s1 ⟨x,H1,I1,r1,q1⟩=>cv (hb aa s1 σ H1 _ I1 q1) λu s2 ⟨y,H2,I2,r2,q2⟩ =>
  cv (ho aa s2 σ H2 x y v u _ I2 r1 r2 q2) λc s3 ⟨z,H3,I3,r3,k,e,q3⟩=>?_) hm
 subst e;cases r3;exact wpAny_truthy_bool ⟨H3,I3,q3⟩
noncomputable def u9(r r':R2)(ta tb tc:TE):TE:=λσ H Q=>ta σ H λx H1=>tb σ H1 λy H2=>r x y H2 λz H3=>∃k,z=.bl k /\
 (if k=true then tc σ H3 λw' H4=>r' y w' H4 Q else Q (.bl false) H3)
theorem Ao (ho : iL X (compareOp op) r) (wW : iL X (compareOp Nx) r') (ha : PE X a ta) (hb : PE X b tb) (hc : PE X c tc)
    (hm:lastMarks [op,Nx] [b,c]=false:=by with_unfolding_all rfl):PE X (.Compare a [op,Nx] [b,c] pos) (u9 r r' ta tb tc):=by
  intro aa s σ H Q I h
  refine Compare_chain (cv (ha aa s σ H _ I h) λv s1 ⟨x,H1,I1,r1,q1⟩=>chain_link (cv (hb aa s1 σ H1 _ I1 q1) λu s2 ⟨y,H2,I2,r2,q2⟩ =>
    cv (ho aa s2 σ H2 x y v u _ I2 r1 r2 q2) λd s3 ⟨z,H3,I3,r3,k,e,q3⟩=>?_)) hm
  subst e;cases r3;refine wpAny_truthy_bool ?_
  cases k with
  | false=>exact ite_ff ⟨.bl false,H3,I3,rfl,q3⟩
  | true=>exact ite_tt (chain_last (cv (hc aa s3 σ H3 _ I3 q3) λw' s4 ⟨z',H4,I4,r4,q4⟩=>wW aa s4 σ H4 y z' u w' Q I4 r2 r4 q4))
theorem Ap (ho : iL X (compareOp op) r) (wW : iL X (compareOp Nx) r') (ha : PE X a ta) (hb : PE X b tb) (hc : PE X c tc)
    (hm:lastMarks [op,Nx] [b,c]=false:=by with_unfolding_all rfl):PT X (.Compare a [op,Nx] [b,c] pos) (hG (u9 r r' ta tb tc)):=by
  intro aa s σ H Q I h
  refine isTrue_chain (cv (ha aa s σ H _ I h) λv s1 ⟨x,H1,I1,r1,q1⟩=>test_link (cv (hb aa s1 σ H1 _ I1 q1) λu s2 ⟨y,H2,I2,r2,q2⟩ =>
    cv (ho aa s2 σ H2 x y v u _ I2 r1 r2 q2) λd s3 ⟨z,H3,I3,r3,k,e,q3⟩=>?_)) hm
  subst e;cases r3;refine wpAny_truthy_bool ?_
  cases k with
  | false =>
    obtain⟨k',e',q'⟩:=q3;cases e';exact ite_ff ⟨H3,I3,q'⟩
  | true =>
    refine ite_tt (test_last (cv (hc aa s3 σ H3 _ I3 q3) λw' s4 ⟨z',H4,I4,r4,q4⟩=>cv (wW aa s4 σ H4 y z' u w' _ I4 r2 r4 q4) λd' s5 ⟨z2,H5,I5,r5,k2,e2,q5⟩=>?_));subst e2;cases r5;exact wpAny_truthy_bool ⟨H5,I5,q5⟩
def Aq(K:PySem.W.Frag)(x:V)(H:Hp)(k:Bool):Prop :=
 match x with
 | .aQ=>k=false
 | .bl b=>k=b
 | .int i=>k=(i != 0)
 | .str y=>y.length<=sizeLine/\k=((y.length:Int) != 0)
 | .MM y=>y.size<=sizeLine/\k=((y.size:Int) != 0)
 | .ref p=>(∃xs,eG K H p xs/\k=!xs.isEmpty)\/(∃xs,fz K H p xs/\k=!xs.isEmpty)\/∃ag,H p=some (.dK ag)/\k=!ag.isEmpty
 | _=>False
theorem u_{κ:Type}{ag:List (κ×V)}{vs:List (κ×Value)}(r:KV ag vs):(!vs.isEmpty)=!ag.isEmpty:=by
 cases r<;>rfl
theorem mL(r:aN xs aC):(!aC.toArray.isEmpty)=!xs.isEmpty:=by
 cases r<;>simp
theorem je:(sizeLine:Nat)<2 ^ 63:=by rw[sizeLine_eq];decide
theorem ID:S7 X (λx H Q=>∃k,Aq X.K x H k/\Q k H):=by
 intro aa s σ H x v Q I rx h;obtain⟨k,e,q⟩:=h;have hl:=je;have hs:sizeLine=16777216:=sizeLine_eq
 cases x with
 | aQ =>
  cases rx;have e':k=false:=e;subst e';exact truthy_none ⟨H,I,q⟩
 | bl b =>
  cases rx;have e':k=b:=e;subst e';exact wpAny_truthy_bool ⟨H,I,q⟩
 | int i =>
  obtain⟨t,rfl⟩:=rx;have e':k=(i != 0):=e;subst e';exact PySem.P.truthy_int ⟨H,I,q⟩
 | str y =>
  obtain⟨t,rfl⟩:=rx;obtain⟨hy,e'⟩:y.length<=sizeLine/\k=((y.length:Int) != 0):=e;subst e';exact PySem.P.truthy_str (∅) ⟨H,I.tok _,q⟩
 | MM y =>
  obtain⟨t,rfl⟩:=rx;obtain⟨hy,e'⟩:y.size<=sizeLine/\k=((y.size:Int) != 0):=e;subst e';exact PySem.W.truthy_bytes (∅) ⟨H,I.tok _,q⟩
 | ref p =>
  cases rx;have e':(∃xs,eG X.K H p xs/\k=!xs.isEmpty)\/(∃xs,fz X.K H p xs/\k=!xs.isEmpty)\/∃ag,H p=some (.dK ag)/\k=!ag.isEmpty:=e;rcases e' with⟨xs,hx,e'⟩|⟨xs,hx,e'⟩|⟨ag,hx,e'⟩
  ·subst e';obtain⟨aC,r,pl,hz⟩:=I.list hx;have aR:=r.length;exact wpAny_truthy_list pl.isList (by simp only[iq];omega) ⟨H,I.tok _,by rw[mL r];exact q⟩
  ·subst e';obtain⟨aC,r,pl,hz⟩:=I.tuple hx;have aR:=r.length;exact truthy_tuple pl (by simp only[iq];omega) ⟨H,I.tok _,by rw[mL r];exact q⟩
  ·subst e';obtain⟨hz,hS,vs,r,m⟩:ag.length<=sizeLine/\(p==sysModules)=false/\∃vs,KV ag vs/\s.heap.DictOf (bt X.prog X.w) p vs:=I.bF p _ hx;have aR:ag.length=vs.length:=Paired.length r;exact wpAny_truthy_dict hS m (∅) ⟨H,I.tok _,by rw[u_ r];exact q⟩
 | _=>exact(show False from e).elim
theorem Ar (ha : PE X a ta) (he : ∀ mF, isTrue a X.env mF = (do let v <- mF; standAt a.pos; holding [v] (truthy v))) :
    PT X a (λσ H Q=>ta σ H λx H'=>∃k,Aq X.K x H' k/\Q k H'):=by
  intro aa s σ H Q I h;exact isTrue_plain (cv (ha aa s σ H _ I h) λv s1 ⟨x,H1,I1,r1,q1⟩=>ID aa s1 σ H1 x v Q I1 r1 q1) (he _)
theorem vals1(r:aN [x] us):∃u,us=[u]/\RelV x u:=by
 cases r with
 | cons r1 r2=>cases r2;exact⟨_,rfl,r1⟩
theorem vals2(r:aN [x,y] us):∃u w',us=[u,w']/\RelV x u/\RelV y w':=by
 cases r with
 | cons r1 r2 =>
  cases r2 with
  | cons r3 r4=>cases r4;exact⟨_,_,rfl,r1,r3⟩
theorem yS(hc:X.calm=true):dN X (.builtin "max") (λxs H Q=>∃i j,xs=[.int i,.int j]/\Q (.int (if j>i then j else i)) H):=by
 intro aa s σ H xs us Q I r h;obtain⟨i,j,rfl,q⟩:=h;obtain⟨u,w',rfl,⟨t,rfl⟩,⟨t',rfl⟩⟩:=vals2 r;refine max_two_ints (I.ok.hd hc) λh' tk k=>⟨_,H,I.kept k,?_,q⟩;by_cases hj:j>i
 ·rw[if_pos hj,if_pos hj];exact⟨_,rfl⟩
 ·rw[if_neg hj,if_neg hj];exact⟨_,rfl⟩
theorem yT(hc:X.calm=true):dN X (.builtin "min") (λxs H Q=>∃i j,xs=[.int i,.int j]/\Q (.int (if j<i then j else i)) H):=by
 intro aa s σ H xs us Q I r h;obtain⟨i,j,rfl,q⟩:=h;obtain⟨u,w',rfl,⟨t,rfl⟩,⟨t',rfl⟩⟩:=vals2 r;refine min_two_ints (I.ok.hd hc) λh' tk k=>⟨_,H,I.kept k,?_,q⟩;by_cases hj:j<i
 ·rw[if_pos hj,if_pos hj];exact⟨_,rfl⟩
 ·rw[if_neg hj,if_neg hj];exact⟨_,rfl⟩
theorem oZ:dN X (.type "int") (λxs H Q=>(∃i,xs=[.int i]/\Q (.int i) H)\/∃k,xs=[.bl k]/\Q (.int (if k then 1 else 0)) H):=by
 intro aa s σ H xs us Q I r h;rcases h with⟨i,rfl,q⟩|⟨k,rfl,q⟩
 ·obtain⟨u,rfl,t,rfl⟩:=vals1 r;exact call_int_int ⟨.int i,H,I,⟨_,rfl⟩,q⟩
 ·obtain⟨u,rfl,r1⟩:=vals1 r;cases r1;exact call_int_bool ⟨.int (if k then 1 else 0),H,I.tok _,⟨_,rfl⟩,q⟩
end
structure D2 (h:Heap) (x dx C:Addr) (mA:Str->Option Value):Prop where
 obj:h.get? x=some (PySem.W.instObj C dx)
 ns:h.Ns1 dx mA
 ne:dx≠x
theorem yU{h:Heap}{dx:Addr}{mA:Str->Option Value}(n:h.Ns1 dx mA):∃od,h.get? dx=some od/\∀name,PySem.W.lookIn name od=some (mA name):=by
 obtain⟨o,es,ep,ho,hd,hk,_,hm⟩:=n;refine⟨o,ho,λname=>?_⟩;have e:=hm name;unfold nsFind findBy at e;rw[<- Array.find?_toList]at e;unfold PySem.W.lookIn;rw[hd];dsimp only;split
 ·rename_i y q
  rw[q]at e;exact congrArg some e
 ·rename_i q
  rw[q]at e
  have a:es.toList.any (·.refKey)=false:=by
   rw[List.any_eq_false];intro y hy;obtain⟨z,t,IE⟩:=hk y (Array.mem_toList_iff.mp hy);simp[DictEntry.refKey,IE]
  have a':¬es.toList.any (·.refKey)=true:=by rw[a];exact cH
  rw[if_neg a'];exact congrArg some e
theorem D2.look{mA:Str->Option Value}(I:D2 h x dx C mA):∃od,PySem.W.InstAt h x (PySem.W.instObj C dx) C (some od)/\∀name,PySem.W.lookIn name od=some (mA name) :=
 let ⟨od,ho,hl⟩:=yU I.ns
 ⟨od,⟨I.obj,rfl,rfl,ho⟩,hl⟩
section
variable {prog:Program} {w:World} {A:Around} {E:Value->Shared->Prop} {s:Shared} {K:PySem.W.Frag} {x dx C f:Addr} {mA:Str->Option Value} {name:Str} {v:Value}
theorem qa (X : K.In s.heap) (I : D2 s.heap x dx C mA) (hg : PySem.W.plainGet K C name = true) (hh : PySem.W.hasDictIn K C = true)
    (ha:PySem.W.findIn K (.ref C) name=some none) (hv:mA name=some v) (Ny:PySem.W.handedIn v=true) (h:Q v { s with toks:=s.toks+1 }) :
    wpAny (model prog w) A (getAttr (.ref x) name expr) Q E s:=by
  obtain⟨od,J,hl⟩:=I.look;exact PySem.W.get_value X J (PySem.W.plainGet_of hg).1 (PySem.W.findObj_own hh ha rfl (by rw[hl,hv])) Ny h
end
theorem jb.some_of(r:jb (some v) o):∃u,o=some u/\RelV v u:=by
 cases o with
 | none=>exact(show False from r).elim
 | some u=>exact⟨u,rfl,r⟩
theorem jb.none_of(r:jb none o):o=none:=by
 cases o with
 | none=>rfl
 | some u=>exact(show False from r).elim
section
variable {P:Program} {w:World} {H H':Hp} {h h':Heap} {a C dx:Addr} {fs Yb:List (Str×V)}
theorem D3(bF:jc P w H h)(e:H a=some (.ins C dx fs)):∃mA,D2 h a dx C mA/\(∀f,jb (fs.lookup f) (mA f))/\PySem.Within mA (fs.map (·.1))/\fs.length<=1000/\H dx=some (.own a):=by
 obtain⟨d,z,ne,ob,mA,n,r,q⟩:=(show bN P w H h a (.ins C dx fs) from bF a _ e);exact⟨mA,⟨ob,n,ne⟩,r,q,z,d⟩
end
structure S_ (K:PySem.W.Frag) (C:Addr):Prop where
 pg:PySem.W.plainGet K C Str.empty=true
 hd:PySem.W.hasDictIn K C=true
 po:PySem.W.plainOver K C=true
 sa:PySem.W.findIn K (.ref C) "__setattr__" = some (some (.builtin "object.__setattr__"))
theorem S_.get{K:PySem.W.Frag}{C:Addr}(c:S_ K C)(f:Str):PySem.W.plainGet K C f=true:=c.pg
section
variable {X:Cx} {o e value:Expr} {f:Str} {pos Ym Yn:Pos} {ta tv:TE}
noncomputable def Nz:V->V->Hp->VK->Prop:=λx y H Q=>∃i j,x=.int i/\y=.int j/\Q (.int (i-j)) H
end
section
variable {X:Cx} {aa:List (Addr×Obj)} {σ:St} {H:Hp} {s:Shared} {A:Around} {E:Value->Shared->Prop} {Q:Value->Shared->Prop} {c:Value} {b:Bool}
inductive kC (K:PySem.W.Frag) (H:Hp):V->Value->Prop where
  | aQ:kC K H .aQ (.type "NoneType")
  | bl (x:Bool):kC K H (.bl x) (.type "bool")
  | int (i:Int):kC K H (.int i) (.type "int")
  | str (x:Str):kC K H (.str x) (.type "str")
  | L4 (x:UInt64):kC K H (.L4 x) (.type "float")
  | lst {a:Addr} {xs:List V} (e:H a=some (.lst xs)):kC K H (.ref a) (.type "list")
  | ef {a:Addr} {o:Obj} {xs:List V} (e:H a=some (.ef o (.lst xs))):kC K H (.ref a) (.type "list")
  | tup {a:Addr} {xs:List V} (e:H a=some (.tup xs)):kC K H (.ref a) (.type "tuple")
  | dK {a:Addr} {ag:List (bA×V)} (e:H a=some (.dK ag)):kC K H (.ref a) (.type "dict")
  | dT {a:Addr} {ag:List (List bA×V)} (e:H a=some (.dT ag)):kC K H (.ref a) (.type "dict")
  | ins {a C dx : Addr} {fs : List (Str × V)} (e : H a = some (.ins C dx fs)) (cl : S_ K C) (ha : PySem.W.findIn K (.ref C) "__class__" = some (some (.builtin "object.__class__")))
      (hn:PySem.W.specialIn K (.builtin "object.__class__") "__get__" = some (some (.builtin "getset_descriptor.__get__"))) (VW:PySem.W.takesIn K (.builtin "object.__class__")=some true)
      (hm:PySem.W.mroIn K C (.type "object")=some true):kC K H (.ref a) (.ref C)
theorem yV (I : Inv X aa σ H s) (rx : RelV x u) (ty : kC X.K H x t) (e : PySem.W.kitOne X.K t c = some b) (h : ∀ tk, Q (.bool b) { s with toks := tk }) :
    wpAny (model X.prog X.w) A (call (.builtin "isinstance") [u,c]) Q E s:=by
  cases ty with
  | aQ=>cases (show u=Value.none from rx);exact PySem.W.kia_one PySem.W.kitx_none I.sC True.intro e (λz=>nomatch z) h
  | bl y=>cases (show u=Value.bool y from rx);exact PySem.W.kia_one PySem.W.kitx_bool I.sC True.intro e (λz=>nomatch z) h
  | int i=>obtain⟨t,q⟩:=(show ∃t,u=Value.int i t from rx);cases q;exact PySem.W.kia_one PySem.W.kitx_int I.sC True.intro e (λz=>nomatch z) h
  | str y=>obtain⟨t,q⟩:=(show ∃t,u=Value.str y t from rx);cases q;exact PySem.W.kia_one PySem.W.kitx_str I.sC True.intro e (λz=>nomatch z) h
  | L4 y=>obtain⟨t,q⟩:=(show ∃t,u=Value.float y t from rx);cases q;exact PySem.W.kia_one PySem.W.kitx_float I.sC True.intro e (λz=>nomatch z) h
  | @lst a xs ea =>
    cases (show u=Value.ref a from rx);obtain⟨_,_,n,_,h1⟩:=(show bN X.prog X.w H s.heap a (.lst xs) from I.bF a _ ea);exact PySem.W.kia_one PySem.W.kitx_list I.sC ⟨_,h1,rfl⟩ e (λz=>nomatch z) h
  | @ef a ob xs ea =>
    cases (show u=Value.ref a from rx);obtain⟨_,_,_,n,_,h1⟩:=(show bN X.prog X.w H s.heap a (.ef ob (.lst xs)) from I.bF a _ ea);exact PySem.W.kia_one PySem.W.kitx_list I.sC ⟨_,h1,rfl⟩ e (λz=>nomatch z) h
  | @tup a xs ea =>
    cases (show u=Value.ref a from rx);obtain⟨_,_,_,p⟩:=(show bN X.prog X.w H s.heap a (.tup xs) from I.bF a _ ea);obtain⟨o,h1,h2,_⟩:=p;exact PySem.W.kia_one PySem.W.kitx_tuple I.sC ⟨o,h1,h2⟩ e (λz=>nomatch z) h
  | @dK a ag ea =>
    cases (show u=Value.ref a from rx);obtain⟨_,_,vs,_,p⟩:=(show bN X.prog X.w H s.heap a (.dK ag) from I.bF a _ ea);obtain⟨o,es,ep,h1,h2,_⟩:=p;exact PySem.W.kia_one PySem.W.kitx_dict I.sC ⟨o,h1,h2.1⟩ e (λz=>nomatch z) h
  | @dT a ag ea =>
    cases (show u=Value.ref a from rx);obtain⟨_,_,xs,_,o,es,ep,h1,h2,_⟩:=(show bN X.prog X.w H s.heap a (.dT ag) from I.bF a _ ea);exact PySem.W.kia_one PySem.W.kitx_dict I.sC ⟨o,h1,h2.1⟩ e (λz=>nomatch z) h
  | @ins a C dx fs ea cl ha hn VW hm =>
    cases (show u=Value.ref a from rx);obtain⟨mA,O,_⟩:=D3 I.bF ea;obtain⟨od,J,_⟩:=O.look;exact PySem.W.kia_one (PySem.W.kitx_own (cl.get _) cl.hd ha hn VW hm) I.sC J e (λz=>nomatch z) h
end
structure hU (k:Nat) (A:Around):Prop where
 hd:A.handled=none
 dp:A.depth+3*k+5<recursionLimit
 un:A.units+16*k+200<cLine
 gd:A.guards=some []
theorem hU.mono(r:hU k A)(h:j<=k):hU j A:=⟨r.hd,by have:=r.dp;omega,by have:=r.un;omega,r.gd⟩
theorem hU.deeper(r:hU (k+1) A)(env:Env):hU k (A.deeper env) :=
 ⟨r.hd,by have:=r.dp;show A.depth+1+3*k+5<_;omega,by have:=r.un;show A.units+3+16*k+200<_;omega,r.gd⟩
theorem hU.depth(r:hU k A):A.depth<recursionLimit:=by have:=r.dp;omega
def Ta:TA:=λ_ H Q=>Q [] H
noncomputable def NA(ta:TE)(tr:TA):TA:=λσ H Q=>ta σ H λx H1=>tr σ H1 λxs H2=>Q (x::xs) H2
section
variable {X:Cx} {e:Expr} {es:List Expr} {te:TE} {t:TA} {pos:Pos}
theorem jf:PA X [] Ta:=λ_ _ _ _ H Q I h=>Calls.spliced_nil ⟨[],H,I,.nil,h⟩
theorem eh(ha:PE X e te)(hr:PA X es t)(hs:starEach (e::es) X.env=(false,eval e X.env)::starEach es X.env:=by rfl):PA X (e::es) (NA te t):=by
 intro pos aa s σ H Q I h;rw[hs];show wpAny _ _ (spliced ((false,eval e X.env)::backTo pos (starEach es X.env))) _ _ s;refine Calls.spliced_cons (cv (ha aa s σ H _ I h) ?_);rintro u s1 ⟨x,H1,I1,r1,q1⟩;exact cv (hr pos aa s1 σ H1 _ I1 q1) λus s2 ⟨xs,H2,I2,r2,q2⟩=>⟨x::xs,H2,I2,.cons r1 r2,q2⟩
def Tb(t:TA):TE:=λσ H Q=>t σ H λxs H1=>xs.length<=sizeLine/\∀p,H1 p=none->Q (.ref p) (upd H1 p (.tup xs))
def Tc(t:TA):TE:=λσ H Q=>t σ H λxs H1=>xs.length<=sizeLine/\∀p,H1 p=none->Q (.ref p) (upd H1 p (.lst xs))
theorem IF {x1} (h:PA X es t):PE X (.Tuple es x1 pos) (Tb t):=by
 intro aa s σ H Q I hq;refine wpAny_Tuple_spliced (cv (h pos aa s σ H _ I hq) λus s1 ⟨xs,H1,I1,r,z,q⟩=>⟨by rw[<- r.length];exact z,?_⟩);have hf:H1 s1.heap.objs.size=none:=I1.bF.fresh (bJ _);refine⟨.ref s1.heap.objs.size,upd H1 s1.heap.objs.size (.tup xs),I1.laid (t':=s1.toks) (λb u e=>ee _ e) (bJ _) ?_,rfl,q _ hf⟩;exact⟨z,us,r,⟨_,jE _ rfl,rfl,_,rfl⟩⟩
theorem IG(h:PA X es t):PE X (.List es pos) (Tc t):=by
 intro aa s σ H Q I hq;refine wpAny_List_spliced (cv (h pos aa s σ H _ I hq) λus s1 ⟨xs,H1,I1,r,z,q⟩=>⟨by rw[<- r.length];exact z,?_⟩);have hf:H1 s1.heap.objs.size=none:=I1.bF.fresh (bJ _);refine⟨.ref s1.heap.objs.size,upd H1 s1.heap.objs.size (.lst xs),I1.laid (t':=s1.toks) (λb u e=>ee _ e) (bJ _) ?_,rfl,q _ hf⟩;exact⟨z,us,0,r,jE _ rfl⟩
end
abbrev Sp:=List V->Hp->VK->XK->Prop
abbrev As:=List Env->Hp->Shared->XK->Value->Shared->Prop
structure D4 (P:Program) (w:World) (K:PySem.W.Frag) (mg:Str->Option Value) (base:Heap) (A:Around) (outer:List Env) (s:Shared) (H:Hp):Prop where
 frames:A.frames=some outer
 mod:Mod K mg base
 bs:∀b o,base.get? b=some o->s.heap.get? b=some o/\H b=none
 GU:base.objs.size<=s.heap.objs.size
 mE:s.heap.FunFrames base outer
 L6:∀b∈z9 outer,H b=none
 bF:jc P w H s.heap
 bare:AllBare s.gens
def CE(outer:List Env)(P:Program)(w:World)(H:Hp)(s:Shared)(Q:VK)(u:Value)(s':Shared):Prop :=
 ∃v H',s'.os=s.os/\AllBare s'.gens/\Un (z9 outer) [] H H' s.heap s'.heap/\jc P w H' s'.heap/\RelV v u/\Q v H'
def CR(CX:As)(outer:List Env)(P:Program)(w:World)(H:Hp)(s:Shared)(Q:VK)(E:XK)(r:Result)(s':Shared):Prop :=
 match r with
 | .ok (.ret u)=>CE outer P w H s Q u s'
 | .ok _=>False
 | .error e=>CX outer H s E e s'
structure hV (P:Program) (w:World) (K:PySem.W.Frag) (mg:Str->Option Value) (base:Heap) (CX:As) (k:Nat) (f:Addr) (fd:FuncData) (ps:List Str) (sp:Sp):Prop where
 len:∀vs H Q E,sp vs H Q E->vs.length=ps.length
 run:∀(A:Around)(outer:List Env)(s:Shared)(H:Hp)(args:Args)(us:List Value)(vs:List V)(Q:VK)(E:XK),hU k A->D4 P w K mg base A outer s H->BindsTo s fd args (ps.zip us)->aN vs us->sp vs H Q E ->
  codeAny (model P w) A (.call (.ref f) args) (CR CX outer P w H s Q E) s
theorem hV.mono {P : Program} {w : World} {K : PySem.W.Frag} {mg : Str -> Option Value} {base : Heap} {CX : As} {j k : Nat} {f : Addr} {fd : FuncData} {ps : List Str} {sp : Sp} (F : hV P w K mg base CX j f fd ps sp) (h : j <= k) :
    hV P w K mg base CX k f fd ps sp:=⟨F.len,λA outer s H args us vs Q E hr=>F.run A outer s H args us vs Q E (hr.mono h)⟩
section
variable {X:Cx} {aa:List (Addr×Obj)} {σ:St} {H:Hp} {s s':Shared}
theorem Inv.Td(I:Inv X aa σ H s):D4 X.prog X.w X.K X.mg X.base X.A X.stack s H :=
 ⟨I.ok.frames,I.ok.mod,I.bs,Nat.le_trans I.ok.GU I.sz,I.stack,I.wX,I.bF,I.bare⟩
theorem Inv.after(I:Inv X aa σ H s)(h:CE X.stack X.prog X.w H s Q u s'):EP X aa σ Q u s':=by
 obtain⟨v,H',os,bare,un,bF,r,q⟩:=h;obtain⟨hh,g,d,t,Yo⟩:=s';obtain rfl:Yo=s.os:=os;exact⟨v,H',I.call (h':=hh) (g':=g) (d':=d) (t':=t) (ch:=[]) un bF bare (λb z=>absurd z (by simp)),r,q⟩
end
noncomputable def NB(sp:Sp)(G2:List V)(E:XK)(t:TA):TE:=λσ H Q=>t σ H λvs H1=>sp (vs++G2) H1 Q E
noncomputable def Binds(K:PySem.W.Frag)(fd:FuncData)(ps:List Str)(ds:List Value):Prop :=
 ∀(s:Shared)(us:List Value),K.In s.heap->(us++ds).length=ps.length->BindsTo s fd ⟨us,[]⟩ (ps.zip (us++ds))
theorem Binds.all{K:PySem.W.Frag}{fd:FuncData}{ps:List Str}(h:∀us:List Value,us.length=ps.length->bindArgs fd ⟨us,[]⟩=pure (ps.zip us)):Binds K fd ps []:=λs us _ hl=>by
 rw[List.append_nil]at hl⊢;exact .of_eq (h us hl)
noncomputable def vc(CX:As)(X:Cx)(E:XK):Prop:=∀(aa:List (Addr×Obj))(σ:St)(H:Hp)(s:Shared)(e:Value)(s':Shared),Inv X aa σ H s->CX X.stack H s E e s'->X.xe e s'
section
variable {X:Cx} {CX:As} {k:Nat} {f C:Addr} {fd:FuncData} {ps:List Str} {sp:Sp} {G2:List V} {ds:List Value} {E:XK} {x m:Str} {p pos qb:Pos} {e o:Expr} {es:List Expr} {ta:TE} {t:TA}
theorem IH (F : hV X.prog X.w X.K X.mg X.base CX k f fd ps sp) (hr : hU k X.A) (hb : Binds X.K fd ps ds) (hd : aN G2 ds) (hx : vc CX X E)
    (I:Inv X aa σ H s) (r:aN vs us) (h:sp (vs++G2) H Q E):wpAny (model X.prog X.w) X.A (call (.ref f) us) (EP X aa σ Q) X.xe s:=by
  have r2:aN (vs++G2) (us++ds):=r.append hd;have hl:(us++ds).length=ps.length:=by rw[<- r2.length];exact F.len _ _ _ _ h
  refine wpAny_call (codeAny_mono (F.run X.A X.stack s H ⟨us,[]⟩ (us++ds) (vs++G2) Q E hr I.Td (hb s us I.sC hl) r2 h) λr s' hq=>?_)
  cases r with
  | error e=>exact hx aa σ H s e s' I hq
  | ok fl =>
    cases fl with
    | ret u=>exact I.after hq
    | next=>exact False.elim hq
    | brk=>exact False.elim hq
    | cont=>exact False.elim hq
theorem D5 (F : hV X.prog X.w X.K X.mg X.base CX k f fd ps sp) (hr : hU k X.A) (hg : Gl X x) (hm : X.mg x = some (.ref f)) (hk : PySem.W.keepIn X.K (.ref f) = true) (hb : Binds X.K fd ps ds) (hd : aN G2 ds) (hx : vc CX X E)
    (ha:PA X (e::es) t) (II:(x==("__debug__" : Str))=false:=by decide) (he:starEach (e::es) X.env=(false,eval e X.env)::starEach es X.env:=by rfl) (qc:(backTo pos (starEach es X.env)).any (·.1)=false:=by rfl) :
    PE X (.Call (.Name x p) (e::es) [] pos) (NB sp G2 E t):=by
  intro aa s σ H Q I h;refine wpAny_Call_Name_kw (wZ I hg hm ?_ II);refine PySem.W.callWith_K (h₀:=X.base) I.ok.mod.SE hk (cv (ha pos aa s σ H _ I h) λus s1 ⟨vs,H1,I1,r,q⟩=>⟨I1.sC,?_⟩) he qc;exact IH F hr hb hd hx I1 r q
end
structure jF (N P:List Str) (sc:Scope):Prop where
 kind:sc.kind=.function
 co:sc.isCoroutine=false
 gen:sc.isGenerator=false
 nd:N.Nodup
 pre:N.take P.length=P
 par:∀x∈P,sc.names.lookup x=some .local\/sc.names.lookup x=some .cell
 Au:∀y∈sc.names,y.2≠.free
theorem o_{kindOf:Str->Option NameKind}{x:Str}:∀{sI:List (Str×Value)}{m:Str->Option Value},(∀v,(x,v)∉sI)->bindL kindOf sI m x=m x
 | [],_,_=>rfl
 | (n,v)::r,m,h=>by
  unfold bindL;rw[o_ λw hw=>h w (ja _ hw)];split
  ·have:x≠n:=by rintro rfl;exact h v List.mem_cons_self
   simp[this]
  ·rfl
theorem pb{kindOf:Str->Option NameKind}{x:Str}:∀{sI:List (Str×Value)}{m:Str->Option Value},(∀v,(x,v)∉sI)->bindC kindOf sI m x=m x
 | [],_,_=>rfl
 | (n,v)::r,m,h=>by
  unfold bindC;rw[pb λw hw=>h w (ja _ hw)];split
  ·rfl
  ·have:x≠n:=by rintro rfl;exact h v List.mem_cons_self
   simp[this]
theorem pd {kindOf : Str -> Option NameKind} {x : Str} {v : Value} : ∀ {P : List Str} {vs : List Value} {i : Nat} {m : Str -> Option Value}, P.Nodup -> P[i]? = some x -> vs[i]? = some v -> kindOf x = some .local ->
    bindL kindOf (P.zip vs) m x=some v
  | [],_,_,_,_,h,_,_=>by simp at h
  | _::_,[],_,_,_,_,h,_=>by simp at h
  | p::P,w::vs,0,m,nd,h1,h2,hk=>by
    simp at h1 h2;subst h1;subst h2;show bindL kindOf ((p,w)::P.zip vs) m p=_;unfold bindL;rw[o_ λv hv=>(List.nodup_cons.mp nd).1 (List.of_mem_zip hv).1,if_pos hk];simp
  | p::P,w::vs,i+1,m,nd,h1,h2,hk=>by
    show bindL kindOf ((p,w)::P.zip vs) m x=_;unfold bindL;exact pd (i:=i) (List.nodup_cons.mp nd).2 (by simpa using h1) (by simpa using h2) hk
theorem pe {kindOf : Str -> Option NameKind} {x : Str} {v : Value} : ∀ {P : List Str} {vs : List Value} {i : Nat} {m : Str -> Option Value}, P.Nodup -> P[i]? = some x -> vs[i]? = some v -> kindOf x ≠ some .local ->
    bindC kindOf (P.zip vs) m x=some v
  | [],_,_,_,_,h,_,_=>by simp at h
  | _::_,[],_,_,_,_,h,_=>by simp at h
  | p::P,w::vs,0,m,nd,h1,h2,hk=>by
    simp at h1 h2;subst h1;subst h2;show bindC kindOf ((p,w)::P.zip vs) m p=_;unfold bindC;rw[pb λv hv=>(List.nodup_cons.mp nd).1 (List.of_mem_zip hv).1,if_neg hk];simp
  | p::P,w::vs,i+1,m,nd,h1,h2,hk=>by
    show bindC kindOf ((p,w)::P.zip vs) m x=_;unfold bindC;exact pe (i:=i) (List.nodup_cons.mp nd).2 (by simpa using h1) (by simpa using h2) hk
noncomputable def start(N:List Str)(vs:List V):St:=vs.map some++List.replicate (N.length-vs.length) none
noncomputable def vd(CX:As)(P:Program)(w:World)(K:PySem.W.Frag)(mg:Str->Option Value)(base:Heap)(N:List Str)(qual:Str)(scope:Scope)(f:Addr)(cd:Value)(A:Around)(outer:List Env)(s:Shared)(H:Hp)(E:XK):Cx where
 prog:=P
 w:=w
 K:=K
 mg:=mg
 base:=base
 A:=A.deeper (envOfC qual scope s.heap.objs.size f cd)
 N:=N
 eW:=s
 sA:=H
 env:=envOfC qual scope s.heap.objs.size f cd
 outer:=outer
 stack:=envOfC qual scope s.heap.objs.size f cd::outer
 ex:=[]
 calm:=true
 fn:=λ_=>true
 pn:=[]
 xe:=λe s'=>wpAny (model P w) (A.deeper (envOfC qual scope s.heap.objs.size f cd)) (leaving (envOfC qual scope s.heap.objs.size f cd) e) (λ_ NC=>CX outer H s E e NC) (λe' NC=>CX outer H s E e' NC) s'
theorem sJ{sc:Scope}{n:Nat}{x:Str}(h:sc.names.lookup x=some .cell):∃c,(cellsFrom n sc.names []).lookup x=some c:=by
 have q:=PySem.W.cellsFrom_some sc.names n [] (.inl h);exact Option.isSome_iff_exists.mp q
theorem yW {CX : As} {P : Program} {w : World} {K : PySem.W.Frag} {mg : Str -> Option Value} {base : Heap} {N ps : List Str} {qual : Str} {scope : Scope} {f : Addr} {cd : Value} {A : Around} {outer : List Env} {s s1 : Shared} {H : Hp} {E : XK} {us : List Value} {vs : List V}
    (S:jF N ps scope) (hd:A.handled=none) (e0:D4 P w K mg base A outer s H) (hl:vs.length=ps.length) (r:aN vs us)
    (x:InCallC s s.heap.objs.size (bindL (envOfC qual scope s.heap.objs.size f cd).kindOf (ps.zip us) λ_=>none) (cellsFrom (s.heap.objs.size+1) scope.names []) (bindC (envOfC qual scope s.heap.objs.size f cd).kindOf (ps.zip us) λ_=>none) s1) :
    Inv (vd CX P w K mg base N qual scope f cd A outer s H E) [] (start N vs) H s1:=by
  have qc:ps.length<=N.length:=by have:=congrArg List.length S.pre;rw[List.length_take]at this;omega
  obtain⟨h1,tk,rfl,hk⟩:=x.done;have ND:∀b:Addr,b∉(vd CX P w K mg base N qual scope f cd A outer s H E).ex:=λb z=>absurd (show b∈([]:List Addr) from z) (by simp)
  refine⟨⟨e0.mod,S.kind,rfl,rfl,bJ _,λy z c h1 h2=>?_,λy hy=>?_,λy c _ h=>?_,λ_=>hd,Around.frames_deeper e0.frames,.inr ⟨rfl,rfl⟩,λb z=>absurd z (ND b),e0.bs,e0.GU,λb _ _=>ND b,λb z=>absurd z (ND b),e0.mE,e0.L6⟩,
    rfl,e0.bare,Un.kept hk,⟨_,x.toInCall.ns,λi y v h1 h2 h3=>?_⟩,λy c h=>⟨_,x.cell y c h⟩,e0.bF.fresh (bJ _),λy c h=>?_,λp hp=>absurd (show p∈([]:List (Addr×Obj)) from hp) (by simp),e0.bF.kept hk,?_⟩
  · exact name_of_addr x.apart (PySem.mem_of_lookup h1) (PySem.mem_of_lookup h2)
  · have hy:scope.names.lookup y=some .cell\/scope.names.lookup y=some .free:=hy;rcases hy with hy | hy
    · exact sJ hy
    · exact absurd rfl (S.Au _ (PySem.mem_of_lookup hy))
  · exact Nat.le_of_lt (x.above y c (PySem.mem_of_lookup h))
  · have hi : i < vs.length := by
      unfold start at h2;by_cases hi:i<vs.length
      · exact hi
      · rw[List.getElem?_append_right (by simpa using hi)]at h2;rw[List.getElem?_replicate]at h2;split at h2<;>cases h2
    have ha:vs[i]?=some v:=by
      unfold start at h2;rw[uU (by simpa using hi),dG]at h2
      cases e:vs[i]? with
      | none=>rw[e]at h2;cases h2
      | some a=>rw[e]at h2;cases h2;rfl
    obtain⟨u,hu,rv⟩:=r.get ha
    have hp:ps[i]?=some y:=by
      rw[<- S.pre,List.getElem?_take_of_lt (∅)];exact h1
    have VX:ps.Nodup:=by rw[<- S.pre];exact S.nd.sublist (List.take_sublist _ _)
    refine⟨u,rv,?_⟩;rcases S.par y (gU hp)with k | k
    · exact .inl ⟨k,pd VX hp hu k⟩
    · obtain⟨c,e⟩:=sJ (n:=s.heap.objs.size+1) k;refine .inr ⟨.inl k,c,e,?_⟩;have q:=x.cell y c e;rw[pe VX hp hu (by show scope.names.lookup y≠_;rw[k];decide)]at q;exact q
  · exact e0.bF.fresh (Nat.le_of_lt (x.above y c (PySem.mem_of_lookup h)))
  · unfold start;show _=N.length;rw[gV,aX,List.length_replicate];omega
theorem NF {CX : As} {P : Program} {w : World} {K : PySem.W.Frag} {mg : Str -> Option Value} {base : Heap} {k : Nat} {f : Addr} {name qual : Str} {params : Arguments} {body : List Stmt} {scope : Scope} {dV kV doc pm oG ct oc : Value} {an od : Option Addr}
    {IJ:Array (Option Value)} {N ps:List Str} {sp:Sp} (lk:K.lookup f=some ⟨oc,od,.func (PySem.W.fnOf name qual params body scope dV kV doc pm an oG ct),IJ⟩) (GV:PySem.W.codeIn K oG qual=true) (S:jF N ps scope)
    (len:∀vs H Q E,sp vs H Q E->vs.length=ps.length)
    (Av:∀(A:Around)(outer:List Env)(s:Shared)(H:Hp)(vs:List V)(Q:VK)(E:XK),hU k (A.deeper (envOfC qual scope s.heap.objs.size f oG))->sp vs H Q E ->
      ∃t,pZ (vd CX P w K mg base N qual scope f oG A outer s H E) body t/\t { nx:=λ_ H'=>Q .aQ H',rt:=Q } (start N vs) H) :
    hV P w K mg base CX (k+1) f (PySem.W.fnOf name qual params body scope dV kV doc pm an oG ct) ps sp:=by
  refine⟨len,λA outer s H args us vs Q E hr e0 hb r DC=>?_⟩;have hl:=len _ _ _ _ DC;have KX:K.In s.heap:=e0.mod.SE.keeps λb o e=>(e0.bs b o e).1;have lim:s.heap.NoLimit:=e0.mod.nolimit.keeps λb o e=>(e0.bs b o e).1
  have Aw:∀y∈ps.zip us,scope.names.lookup y.1=some .local\/(scope.names.lookup y.1=some .cell/\((cellsFrom (s.heap.objs.size+1) scope.names []).lookup y.1).isSome=true):=λ⟨n,v⟩ hy=>by
    rcases S.par n (List.of_mem_zip hy).1 with q | q
    · exact .inl q
    · exact .inr ⟨q,PySem.W.cellsFrom_some _ _ _ (.inl q)⟩
  refine codeAny_call_function hr.depth (KX _ _ lk) rfl S.co S.gen rfl (PySem.W.codeRec_of KX GV) (hb _ _ _ _ ?_);refine wpAny_newFunctionEnv_cells S.kind Aw λenv he s1 x=>?_;subst he;refine⟨lim.keeps x.toInCall.keep,codeAny_func ?_⟩;obtain⟨t,ht,hq⟩:=Av A outer s H vs Q E (hr.deeper _) DC;have I:Inv (vd CX P w K mg base N qual scope f oG A outer s H E) [] (start N vs) H s1:=yW S hr.hd e0 hl r x;refine wpAny_mono (ht [] s1 (start N vs) H _ I hq) (λfl s' hs=>?_) λe s' hs=>hs
  have fin:∀{cI:St}{H':Hp}{v:V}{u:Value},Inv (vd CX P w K mg base N qual scope f oG A outer s H E) [] cI H' s'->RelV v u->Q v H'->CE outer P w H s Q u s' :=
    λ{cI H' v u} J rv q=>⟨v,H',J.os,J.bare,J.base,J.bF,rv,q⟩
  cases fl with
  | ret u =>
    obtain⟨v,cI,H',J,rv,q⟩:=hs;exact fin J rv q
  | next =>
    obtain⟨cI,H',J,q⟩:=hs;exact fin (v:=V.aQ) (u:=Value.none) J rfl q
  | brk =>
    obtain⟨_,_,_,q⟩:=hs;exact False.elim q
  | cont =>
    obtain⟨_,_,_,q⟩:=hs;exact False.elim q
section
variable {X:Cx} {x:Str} {p pos:Pos} {e:Expr} {es:List Expr} {t:TA} {id T:String} {r:List V->Hp->VK->Prop}
noncomputable def Te(r:List V->Hp->VK->Prop)(t:TA):TE:=λσ H Q=>t σ H λvs H1=>r vs H1 Q
theorem fX (hc : dN X (.builtin id) r) (hg : Gl X x) (hm : X.mg x = none) (hv : bootBuiltins x = some (.builtin id)) (ha : PA X (e :: es) t) (hn : x ≠ "__name__" := by decide) (II : (x == ("__debug__" : Str)) = false := by decide)
    (he:starEach (e::es) X.env=(false,eval e X.env)::starEach es X.env:=by rfl) (qc:(backTo pos (starEach es X.env)).any (·.1)=false:=by rfl):PE X (.Call (.Name x p) (e::es) [] pos) (Te r t):=by
  intro aa s σ H Q I h;refine wpAny_Call_Name_kw (jd I hg hm hv ?_ hn II);exact PyProof.Rows.callWith_builtin1 (cv (ha pos aa s σ H _ I h) λus s1 ⟨vs,H1,I1,r1,q1⟩=>hc aa s1 σ H1 vs us Q I1 r1 q1) he qc
theorem ir (hc : dN X (.type T) r) (hg : Gl X x) (hm : X.mg x = none) (hv : bootBuiltins x = some (.type T)) (ha : PA X (e :: es) t) (hn : x ≠ "__name__" := by decide) (II : (x == ("__debug__" : Str)) = false := by decide)
    (he:starEach (e::es) X.env=(false,eval e X.env)::starEach es X.env:=by rfl) (qc:(backTo pos (starEach es X.env)).any (·.1)=false:=by rfl):PE X (.Call (.Name x p) (e::es) [] pos) (Te r t):=by
  intro aa s σ H Q I h;refine wpAny_Call_Name_kw (jd I hg hm hv ?_ hn II);exact PyProof.Rows.callWith_type1 (cv (ha pos aa s σ H _ I h) λus s1 ⟨vs,H1,I1,r1,q1⟩=>hc aa s1 σ H1 vs us Q I1 r1 q1) he qc
end
section
variable {κ:Type} [DecidableEq κ]
noncomputable def jG(ag:List (κ×V))(k:κ):Option V:=(ag.find? λkv=>decide (kv.1=k)).map (·.2)
noncomputable def dX(ag:List (κ×V))(k:κ)(v:V):List (κ×V) :=
 if (ag.any λkv=>decide (kv.1=k))=true then ag.map (λkv=>if kv.1=k then (kv.1,v) else kv) else ag++[(k,v)]
theorem jH{p:κ×V}{r:List (κ×V)}{k:κ}(e:p.1=k):jG (p::r) k=some p.2:=by simp[jG,List.find?_cons,e]
theorem hZ{p:κ×V}{r:List (κ×V)}{k:κ}(e:¬p.1=k):jG (p::r) k=jG r k:=by simp[jG,List.find?_cons,e]
theorem sL(k:κ):∀ag:List (κ×V),(ag.any λkv=>decide (kv.1=k))=(jG ag k).isSome
 | []=>rfl
 | p::r=>by
  rw[List.any_cons];by_cases e:p.1=k
  ·simp only[jH e,decide_eq_true e,Bool.true_or,Option.isSome_some]
  ·rw[hZ e,decide_eq_false e,Bool.false_or];exact sL k r
theorem h_(ag:List (κ×V))(k:κ)(v:V):(dX ag k v).length<=ag.length+1:=by
 unfold dX;split
 ·rw[aX];omega
 ·rw[gV,List.length_cons,List.length_nil];omega
theorem jb.fY(r:jb o u):o.isSome=u.isSome:=by
 cases o with
 | none=>cases u with
  | none=>rfl
  | some _=>exact(show False from r).elim
 | some _=>cases u with
  | none=>exact(show False from r).elim
  | some _=>rfl
theorem KV.val{ag:List (κ×V)}{vs:List (κ×Value)}(r:KV ag vs)(k:κ):jb (jG ag k) (valueAt vs k):=by
 unfold KV at r
 induction r with
 | nil=>exact True.intro
 | @cons p q ps qs h t ih =>
  obtain⟨h1,h2⟩:=h;by_cases e:p.1=k
  ·have e':q.1=k:=h1.symm.trans e;have b:valueAt (q::qs) k=some q.2:=by simp[valueAt,List.find?_cons,e']
   rw[jH e,b];exact h2
  ·have e':¬q.1=k:=λz=>e (h1.trans z);have b:valueAt (q::qs) k=valueAt qs k:=by simp[valueAt,List.find?_cons,e']
   rw[hZ e,b];exact ih
theorem KV.any(r:KV ag vs)(k:κ):(ag.any λkv=>decide (kv.1=k))=vs.any λkv=>decide (kv.1=k):=by
 unfold KV at r
 induction r with
 | nil=>rfl
 | cons h t ih=>rw[List.any_cons,List.any_cons,ih,h.1]
theorem KV.IK (r : KV ag vs) (k : κ)  (ry : RelV y u) :
    KV (ag.map λkv=>if kv.1=k then (kv.1,y) else kv) (vs.map λkv=>if kv.1=k then (kv.1,u) else kv):=by
  unfold KV at r⊢
  induction r with
  | nil=>exact .nil
  | @cons p q ps qs h t ih =>
    rw[List.map_cons,List.map_cons];refine .cons ?_ ih;obtain⟨h1,h2⟩:=h;by_cases e:p.1=k
    · rw[if_pos e,if_pos (h1.symm.trans e)];exact⟨h1,ry⟩
    · rw[if_neg e,if_neg (λz=>e (h1.trans z))];exact⟨h1,h2⟩
theorem KV.put(r:KV ag vs)(k:κ)(ry:RelV y u):KV (dX ag k y) (stored vs k u):=by
 unfold dX stored;rw[r.any k];by_cases e:(vs.any λkv=>decide (kv.1=k))=true
 ·rw[if_pos e,if_pos e];exact r.IK k ry
 ·rw[if_neg e,if_neg e];exact Paired.snoc r ⟨rfl,ry⟩
theorem KV.length(r:KV ag vs):ag.length=vs.length:=Paired.length r
end
theorem pf(r:RelV (kV k) u):(bt P w).is k u=true:=by
 cases k with
 | inl i=>obtain⟨t,e⟩:=(show ∃t,u=Value.int i t from r);subst e;exact so P w i t
 | inr x=>obtain⟨t,e⟩:=(show ∃t,u=Value.str x t from r);subst e;exact su P w x t
theorem ph:∀{ks:List bA}{us:List Value},aN (ks.map kV) us->ItemsAre (bt P w) ks us
 | [],_,r=>by rw[List.map_nil]at r;cases r;exact .nil
 | k::ks,_,r=>by
  rw[List.map_cons]at r
  cases r with
  | cons h t=>exact .cons (pf h) (ph t)
abbrev KT(H:Hp):List (List bA×V)->List (List bA×Addr×Value)->Prop:=Paired λp q=>p.1=q.1/\H q.2.1=some (.tup (p.1.map kV))/\RelV p.2 q.2.2
theorem KT.val{H:Hp}{ag:List (List bA×V)}{xs:List (List bA×Addr×Value)}(r:KT H ag xs)(k:List bA):jb (jG ag k) ((atKey xs k).map (·.2)):=by
 induction r with
 | nil=>exact True.intro
 | @cons p q ps qs h t ih =>
  obtain⟨h1,_,h2⟩:=h;by_cases e:p.1=k
  ·have e':q.1=k:=h1.symm.trans e;have b:atKey (q::qs) k=some q.2:=by simp[atKey,List.find?_cons,e']
   rw[jH e,b];exact h2
  ·have e':¬q.1=k:=λz=>e (h1.trans z);have b:atKey (q::qs) k=atKey qs k:=by simp[atKey,List.find?_cons,e']
   rw[hZ e,b];exact ih
theorem KT.IK (r : KT H ag xs) (k : List bA)  (ry : RelV y u) :
    KT H (ag.map λkv=>if kv.1=k then (kv.1,y) else kv) (xs.map (putAt k u)):=by
  induction r with
  | nil=>exact .nil
  | @cons p q ps qs h t ih =>
    rw[List.map_cons,List.map_cons];refine .cons ?_ ih;obtain⟨h1,h2,h3⟩:=h;unfold putAt;by_cases e:p.1=k
    · rw[if_pos e,if_pos (h1.symm.trans e)];exact⟨h1,h2,ry⟩
    · rw[if_neg e,if_neg (λz=>e (h1.trans z))];exact⟨h1,h2,h3⟩
theorem KT.put (r : KT H ag xs) (k : List bA)  (hb : H b = some (.tup (k.map kV))) (ry : RelV y u) :
    KT H (dX ag k y) (storedH xs k b u):=by
  have e:(ag.any λkv=>decide (kv.1=k))=(atKey xs k).isSome:=by
    rw[sL,(r.val k).fY,Option.isSome_map]
  unfold dX storedH;rw[e];by_cases q:(atKey xs k).isSome=true
  · rw[if_pos q,if_pos q];exact r.IK k ry
  · rw[if_neg q,if_neg q];exact Paired.snoc r ⟨rfl,hb,ry⟩
theorem KT.keeps(r:KT H ag xs)(ht:∀b ys,H b=some (.tup ys)->H' b=some (.tup ys)):KT H' ag xs :=
 Paired.HU r λ_ _ z=>⟨z.1,ht _ _ z.2.1,z.2.2⟩
section
variable {P:Program} {w:World} {H:Hp} {h:Heap} {a:Addr}
theorem G3(ok:jc P w H h)(e:Rd H a u):bN P w H h a u:=e.ok ok
theorem sM(ok:jc P w H h)(e:Rd H a (.dK ag)):ag.length<=sizeLine/\(a==sysModules)=false/\∃vs,KV ag vs/\h.DictOf (bt P w) a vs :=
 show bN P w H h a (.dK ag) from G3 ok e
theorem sN(ok:jc P w H h)(e:H a=some (.dK ag)):ag.length<=sizeLine/\(a==sysModules)=false/\∃vs,KV ag vs/\h.DictOf (bt P w) a vs:=sM ok (.inl e)
theorem mM(ok:jc P w H h)(e:H a=some (.tup (ks.map kV))):(tupleKind (bt P w)).is h ks a:=by
 obtain⟨_,aC,r,o,h1,h2,n,h3⟩:=(show bN P w H h a (.tup (ks.map kV)) from ok a _ e);exact⟨o,aC.toArray,n,h1,h2,h3,by simpa using ph r⟩
theorem sO (ok : jc P w H h) (e : Rd H a (.dT ag)) : ag.length <= sizeLine /\ (a == sysModules) = false /\
    ∃xs,KT H ag xs/\h.DictOfH (tupleKind (bt P w)) a xs:=by
  obtain⟨z,y,xs,r,o,es,ep,h1,h2,h3,h4,h5⟩:=(show bN P w H h a (.dT ag) from G3 ok e);refine⟨z,y,xs,r,o,es,ep,h1,h2,h3,h4,λx hx=>?_,h5⟩
  have all:∀{l:List (List bA×V)}{m:List (List bA×Addr×Value)},KT H l m->∀x∈m,(tupleKind (bt P w)).is h x.1 x.2.1:=by
    intro l m q
    induction q with
    | nil=>intro x hx;exact nomatch hx
    | @cons p q ps qs hq t ih =>
      intro x hx;rcases List.mem_cons.mp hx with e | hx
      · subst e;exact mM ok (by rw[<- hq.1];exact hq.2.1)
      · exact ih x hx
  exact all r x hx
theorem NG (ok : jc P w H h) (e : H a = some (.dT ag)) : ag.length <= sizeLine /\ (a == sysModules) = false /\
    ∃xs,KT H ag xs/\h.DictOfH (tupleKind (bt P w)) a xs:=sO ok (.inl e)
end
def jg(H:Hp)(a:Addr)(y:V)(r:Option V):Prop :=
 (∃ag k,Rd H a (.dK ag)/\y=kV k/\r=jG ag k)\/∃ag k b,Rd H a (.dT ag)/\y=.ref b/\H b=some (.tup (k.map kV))/\r=jG ag k
def ve(H:Hp)(a:Addr)(y v:V)(H':Hp):Prop :=
 (∃ag k,H a=some (.dK ag)/\y=kV k/\ag.length<sizeLine/\H'=upd H a (.dK (dX ag k v))) \/
 ∃ag k b,H a=some (.dT ag)/\y=.ref b/\H b=some (.tup (k.map kV))/\ag.length<sizeLine/\H'=upd H a (.dT (dX ag k v))
theorem jg.k{H:Hp}{a:Addr}{ag:List (bA×V)}{k:bA}(e:H a=some (.dK ag)):jg H a (kV k) (jG ag k):=.inl ⟨ag,k,.inl e,rfl,rfl⟩
theorem ve.k{H:Hp}{a:Addr}{ag:List (bA×V)}{k:bA}{v:V}(e:H a=some (.dK ag))(hl:ag.length<sizeLine):ve H a (kV k) v (upd H a (.dK (dX ag k v))):=.inl ⟨ag,k,e,rfl,hl,rfl⟩
theorem ve.t {k : List bA} {v : V} (e : H a = some (.dT ag)) (eb : H b = some (.tup (k.map kV))) (hl : ag.length < sizeLine) :
    ve H a (.ref b) v (upd H a (.dT (dX ag k v))):=.inr ⟨ag,k,b,e,rfl,eb,hl,rfl⟩
section
variable {X:Cx} {aa:List (Addr×Obj)} {σ:St} {H:Hp} {s:Shared} {a:Addr} {y v:V} {u r:Value} {o:Option V} {A:Around} {E:Value->Shared->Prop}
theorem Inv.big(I:Inv X aa σ H s):sysModules<s.heap.objs.size:=by
 have h:mainGlobals<s.heap.objs.size:=(I.mod.glob.keeps I.bk).lt;exact Nat.lt_trans (by decide) h
theorem kE (hu : A.units + 1 < cLine) (I : Inv X aa σ H s) (g : jg H a y (some v)) (ry : RelV y u) (h : ∀ w' s', Inv X aa σ H s' -> RelV v w' -> Q w' s') :
    wpAny (model X.prog X.w) A (getItem (.ref a) u) Q E s:=by
  rcases g with⟨ag,k,e,ey,l⟩|⟨ag,k,b,e,ey,eb,l⟩
  · subst ey;obtain⟨z,hd,vs,mN,dd⟩:=sM I.bF e;obtain⟨w',hw,vf⟩:=jb.some_of (v:=v) (o:=valueAt vs k) (by rw[l];exact mN.val k);exact wpAny_getItem_of (pf ry) dd.mapOf hw (h w' _ (I.tok _) vf)
  · subst ey;cases (show u=Value.ref b from ry);obtain⟨z,hd,xs,mN,dd⟩:=sO I.bF e;obtain⟨w',hw,vf⟩:=jb.some_of (v:=v) (o:=(atKey xs k).map (·.2)) (by rw[l];exact mN.val k);obtain⟨p,hp,Yp⟩:=Option.map_eq_some_iff.mp hw;refine wpAny_getItem_heap (tupleKind_room_in1 hu) (mM I.bF eb) dd hp ?_;rw[Yp];exact h w' _ (I.tok _) vf
theorem NH (hu : A.units + 1 < cLine) (I : Inv X aa σ H s) (g : jg H a y o) (ry : RelV y u) (h : ∀ s', Inv X aa σ H s' -> Q (.bool o.isSome) s') :
    wpAny (model X.prog X.w) A (compareOp .In u (.ref a)) Q E s:=by
  rcases g with⟨ag,k,e,ey,l⟩|⟨ag,k,b,e,ey,eb,l⟩
  · subst ey;obtain⟨z,hd,vs,mN,dd⟩:=sM I.bF e;refine wpAny_in_of (pf ry) hd dd.mapOf ?_;rw[<- (mN.val k).fY,<- l];exact h _ (I.tok _)
  · subst ey;cases (show u=Value.ref b from ry);obtain⟨z,hd,xs,mN,dd⟩:=sO I.bF e;refine wpAny_in_heap (tupleKind_room_in1 hu) (mM I.bF eb) hd dd ?_;have q:=(mN.val k).fY;rw[Option.isSome_map]at q;rw[<- q,<- l];exact h _ (I.tok _)
theorem w8 (hu : A.units + 1 < cLine) (I : Inv X aa σ H s) (g : jg H a y o) (ry : RelV y u) (h : ∀ s', Inv X aa σ H s' -> Q (.bool (!o.isSome)) s') :
    wpAny (model X.prog X.w) A (compareOp .NotIn u (.ref a)) Q E s:=by
  rcases g with⟨ag,k,e,ey,l⟩|⟨ag,k,b,e,ey,eb,l⟩
  · subst ey;obtain⟨z,hd,vs,mN,dd⟩:=sM I.bF e;refine wpAny_notIn_of (pf ry) hd dd.mapOf ?_;rw[<- (mN.val k).fY,<- l];exact h _ (I.tok _)
  · subst ey;cases (show u=Value.ref b from ry);obtain⟨z,hd,xs,mN,dd⟩:=sO I.bF e;refine wpAny_notIn_heap (tupleKind_room_in1 hu) (mM I.bF eb) hd dd ?_;have q:=(mN.val k).fY;rw[Option.isSome_map]at q;rw[<- q,<- l];exact h _ (I.tok _)
theorem qe (I : Inv X aa σ H s) (mu : MQ (H a)) (hs : Heap.SameBut a s.heap h') (he : ∃ q, h'.get? a = some q) (new : bN X.prog X.w (upd H a ob) h' a ob) :
    Inv X aa σ (upd H a ob) { s with heap:=h',toks:=t' } :=
  I.write (x:=a) (e:=a) mu (.inl rfl) (λb q hb z=>(hs.2 b hb).trans z) he new
theorem Ax (z : ag.length <= sizeLine) (hd : (a == sysModules) = false) (mN : KV ag vs) (dd : h'.DictOf (bt P w) a vs) :
    bN P w H' h' a (.dK ag):=⟨z,hd,vs,mN,dd⟩
theorem pj {H' : Hp} {Q : Unit -> Shared -> Prop} (hu : A.units + 1 < cLine) (I : Inv X aa σ H s) (g : ve H a y v H') (ry : RelV y u) (rv : RelV v r) (h : ∀ s', Inv X aa σ H' s' -> Q () s') :
    wpAny (model X.prog X.w) A (setItem (.ref a) u r) Q E s:=by
  rcases g with⟨ag,k,e,ey,l,eH⟩|⟨ag,k,b,e,ey,eb,l,eH⟩
  · subst ey eH;obtain⟨z,hd,vs,mN,dd⟩:=sN I.bF e;have hz:vs.length<=sizeLine:=by rw[<- mN.length];exact z
    have hl:(dX ag k v).length<=sizeLine:=by have:=h_ ag k v;omega
    refine wpAny_setItem_pairs (hsz:=hz) (pf ry) dd λh' IL hs=>h _ ?_;have he:∃q,h'.get? a=some q:=let ⟨q,_,_,hq,_⟩:=IL;⟨q,hq⟩
    exact qe I (by rw[e];exact True.intro) hs he (Ax hl hd (mN.put k rv) IL)
  · subst ey eH;cases (show u=Value.ref b from ry);obtain⟨z,hd,xs,mN,dd⟩:=NG I.bF e;have hz:xs.length<=sizeLine:=by rw[<- Paired.length mN];exact z
    have hl:(dX ag k v).length<=sizeLine:=by have:=h_ ag k v;omega
    refine wpAny_setItem_heap (hsz:=hz) (tupleKind_room_in1 hu) (mM I.bF eb) dd λh' IL hs=>h _ ?_;obtain⟨q,es,ep,hq,h2,h3,h4,_,h5⟩:=IL;refine qe I (by rw[e];exact True.intro) hs ⟨q,hq⟩ ⟨hl,hd,_,(mN.put k eb rv).keeps λc ys ec=>?_,q,es,ep,hq,h2,h3,h4,h5⟩;rw[az (MN ec e (λz=>nomatch z))];exact ec
end
theorem ia{X:Cx}{aa:List (Addr×Obj)}{σ:St}{H:Hp}{s:Shared}{a:Addr}{y:V}{o:Option V}(I:Inv X aa σ H s)(g:jg H a y o):s.TypeIs (.ref a) "dict" := by
 rcases g with⟨ag,k,e,_,_⟩|⟨ag,k,b,e,_,_,_⟩
 ·obtain⟨_,_,vs,_,dd⟩:=sM I.bF e;exact dd.typeIs
 ·obtain⟨_,_,xs,_,dd⟩:=sO I.bF e;exact dd.typeIs
theorem sP{P:Program}{w:World}{H:Hp}(h:Heap)(hb:sysModules<h.objs.size):bN P w H (h.push { cls:=.type "dict",data:=.dict #[] }) h.objs.size (.dK []) :=
 ⟨Nat.zero_le _,beq_eq_false_iff_ne.mpr (Ne.symm (Nat.ne_of_lt hb)),[],.nil,Heap.DictOf.new h⟩
theorem Ay{P:Program}{w:World}{H:Hp}(h:Heap)(hb:sysModules<h.objs.size):bN P w H (h.push { cls:=.type "dict",data:=.dict #[] }) h.objs.size (.dT []) :=
 ⟨Nat.zero_le _,beq_eq_false_iff_ne.mpr (Ne.symm (Nat.ne_of_lt hb)),[],.nil,_,#[],0,jE _ rfl,⟨rfl,rfl,rfl⟩,rfl,rfl,List.nodup_nil⟩
def IM:TE:=λ_ H Q=>∀p,H p=none->Q (.ref p) (upd H p (.dK []))
def IP:TE:=λ_ H Q=>∀p,H p=none->Q (.ref p) (upd H p (.dT []))
section
variable {X:Cx} {pos:Pos}
theorem Az:PE X (.Dict [] [] pos) IM:=λaa s σ H Q I h =>
 wpAny_Dict_empty ⟨.ref s.heap.objs.size,_,I.laid (a:=s.heap.objs.size) (o:=.dK []) (t':=s.toks) (λ_ _ q=>ee _ q) (bJ _) (sP s.heap I.big),rfl,h _ (I.bF.fresh (bJ _))⟩
theorem AA:PE X (.Dict [] [] pos) IP:=λaa s σ H Q I h =>
 wpAny_Dict_empty ⟨.ref s.heap.objs.size,_,I.laid (a:=s.heap.objs.size) (o:=.dT []) (t':=s.toks) (λ_ _ q=>ee _ q) (bJ _) (Ay s.heap I.big),rfl,h _ (I.bF.fresh (bJ _))⟩
end
noncomputable def gz:List (TE×TE)->St->Hp->(List (V×V)->Hp->Prop)->Prop
 | [],_,H,Q=>Q [] H
 | (tk,tv)::r,σ,H,Q=>tk σ H λx H1=>tv σ H1 λy H2=>gz r σ H2 λps H3=>Q ((x,y)::ps) H3
abbrev VV:List (V×V)->List (Value×Value)->Prop:=Paired λp q=>RelV p.1 q.1/\RelV p.2 q.2
def Ma(X:Cx)(pos:Pos)(keys:List (Option Expr))(values:List Expr)(oM:List (TE×TE)):Prop :=
 ∀(aa:List (Addr×Obj))(s:Shared)(σ:St)(H:Hp)(Q:List (V×V)->Hp->Prop),Inv X aa σ H s->gz oM σ H Q ->
  wpAny (model X.prog X.w) X.A (evalPairs (pairTrees keys values X.env pos)) (λvs s'=>∃ps H',Inv X aa σ H' s'/\VV ps vs/\Q ps H') X.xe s
theorem D6:Ma X pos [] [] []:=λaa s σ H Q I h=>pairTrees_nil_walk ⟨[],H,I,.nil,h⟩
theorem AB (hk : PE X k tk) (hv : PE X v tv) (hr : Ma X pos ks vs oM) :
    Ma X pos (some k::ks) (v::vs) ((tk,tv)::oM):=λaa s σ H Q I h =>
  pairTrees_cons_walk (cv (hk aa s σ H _ I h) λu s1 ⟨x,H1,I1,rx,q1⟩=>cv (hv aa s1 σ H1 _ I1 q1) λw2 s2 ⟨y,H2,I2,ry,q2⟩ =>
    cv (hr aa s2 σ H2 _ I2 q2) λws s3 ⟨ps,H3,I3,mN,q3⟩=>⟨(x,y)::ps,H3,I3,.cons ⟨rx,ry⟩ mN,q3⟩)
def fP(ag more:List (bA×V)):List (bA×V):=more.foldl (λacc kv=>dX acc kv.1 kv.2) ag
theorem KV.merge:∀{more:List (bA×V)}{rs:List (bA×Value)}{ag:List (bA×V)}{vs:List (bA×Value)},KV more rs->KV ag vs->KV (fP ag more) (merged vs rs):=by
 intro more rs ag vs r;unfold KV at r
 induction r generalizing ag vs with
 | nil=>intro q;exact q
 | @cons p q ps qs h t ih =>
  intro r0
  have e:KV (dX ag p.1 p.2) (stored vs q.1 q.2):=by
   have:=r0.put p.1 h.2;rw[<- h.1];exact this
  exact ih e
theorem iP:∀(more ag:List (bA×V)),(fP ag more).length<=ag.length+more.length
 | [],ag=>by show ag.length<=ag.length+0;omega
 | p::r,ag=>by
  have h1:=iP r (dX ag p.1 p.2);have h2:=h_ ag p.1 p.2;show(fP (dX ag p.1 p.2) r).length<=_;rw[List.length_cons];omega
theorem mO:∀{ag:List (bA×V)}{ws:List (Value×Value)},VV (ag.map λkv=>(kV kv.1,kv.2)) ws->∃rs,Carries (bt P w) ws rs/\KV ag rs
 | [],_,r=>by rw[List.map_nil]at r;cases r;exact⟨[],True.intro,.nil⟩
 | p::ag,_,r=>by
  rw[List.map_cons]at r
  cases r with
  | @cons a b as bs h t =>
   obtain⟨rs,c,q⟩:=mO (P:=P) (w:=w) t;obtain⟨b1,b2⟩:=b;exact⟨(p.1,b2)::rs,⟨pf h.1,rfl,c⟩,.cons ⟨rfl,h.2⟩ q⟩
def NI(oM:List (TE×TE)):TE:=λσ H Q=>∀p,H p=none->gz oM σ (upd H p (.dK [])) λps H2=>H2 p=some (.dK [])/\∃ag:List (bA×V),ps=ag.map (λkv=>(kV kv.1,kv.2))/\ag.length<=15/\Q (.ref p) (upd H2 p (.dK (fP [] ag)))
theorem D7 (h : Ma X pos keys values oM) (vg : keys.all (·.isSome) = true) (hl : keys.length = values.length) (h0 : keys ≠ [])
    (NJ:keys.length<=15):PE X (.Dict keys values pos) (NI oM):=by
  intro aa s σ H Q I q;have hn:=I.bF.fresh (bJ s.heap.objs.size);have I1:=I.laid (a:=s.heap.objs.size) (o:=.dK []) (h':=s.heap.push { cls:=.type "dict",data:=.dict #[] }) (t':=s.toks) (λ_ _ q=>ee _ q) (bJ _) (sP s.heap I.big);refine wpAny_Dict_walk (knd:=bt X.prog X.w) vg hl h0 NJ (cv (h aa _ σ _ _ I1 (q _ hn)) ?_);rintro ws s2 ⟨ps,H2,I2,mN,e,ag,rfl,lk,q2⟩;obtain⟨rs,c,rk⟩:=mO (P:=X.prog) (w:=X.w) mN;obtain⟨z,hd,vs0,r0,dd⟩:=sN I2.bF e;cases r0;refine⟨rs,c,dd,λh' IL hs=>⟨.ref s.heap.objs.size,_,?_,rfl,q2⟩⟩
  have hz:(fP [] ag).length<=sizeLine:=by
    have h1:=iP ag [];rw[List.length_nil]at h1;rw[sizeLine_eq];omega
  have he:∃q,h'.get? s.heap.objs.size=some q:=let ⟨q,_,_,hq,_⟩:=IL;⟨q,hq⟩
  exact qe I2 (by rw[e];exact True.intro) hs he (Ax hz hd (rk.merge .nil) IL)
structure M1 (X:Cx) (o:Expr) (m:Str) (qb:Pos) (e:Expr) (eX:Pos):Prop where
 base:attributeBase o m X.env (eval o X.env)=eval o X.env
 QQ:((backTo eX (starEach [e] X.env)).all (λx=>!x.1)&&(backToKw eX (keywordEach [] X.env)).all (λx=>x.1.isSome)
  && decide (([e]:List Expr).length+([]:List Keyword).length+(if ([]:List Keyword).isEmpty then 0 else 1)<30))=true
 line:(qb.endLine==eX.line)=true
 trees:backTo eX (starEach [e] X.env)=[(false,eval e X.env)]
structure M2 (X:Cx) (o:Expr) (m:Str) (qb:Pos) (e f:Expr) (eX:Pos):Prop where
 base:attributeBase o m X.env (eval o X.env)=eval o X.env
 QQ:((backTo eX (starEach [e,f] X.env)).all (λx=>!x.1)&&(backToKw eX (keywordEach [] X.env)).all (λx=>x.1.isSome)
  && decide (([e,f]:List Expr).length+([]:List Keyword).length+(if ([]:List Keyword).isEmpty then 0 else 1)<30))=true
 line:(qb.endLine==eX.line)=true
 trees:backTo eX (starEach [e,f] X.env)=[(false,eval e X.env),(false,eval f X.env)]
end L2
namespace HT
open PySem PyProof.Rows
section
open PySem.SeqAt
open PySem.AutoSeq1 (wpAny_loadPart')
open PySem.MeetsSeq PySem.MeetsSeq2 PySem.MeetsSeq3
end
section
variable {prog:Program} {w:World} {A:Around} {E:Value->Shared->Prop} {s:Shared}
theorem D8 (ht : IsTup s.heap t vs.toArray) (hb : IsTup s.heap b ws.toArray) (hv : vs ≠ [])
    (h1:ws=[]->Q (.ref t) s) (h2:ws≠[]->Q (.ref s.heap.objs.size) { s with heap:=s.heap.push { cls:=.type "tuple",data:=.seq (vs++ws).toArray } })
    (hsz:vs.length+ws.length<=sizeLine):wpAny (model prog w) A (binaryOp .Add (.ref t) (.ref b)) Q E s:=by
  obtain⟨⟨cls,dd,data,sl⟩,ho,hc,n,hd⟩:=id ht;obtain⟨⟨Tf,QR,data2,QS⟩,AD,zS,n2,hd2⟩:=id hb;simp only at hc hd zS hd2;subst hc hd zS hd2;have e:vs.toArray++ws.toArray=(vs++ws).toArray:=by simp
  by_cases hw:ws=[]
  · exact concat_meets ⟨_, ho, rfl⟩ ⟨_, AD, rfl⟩ noFill_tuple_add seq_tuple_add PySem.F.slot_tuple_add PySem.F.entry_tuple_add (PySem.F.args_tuple_add_2 _ _)
      (tuple_addW1 t b vs.toArray ws.toArray n n2 dd QR sl QS (by simpa using hv) (by simp[hw])) ⟨ho,AD,h1 hw⟩
  · refine concat_meets ⟨_, ho, rfl⟩ ⟨_, AD, rfl⟩ noFill_tuple_add seq_tuple_add PySem.F.slot_tuple_add PySem.F.entry_tuple_add (PySem.F.args_tuple_add_2 _ _)
      (tuple_addW2 t b vs.toArray ws.toArray n n2 dd QR sl QS (by simpa using hv) (by simpa using hw) (by rw[iq,iq];exact hsz)) ⟨ho,AD,?_⟩
    rw[e];exact h2 hw
noncomputable def dW(n d:Nat):Option Int->Nat
 | none=>d
 | some v=>if v<0 then (v+(n:Int)).toNat else min v.toNat n
theorem IQ(n d:Nat)(hd:d<=n)(o:Option Int):dW n d o<=n:=by
 cases o with
 | none=>exact hd
 | some v =>
  show(if v<0 then (v+(n:Int)).toNat else min v.toNat n)<=n;by_cases hv:v<0
  ·rw[if_pos hv];omega
  ·rw[if_neg hv];exact Nat.min_le_right _ _
theorem w_(v:Int)(n d:Nat):(if v<0 then max (v+(n:Int)) 0 else min v (n:Int))=((dW n d (some v):Nat):Int):=by
 show(if v<0 then max (v+(n:Int)) 0 else min v (n:Int))=(((if v<0 then (v+(n:Int)).toNat else min v.toNat n):Nat):Int);by_cases hv:v<0
 ·simp only[if_pos hv];omega
 ·simp only[if_neg hv];omega
theorem vh(lo hi:Option Int)(n:Nat):Builtin.Slice.sliceAdjust lo hi 1 (n:Int)=(((dW n 0 lo:Nat):Int),((dW n n hi:Nat):Int)):=by
 have h1:¬((1:Int)<0):=∅;unfold Builtin.Slice.sliceAdjust;simp only[h1,if_false];refine Prod.ext ?_ ?_
 ·cases lo with
  | none=>rfl
  | some v=>exact w_ v n 0
 ·cases hi with
  | none=>rfl
  | some v=>exact w_ v n n
theorem vj(i j:Nat):Builtin.Slice.slicePlaces (i:Int) (j:Int) 1=j-i:=by
 unfold Builtin.Slice.slicePlaces;have h1:(1:Int)>0:=∅;simp only[h1,if_true,Int.ediv_one];split<;>omega
theorem mP(p:IsPart v o)(h:Q o s):wpAny (model prog w) A (Builtin.Slice.slicePartIndex v) Q E s:=by
 cases p with
 | none=>exact slicePart_none h
 | int i t=>exact slicePart_int h
theorem kF {lo hi : Option Int} {n : Nat}  (hs : s.heap.IsSliceOf sl vl vu .none) (pl : IsPart vl lo) (pu : IsPart vu hi)
    (h:Q (((dW n 0 lo:Nat):Int),1,dW n n hi-dW n 0 lo) s):wpAny (model prog w) A (Builtin.Slice.sliceApplied (.ref sl) (pure (n:Int))) Q E s:=by
  obtain⟨os,AE,NK,D9⟩:=id hs;unfold Builtin.Slice.sliceApplied Builtin.Slice.sliceFields;refine wpAny_bind (wpAny_bind (wpAny_field AE D9 (x:=vl) rfl (wpAny_bind (wpAny_field AE D9 (x:=vu) rfl (wpAny_bind (wpAny_field AE D9 (x:=.none) rfl (wpAny_pure ?_)))))));refine wpAny_bind (slicePart_none ?_);show wpAny _ _ (if ((1:Int)==0)=true then _ else _) _ _ s;rw[if_neg (by decide)];refine wpAny_bind (mP pl (wpAny_bind (mP pu (wpAny_bind (wpAny_pure ?_)))));show wpAny _ _ (match Builtin.Slice.sliceAdjust lo hi 1 (n:Int)with | (lo,hi)=>pure (lo,(1:Int),Builtin.Slice.slicePlaces lo hi 1)) _ _ s;rw[vh lo hi n];show wpAny _ _ (pure (((dW n 0 lo:Nat):Int),(1:Int),Builtin.Slice.slicePlaces ((dW n 0 lo:Nat):Int) ((dW n n hi:Nat):Int) 1)) _ _ s;rw[vj];exact wpAny_pure h
theorem AF(xs:Array Value)(i k:Nat):((List.range k).filterMap λ(m:Nat)=>xs[((i:Int)+(m:Int)*1).toNat]?).toArray=((xs.toList.drop i).take k).toArray:=by
 have e:(λ(m:Nat)=>xs[((i:Int)+(m:Int)*1).toNat]?)=λm=>xs[i+m]?:=by
  funext m;have:((i:Int)+(m:Int)*1).toNat=i+m:=∅;rw[this]
 rw[e];have:=pick_run xs i k;rw[List.filterMap_map]at this;have e2:((λx=>xs[x]?)∘λx=>i+x)=λm=>xs[i+m]?:=rfl;rw[e2]at this;rw[this]
theorem jJ {lo hi : Option Int}  (ht : IsTup s.heap t items) (hs : s.heap.IsSliceOf sl vl vu .none) (pl : IsPart vl lo) (pu : IsPart vu hi)
    (hw:¬(dW items.size 0 lo=0/\dW items.size items.size hi=items.size))
    (h:Q (.ref s.heap.objs.size) { s with heap:=s.heap.push { cls:=.type "tuple",data:=.seq ((items.toList.drop (dW items.size 0 lo)).take (dW items.size items.size hi-dW items.size 0 lo)).toArray } })
    (hsz:items.size<=sizeLine):wpAny (model prog w) A (getItem (.ref t) (.ref sl)) Q E s:=by
  have xa:sizeOk (.seq ((items.toList.drop (dW items.size 0 lo)).take (dW items.size items.size hi-dW items.size 0 lo)).toArray):=by
    show((items.toList.drop (dW items.size 0 lo)).take (dW items.size items.size hi-dW items.size 0 lo)).toArray.size<=sizeLine;rw[iq,List.length_take,List.length_drop,Array.length_toList];omega
  have hj:dW items.size items.size hi<=items.size:=IQ _ _ (bJ _) hi;obtain⟨os,AE,NK,D9⟩:=id hs;have Tg:s.TypeIs (.ref sl) "slice" := ⟨os,AE,NK⟩;unfold getItem
  try with_reducible refine wpAny_holding ?_
  first | refine wpAny_bind (wpAny_pure ?_) | skip
  refine wpAny_bind (wpAny_sequenceKey ht.typeIs (by decide) ?_)
  refine wpAny_bind (wpAny_callSpecial?_slot (name:=Str.ofString "__getitem__") ht.typeIs PyProof.Rows.slot_tuple_getitem
    (wpAny_call_entry PyProof.Rows.slot_tuple_getitem ht.typeIs entry_tuple_getitem ?_ (args_tuple_getitem _ _)))
  show wpAny _ _ (Builtin.Tuple.tupleItemsOf (.ref t) >>= _) _ _ s;refine wpAny_bind (tupleItemsOf_ ht ?_);refine wpAny_bind (wpAny_typeOf Tg ?_);rw[if_pos (by decide)];refine wpAny_bind (kF hs pl pu ?_)
  have Mb:¬((((dW items.size 0 lo:Nat):Int)==0&&(1:Int)==1&&(dW items.size items.size hi-dW items.size 0 lo)==items.size)=true):=by
    intro q;rw[cu,cu]at q;have q1:((dW items.size 0 lo:Nat):Int)=0:=eq_of_beq q.1.1;have q2:dW items.size items.size hi-dW items.size 0 lo=items.size:=eq_of_beq q.2;exact hw ⟨∅,∅⟩
  show wpAny _ _ (if (((dW items.size 0 lo:Nat):Int)==0&&(1:Int)==1&&(dW items.size items.size hi-dW items.size 0 lo)==items.size)=true then _ else _) _ _ s;rw[if_neg Mb,AF]
  first
    | exact wpAny_bind (m:=Builtin.Tuple.tupleExact _) (wpAny_newObj_type (wpAny_pure ⟨_,rfl,wpAny_pure h⟩) xa)
    | exact wpAny_bind (m:=Builtin.Tuple.tupleExact _) (wpAny_newObj_type (wpAny_bind (wpAny_pure (wpAny_pure ⟨_,rfl,wpAny_pure h⟩))) xa)
    | exact wpAny_bind (wpAny_bind (m:=Builtin.Tuple.tupleExact _) (wpAny_newObj_type (wpAny_pure (wpAny_pure ⟨_,rfl,wpAny_pure h⟩)) xa))
    | exact wpAny_bind (wpAny_bind (m:=Builtin.Tuple.tupleExact _) (wpAny_newObj_type (wpAny_pure ⟨_,rfl,wpAny_pure h⟩) xa))
end
end HT
namespace L2
open PySem PySem.Spec PyProof.Rows
abbrev TO:=St->Hp->(Option Int->Hp->Prop)->Prop
noncomputable def PO(X:Cx)(e:Option Expr)(t:TO):Prop :=
 ∀(aa:List (Addr×Obj))(s:Shared)(σ:St)(H:Hp)(Q:Option Int->Hp->Prop),Inv X aa σ H s->t σ H Q ->
  wpAny (model X.prog X.w) X.A (evalPart e X.env) (λu s'=>∃o H',Inv X aa σ H' s'/\IsPart u o/\Q o H') X.xe s
def D_:TO:=λ_ H Q=>Q none H
noncomputable def NL(t:TE):TO:=λσ H Q=>t σ H λx H1=>∃i,x=.int i/\Q (some i) H1
section
variable {X:Cx} {e:Expr} {te:TE} {lo hi:Option Expr} {tl th:TO} {pos p2:Pos}
theorem Ea:PO X none D_:=by
 intro aa s σ H Q I h;rw[evalPart_none];exact wpAny_pure ⟨none,H,I,.none,h⟩
theorem Eb(h:PE X e te):PO X (some e) (NL te):=by
 intro aa s σ H Q I hw;rw[evalPart_some];refine cv (h aa s σ H _ I hw) ?_;rintro u s1 ⟨x,H1,I1,r1,q1⟩;obtain⟨i,rfl,q⟩:=q1;obtain⟨t,rfl⟩:=r1;exact⟨some i,H1,I1,.int i t,q⟩
def QT(X:Cx)(r:V->Option Int->Option Int->Hp->VK->Prop):Prop :=
 ∀(aa:List (Addr×Obj))(s:Shared)(σ:St)(H:Hp)(x:V)(v vl vu:Value)(lo hi:Option Int)(sl:Addr)(Q:VK),Inv X aa σ H s->RelV x v->s.heap.IsSliceOf sl vl vu .none->IsPart vl lo->IsPart vu hi->r x lo hi H Q ->
  ∃T id,typeLookup (.type T) "__getitem__" = pure (some (.builtin id))/\s.TypeIs v T/\wpAny (model X.prog X.w) X.A (getItem v (.ref sl)) (EP X aa σ Q) X.xe s
noncomputable def Yq(r:V->Option Int->Option Int->Hp->VK->Prop)(te:TE)(tl th:TO):TE:=λσ H Q=>te σ H λx H1=>tl σ H1 λl H2=>th σ H2 λu H3=>r x l u H3 Q
theorem AG(hr:QT X r)(he:PE X e te)(hl:PO X lo tl)(hu:PO X hi th):PE X (.Subscript e (.Slice lo hi none p2) pos) (Yq r te tl th):=by
 intro aa s σ H Q I h;refine Subscript_ (cv (he aa s σ H _ I h) ?_);rintro v s1 ⟨x,H1,I1,r1,q1⟩;refine wpAny_Slice (cv (hl aa s1 σ H1 _ I1 q1) λvl s2 ⟨l,H2,I2,pl,q2⟩=>cv (hu aa s2 σ H2 _ I2 q2) λvu s3 ⟨u,H3,I3,pu,q3⟩=>?_);rw[evalPart_none];refine wpAny_pure ?_;have I4:Inv X aa σ H3 { s3 with heap:=s3.heap.push { cls:=.type "slice",data:=.fields #[vl,vu,.none] } }:=I3.kept (t':=s3.toks) λb ob q=>ee _ q;obtain⟨T,id,hT,ht,hg⟩:=hr aa { s3 with heap:=s3.heap.push { cls:=.type "slice",data:=.fields #[vl,vu,.none] } } σ H3 x v vl vu l u s3.heap.objs.size Q I4 r1 (Heap.IsSliceOf.new ..) pl pu q3;show wpAny (model X.prog X.w) X.A (subscriptTail e (.Slice lo hi none p2) v (.ref s3.heap.objs.size)) (EP X aa σ Q) X.xe { s3 with heap:=s3.heap.push { cls:=.type "slice",data:=.fields #[vl,vu,.none] } };exact tail_any (ops:=[.ref s3.heap.objs.size,v]) ht hT hg (by with_unfolding_all rfl)
def sQ(xs:List V)(lo hi:Option Int):List V:=(xs.drop (HT.dW xs.length 0 lo)).take (HT.dW xs.length xs.length hi-HT.dW xs.length 0 lo)
theorem lu(xs:List V)(lo hi:Option Int):(sQ xs lo hi).length<=xs.length:=by
 unfold sQ;rw[List.length_take,List.length_drop];omega
def Th(K:PySem.W.Frag):V->Option Int->Option Int->Hp->VK->Prop:=λx lo hi H Q=>∃a xs,x=.ref a/\fz K H a xs /\
 ¬(HT.dW xs.length 0 lo=0/\HT.dW xs.length xs.length hi=xs.length)/\∀p,H p=none->Q (.ref p) (upd H p (.tup (sQ xs lo hi)))
theorem IS:QT X (Th X.K):=by
 intro aa s σ H x v vl vu lo hi sl Q I rx hs pl pu h;obtain⟨a,xs,rfl,hx,hw,q⟩:=h;cases rx;obtain⟨aC,r,ht,hz⟩:=I.tuple hx;have aR:aC.toArray.size=xs.length:=by rw[iq];exact r.length.symm
 refine⟨"tuple",_,PyProof.Rows.slot_tuple_getitem.lookup,ht.typeIs,?_⟩;refine HT.jJ ht hs pl pu (by rw[aR];exact hw) ?_ (by rw[aR];exact hz);rw[aR];refine⟨.ref s.heap.objs.size,_,I.laid (t':=s.toks) (o:=.tup (sQ xs lo hi)) (λb ob q=>ee _ q) (bJ _) ?_,rfl,q _ (I.bF.fresh (bJ _))⟩;exact⟨Nat.le_trans (lu xs lo hi) hz,_,(r.drop (HT.dW xs.length 0 lo)).take (HT.dW xs.length xs.length hi-HT.dW xs.length 0 lo),IsTup.new _ _⟩
def NM(K:PySem.W.Frag):R2:=λx y H Q=>∃a b xs ys,x=.ref a/\y=.ref b/\fz K H a xs/\fz K H b ys/\xs≠[]/\xs.length+ys.length<=sizeLine /\
 (ys=[]->Q (.ref a) H)/\(ys≠[]->∀p,H p=none->Q (.ref p) (upd H p (.tup (xs++ys))))
theorem aN.qf(r:aN xs us):us=[]↔xs=[]:=by
 cases r with
 | nil=>simp
 | cons _ _=>simp
theorem Ec:iL X (binaryOp .Add) (NM X.K):=by
 intro aa s σ H x y v u Q I rx ry h;obtain⟨a,b,xs,ys,rfl,rfl,ha,hb,hx,hz,q1,q2⟩:=h;cases rx;cases ry;obtain⟨aC,r1,p1,_⟩:=I.tuple ha;obtain⟨AH,r2,p2,_⟩:=I.tuple hb;refine HT.D8 p1 p2 (λz=>hx (r1.qf.mp z)) (λz=>⟨.ref a,H,I,rfl,q1 (r2.qf.mp z)⟩) (λz=>?_) (by rw[<- r1.length,<- r2.length];exact hz);refine⟨.ref s.heap.objs.size,_,I.laid (t':=s.toks) (o:=.tup (xs++ys)) (λb ob q=>ee _ q) (bJ _) ?_,rfl,q2 (λw=>z (r2.qf.mpr w)) _ (I.bF.fresh (bJ _))⟩;exact⟨by rw[gV];exact hz,_,r1.append r2,IsTup.new _ _⟩
end
noncomputable def AI(n:Nat)(i:Int):Option Nat:=if 0<=i then (if i<n then some i.toNat else none) else if -(n:Int)<=i then some (i+n).toNat else none
def xb{α:Type}(xs:List α)(i:Int):Option α:=(AI xs.length i).bind λj=>xs[j]?
theorem xf(h:AI n i=some j):seqIndex? i n=some j/\j<n/\-(n:Int)<=i/\i<n:=by
 unfold AI at h;by_cases h0:0<=i
 ·rw[if_pos h0]at h;by_cases h1:i<n
  ·rw[if_pos h1]at h;have e:i.toNat=j:=eU h;exact⟨by rw[seqIndex_of h0 h1,e],∅,∅,h1⟩
  ·rw[if_neg h1]at h;cases h
 ·rw[if_neg h0]at h;by_cases h1:-(n:Int)<=i
  ·rw[if_pos h1]at h;have e:(i+n).toNat=j:=eU h;exact⟨by rw[seqIndex_neg (∅) h1,e],∅,h1,∅⟩
  ·rw[if_neg h1]at h;cases h
theorem qg{α:Type}{xs:List α}{i:Int}{v:α}(h:xb xs i=some v):∃j,seqIndex? i xs.length=some j/\xs[j]?=some v/\j<xs.length/\-(xs.length:Int)<=i/\i<xs.length:=by
 unfold xb at h
 cases e:AI xs.length i with
 | none=>rw[e]at h;cases h
 | some j =>
  rw[e]at h;obtain⟨h1,h2,h3,h4⟩:=xf e;exact⟨j,h1,h,h2,h3,h4⟩
noncomputable def xg(b:Expr):Prop:=∀o i,subscripted b false o i=operate [o,i] (getItem o i)
def Mc(X:Cx)(r:R2):Prop :=
 ∀(value iQ:Expr)(aa:List (Addr×Obj))(s:Shared)(σ:St)(H:Hp)(x y:V)(v u:Value)(Q:VK),Inv X aa σ H s->RelV x v->RelV y u->r x y H Q ->
  subscripted iQ false v u=operate [v,u] (getItem v u)->wpAny (model X.prog X.w) X.A (subscriptTail value iQ v u) (EP X aa σ Q) X.xe s
def G4(X:Cx)(id:String)(r:V->List V->Hp->VK->Prop):Prop :=
 ∀(aa:List (Addr×Obj))(s:Shared)(σ:St)(H:Hp)(x:V)(xs:List V)(v:Value)(us:List Value)(Q:VK),Inv X aa σ H s->RelV x v->aN xs us->r x xs H Q ->
  wpAny (model X.prog X.w) X.A (call (.builtin id) (v::us)) (EP X aa σ Q) X.xe s
section
variable {X:Cx} {a b:Expr} {ta tb:TE} {pos:Pos}
theorem G5{r:R2}(hr:Mc X r)(ha:PE X a ta)(hb:PE X b tb)(hs:xg b):PE X (.Subscript a b pos) (DB r ta tb):=by
 intro aa s σ H Q I h;exact Subscript_ (Iu ha hb I h λv u s2 x y H2 I2 rx ry q=>hr a b aa s2 σ H2 x y v u Q I2 rx ry q (hs _ _))
def Ti(K:PySem.W.Frag):R2:=λx y H Q=>∃p xs i v,x=.ref p/\y=.int i/\eG K H p xs/\xb xs i=some v/\Q v H
def Tj(K:PySem.W.Frag):R2:=λx y H Q=>∃p xs i v,x=.ref p/\y=.int i/\fz K H p xs/\xb xs i=some v/\Q v H
def Tn:R2:=λx y H Q=>∃z i c,x=.str z/\y=.int i/\z.length<=sizeLine/\xb z.cps.toList i=some c/\Q (.str ⟨#[c]⟩) H
theorem Ed:Mc X (Ti X.K):=by
 intro value iQ aa s σ H x y v u Q I rx ry h hs;obtain⟨p,xs,i,z,rfl,rfl,hq,he,q⟩:=h;cases rx;obtain⟨t,rfl⟩:=ry;obtain⟨aC,r,pl,hz⟩:=I.list hq;obtain⟨j,h1,h2,h3,h4,h5⟩:=qg he;obtain⟨w,ew,vf⟩:=r.get h2;have hl:=r.length;have hn:=je;have fin:EP X aa σ Q w s:=⟨z,H,I,vf,q⟩;by_cases h0:0<=i
 ·have hj:i.toNat=j:=by
   rw[seqIndex_of h0 h5]at h1;exact eU h1
  exact item_listR pl.isList h0 (∅) (by rw[hj];simpa using ew) fin hs
 ·have hj:(i+(aC.toArray.size:Int)).toNat=j:=by
   rw[seqIndex_neg (∅) h4]at h1;rw[iq,<- hl];exact eU h1
  exact subscriptTail_builtinR (x:=w) pl.isList.typeIs slot_list_getitem.lookup
   (wpAny_getItem_list_neg (Q:=λr s'=>r=w/\EP X aa σ Q r s') pl.isList (∅) (by rw[iq]<;>omega) (∅) (by rw[hj];simpa using ew) ⟨rfl,fin⟩) hs
theorem IT:Mc X (Tj X.K):=by
 intro value iQ aa s σ H x y v u Q I rx ry h hs;obtain⟨p,xs,i,z,rfl,rfl,hq,he,q⟩:=h;cases rx;obtain⟨t,rfl⟩:=ry;obtain⟨aC,r,pl,hz⟩:=I.tuple hq;obtain⟨j,h1,h2,h3,h4,h5⟩:=qg he;obtain⟨w,ew,vf⟩:=r.get h2;have hl:=r.length;have hn:=je;have fin:EP X aa σ Q w s:=⟨z,H,I,vf,q⟩
 exact subscriptTail_builtinR (x:=w) pl.typeIs slot_tuple_getitem.lookup
  (getItem_tuple (j:=j) (Q:=λr s'=>r=w/\EP X aa σ Q r s') pl (∅) (∅) (by rw[iq,<- hl];exact h1) (by simpa using ew) ⟨rfl,fin⟩) hs
theorem IU:Mc X Tn:=by
 intro value iQ aa s σ H x y v u Q I rx ry h hs;obtain⟨z,i,c,rfl,rfl,hz,he,q⟩:=h;obtain⟨t,rfl⟩:=rx;obtain⟨t',rfl⟩:=ry;obtain⟨j,h1,h2,h3,h4,h5⟩:=qg he;have hl:z.cps.toList.length=z.length:=by simp[Str.length]
 rw[hl]at h1 h4 h5;have hn:=je
 exact tail_any (typeIs_str s z t) slot_str_getitem.lookup (getItem_str (c:=c) (by
  have e1:decide (i < -(2 ^ 63:Int))=false:=decide_eq_false (∅);have e2:decide (i ≥ 2 ^ 63)=false:=decide_eq_false (∅);rw[e1,e2,Bool.or_false]) (by rw[h1];simpa using h2) ⟨.str ⟨#[c]⟩,H,I.tok _,⟨_,rfl⟩,q⟩) hs
theorem vk(aC:List Value)(n j:Nat)(u:Value):Obj.mapSeq (·.setIfInBounds j u) { cls:=.type "list",data:=.seq aC.toArray n }={ cls:=.type "list",data:=.seq (aC.set j u).toArray n }:=by
 simp[Obj.mapSeq]
theorem Inv.lst (I : Inv X aa σ H s) (h : H p = some (.lst xs)) :
    ∃(aC:List Value) (n:Nat),aN xs aC/\s.heap.get? p=some { cls:=.type "list",data:=.seq aC.toArray n }/\xs.length<=sizeLine:=by
  obtain⟨z,aC,n,r,e⟩:=I.bF p _ h;exact⟨aC,n,r,e,z⟩
theorem Inv.IV {xs ys : List V} {aC its' : List Value} {n n' : Nat}  (I : Inv X aa σ H s) (h : H p = some (.lst xs))
    (ho:s.heap.get? p=some { cls:=.type "list",data:=.seq aC.toArray n }) (hf:f { cls:=.type "list",data:=.seq aC.toArray n }={ cls:=.type "list",data:=.seq its'.toArray n' }) (r:aN ys its') (hz:ys.length<=sizeLine) (t:Nat) :
    Inv X aa σ (upd H p (.lst ys)) { s with heap:=s.heap.update p f,toks:=t }:=by
  have e:(s.heap.update p f).get? p=some { cls:=.type "list",data:=.seq its'.toArray n' }:=by
    rw[Heap.get?_update_self f ho (by rw[hf]<;>rfl),hf]
  refine I.write (x:=p) (e:=p) (by rw[h];trivial) (.inl rfl) (λb u hb q=>(Heap.get?_update_other _ _ (Ne.symm hb)).trans q) ⟨_,e⟩ ?_;exact⟨hz,its',n',r,e⟩
def NN:V->V->V->Hp->(Hp->Prop)->Prop:=λo i v H Q=>∃p xs k j,o=.ref p/\i=.int k/\H p=some (.lst xs)/\AI xs.length k=some j/\Q (upd H p (.lst (xs.set j v)))
theorem AJ:DX X NN:=by
 intro aa s σ H o i v ov iv u Q I ro ri rv h;obtain⟨p,xs,k,j,rfl,rfl,hp,hj,q⟩:=h;cases ro;obtain⟨t,rfl⟩:=ri;obtain⟨aC,n,r,ho,hz⟩:=I.lst hp;obtain⟨h1,h2,h3,h4⟩:=xf hj;have hl:=r.length;have hn:=je
 have I':Inv X aa σ (upd H p (.lst (xs.set j v))) { s with heap:=s.heap.update p (Obj.mapSeq (·.setIfInBounds j u)) } :=
  I.IV hp ho (vk aC n j u) (r.set rv j) (by rw[List.length_set];exact hz) s.toks
 by_cases h0:0<=k
 ·have hk:k.toNat=j:=by
   rw[seqIndex_of h0 h4]at h1;exact eU h1
  exact PySem.W.ki_setAt ho h0 (∅) (by rw[iq,<- hl];exact h4) (by rw[hk];exact⟨_,I',q⟩)
 ·have hk:(k+(aC.toArray.size:Int)).toNat=j:=by
   rw[seqIndex_neg (∅) h3]at h1;rw[iq,<- hl];exact eU h1
  exact PySem.W.ki_setBack ho (∅) (by rw[iq,<- hl];exact h3) (∅) (by rw[hk];exact⟨_,I',q⟩)
theorem qh(lo hi:Option Int)(n:Nat):(sliceBounds lo hi none n).1=((HT.dW n 0 lo:Nat):Int)/\(sliceBounds lo hi none n).2.1=((HT.dW n n hi:Nat):Int)/\(sliceBounds lo hi none n).2.2=1:=by
 refine⟨?_,?_,rfl⟩
 ·cases lo with
  | none=>simp[sliceBounds,HT.dW]
  | some i =>
   simp only[sliceBounds,HT.dW,Option.getD_none,show(1:Int)>0 by decide,if_true];by_cases h:i<0
   ·simp only[h,if_true]<;>omega
   ·simp only[h,if_false]<;>omega
 ·cases hi with
  | none=>simp[sliceBounds,HT.dW]
  | some i =>
   simp only[sliceBounds,HT.dW,Option.getD_none,show(1:Int)>0 by decide,if_true];by_cases h:i<0
   ·simp only[h,if_true]<;>omega
   ·simp only[h,if_false]<;>omega
theorem oN(aC:List Value)(lo hi:Option Int):slicePick aC.toArray lo hi none=((aC.drop (HT.dW aC.length 0 lo)).take (HT.dW aC.length aC.length hi-HT.dW aC.length 0 lo)).toArray:=by
 obtain⟨h1,h2,h3⟩:=qh lo hi aC.toArray.size;unfold slicePick;rw[h1,h2,h3];simp only[sliceRange_one,pick_run,iq]<;>rfl
def To(K:PySem.W.Frag):V->Option Int->Option Int->Hp->VK->Prop:=λx lo hi H Q=>∃a xs,x=.ref a/\eG K H a xs/\∀p,H p=none->Q (.ref p) (upd H p (.lst (sQ xs lo hi)))
theorem Ee:QT X (To X.K):=by
 intro aa s σ H x v vl vu lo hi sl Q I rx hs pl pu h;obtain⟨a,xs,rfl,hx,q⟩:=h;cases rx;obtain⟨aC,r,ht,hz⟩:=I.list hx;have aR:=r.length;refine⟨"list",_,slot_list_getitem.lookup,ht.isList.typeIs,?_⟩;refine wpAny_getItem_list_slice ht.isList hs pl pu .none (by simp) ?_ (by rw[iq]<;>omega);rw[oN,<- aR];refine⟨.ref s.heap.objs.size,_,I.laid (t':=s.toks) (o:=.lst (sQ xs lo hi)) (λb ob q=>ee _ q) (bJ _) ?_,rfl,q _ (I.bF.fresh (bJ _))⟩;exact⟨Nat.le_trans (lu xs lo hi) hz,_,0,(r.drop (HT.dW xs.length 0 lo)).take (HT.dW xs.length xs.length hi-HT.dW xs.length 0 lo),jE _ rfl⟩
theorem qj:dN X (.builtin "len") (λxs H Q=>∃p ys,xs=[.ref p]/\(eG X.K H p ys\/fz X.K H p ys)/\Q (.int ys.length) H):=by
 intro aa s σ H xs us Q I r h;obtain⟨p,ys,rfl,hq,q⟩:=h;obtain⟨u,rfl,rx⟩:=vals1 r;cases rx;have hn:=je;rcases hq with hq | hq
 ·obtain⟨aC,r',pl,hz⟩:=I.list hq;have aR:=r'.length;exact Calls.call_len_list pl.isList (by simp only[iq]<;>omega) ⟨.int ys.length,H,I.tok _,⟨s.toks+1,by rw[iq,aR]⟩,q⟩
 ·obtain⟨aC,r',pl,hz⟩:=I.tuple hq;have aR:=r'.length;exact len_tuple pl (by simp only[iq]<;>omega) ⟨.int ys.length,H,I.tok _,⟨s.toks+1,by rw[iq,aR]⟩,q⟩
theorem qo:dN X (.builtin "len") (λxs H Q=>∃z,xs=[.str z]/\z.length<=sizeLine/\Q (.int z.length) H):=by
 intro aa s σ H xs us Q I r h;obtain⟨z,rfl,hz,q⟩:=h;obtain⟨u,rfl,t,rfl⟩:=vals1 r;have hn:=je;exact len_str (∅) ⟨.int z.length,H,I.tok _,⟨_,rfl⟩,q⟩
theorem qq:dN X (.type "list") (λxs H Q=>∃p ys,xs=[.ref p]/\(eG X.K H p ys\/fz X.K H p ys)/\∀l,H l=none->Q (.ref l) (upd H l (.lst ys))):=by
  intro aa s σ H xs us Q I r h;obtain⟨p,ys,rfl,hq,q⟩:=h;obtain⟨u,rfl,rx⟩:=vals1 r;cases rx
  have fin : ∀ (aC : List Value), aN ys aC -> ys.length <= sizeLine -> ∀ (h' : Heap) (c' : Nat), (∀ b o', s.heap.get? b = some o' -> h'.get? b = some o') ->
      h'.get? s.heap.objs.size=some { cls:=.type "list",dict:=none,data:=.seq aC.toArray c',slots:=#[] }->EP X aa σ Q (.ref s.heap.objs.size) { s with heap:=h' }:=λaC r' hz h' c' kp e =>
    ⟨.ref s.heap.objs.size,_,I.laid (t':=s.toks) kp (bJ _) (show bN X.prog X.w _ h' _ (.lst ys) from ⟨hz,aC,c',r',e⟩),rfl,q _ (I.bF.fresh (bJ _))⟩
  rcases hq with hq | hq
  · obtain⟨aC,r',pl,hz⟩:=I.list hq;have aR:=r'.length;obtain⟨o,ho,hc,n,hd⟩:=pl.isList;exact call_list_seq p (.inl rfl) ho hc hd (λh' c' kp e=>fin aC r' hz h' c' kp e) (by simp only[iq]<;>omega)
  · obtain⟨aC,r',pl,hz⟩:=I.tuple hq;have aR:=r'.length;obtain⟨o,ho,hc,n,hd⟩:=pl;exact call_list_seq p (.inr rfl) ho hc hd (λh' c' kp e=>fin aC r' hz h' c' kp e) (by simp only[iq]<;>omega)
theorem iR:dN X (.type "tuple") (λxs H Q=>∃p ys,xs=[.ref p]/\((eG X.K H p ys/\∀l,H l=none->Q (.ref l) (upd H l (.tup ys)))\/(fz X.K H p ys/\Q (.ref p) H))):=by
 intro aa s σ H xs us Q I r h;obtain⟨p,ys,rfl,h⟩:=h;obtain⟨u,rfl,rx⟩:=vals1 r;cases rx;rcases h with⟨hq,q⟩|⟨hq,q⟩
 ·obtain⟨aC,r',pl,hz⟩:=I.list hq;have aR:=r'.length;refine call_tuple_list pl.isList (λh' kp=>?_) (by simp only[iq]<;>omega);have I1:Inv X aa σ H { s with heap:=h' }:=I.kept (t':=s.toks) kp
  have I2:Inv X aa σ (upd H h'.objs.size (.tup ys)) { s with heap:=h'.push { cls:=.type "tuple",data:=.seq aC.toArray } } :=
   I1.laid (t':=s.toks) (λb o e=>ee _ e) (bJ _) (show bN X.prog X.w _ _ _ (.tup ys) from ⟨hz,aC,r',IsTup.new _ _⟩)
  exact⟨.ref h'.objs.size,_,I2,rfl,q _ (I1.bF.fresh (bJ _))⟩
 ·obtain⟨aC,r',pl,hz⟩:=I.tuple hq;exact call_tuple_same pl ⟨.ref p,H,I,rfl,q⟩
def Tp(K:PySem.W.Frag)(T:String)(x:V)(H:Hp):Prop:=match x with
  | .str _=>T = "str"
  | .int _=>T = "int"
  | .ref p => (T = "list" /\ ∃ xs, eG K H p xs) \/ (T = "tuple" /\ ∃ o, K.lookup p = some o /\ o.cls = .type "tuple" /\ o.dict = none) \/
      (T = "dict" /\ ((∃ag,H p=some (.dK ag))\/∃ag,H p=some (.dT ag)))\/(T = "set" /\ ∃S n,H p=some (.set S n))
  | _=>False
theorem AK (I : Inv X aa σ H s) (r : RelV x v) (ty : Tp X.K T x H) :
    s.TypeIs v T/\∀a,v=.ref a->∃ob,s.heap.get? a=some ob/\ob.dict=none:=by
  cases x with
  | str z =>
    obtain⟨t,rfl⟩:=r;cases (show T = "str" from ty);exact⟨typeIs_str s z t,λ_ e=>nomatch e⟩
  | int i =>
    obtain⟨t,rfl⟩:=r;cases (show T = "int" from ty);exact⟨typeIs_int s i t,λ_ e=>nomatch e⟩
  | ref p =>
    cases r;rcases ty with⟨rfl,xs,hq⟩|⟨rfl,o,hk,hc,hd⟩|⟨rfl,hk⟩|⟨rfl,S,n,hk⟩
    · obtain⟨aC,_,pl,_⟩:=I.list hq;refine⟨pl.isList.typeIs,λa e=>?_⟩;cases e;obtain⟨o,n,e,c,hd,_⟩:=pl;exact⟨o,e,hd⟩
    · refine⟨⟨o,I.sC p o hk,hc⟩,λa e=>?_⟩;cases e;exact⟨o,I.sC _ o hk,hd⟩
    · have z : ∃ o, s.heap.get? p = some o /\ o.ExactDict := by
        rcases hk with⟨ag,hk⟩|⟨ag,hk⟩
        · obtain⟨_,_,_,_,o,_,_,e,ex,_⟩:=I.bF p _ hk;exact⟨o,e,ex⟩
        · obtain⟨_,_,_,_,o,_,_,e,ex,_⟩:=I.bF p _ hk;exact⟨o,e,ex⟩
      obtain⟨o,e,ex⟩:=z;refine⟨⟨o,e,ex.1⟩,λa e2=>?_⟩;cases e2;exact⟨o,e,ex.2.1⟩
    · obtain⟨o,_,_,_,e,ex,_⟩:=I.bF p _ hk;refine⟨⟨o,e,ex.1⟩,λa e2=>?_⟩;cases e2;exact⟨o,e,ex.2.1⟩
  | _=>exact False.elim ty
def NO(K:PySem.W.Frag)(T:String)(r:V->List V->Hp->VK->Prop)(to:TE):TE:=λσ H Q=>to σ H λx H1=>Tp K T x H1/\r x [] H1 Q
def VY(K:PySem.W.Frag)(T:String)(r:V->List V->Hp->VK->Prop)(to:TE)(t:TA):TE:=λσ H Q=>to σ H λx H1=>Tp K T x H1/\t σ H1 λxs H2=>r x xs H2 Q
variable {o e:Expr} {es:List Expr} {to:TE} {t:TA} {name:Str} {qb eX:Pos} {T id:String} {r:V->List V->Hp->VK->Prop}
theorem qr (pa : PlainAttrs T) (slot : Slot T name id) (Tq : typeOf (.builtin id) = pure (.type "method_descriptor")) (hm : G4 X id r) (ho : PE X o to)
    (sR:attributeBase o name X.env (eval o X.env)=eval o X.env:=by rfl) (sS:(qb.endLine==eX.line)=true:=by rfl):PE X (.Call (.Attribute o name qb) [] [] eX) (NO X.K T r to):=by
  intro aa s σ H Q I h;refine wpAny_Call_method0_late sR sS (cv (ho aa s σ H _ I h) ?_);rintro v s1 ⟨x,H1,I1,r1,ty,q1⟩;obtain⟨h1,h2⟩:=AK I1 r1 ty;exact⟨T,id,pa,slot,Tq,h1,h2,Calls.callWith_builtin rfl (PySem.evalArgs_none (hm aa s1 σ H1 x [] v [] Q I1 r1 .nil q1))⟩
theorem sT (pa : PlainAttrs T) (slot : Slot T name id) (Tq : typeOf (.builtin id) = pure (.type "method_descriptor")) (hm : G4 X id r) (ho : PE X o to) (ha : PA X (e :: es) t)
    (sR:attributeBase o name X.env (eval o X.env)=eval o X.env:=by rfl)
    (mQ:((backTo eX (starEach (e::es) X.env)).all (λx=>!x.1)&&(backToKw eX (keywordEach [] X.env)).all (λx=>x.1.isSome)
      && decide ((e::es).length+([]:List Keyword).length+(if ([]:List Keyword).isEmpty then 0 else 1)<30))=true:=by rfl)
    (sS:(qb.endLine==eX.line)=true:=by rfl) (hs:starEach (e::es) X.env=(false,eval e X.env)::starEach es X.env:=by rfl) (IW:(backTo eX (starEach es X.env)).any (·.1)=false:=by rfl) :
    PE X (.Call (.Attribute o name qb) (e::es) [] eX) (VY X.K T r to t):=by
  intro aa s σ H Q I h;refine wpAny_Call_method_late sR mQ sS rfl (cv (ho aa s σ H _ I h) ?_);rintro v s1 ⟨x,H1,I1,r1,ty,q1⟩;obtain⟨h1,h2⟩:=AK I1 r1 ty;refine⟨T,id,pa,slot,Tq,h1,h2,?_⟩;have hA:=ha eX aa s1 σ H1 _ I1 q1;rw[hs]at hA⊢;refine Calls.callWith_builtin (by show(false||(backTo eX (starEach es X.env)).any (·.1))=false;rw[IW]<;>rfl) (Calls.evalArgs_plain ?_);exact cv hA λus s2 ⟨vs,H2,I2,r2,q2⟩=>hm aa s2 σ H2 x vs v us Q I2 r1 r2 q2
end
def Tr(X:Cx)(id:String)(r:V->List V->Hp->VK->Prop):Prop :=
 ∀(aa:List (Addr×Obj))(s:Shared)(σ:St)(H:Hp)(x:V)(xs:List V)(v:Value)(us:List Value)(Q:VK),Inv X aa σ H s->RelV x v->aN xs us->r x xs H Q ->
  wpAny (model X.prog X.w) X.A (call (.builtin id) (v::us)) (EP X aa σ Q) X.xe s
theorem aN.one(h:aN [x] us):∃u,us=[u]/\RelV x u:=by
 cases h with
 | cons r t=>cases t;exact⟨_,rfl,r⟩
theorem aN.two(h:aN [x,y] us):∃u v,us=[u,v]/\RelV x u/\RelV y v:=by
 cases h with
 | cons r t=>obtain⟨v,rfl,q⟩:=aN.one t;exact⟨_,v,rfl,r,q⟩
theorem aN.zero:∀{us:List Value},aN [] us->us=[]
 | _,.nil=>rfl
theorem aN.dropLast(h:aN xs us):aN xs.dropLast us.dropLast:=by
 induction h with
 | nil=>exact .nil
 | cons r t ih =>
  cases t with
  | nil=>exact .nil
  | cons q t'=>exact .cons r ih
theorem aN.reverse(h:aN xs us):aN xs.reverse us.reverse:=by
 induction h with
 | nil=>exact .nil
 | cons r t ih=>rw[List.reverse_cons,List.reverse_cons];exact aN.append ih (.cons r .nil)
theorem aN.rep(h:aN xs us):∀k:Nat,aN (List.replicate k xs).flatten (List.replicate k us).flatten
 | 0=>.nil
 | k+1=>by
  rw[List.replicate_succ,List.replicate_succ,List.flatten_cons,List.flatten_cons];exact aN.append h (aN.rep h k)
theorem vm{α:Type}(l:List α):l.eraseIdx (l.length-1)=l.dropLast:=by
 induction l with
 | nil=>rfl
 | cons a r ih =>
  cases r with
  | nil=>rfl
  | cons b r =>
   have e:(a::b::r).length-1=((b::r).length-1)+1:=by
    have h1:(a::b::r).length=r.length+2:=rfl;have h2:(b::r).length=r.length+1:=rfl;omega
   rw[e,List.eraseIdx_cons_succ,ih]
   all_goals rfl
theorem foldl_rep (aC : List Value) : ∀ (k : Nat) (acc : List Value),
    List.foldl (λx1 x2=>x1++x2) acc.toArray (List.replicate k aC.toArray)=(acc++(List.replicate k aC).flatten).toArray
  | 0,acc=>by simp
  | k+1,acc=>by
    have e:acc.toArray++aC.toArray=(acc++aC).toArray:=by simp
    have e2:(acc++aC)++(List.replicate k aC).flatten=acc++(List.replicate (k+1) aC).flatten:=by
      rw[List.replicate_succ,List.flatten_cons,List.append_assoc]
    rw[<- e2,<- foldl_rep aC k (acc++aC),<- e,List.replicate_succ,List.foldl_cons]
section
variable {X:Cx} {aa:List (Addr×Obj)} {σ:St} {H:Hp} {s:Shared} {l b:Addr} {xs ys zs:List V}
theorem Inv.Ef {aC its' : List Value} {n : Nat}  {t' : Nat} (I : Inv X aa σ H s) (hH : H l = some (.lst xs))
    (e:s.heap.get? l=some { cls:=.type "list",data:=.seq aC.toArray n }) (hf:f aC.toArray=its'.toArray) (hv:aN ys its') (hz:ys.length<=sizeLine) :
    Inv X aa σ (upd H l (.lst ys)) { s with heap:=s.heap.update l (Obj.mapSeq f),toks:=t' }:=by
  have q:=PySem.IsL.update e f;rw[hf]at q;refine I.write (x:=l) (e:=l) (by rw[hH];exact trivial) (.inl rfl) (λb' u hb hu=>(Heap.get?_update_other s.heap (Obj.mapSeq f) (Ne.symm hb)).trans hu) ⟨_,q⟩ ?_;exact⟨hz,its',_,hv,q⟩
theorem Inv.NP (I : Inv X aa σ H s) (hv : aN ys aC) (hz : ys.length <= sizeLine) :
    Inv X aa σ (upd H s.heap.objs.size (.lst ys)) { s with heap:=s.heap.push { cls:=.type "list",data:=.seq aC.toArray },toks:=t' } :=
  I.laid (λ_ _ q=>ee _ q) (bJ _) ⟨hz,aC,0,hv,jE _ rfl⟩
theorem Inv.fresh(I:Inv X aa σ H s):H s.heap.objs.size=none:=I.bF.fresh (bJ _)
theorem Inv.sU(I:Inv X aa σ H s)(hH:H l=some (.lst xs)):xs.length<=sizeLine/\∃(aC:List Value) (n:Nat),aN xs aC/\xs.length=aC.length/\s.heap.get? l=some { cls:=.type "list",data:=.seq aC.toArray n }:=by
 obtain⟨z,aC,n,r,e⟩:=I.bF l _ hH;exact⟨z,aC,n,r,r.length,e⟩
theorem AM(h:n<=sizeLine):Builtin.List.listTooLong n=false:=by
 unfold Builtin.List.listTooLong;exact decide_eq_false (∅)
end
section
variable {X:Cx}
def Eg:V->List V->Hp->VK->Prop:=λx vs H Q=>∃l xs y,x=.ref l/\vs=[y]/\H l=some (.lst xs)/\xs.length<sizeLine/\Q .aQ (upd H l (.lst (xs++[y])))
theorem pk:Tr X "list.append" Eg:=by
 intro aa s σ H x vs v us Q I rx rv h;obtain⟨l,xs,y,rfl,rfl,hH,hz,q⟩:=h;cases rx;obtain⟨u,rfl,ru⟩:=rv.one;obtain⟨z,aC,n,r,hl,e⟩:=I.sU hH;refine call_meets F.slot_list_append ⟨_,e,rfl⟩ F.entry_list_append (F.args_list_append_2 _ _) (PySem.list_append l aC.toArray n u (by rw[iq];omega)) ⟨e,?_⟩;refine⟨.aQ,_,I.Ef (its':=aC++[u]) hH e (by simp) (r.append (.cons ru .nil)) ?_,rfl,q⟩;rw[gV,List.length_singleton];omega
def Ts:V->List V->Hp->VK->Prop:=λx vs H Q=>∃l xs y,x=.ref l/\vs=[]/\H l=some (.lst xs)/\xs[xs.length-1]?=some y/\Q y (upd H l (.lst xs.dropLast))
theorem IX:Tr X "list.pop" Ts:=by
 intro aa s σ H x vs v us Q I rx rv h;obtain⟨l,xs,y,rfl,rfl,hH,hy,q⟩:=h;cases rx;have Tt:=rv.zero;subst Tt;obtain⟨z,aC,n,r,hl,e⟩:=I.sU hH;obtain⟨u,hu,ru⟩:=r.get hy
 have Yr:aC.toArray[aC.toArray.size-1]?=some u:=by
  show aC.toArray[aC.length-1]?=some u;rw[<- Array.getElem?_toList,<- hl];exact hu
 refine call_meets F.slot_list_pop ⟨_,e,rfl⟩ F.entry_list_pop (F.args_list_pop_1 _) (MeetsSeq.list_pop_last l aC.toArray n u Yr (by rw[iq];omega)) ⟨e,?_⟩;refine⟨y,_,I.Ef (its':=aC.dropLast) hH e ?_ r.dropLast ?_,ru,q⟩
 ·show aC.toArray.eraseIdxIfInBounds (aC.toArray.size-1)=aC.dropLast.toArray;rw[iq,List.eraseIdxIfInBounds_toArray,vm]
 ·rw[List.length_dropLast];omega
def AN:V->List V->Hp->VK->Prop:=λx vs H Q=>∃l xs,x=.ref l/\vs=[]/\H l=some (.lst xs)/\Q .aQ (upd H l (.lst xs.reverse))
theorem vn:Tr X "list.reverse" AN:=by
 intro aa s σ H x vs v us Q I rx rv h;obtain⟨l,xs,rfl,rfl,hH,q⟩:=h;cases rx;have Tt:=rv.zero;subst Tt;obtain⟨z,aC,n,r,hl,e⟩:=I.sU hH;refine call_meets F.slot_list_reverse ⟨_,e,rfl⟩ F.entry_list_reverse (F.args_list_reverse_1 _) (AutoSeq1.list_reverse_list_0 l aC.toArray n (by rw[iq];omega)) ⟨e,?_⟩;refine⟨.aQ,_,I.Ef (its':=aC.reverse) hH e (by simp) r.reverse ?_,rfl,q⟩;rw[List.length_reverse];omega
def Tu:R2:=λx y H Q=>∃l b xs zs,x=.ref l/\y=.ref b/\H l=some (.lst xs)/\H b=some (.lst zs)/\xs.length+zs.length<=sizeLine/\∀p,H p=none->Q (.ref p) (upd H p (.lst (xs++zs)))
theorem IY:iL X (binaryOp .Add) Tu:=by
 intro aa s σ H x y v u Q I rx ry h;obtain⟨l,b,xs,zs,rfl,rfl,hH,hB,hz,q⟩:=h;cases rx;cases ry;obtain⟨z,aC,n,r,hl,e⟩:=I.sU hH;obtain⟨z2,AH,n2,r2,DD,e2⟩:=I.sU hB;refine PySem.P.add_list e e2 ?_ (by rw[iq,iq];omega);have ea:aC.toArray++AH.toArray=(aC++AH).toArray:=by simp
 rw[ea];exact⟨.ref _,_,I.NP (t':=s.toks) (r.append r2) (by rw[gV];omega),rfl,q _ I.fresh⟩
def Tv:R2:=λx y H Q=>∃l k xs,x=.ref l/\y=.int k/\H l=some (.lst xs)/\-(2 ^ 63)<=k/\k<2 ^ 63/\xs.length*k.toNat<=sizeLine /\
 ∀p,H p=none->Q (.ref p) (upd H p (.lst (List.replicate k.toNat xs).flatten))
theorem Eh{α:Type}(xs:List α)(k:Nat):(List.replicate k xs).flatten.length=k*xs.length:=by
 induction k with
 | zero=>simp
 | succ k ih=>rw[List.replicate_succ,List.flatten_cons,gV,ih,Nat.succ_mul,Nat.add_comm]
theorem IZ:iL X (binaryOp .Mult) Tv:=by
 intro aa s σ H x y v u Q I rx ry h;obtain⟨l,k,xs,rfl,rfl,hH,h1,h2,hz,q⟩:=h;cases rx;obtain⟨t,rfl⟩:=ry;obtain⟨z,aC,n,r,hl,e⟩:=I.sU hH;have aR:aC.toArray.size*k.toNat<=sizeLine:=by rw[iq,<- hl];exact hz
 have AO:¬aC.toArray.size*k.toNat>(2 ^ 63-1) / 8:=by
  have:(sizeLine:Nat)<=(2 ^ 63-1) / 8:=by decide
  omega
 have Tw:¬(!Builtin.List.listFitsIndex k)=true:=by
  rw[fitsIndex_both h1 h2];exact cH
 have NQ:¬Builtin.List.listTooLong (aC.toArray.size*k.toNat)=true:=by
  rw[AM aR];exact cH
 have gW:List.foldl (λx1 x2=>x1++x2) #[] (List.replicate (if aC.toArray.isEmpty=true then 0 else k.toNat) aC.toArray)=(List.replicate k.toNat aC).flatten.toArray:=by
  have f0:∀m:Nat,List.foldl (λx1 x2=>x1++x2) #[] (List.replicate m aC.toArray)=(List.replicate m aC).flatten.toArray:=λm=>by
   have:=foldl_rep aC m [];rw[List.nil_append]at this;exact this
  rw[f0]
  cases aC with
  | nil=>simp
  | cons a r'=>rw[if_neg (by simp)]
 refine wpAny_binaryOp_repeat_ref (T := "list") (U := "int") (by decide) ⟨_,e,rfl⟩ (λs'=>typeIs_int s' k t) noFill_list_mul F.fills_int_mul F.slot_int_rmul repeat_list F.slot_int_index.lookup
  (call_meets F.slot_int_rmul (typeIs_int s k t) F.entry_int_rmul (F.args_int_rmul_2 _ _) (int___rmul___int_list k t l aC.toArray n)
   ⟨e,rfl,⟨_,e,rfl⟩,call_meets F.slot_list_mul ⟨_,e,rfl⟩ F.entry_list_mul (F.args_list_mul_2 _ _) (AutoListH.list___mul___list_int_3 l aC.toArray n k t Tw AO NQ) ⟨e,?_⟩⟩)
 rw[gW];exact⟨.ref _,_,I.NP (t':=s.toks) (r.rep k.toNat) (by rw[Eh,Nat.mul_comm];exact hz),rfl,q _ I.fresh⟩
end
end L2
namespace VZ
open PySem PySem.W PySem.Calls PyProof.Rows
theorem lK:∀(ns:List Int)(vs:List Value),WellAll P h vs (ns.map WData.int)->IntsAre vs ns:=by
 intro ns
 induction ns with
 | nil =>
  intro vs w;rw[List.map_nil]at w;cases w;exact .nil
 | cons n ns ih =>
  intro vs w;rw[List.map_cons]at w
  cases w with
  | cons a b =>
   cases a;exact .cons _ _ (ih _ b)
theorem yX {l : OpenLaw} {n : Nat} (hn : l.most = some n) {P : Params} {h : Heap} {args : List WData} {vals : List Value}
    (Ei:l.row.toRowW.claim.pre args=true) (Ej:WellAll P h vals args) :
    ∃a vs ns,vals=[Value.ref a]/\args=[WData.list (ns.map WData.int)]/\h.get? a=some { cls:=.type "list",data:=.seq vs.toArray }/\IntsAre vs ns/\ns.length<=n:=by
  have Ys:WShape.hasAll [] args [.list .int]=true:=(pre_splitW Ei).1;have hc:l.pre.holds [] { args:=args }=true:=(pre_splitW Ei).2;obtain⟨d,r,rfl,h1,h2⟩:=hasAllW_cons Ys;obtain rfl:=hasAllW_nil h2;obtain⟨xs,rfl,h3⟩:=hasW_list h1;obtain⟨ns,rfl⟩:=items_int h3
  have aR:ns.length<=n:=by
    unfold OpenLaw.pre at hc
    have h4:(WTm.not (.lt (.lit (.int (n:Int))) (.len (.arg 0)))).holds [] { args:=[.list (ns.map .int)] }=true:=by
      have h4:=(holds_andW hc).1;rw[hn]at h4;exact h4
    have h5:=condW_of h4 (w_not (w_lt w_lit (w_len_list (w_arg rfl))));rw[aX]at h5;refine Nat.le_of_not_lt λq=>?_;have q':(n:Int)<((ns.length:Nat):Int):=∅
    first
      | (rw[decide_eq_true q']at h5;exact absurd h5 (by decide))
      | (simp at h5;omega)
  cases Ej with
  | cons w1 w2 =>
    cases w2
    cases w1 with
    | list ho vg=>exact⟨_,_,ns,rfl,rfl,ho,lK ns _ vg,aR⟩
theorem yY(l:OpenLaw)(args:List WData):l.row.toRowW.claim.post args (.bool true) args=true :=
 postW_of (r:=l.row.toRowW) (X:=(true==true))
  (show WShape.has [] (.bool true) .bool=true by first | rfl | decide | simp[WShape.has,WShape.arms,WShape.armsAll])
  (show(WTm.eq .res (.lit (.bool true))).value [] { args:=args,res:=some (.bool true),after:=args }=some (.bool (true==true)) from w_eq_bool (w_res rfl) w_lit) rfl
theorem sV {l : OpenLaw} {n : Nat} {q : Program} {loose : List Str} {XP : (Str -> Option Value) -> Heap -> Prop} {YP : World -> Heap -> Prop} {d : DefRec}
    (hn:l.most=some n) (G6:d.params.defaults=[])
    (call:∀(w:World)(eW bQ:Shared)(mg mb:Str->Option Value)(fa:Addr)(o:Obj)(pm cd doc:Value)(a:Addr)(vs:List Value)(ns:List Int),
      Ground q loose [] XP w eW mg mb bQ.heap->YP w bQ.heap ->
      bQ.heap.get? fa=some o->o.data=.func (docDef d.name d.params d.body d.scope pm cd doc)->bQ.heap.CodeRec cd d.name->mg d.name=some (.ref fa) ->
      bQ.heap.get? a=some { cls:=.type "list",data:=.seq vs.toArray }->IntsAre vs ns->ns.length<=n->bQ.gens=#[] ->
      codeAny (model l.prog w) callerA (.call (.ref fa) ⟨[.ref a],[]⟩) (λr s'=>r=.ok (.ret (.bool true))/\OldK bQ.heap s'.heap/\s'.os=bQ.os/\AllBare s'.gens) bQ) :
    WalkO q loose XP YP l.row.toRowW d [] (λf vs=>PySem.call f vs):=by
  intro w eW bQ mg mb G Y fa o pm cd doc dV kV ho hd GV hD NR hg args vals as Ei Yt Ek Ej El;obtain rfl:dV=.none:=Dflts.none hD G6;obtain rfl:kV=.none:=Dflts.noKw hD;obtain⟨a,vs,ns,rfl,rfl,I0,hints,aR⟩:=yX hn Ei Ej;refine enter_call (codeAny_mono (call w eW bQ mg mb fa o pm cd doc a vs ns G Y ho (fd_plain hd) GV NR I0 hints aR hg) λr s' hq=>?_);obtain⟨rfl,h2,h3,h4⟩:=hq;exact⟨.inl ⟨.bool true,.bool true,[],rfl,λ_=>rfl,.bool true,yY l _,λ_=>⟨List.Pairwise.nil,λ_ hm=>(nomatch hm)⟩⟩,h2,h3,h4⟩
end VZ
namespace L2
open PySem PySem.Spec PyProof.Rows
theorem pq:∀{vs:List Value}{ns:List Int},IntsAre vs ns->aN (ns.map V.int) vs
 | _,_,.nil=>.nil
 | _,_,.cons n t h=>.cons ⟨t,rfl⟩ (pq h)
noncomputable def Em(H:Hp):Prop:=∀b,H b=none\/∃o xs,H b=some (.ef o (.lst xs))
theorem AQ {P : Program} {w : World} {K : PySem.W.Frag} {mg mb : Str -> Option Value} {CX : As} {k : Nat} {fa a : Addr} {fd : FuncData} {x : Str} {sp : Sp} {bQ : Shared} {vs : List Value} {ns : List Int}
    (KX:K.In bQ.heap) (kG:bQ.heap.Ns mainGlobals mg) (hb:bQ.heap.Ns builtinsNs mb) (G7:∀x:Str,x≠ "__name__" -> mb x=bootBuiltins x) (Tz:bQ.heap.NoLimit) (hg:bQ.gens=#[])
    (ha:bQ.heap.get? a=some { cls:=.type "list",data:=.seq vs.toArray }) (hi:IntsAre vs ns) (hl:ns.length<=sizeLine) (hr:hU k callerA)
    (F:∀base:Heap,K.In base->base.Ns mainGlobals mg->hV P w K mg base CX k fa fd [x] sp) (NS:∀(s:Shared)(u:Value),BindsTo s fd ⟨[u],[]⟩ [(x,u)])
    (DC:∀H:Hp,Em H->eG K H a (ns.map V.int)->sp [.ref a] H (λv _=>v=.bl true) λ_ _ _=>False)
    (TB:∀H e s',CX [] H bQ (λ_ _ _=>False) e s'->False) :
    codeAny (model P w) callerA (.call (.ref fa) ⟨[.ref a],[]⟩) (λr s'=>r=.ok (.ret (.bool true))/\OldK bQ.heap s'.heap/\s'.os=bQ.os/\AllBare s'.gens) bQ:=by
  have rv:=pq hi;have TC:=hi.length
  have core : ∀ H : Hp, Em H -> eG K H a (ns.map V.int) -> jc P w H bQ.heap -> (∀ b, H b ≠ none -> b = a) -> (H a ≠ none -> K.lookup a = none) ->
      codeAny (model P w) callerA (.call (.ref fa) ⟨[.ref a],[]⟩) (λr s'=>r=.ok (.ret (.bool true))/\OldK bQ.heap s'.heap/\s'.os=bQ.os/\AllBare s'.gens) bQ:=by
    intro H hO hS bF hA hK;have iu:∀{b:Addr}{o:Obj},bQ.heap.get? b=some o->H b=none->(pX bQ.heap H).get? b=some o:=λe n=>z0 e n
    have ND:∀{b:Addr}{o:Obj}{es:Array DictEntry}{ep:Nat},bQ.heap.get? b=some o->o.data=.dict es ep->H b=none:=λ{b o es ep} e d=>by
      cases q:H b with
      | none=>rfl
      | some u =>
        have e':b=a:=hA b (by rw[q];simp);subst e';rw[ha]at e;cases e;have d':Data.seq vs.toArray _=Data.dict es ep:=d;cases d'
    have QU:∀{b:Addr}{m:Str->Option Value},bQ.heap.Ns b m->(pX bQ.heap H).Ns b m:=λ{b m} ⟨o,es,ep,e,d,r⟩=>⟨o,es,ep,iu e (ND e d),d,r⟩
    have V0:K.In (pX bQ.heap H):=λb o e=>iu (KX b o e) (by
      cases q:H b with
      | none=>rfl
      | some u =>
        have e':b=a:=hA b (by rw[q];simp);subst e';rw[hK (by rw[q];simp)]at e;cases e)
    have hM:Mod K mg (pX bQ.heap H):=⟨V0,QU kG,⟨mb,QU hb,G7⟩,let ⟨mc,h1,h2⟩:=Tz;⟨mc,QU h1,h2⟩⟩;have e0:D4 P w K mg (pX bQ.heap H) callerA [] bQ H:=⟨rfl,hM,λb o e=>DO e,Nat.le_of_eq (yJ _ _),trivial,λb hb=>absurd (show b∈([]:List Addr) from hb) (by simp),bF,.of_eq hg⟩;refine codeAny_mono ((F _ V0 (QU kG)).run callerA [] bQ H ⟨[.ref a],[]⟩ [.ref a] [.ref a] _ _ hr e0 (NS bQ (.ref a)) (.cons rfl .nil) (DC H hO hS)) λr s' h=>?_
    cases r with
    | error e=>exact(TB H e s' h).elim
    | ok fl =>
      cases fl with
      | next=>exact False.elim h
      | brk=>exact False.elim h
      | cont=>exact False.elim h
      | ret u =>
        obtain⟨v,H',os,bare,un,TH,r',q⟩:=h;have q':v=.bl true:=q;subst q';obtain rfl:u=Value.bool true:=r';refine⟨rfl,OldK.of_keep λb o e=>?_,os,bare⟩
        cases q:H b with
        | none=>exact un.keep b o e q (by intro z;exact absurd (show b∈([]:List Addr) from z) (by simp)) (by simp)
        | some u =>
          rcases hO b with z | ⟨ob,xs,z⟩
          · rw[q]at z;cases z
          · have z2:=un.pW b ob _ z;obtain⟨e1,_⟩:=bF b _ z;obtain⟨e2,_⟩:=TH b _ z2;rw[e]at e1;cases e1;exact e2
  cases hk:K.lookup a with
  | some o =>
    have e:=KX a o hk;rw[ha]at e;cases e;refine core (λ_=>none) (λ_=>.inl rfl) (.inr ⟨_,vs.toArray,_,hk,rfl,rfl,rfl,by rw[iq,TC];exact hl,by simpa using rv⟩) (λb u z=>by have z':(none:Option HO)=some u:=z;cases z') (λb z=>absurd rfl z) λz=>absurd rfl z
  | none =>
    refine core (λb=>if b=a then some (.ef { cls:=.type "list",data:=.seq vs.toArray } (.lst (ns.map V.int))) else none) (λb=>?_) (.inl (.inr ⟨{ cls:=.type "list",data:=.seq vs.toArray },if_pos rfl⟩)) (λb u z=>?_) (λb z=>?_) λ_=>hk
    · by_cases hb:b=a
      · exact .inr ⟨_,_,if_pos hb⟩
      · exact .inl (if_neg hb)
    · by_cases hb:b=a
      · have z':=(if_pos hb).symm.trans z;cases z';subst hb;exact⟨ha,by rw[aX];exact hl,vs,_,rv,ha⟩
      · have z':=(if_neg hb).symm.trans z;cases z'
    · by_cases hb:b=a
      · exact hb
      · exact absurd (if_neg hb) z
theorem Eo {l : PySem.W.OpenLaw} {n k : Nat} {q : Program} {loose : List Str} {XP : (Str -> Option Value) -> Heap -> Prop} {YP : World -> Heap -> Prop} {d : DefRec} {K : Params -> PySem.W.Frag} {CX : World -> As} {sp : World -> Sp} {x : Str}
    (hn:l.most=some n) (sW:n<=sizeLine) (G6:d.params.defaults=[]) (hr:hU k callerA)
    (hY:∀(w:World)(h:Heap),YP w h->(K w.params).In h)
    (F:∀(w:World)(mg:Str->Option Value)(fa:Addr)(h:Heap),(K w.params).In h->h.Ns mainGlobals mg->mg d.name=some (.ref fa) ->
      ∃fd:FuncData,(∀(s:Shared)(u:Value),BindsTo s fd ⟨[u],[]⟩ [(x,u)]) /\
        ∀base:Heap,(K w.params).In base->base.Ns mainGlobals mg->hV l.prog w (K w.params) mg base (CX w) k fa fd [x] (sp w))
    (DC:∀(w:World)(H:Hp)(a:Addr)(ns:List Int),ns.length<=n->Em H->eG (K w.params) H a (ns.map V.int)->sp w [.ref a] H (λv _=>v=.bl true) λ_ _ _=>False)
    (TB:∀(w:World)(H:Hp)(s:Shared)(e:Value)(s':Shared),CX w [] H s (λ_ _ _=>False) e s'->False) :
    PySem.W.WalkO q loose XP YP l.row.toRowW d [] (λf vs=>PySem.call f vs):=by
  refine VZ.sV hn G6 λw eW bQ mg mb fa o pm cd doc a vs ns G Y ho hd GV NR I0 hints aR hg=>?_;have KX:=hY w _ Y;obtain⟨fd,hb,hF⟩:=F w mg fa _ KX G.T.g NR;exact AQ KX G.T.g G.T.b G.T.builtins G.T.nolimit hg I0 hints (Nat.le_trans aR sW) hr hF hb (λH hO hS=>DC w H a ns aR hO hS) λH e s'=>TB w H bQ e s'
noncomputable def lW(s:Stmt):Arguments:=match s with
 | .FunctionDef _ a _ _ _ _ _ _ _ _=>a
 | _=>{ posonlyargs:=[],args:=[],vararg:=none,kwonlyargs:=[],kw_defaults:=[],kwarg:=none,defaults:=[] }
noncomputable def eY(s:Stmt):List Stmt:=match s with
 | .FunctionDef _ _ b _ _ _ _ _ _ _=>b
 | _=>[]
noncomputable def bC(s:Stmt):Scope:=match s with
 | .FunctionDef _ _ _ _ _ _ sc _ _ _=>sc
 | _=>{ kind:=.function,names:=[],isGenerator:=false,isCoroutine:=false }
abbrev yZ:As:=λ_ _ _ _ _ _=>False
abbrev E0:XK:=λ_ _ _=>False
theorem NT:vc yZ X E0:=λ_ _ _ _ _ _ _ h=>h.elim
structure QV (K:PySem.W.Frag) (x qual:Str) (st:Stmt) (f:Addr) (fd:FuncData):Prop where
 ex:∃(oc:Value) (od:Option Addr) (kV doc pm:Value) (an:Option Addr) (oG ct:Value) (IJ:Array (Option Value)),
  fd=PySem.W.fnOf x qual (lW st) (eY st) (bC st) .none kV doc pm an oG ct/\K.lookup f=some ⟨oc,od,.func fd,IJ⟩/\PySem.W.codeIn K oG qual=true
 kp:PySem.W.keepIn K (.ref f)=true
section
variable {P:Program} {w:World} {K:PySem.W.Frag} {mg:Str->Option Value} {base:Heap}
theorem QV.ok {x qual : Str} {st : Stmt} {f : Addr} {fd : FuncData} {N ps : List Str} {k : Nat} {sp : Sp} (F : QV K x qual st f fd) (S : jF N ps (bC st)) (len : ∀ vs H Q E, sp vs H Q E -> vs.length = ps.length)
    (Av:∀(oG:Value)(A:Around)(outer:List Env)(s:Shared)(H:Hp)(vs:List V)(Q:VK)(E:XK),hU k (A.deeper (envOfC qual (bC st) s.heap.objs.size f oG))->sp vs H Q E ->
      ∃t,pZ (vd yZ P w K mg base N qual (bC st) f oG A outer s H E).Nc (eY st) t/\t { nx:=λ_ H'=>Q .aQ H',rt:=Q } (start N vs) H):hV P w K mg base yZ (k+1) f fd ps sp:=by
  obtain⟨oc,od,kV,doc,pm,an,oG,ct,IJ,rfl,lk,GV⟩:=F.ex;refine NF lk GV S len λA outer s H vs Q E hr DC=>?_;obtain⟨t,h,q⟩:=Av oG A outer s H vs Q E hr DC;exact⟨t,h.Nc,q⟩
theorem I_ {x qual : Str} {st : Stmt} {f : Addr} {oc : Value} {od an : Option Addr} {IJ : Array (Option Value)} {kV doc pm oG ct : Value} (l : K.lookup f = some ⟨oc, od, .func (PySem.W.fnOf x qual (lW st) (eY st) (bC st) .none kV doc pm an oG ct), IJ⟩)
    (c:PySem.W.codeIn K oG qual=true) (k:PySem.W.keepIn K (.ref f)=true):QV K x qual st f (PySem.W.fnOf x qual (lW st) (eY st) (bC st) .none kV doc pm an oG ct):=⟨⟨oc,od,kV,doc,pm,an,oG,ct,IJ,rfl,l,c⟩,k⟩
end
end L2
end
section
namespace L2
open PySem PySem.Spec PyProof.Rows
section
variable {prog:Program} {w:World} {A:Around} {R:Result->Shared->Prop} {s:Shared}
theorem qt (I : Nat -> Shared -> Prop)
    (u3:∀n s,I n s->wpAny (model prog w) A (pyNext it) (λr bQ=>match r with
      | none=>R (.ok .next) bQ
      | some v => wpAny (model prog w) A (letOwnedTupleGo mH it v) (fun _ G8 => wpAny (model prog w) A (assign mH env v) (fun _ yL =>
          wpAny (model prog w) A (forIn ifs true λc r=>if r=true then do let ok <- isTrue c env (eval c env);pure (ForInStep.yield ok) else pure (ForInStep.yield r)) (λok AR =>
            if ok=true then wpAny (model prog w) A (eval elt env) (λx y2 =>
              wpAny (model prog w) A (call (.builtin "list.append") [acc,x]) (λ_ AS=>∃m,m<n/\I m AS) (λ_ _=>False) y2) (λ_ _=>False) AR
            else ∃m,m<n/\I m AR) (λ_ _=>False) yL) (λ_ _=>False) G8) (λ_ _=>False) bQ) (λ_ _=>False) s)
    (n:Nat) (h:I n s):codeAny (model prog w) A (.compLoop (.ListComp elt [⟨mH,aK,ifs,0⟩] scope pos) 0 it acc env) R s:=by
  refine codeAny_loop rfl I (λn s hI=>?_) n h;show wpAny _ A ((compTurn (.ListComp elt [⟨mH,aK,ifs,0⟩] scope pos) 0 it acc env).onRaise (λx=>do noteFrame x env;theTreesLotGoes x)) _ _ s;refine wpAny_noted ?_;rw[compTurn_list];refine wpAny_bind (wpAny_standAt (wpAny_bind (wpAny_mono (u3 n s hI) (λr bQ Ep=>?_) λ_ _ h'=>h'.elim)))
  cases r with
  | none=>exact wpAny_pure Ep
  | some v =>
    refine wpAny_bind (wpAny_mono Ep (λ_ G8 NU=>?_) λ_ _ h'=>h'.elim);refine wpAny_bind (wpAny_mono NU (λ_ yL TJ=>wpAny_bind (wpAny_mono TJ (λok AR NV=>?_) λ_ _ h'=>h'.elim)) λ_ _ h'=>h'.elim)
    cases ok with
    | false=>exact wpAny_pure ⟨rfl,NV⟩
    | true =>
      exact wpAny_bind (wpAny_bind (wpAny_mono NV (λx y2 TK=>wpAny_bind (wpAny_mono TK (λ_ AS TL=>wpAny_pure (wpAny_pure ⟨rfl,TL⟩)) λ_ _ h'=>h'.elim)) λ_ _ h'=>h'.elim))
end
theorem cR{x:Str}:∀(names:List (Str×NameKind))(n:Nat)(acc:List (Str×Addr)),(x,NameKind.cell)∉names->(cellsFrom n names acc).lookup x=acc.lookup x
 | [],_,_,_=>rfl
 | (y,k)::r,n,acc,h=>by
  unfold cellsFrom;split
  ·rename_i hk
   have hk:k=.cell:=eq_of_beq hk;subst hk;rw[cR r (n+1) _ (λz=>h (ja _ z)),List.lookup_cons];have:(x==y)=false:=beq_eq_false_iff_ne.mpr λz=>h (by subst z;exact List.mem_cons_self);rw[this]
  ·exact cR r n acc λz=>h (ja _ z)
theorem fQ{x:Str}  : ∀(names:List (Str×NameKind))(n:Nat)(acc:List (Str×Addr)),(x,NameKind.cell)∈names->(cellsFrom n names acc).lookup x=some c->n<=c
 | [],_,_,h,_=>by cases h
 | (y,k)::r,n,acc,h,e=>by
  unfold cellsFrom at e;split at e
  ·by_cases hr:(x,NameKind.cell)∈r
   ·exact Nat.le_of_succ_le (fQ r (n+1) _ hr e)
   ·rw[cR r (n+1) _ hr,List.lookup_cons]at e
    have:x=y:=by
     rcases List.mem_cons.mp h with z | z
     ·exact(Prod.mk.inj z).1
     ·exact absurd z hr
    subst this;simp at e;exact Nat.le_of_eq e
  ·rename_i hk
   rcases List.mem_cons.mp h with z | z
   ·exact absurd (by rw[<- (Prod.mk.inj z).2];rfl) hk
   ·exact fQ r n acc z e
theorem fR{x:Str}:∀(names:List (Str×NameKind))(n:Nat)(acc:List (Str×Addr)),(x,NameKind.cell)∈names->∃c,(cellsFrom n names acc).lookup x=some c
 | [],_,_,h=>by cases h
 | (y,k)::r,n,acc,h=>by
  unfold cellsFrom;split
  ·by_cases hr:(x,NameKind.cell)∈r
   ·exact fR r (n+1) _ hr
   ·rw[cR r (n+1) _ hr,List.lookup_cons]
    have:x=y:=by
     rcases List.mem_cons.mp h with z | z
     ·exact(Prod.mk.inj z).1
     ·exact absurd z hr
    subst this;simp
  ·rename_i hk
   rcases List.mem_cons.mp h with z | z
   ·exact absurd (by rw[<- (Prod.mk.inj z).2];rfl) hk
   ·exact fR r n acc z
theorem fS : ∀ (names : List (Str × NameKind)) (n : Nat) (acc : List (Str × Addr)), (∀ x c, acc.lookup x = some c -> c < n) -> (∀ x y c, acc.lookup x = some c -> acc.lookup y = some c -> x = y) ->
    ∀x y c,(cellsFrom n names acc).lookup x=some c->(cellsFrom n names acc).lookup y=some c->x=y
  | [],_,_,_,h=>h
  | (z,k)::r,n,acc,hb,h=>by
    unfold cellsFrom;split
    · refine fS r (n+1) _ (λx c e=>?_) (λx y c e1 e2=>?_)
      · rw[List.lookup_cons]at e;split at e
        · cases e;exact Nat.lt_succ_self _
        · exact Nat.lt_succ_of_lt (hb x c e)
      · rw[List.lookup_cons]at e1 e2;split at e1
        · rename_i hx
          cases e1;split at e2
          · rename_i hy
            rw[eq_of_beq hx,eq_of_beq hy]
          · exact absurd (hb y _ e2) (Nat.lt_irrefl _)
        · split at e2
          · cases e2;exact absurd (hb x _ e1) (Nat.lt_irrefl _)
          · exact h x y c e1 e2
    · exact fS r n acc hb h
theorem ft{x:Str}  : ∀(names:List (Str×NameKind))(h:Heap)(acc:List (Str×Addr)),(cellsFrom h.objs.size names acc).lookup x=some c->acc.lookup x=some c\/(h.objs.size<=c/\(pushCells h names).IsCell c none)
 | [],_,_,e=>.inl e
 | (z,k)::r,h,acc,e=>by
  unfold cellsFrom at e;unfold pushCells;split at e
  ·rename_i hk
   rw[if_pos hk];have e':(cellsFrom (h.push { cls:=.type "cell",data:=.cell none }).objs.size r ((z,h.objs.size)::acc)).lookup x=some c:=by rw[Heap.size_push];exact e
   rcases ft r (h.push { cls:=.type "cell",data:=.cell none }) _ e' with q | ⟨q1,q2⟩
   ·rw[List.lookup_cons]at q;split at q
    ·cases q;exact .inr ⟨bJ _,_,pushCells_keeps _ _ _ _ (jE _ rfl),rfl⟩
    ·exact .inl q
   ·rw[Heap.size_push]at q1;exact .inr ⟨Nat.le_of_succ_le q1,q2⟩
  ·rename_i hk
   rw[if_neg hk];exact ft r h acc e
theorem qu {cl : List (Str × Addr)} {qual : Str} 
    (hQ:Q { scope:=scope,locals:=s.heap.objs.size,globals:=globals,cells:=cellsFrom (s.heap.objs.size+1) scope.names cl,qual:=qual,func:=none,code:=outer.code,frame:=outer.frame,builtins:=outer.builtins }
      { s with heap:=pushCells (s.heap.push { cls:=.type "dict",data:=.dict #[] }) scope.names }) :
    wpAny M A (newFunctionEnv scope globals cl [] qual none .none (some outer)) Q E s:=by
  simp only[newFunctionEnv,Option.isSome_some,if_true];refine wpAny_bind (wpAny_alloc ?_);refine wpAny_bind (wpAny_layCells _ (λname kind cells=>by cases Yu:kind==NameKind.cell<;>simp[Yu]) _ _ _ _ ?_);rw[show({ s with heap:=s.heap.push { cls:=.type "dict",data:=.dict #[] } }:Shared).heap.objs.size=s.heap.objs.size+1 from Heap.size_push ..];rw[List.forIn_nil];exact wpAny_bind (wpAny_pure (wpAny_pure hQ))
noncomputable def Cx.block(X:Cx)(scope:Scope)(cl:List (Str×Addr))(C:Addr)(N':List Str)(s:Shared)(H:Hp)(fp:List Addr)(pn:List (Addr×Obj)):Cx :=
 { X with N:=N',eW:=s,sA:=H,env:=compEnvC scope (cellsFrom (C+1) scope.names cl) C X.env,outer:=X.stack,ex:=fp,fn:=λx=>scope.names.lookup x==some .cell,pn:=pn,xe:=λ_ _=>False }
structure Ja (X:Cx) (scope:Scope) (cl:List (Str×Addr)):Prop where
 is:closureFor scope X.env=pure cl
 sub:∀x c,cl.lookup x=some c->X.env.cells.lookup x=some c
 has:∀x,scope.names.lookup x=some .free->∃c,cl.lookup x=some c
theorem dY {env : Env} : ∀ {names : List (Str × NameKind)} {x : Str} {k : NameKind}, names.lookup x = some k ->
    (names.map λ(n,k)=>if (k==NameKind.free&&env.scope.kind == .function&&env.kindOf n==some .cell) then (n,NameKind.cell) else (n,k)).lookup x =
      some (if (k==NameKind.free&&env.scope.kind == .function&&env.kindOf x==some .cell) then .cell else k)
  | [],_,_,h=>by simp at h
  | (n,k')::r,x,k,h=>by
    have ih:=@dY env r x k;show List.lookup x ((if (k'==NameKind.free&&env.scope.kind == .function&&env.kindOf n==some .cell)=true then (n,NameKind.cell) else (n,k'))::_)=_
    cases hx:x==n with
    | true =>
      simp only[List.lookup_cons,hx]at h;cases h;have e:x=n:=by simpa using hx
      subst e;split<;>simp[List.lookup_cons]
    | false =>
      simp only[List.lookup_cons,hx]at h;by_cases hc:(k'==NameKind.free&&env.scope.kind == .function&&env.kindOf n==some .cell)=true
      · rw[if_pos hc];simp only[List.lookup_cons,hx];exact ih h
      · rw[if_neg hc];simp only[List.lookup_cons,hx];exact ih h
theorem jh {env : Env} : ∀ {names : List (Str × NameKind)} {x : Str} {k : NameKind},
    (names.map λ(n,k)=>if (k==NameKind.free&&env.scope.kind == .function&&env.kindOf n==some .cell) then (n,NameKind.cell) else (n,k)).lookup x=some k ->
      ∃k',names.lookup x=some k'/\k=(if (k'==NameKind.free&&env.scope.kind == .function&&env.kindOf x==some .cell) then .cell else k')
  | names,x,k,h=>by
    cases q:names.lookup x with
    | some k' =>
      have:=dY (env:=env) q;rw[this]at h;exact⟨k',rfl,(eU h).symm⟩
    | none =>
      exfalso
      induction names with
      | nil=>simp at h
      | cons a r ih =>
        obtain⟨n,k'⟩:=a
        cases hx:x==n with
        | true=>simp[List.lookup_cons,hx]at q
        | false =>
          simp only[List.lookup_cons,hx]at q;have h':List.lookup x ((if (k'==NameKind.free&&env.scope.kind == .function&&env.kindOf n==some .cell)=true then (n,NameKind.cell) else (n,k'))::(r.map λ(n,k)=>if (k==NameKind.free&&env.scope.kind == .function&&env.kindOf n==some .cell) then (n,NameKind.cell) else (n,k)))=some k:=h;by_cases hc:(k'==NameKind.free&&env.scope.kind == .function&&env.kindOf n==some .cell)=true
          · rw[if_pos hc]at h';simp only[List.lookup_cons,hx]at h';exact ih h' q
          · rw[if_neg hc]at h';simp only[List.lookup_cons,hx]at h';exact ih h' q
noncomputable def jK(c_:List (Option Nat))(σ:St):St:=c_.map λo=>o.bind λj=>(σ[j]?).join
structure AU (X:Cx) (scope:Scope) (N':List Str) (c_:List (Option Nat)):Prop where
 len:c_.length=N'.length
 out:∀(i j:Nat)(x:Str),c_[i]?=some (some j)->N'[i]?=some x->X.N[j]?=some x/\scope.names.lookup x=some .free/\(X.env.kindOf x=some .cell\/X.env.kindOf x=some .free)
section
variable {X:Cx} {aa:List (Addr×Obj)} {σ:St} {H:Hp} {s:Shared} {scope:Scope} {cl:List (Str×Addr)} {N':List Str} {c_:List (Option Nat)} {fp:List Addr}
theorem sX {h1 : Heap} (I : Inv X aa σ H s) (Aw : scope.kind = .function) (wY : ∀ y ∈ scope.names, y.2 = .cell -> scope.names.lookup y.1 = some .cell) (cs : Ja X scope cl) (co : AU X scope N' c_)
    (hf:∀b∈fp,kA X aa H b) (ho:∀b∈fp,b<s.heap.objs.size)
    (kG:h1.Ns s.heap.objs.size (λ_=>none)) (hk:∀b u,s.heap.get? b=some u->h1.get? b=some u)
    (gW:∀x c,(cellsFrom (s.heap.objs.size+1) scope.names cl).lookup x=some c->cl.lookup x=some c\/(s.heap.objs.size+1<=c/\h1.IsCell c none)) (tk:Nat) :
    Inv (X.block scope cl s.heap.objs.size N' s H fp []) [] (jK c_ σ) H { s with heap:=h1,toks:=tk }:=by
  have I1:Inv X aa σ H { s with heap:=h1,toks:=tk }:=I.kept hk
  have HW:∀x c,cl.lookup x=some c->c<s.heap.objs.size:=λx c e=>by
    obtain⟨v,q⟩:=I.cell x c (cs.sub x c e);exact q.lt
  have fr:H s.heap.objs.size=none:=I.bF.fresh (bJ _)
  have same:∀x,scope.names.lookup x=some .free->(cellsFrom (s.heap.objs.size+1) scope.names cl).lookup x=cl.lookup x:=λx hx =>
    cR _ _ _ λz=>by have:=wY _ z rfl;rw[hx]at this;cases this
  refine⟨⟨I.ok.mod,Aw,I.ok.glob,I.ok.blt,bJ _,fS _ _ _ (λx c e=>Nat.lt_succ_of_lt (HW x c e)) (λx y c a b=>I.ok.inj x y c (cs.sub _ _ a) (cs.sub _ _ b)),λx hx=>?_,λx c z e=>?_,I.ok.hd,I.ok.frames,.inl rfl,λb hb=>⟨?_,λx c e=>?_⟩,λb o e=>I.bs b o e,
    Nat.le_trans I.ok.GU I.sz,λb o e hb=>?_,λb hb Er=>?_,I.stack,I.wX⟩,rfl,I.bare,Un.kept hk,⟨_,kG,λi x v e1 e2 e3=>?_⟩,λx c e=>?_,fr,λx c e=>?_,λp hp=>?_,I.bF.kept hk,?_⟩
  · have hx:(relabel scope X.env).names.lookup x=some .cell\/(relabel scope X.env).names.lookup x=some .free:=hx
    have fT:∃k',scope.names.lookup x=some k'/\(k'=.free\/k'=.cell):=by
      have go:∀k,(k=.cell\/k=.free)->(relabel scope X.env).names.lookup x=some k->∃k',scope.names.lookup x=some k'/\(k'=.free\/k'=.cell):=by
        intro k hk hx;obtain⟨k',e,ek⟩:=jh hx;refine⟨k',e,?_⟩;by_cases z:k'=.free
        · exact .inl z
        · rw[if_neg (by cases k'<;>first | exact absurd rfl z | simp)]at ek;subst ek;rcases hk with hk | hk
          · exact .inr hk
          · exact .inl hk
      rcases hx with hx | hx
      · exact go _ (.inl rfl) hx
      · exact go _ (.inr rfl) hx
    obtain⟨k',e,Es⟩:=fT;show ∃c,(cellsFrom (s.heap.objs.size+1) scope.names cl).lookup x=some c;rcases Es with z | z
    · subst z;rw[same x e];exact cs.has x e
    · subst z;exact fR _ _ _ (PySem.mem_of_lookup e)
  · have z:(scope.names.lookup x==some .cell)=true:=z;have z:scope.names.lookup x=some .cell:=eq_of_beq z;exact Nat.le_of_succ_le (fQ _ _ _ (PySem.mem_of_lookup z) e)
  · exact Nat.ne_of_lt (ho b hb)
  · rcases gW x c e with q | ⟨q,_⟩
    · exact(hf b hb).2.2.2.2.1 x c (cs.sub x c q)
    · have QW:=ho b hb;intro z;rw[z]at q;exact absurd QW (Nat.not_lt_of_le (Nat.le_of_succ_le q))
  · rcases(hf b hb).2.2.2.1 with z | z
    · exact I.ok.z_ b o e z
    · have h1:=Heap.lt_size e;have h2:=I.ok.GU;exact absurd (Nat.lt_of_lt_of_le h1 (Nat.le_trans h2 z)) (Nat.lt_irrefl _)
  · rcases List.mem_cons.mp (I.uZ b Er)with z | z
    · exact(hf b hb).2.1 z
    · exact(hf b hb).2.2.1 z
  · have e1:N'[i]?=some x:=e1;unfold jK at e2;rw[dG]at e2
    cases q:c_[i]? with
    | none=>rw[q]at e2;cases e2
    | some oj =>
      rw[q]at e2
      cases oj with
      | none=>cases e2
      | some j =>
        have NW:(σ[j]?).join=some v:=eU e2
        have TM:σ[j]?=some (some v):=by
          cases r:σ[j]? with
          | none=>rw[r]at NW;cases NW
          | some ov=>rw[r]at NW;cases ov with
            | none=>cases NW
            | some z=>cases NW;rfl
        obtain⟨o1,o2,o3⟩:=co.out i j x q e1;obtain⟨m,hn,hl⟩:=I1.loc;obtain⟨u,r,l⟩:=hl j x v o1 TM (o3.elim (λz=>.inr (.inl z)) λz=>.inr (.inr z));refine⟨u,r,.inr ⟨?_,?_⟩⟩
        · show(relabel scope X.env).names.lookup x=some .cell\/(relabel scope X.env).names.lookup x=some .free;rw[show(relabel scope X.env).names.lookup x=_ from dY o2];split
          · exact .inl rfl
          · exact .inr rfl
        · obtain⟨c,hc⟩:=cs.has x o2;have lR:=cs.sub x c hc;rcases l with⟨Es,hm⟩|⟨_,c2,zS,Jb⟩
          · exfalso;rw[Es]at o3;rcases o3 with o3 | o3<;>cases o3
          · rw[lR]at zS;cases zS;exact⟨c,(same x o2).trans hc,Jb⟩
  · rcases gW x c e with q | ⟨_,q⟩
    · exact I1.cell x c (cs.sub x c q)
    · exact⟨none,q⟩
  · rcases gW x c e with q | ⟨q,_⟩
    · exact I1.iO x c (cs.sub x c q)
    · exact I.bF.fresh (Nat.le_of_succ_le q)
  · exact absurd (show p∈([]:List (Addr×Obj)) from hp) (by simp)
  · show(jK c_ σ).length=N'.length;unfold jK;rw[aX];exact co.len
end
noncomputable def TN:Option TT->TT
 | none=>λ_ H Q=>Q true H
 | some t=>t
def vp(c_:List (Option Nat))(g:TG)(tc:Option TT)(te:TE)(σ:St)(J:It)(H1:Hp)(Q:V->Hp->Prop):Prop :=
 ∀D,H1 D=none->∃W:Nat->Nat->St->Hp->List V->Prop,(∃m,W 0 m (jK c_ σ) (upd H1 D (.lst [])) []) /\
  ∀i m τ H ys,W i m τ H ys->H D=some (.lst ys)/\((J.stop i H/\Q (.ref D) H) \/
   (J.go i H/\ys.length<sizeLine/\∀x H',J.L9 i H x H'->g x τ H' λDE H2=>TN tc DE H2 λb H3 =>
    if b=true then te DE H3 λv H4=>H4 D=some (.lst ys)/\∃m',m'<m/\W (i+1) m' DE (upd H4 D (.lst (ys++[v]))) (ys++[v])
    else ∃m',m'<m/\W (i+1) m' DE H3 ys))
def xh(c_:List (Option Nat))(wi:TI)(g:TG)(tc:Option TT)(te:TE):TE:=λσ H Q=>wi σ H λJ H1=>vp c_ g tc te σ J H1 Q
def NX(X:Cx)(scope:Scope)(N':List Str)(cl:List (Str×Addr))(ifs:List Expr):Option TT->Prop
 | none=>ifs=[]
 | some t=>∃c,ifs=[c]/\∀C s H fp,PT (X.block scope cl C N' s H fp []) c t
structure kH (X:Cx) (scope:Scope) (N':List Str) (c_:List (Option Nat)) (cl:List (Str×Addr)) (tg elt:Expr) (ifs:List Expr) (g:TG) (tc:Option TT) (te:TE):Prop where
 kind:scope.kind=.function
 Jc:∀y∈scope.names,y.2=.cell->scope.names.lookup y.1=some .cell
 names:∀y∈scope.names,y.2=.local->scope.names.lookup y.1=some .local
 Jd:Ja X scope cl
 TQ:AU X scope N' c_
 tg:∀C s H fp,PG (X.block scope cl C N' s H fp []) tg g
 ifs:NX X scope N' cl ifs tc
 elt:∀C s H fp,PE (X.block scope cl C N' s H fp []) elt te
section
variable {X:Cx} {scope:Scope} {N':List Str} {c_:List (Option Nat)} {cl:List (Str×Addr)} {tg elt aK:Expr} {ifs:List Expr} {g:TG} {tc:Option TT} {te:TE} {pos:Pos}
theorem sY {aa : List (Addr × Obj)} {s2 : Shared} {σ : St} {H2 : Hp} {it : Addr} {fp : List Addr} {tn : Nat -> Heap -> Prop} {J : It} {E : Value -> Shared -> Prop} {Q : V -> Hp -> Prop} {RR : Value -> Addr -> Result -> Shared -> Prop}
    (hc:X.calm=true) (ck:kH X scope N' c_ cl tg elt ifs g tc te) (I2:Inv X aa σ H2 s2) (T:sG X.prog X.w X.K tg J fp it tn) (yQ:tn 0 s2.heap) (f2:∀b∈fp,kA X aa H2 b) (h:vp c_ g tc te σ J H2 Q)
    (Yv:∀(D C:Addr)(H':Hp)(s':Shared)(m:Str->Option Value),Inv X aa σ H' s'->s'.heap.Ns C m->H' C=none->X.eW.heap.objs.size<=C->C≠X.env.locals->C∉X.fs->(∀x c,X.env.cells.lookup x=some c->c≠C)->(∀p∈X.pn++aa,p.1≠C)->Q (.ref D) H'->RR (.ref D) C (.ok .next) s') :
    wpAny (model X.prog X.w) X.A (newList []) (λacc AR=>wpAny (model X.prog X.w) X.A (newFunctionEnv scope X.env.globals cl [] X.env.qual none .none (some X.env)) (λNY y2 =>
      codeAny (model X.prog X.w) X.A (.compStart (.ListComp elt [⟨tg,aK,ifs,0⟩] scope pos) 0 (.ref it) acc { NY with scope:=relabel scope X.env }) (RR acc NY.locals) y2) E AR) E s2:=by
  refine wpAny_newObj_type ?_;generalize hH:s2.heap.push { cls:=.type "list",dict:=none,data:=.seq ([]:List Value).toArray }=hh;have hD:H2 s2.heap.objs.size=none:=I2.bF.fresh (bJ _);have k3:∀b u,s2.heap.get? b=some u->hh.get? b=some u:=λb u e=>by rw[<- hH];exact ee _ e
  have I3:Inv X aa σ (upd H2 s2.heap.objs.size (.lst [])) { s2 with heap:=hh } :=
    I2.laid (t':=s2.toks) k3 (bJ _) ⟨Nat.zero_le _,[],0,.nil,by rw[<- hH];exact jE _ rfl⟩
  have f3:∀b∈fp,kA X aa (upd H2 s2.heap.objs.size (.lst [])) b:=λb hb=>by
    obtain⟨o,e,_⟩:=T.obj _ _ yQ b hb;exact⟨by rw[az (Nat.ne_of_lt (Heap.lt_size e))];exact(f2 b hb).1,(f2 b hb).2⟩
  have b3:∀b∈fp,b<hh.objs.size:=λb hb=>by
    obtain⟨o,e,_⟩:=T.obj _ _ yQ b hb;exact Heap.lt_size (k3 b o e)
  have QO:tn 0 hh:=T.keep _ _ _ yQ λb hb o e=>k3 b o e;obtain⟨W,⟨m0,w0⟩,u3⟩:=h s2.heap.objs.size hD;refine qu (s:={ s2 with heap:=hh }) ?_;have k4:∀b u,hh.get? b=some u->(pushCells (hh.push { cls:=.type "dict",data:=.dict #[] }) scope.names).get? b=some u:=λb u e=>pushCells_keeps _ _ b u (ee _ e);have NZ:(pushCells (hh.push { cls:=.type "dict",data:=.dict #[] }) scope.names).Ns hh.objs.size (λ_=>none):=(Heap.Ns.new hh (.type "dict")).keeps (pushCells_keeps _ _)
  have gW:∀x c,(cellsFrom (hh.objs.size+1) scope.names cl).lookup x=some c->cl.lookup x=some c\/(hh.objs.size+1<=c/\(pushCells (hh.push { cls:=.type "dict",data:=.dict #[] }) scope.names).IsCell c none):=λx c e=>by
    have:=ft (x:=x) (c:=c) scope.names (hh.push { cls:=.type "dict",data:=.dict #[] }) cl (by rw[Heap.size_push];exact e);rw[Heap.size_push]at this;exact this
  generalize hh1:pushCells (hh.push { cls:=.type "dict",data:=.dict #[] }) scope.names=Ep at k4 NZ gW;have QX:tn 0 Ep:=T.keep _ _ _ QO λb hb o e=>k4 b o e;have I4:=sX (tk:=s2.toks) I3 ck.kind ck.Jc ck.Jd ck.TQ f3 b3 NZ k4 gW;generalize hX:X.block scope cl hh.objs.size N' { s2 with heap:=hh } (upd H2 s2.heap.objs.size (.lst [])) fp []=X' at I4;have pv:X'.prog=X.prog:=by rw[<- hX];rfl
  have xw:X'.w=X.w:=by rw[<- hX];rfl
  have xK:X'.K=X.K:=by rw[<- hX];rfl
  have xA:X'.A=X.A:=by rw[<- hX];rfl
  have xc:X'.calm=true:=by rw[<- hX];exact hc
  have Et:X'.env=compEnvC scope (cellsFrom (hh.objs.size+1) scope.names cl) hh.objs.size X.env:=by rw[<- hX];rfl
  have QY:X'.xe=λ_ _=>False:=by rw[<- hX];rfl
  have TR:∀{H':Hp},(∀b∈fp,H' b=none)->∀b∈fp,kA X' [] H' b:=λ{H'} hn b hb=>by
    have z:=I4.ok.SG b (by rw[<- hX];exact hb);exact⟨hn b hb,z.1,I4.ok.Aa b (by rw[<- hX];exact hb),.inl (by rw[<- hX];exact hb),z.2,λp hp=>absurd (show p∈([]:List (Addr×Obj)) by rw[<- hX]at hp;exact hp) (by simp)⟩
  have V1:=ck.tg hh.objs.size { s2 with heap:=hh } (upd H2 s2.heap.objs.size (.lst [])) fp;have N0:=ck.ifs;have N1:=ck.elt hh.objs.size { s2 with heap:=hh } (upd H2 s2.heap.objs.size (.lst [])) fp;rw[hX]at V1 N1
  have loop : ∀ s4 : Shared, Inv X' [] (jK c_ σ) (upd H2 s2.heap.objs.size (.lst [])) s4 -> tn 0 s4.heap ->
      codeAny (model X.prog X.w) X.A (.compLoop (.ListComp elt [⟨tg,aK,ifs,0⟩] scope pos) 0 (.ref it) (.ref s2.heap.objs.size) (compEnvC scope (cellsFrom (hh.objs.size+1) scope.names cl) hh.objs.size X.env)) (RR (.ref s2.heap.objs.size) hh.objs.size) s4:=by
    intro s4 I4 QX;refine qt (λn s'=>∃i τ H' ys,Inv X' [] τ H' s'/\tn i s'.heap/\(∀b∈fp,H' b=none)/\W i n τ H' ys) ?_ m0 ⟨0,_,_,[],I4,QX,λb hb=>(f3 b hb).1,w0⟩;rintro n s5 ⟨i,τ,H5,ys,I5,L_,lr,w5⟩;obtain⟨zT,stop | ⟨go,hz,step⟩⟩:=u3 i n τ H5 ys w5
    · have td:=T.done X' pv xw xK xc i [] s5 τ H5 (λ_ _=>False) I5 (TR lr) L_ stop.1;rw[xA]at td;refine cv td ?_;rintro r s6 ⟨rfl,I6⟩;have base:=I6.base;have os:=I6.os;have bF:=I6.bF;have sE:=I6.free;obtain⟨m,hm,_⟩:=I6.loc;rw[Et]at sE hm;rw[<- hX]at base os bF;refine Yv _ _ H5 s6 m (I3.MY (ch:=fp) os base bF I6.bare λb hb=>⟨(f3 b hb).2.2.2.1,(f3 b hb).2.1,(f3 b hb).2.2.2.2.1,(f3 b hb).2.2.2.2.2⟩) hm sE I3.sz (Nat.ne_of_gt I3.lt) (I3.MS (bJ _)) (λx c e z=>?_) (λp hp z=>?_) stop.2
      · obtain⟨v,q⟩:=I3.cell x c e;exact absurd q.lt (by rw[z];exact Nat.lt_irrefl _)
      · exact absurd (Heap.lt_size (I3.pin p hp).1) (by rw[z];exact Nat.lt_irrefl _)
    · have ti:=T.item X' pv xw xK xc i [] s5 τ H5 (λ_ _=>False) I5 (TR lr) L_ go;rw[xA]at ti;refine cv ti ?_;rintro r s6 ⟨u,rfl,h6⟩;refine cv h6 ?_;rintro _ s7 ⟨x,H7,I7,r7,y7,TU,Eu⟩;have Yw:=I7.pinned (TR Eu) (T.obj _ _ TU);have ga:=V1 _ s7 τ H7 x u _ Yw r7 (step x H7 y7);rw[pv,xw,xA,QY,Et]at ga;refine cv ga ?_;rintro _ s8 ⟨G9,H8,I8,q8⟩
      have fin:∀{QZ:St}{H9:Hp}{s9:Shared}{TV:List V},Inv X' ([]++kB fp s7.heap) QZ H9 s9->(∃m',m'<n/\W (i+1) m' QZ H9 TV)->∃m',m'<n/\∃i τ H' ys,Inv X' [] τ H' s9/\tn i s9.heap/\(∀b∈fp,H' b=none)/\W i m' τ H' ys:=λ{QZ H9 s9 TV} I9 w9=>by
        obtain⟨m',hm,w9⟩:=w9;refine⟨m',hm,i+1,QZ,H9,TV,I9.g_,T.keep _ _ _ TU λb hb o e=>(I9.pin (b,o) (List.mem_append_right _ (List.mem_append_right _ (gy hb e)))).1,λb hb=>?_,w9⟩;obtain⟨o,e,d⟩:=T.obj _ _ TU b hb;exact(I9.pin (b,o) (List.mem_append_right _ (List.mem_append_right _ (gy hb e)))).2.1
      have eV:∀b s9,TP X' ([]++kB fp s7.heap) G9 (λb H3 =>
        if b=true then te G9 H3 λv H4=>H4 s2.heap.objs.size=some (.lst ys)/\∃m',m'<n/\W (i+1) m' G9 (upd H4 s2.heap.objs.size (.lst (ys++[v]))) (ys++[v])
        else ∃ m', m' < n /\ W (i + 1) m' G9 H3 ys) b s9 -> (if b = true then wpAny (model X.prog X.w) X.A (eval elt (compEnvC scope (cellsFrom (hh.objs.size + 1) scope.names cl) hh.objs.size X.env)) (fun x y2 =>
              wpAny (model X.prog X.w) X.A (call (.builtin "list.append") [.ref s2.heap.objs.size,x]) (λ_ AS=>∃m,m<n/\∃i τ H' ys,Inv X' [] τ H' AS/\tn i AS.heap/\(∀b∈fp,H' b=none)/\W i m τ H' ys) (λ_ _=>False) y2) (λ_ _=>False) s9
            else ∃m,m<n/\∃i τ H' ys,Inv X' [] τ H' s9/\tn i s9.heap/\(∀b∈fp,H' b=none)/\W i m τ H' ys):=by
        rintro b s9 ⟨H9,I9,q9⟩
        cases b with
        | false=>rw[if_neg (by simp)]at q9⊢;exact fin I9 q9
        | true =>
          rw[if_pos rfl]at q9⊢;have ge:=N1 _ s9 G9 H9 _ I9 q9;rw[pv,xw,xA,QY,Et]at ge;refine cv ge ?_;rintro v Q0 ⟨y,Yx,Yy,Yz,V2,YA⟩;have ap:=pk (X:=X') _ Q0 G9 Yx (.ref s2.heap.objs.size) [y] (.ref s2.heap.objs.size) [v] (λ_ H'=>∃m',m'<n/\W (i+1) m' G9 H' (ys++[y])) Yy rfl (.cons Yz .nil) ⟨_,ys,y,rfl,rfl,V2,hz,YA⟩;rw[pv,xw,xA,QY]at ap;exact cv ap λ_ TX ⟨_,H11,YB,_,YC⟩=>fin YB YC
      cases tc with
      | none =>
        have ei:ifs=[]:=N0;subst ei;exact wpAny_tests_nil (eV true s8 ⟨H8,I8,q8⟩)
      | some t =>
        obtain⟨c,ei,pt⟩:=N0;subst ei;have pt:=pt hh.objs.size { s2 with heap:=hh } (upd H2 s2.heap.objs.size (.lst [])) fp;rw[hX]at pt;refine wpAny_tests_one ?_;have gt:=pt _ s8 G9 H8 _ I8 q8;rw[pv,xw,xA,QY,Et]at gt;exact cv gt λb s9 q=>eV b s9 q
  have G_:=loop _ I4 QX;exact codeAny_compStart_list G_ (T.self _ 0 _ _ _ QX G_)
end
section
variable {X:Cx} {scope:Scope} {N':List Str} {c_:List (Option Nat)} {cl:List (Str×Addr)} {tg elt aK:Expr} {ifs:List Expr} {g:TG} {tc:Option TT} {te:TE} {wi:TI} {pos:Pos}
theorem Ew (hc : X.calm = true) (hi : PI X tg aK wi) (ck : kH X scope N' c_ cl tg elt ifs g tc te) (hs : ∀ x, foldedSetIterable aK X.env x = pure x := by intro _; rfl) :
    PE X (.ListComp elt [⟨tg,aK,ifs,0⟩] scope pos) (xh c_ wi g tc te):=by
  intro aa s σ H Q I h;rw[eval_ListComp];refine wpAny_comprehension_free (use:=none) rfl hs ck.Jd.is ck.kind ck.names (cv (hi aa s σ H _ I h) λv s1 h1=>cv h1 λQN s2 h2=>?_);obtain⟨it,fp,tn,J,H2,e,I2,T,yQ,f2,hC⟩:=h2;subst e;refine sY (Q:=Q) (RR:=λacc C=>compPost (model X.prog X.w) X.A X.xe none (EP X aa σ Q) acc C) hc ck I2 T yQ f2 hC ?_;intro D C H' s' m I' hm TY Ha Q1 Je xi Jf q;refine⟨m,hm,λh' TZ=>?_⟩;exact⟨.ref D,H',I'.turned (t':=s'.toks) (λb o hb e=>TZ.extBut b o hb e) TY (Ne.symm (Ne.symm Q1)) (.inr Ha) xi Jf,rfl,q⟩
theorem Ey {y : Str}  (hc : X.calm = true) (hN : X.N.Nodup) (hy : X.N[i]? = some y) (hk : X.env.kindOf y = some .local)
    (N3:swapsWith (.ListComp elt [⟨tg,aK,ifs,0⟩] scope pos) (some (.Name y py)) T1.line X.env=pure true)
    (hi:PI X tg aK wi) (ck:kH X scope N' c_ cl tg elt ifs g tc te) (hs:∀x,foldedSetIterable aK X.env x=pure x:=by intro _;rfl) :
    PS X (.Assign [.Name y py] (.ListComp elt [⟨tg,aK,ifs,0⟩] scope pos) T1) (λD σ H=>xh c_ wi g tc te σ H λv H'=>D.nx (σ.set i (some v)) H'):=by
  intro aa s σ H D I h;rw[exec_Assign_Name_used _ _ _ _ N3];refine wpAny_bind (wpAny_standAt (wpAny_bind ?_));show wpAny _ X.A (do let _ <- comprehension (.ListComp elt [⟨tg,aK,ifs,0⟩] scope pos) scope X.env _ (newList []) false (eval aK X.env) (some (assign (.Name y py) X.env))) _ _ s;refine wpAny_bind (wpAny_mono (wpAny_comprehension_free (use:=some (assign (.Name y py) X.env)) (Q:=λ_ s'=>SP X aa D .next s') rfl hs ck.Jd.is ck.kind ck.names (cv (hi aa s σ H _ I h) λv s1 h1=>cv h1 λQN s2 h2=>?_)) (λ_ s' hq=>wpAny_pure (wpAny_pure hq)) λ_ _ e=>e);obtain⟨it,fp,tn,J,H2,e,I2,T,yQ,f2,hC⟩:=h2;subst e;refine sY (Q:=λv H'=>D.nx (σ.set i (some v)) H') (RR:=λacc C=>compPost (model X.prog X.w) X.A X.xe (some (assign (.Name y py) X.env)) (λ_ s'=>SP X aa D .next s') acc C) hc ck I2 T yQ f2 hC ?_;intro D' C H' s' m I' hm TY Ha Q1 Je xi Jf q;show wpAny _ X.A (assign (.Name y py) X.env (.ref D')) _ _ s';obtain⟨o,es,ep,ho,hd,N4⟩:=hm
  have Ip:Inv X (aa++[(C,o)]) σ H' s':=I'.pY λp hp=>(fk.mp hp).elim (λz=>I'.pin p (List.mem_append_right _ z)) λz=>by
    have e:p=(C,o):=by simpa using z
    subst e;exact⟨ho,TY,Q1,Je,λv z=>by rw[hd]at z;cases z⟩
  have st:=p4 (pos:=py) hN hy (.inl hk) (.inr hk) _ s' σ H' (.ref D') (.ref D') (λcI H'=>D.nx cI H') Ip rfl q;refine cv st ?_;rintro _ NC ⟨T3,YD,V3,YE⟩;have pc:=V3.pin (C,o) (by simp);refine⟨m,⟨o,es,ep,pc.1,hd,N4⟩,λh' TZ=>?_⟩;exact⟨T3,YD,V3.g_.turned (t':=NC.toks) (λb o hb e=>TZ.extBut b o hb e) pc.2.1 Q1 (.inr Ha) xi Jf,YE⟩
end
end L2
end
section
namespace L2
open PySem PySem.Spec PyProof.Rows
section
variable {prog:Program} {w:World} {A:Around} {E:Value->Shared->Prop} {s:Shared}
noncomputable def lz(prog:Program)(w:World)(A:Around)(s:Shared)(it:Addr)(x:Value)(after:Heap->Prop):Prop :=
 ∀(Q:Value->Shared->Prop)(E:Value->Shared->Prop),(∀h',after h'->Heap.SameBut it s.heap h'->Q x { s with heap:=h' })->wpAny (model prog w) A (Builtin.SmallTypes.nextOf (.ref it)) Q E s
noncomputable def pw(prog:Program)(w:World)(A:Around)(s:Shared)(it:Addr):Prop :=
 ∀(Q:Value->Shared->Prop)(E:Value->Shared->Prop),(∀h' e,Heap.ExtBut it s.heap h'->(∃o,h'.get? e=some o/\o.cls=.type "StopIteration")->E (.ref e) { s with heap:=h' }) ->
  wpAny (model prog w) A (Builtin.SmallTypes.nextOf (.ref it)) Q E s
theorem mR (hit : s.heap.IsListIter it l i) (hl : s.heap.IsList l items) (hx : items[i]? = some x) :
    lz prog w A s it x (λh=>h.IsListIter it l (i+1)):=λQ E hq=>wpAny_nextOf_list_item hit hl hx hq
theorem mS (hh : A.handled = none) (hit : s.heap.IsListIter it l i) (hl : s.heap.IsList l items) (hx : items[i]? = none) :
    pw prog w A s it:=λQ E hq=>wpAny_nextOf_list_end hh hit hl hx hq
theorem px (hit : s.heap.IsTupleIter it t i) (ht : s.heap.IsTuple t items) (hx : items[i]? = some x) :
    lz prog w A s it x (λh=>h.IsTupleIter it t (i+1)):=by
  intro Q E hq;obtain⟨o,e1,e2,e3⟩:=id hit;obtain⟨ot,t1,_,nt,t2⟩:=ht;unfold Builtin.SmallTypes.nextOf;refine wpAny_bind (wpAny_callSpecial?_slot (name:=Str.ofString "__next__") hit.typeIs F.slot_tuple_iterator_next ?_);refine wpAny_call_entry F.slot_tuple_iterator_next hit.typeIs F.entry_tuple_iterator_next ?_ (F.args_tuple_iterator_next_1 _);show wpAny _ _ (field (.ref it) 0 >>= _) _ _ s;refine wpAny_bind (wpAny_field e1 e3 (x:=.ref t) rfl ?_);show wpAny _ _ (if (Value.ref t==Value.none)=true then _ else _) _ _ s;rw[if_neg (by intro z;cases z)];refine wpAny_bind (wpAny_field e1 e3 (x:=.int i 0) rfl (wpAny_bind (wpAny_seqItems t1 t2 ?_)));simp only[Int.toNat_natCast,hx];refine wpAny_bind (wpAny_setField e1 e3 (by simp) (wpAny_pure ⟨x,rfl,wpAny_pure (hq _ ⟨_,Heap.get?_update_self _ e1 (Obj.isFreed_of_fields (Obj.data_mapFields e3 _)),(Obj.cls_mapFields ..).trans e2,?_⟩ (Heap.SameBut.update ..))⟩));rw[Obj.data_mapFields e3];simp[rawInt]
theorem pz(hh:A.handled=none)(hit:s.heap.IsTupleIter it t i)(ht:s.heap.IsTuple t items)(hx:items[i]?=none):pw prog w A s it:=by
 intro Q E hq;obtain⟨o,e1,e2,e3⟩:=id hit;obtain⟨ot,t1,_,nt,t2⟩:=ht;unfold Builtin.SmallTypes.nextOf;refine wpAny_bind (wpAny_callSpecial?_slot (name:=Str.ofString "__next__") hit.typeIs F.slot_tuple_iterator_next ?_);refine wpAny_call_entry F.slot_tuple_iterator_next hit.typeIs F.entry_tuple_iterator_next ?_ (F.args_tuple_iterator_next_1 _);show wpAny _ _ (field (.ref it) 0 >>= _) _ _ s;refine wpAny_bind (wpAny_field e1 e3 (x:=.ref t) rfl ?_);show wpAny _ _ (if (Value.ref t==Value.none)=true then _ else _) _ _ s;rw[if_neg (by intro z;cases z)];refine wpAny_bind (wpAny_field e1 e3 (x:=.int i 0) rfl (wpAny_bind (wpAny_seqItems t1 t2 ?_)));simp only[Int.toNat_natCast,hx];refine wpAny_bind (wpAny_rule (wpAny_bind (wpAny_setField e1 e3 (by simp) ?_)));show wpAny _ _ (newExc (.type "StopIteration") [] >>= _) _ _ _;refine wpAny_bind ?_;simp only[newExc,newTuple];refine wpAny_bind (wpAny_newObj_type ?_ (by size_fits));refine wpAny_bind (m:=firstArgMember _ _) (wpAny_of_eq (a:=Value.none) (by first | rfl | (simp only[firstArgMember];rfl)) (wpAny_newObj_type ?_ (by size_fits)));simp only[raiseNew];refine wpAny_bind (wpAny_handled ?_)
 first | rw[show A.in1.handled=none from hh] | rw[hh]
 exact wpAny_bind (wpAny_pure (wpAny_throw (hq _ _ (((Heap.SameBut.update ..).extBut.push _).push _) ⟨_,jE _ rfl,rfl⟩)))
theorem y3 {e it : Addr} {i : Nat} {x oH : Value} {st : Heap -> Prop} {Q : Option Value -> Shared -> Prop} (he : IsEnum s.heap e it i oH) (lA : e ≠ it) (ko : it < s.heap.objs.size) (hn : lz prog w A.in1 s it x st)
    (sZ:∀h h',st h->(∀o,h.get? it=some o->h'.get? it=some o)->st h')
    (hQ:∀h',IsEnumOut h' e it ((i:Int)+1) x s.heap.objs.size->st h'->h'.get? s.heap.objs.size=some { cls:=.type "tuple",data:=.seq #[.int i s.toks,x] } ->
      (∀b o,b≠e->b≠it->s.heap.get? b=some o->h'.get? b=some o)->Q (some (.ref s.heap.objs.size)) { s with heap:=h',toks:=s.toks+1 }) :
    wpAny (model prog w) A (pyNext (.ref e)) Q E s:=by
  have hT:s.TypeIs (.ref e) "enumerate" := ⟨_,he,rfl⟩;unfold pyNext
  refine wpAny_bind (wpAny_attempt (wpAny_callSpecial?_slot (name:=Str.ofString "__next__") hT F.slot_enumerate_next
    (wpAny_call_entry F.slot_enumerate_next hT F.entry_enumerate_next ?_ (F.args_enumerate_next_1 _))))
  obtain⟨hp,g,d,tk,os⟩:=s;show wpAny _ _ (field (.ref e) 2 >>= _) _ _ _;refine wpAny_bind (wpAny_field he rfl (x:=.ref it) rfl (wpAny_bind (hn _ _ λk1 st1 N5=>?_)));have N5:Heap.SameBut it hp k1:=N5;have a1:IsEnum k1 e it i oH:=(N5.2 e lA).trans he;refine wpAny_bind (wpAny_field (s:=⟨k1,g,d,tk,os⟩) a1 rfl (x:=rawInt i) rfl ?_);refine wpAny_bind (wpAny_field (s:=⟨k1,g,d,tk,os⟩) a1 rfl (x:=.none) rfl ?_);refine wpAny_bind (wpAny_mkInt (s:=⟨k1,g,d,tk,os⟩) ?_);refine wpAny_bind (wpAny_setField_rec (s:=⟨k1,g,d,tk+1,os⟩) a1 (by simp) λk2 a2 Q2=>?_);have Q2:Heap.SameBut e k1 k2:=Q2;have a2:IsEnum k2 e it ((i:Int)+1) oH:=a2;refine wpAny_bind (wpAny_setField_rec (s:=⟨k2,g,d,tk+1,os⟩) a2 (by simp) λk3 a3 Q3=>?_);have Q3:Heap.SameBut e k2 k3:=Q3;have a3:IsEnum k3 e it ((i:Int)+1) oH:=a3;refine wpAny_bind (wpAny_newTuple (s:=⟨k3,g,d,tk+1,os⟩) ?_);have sz:k3.objs.size=hp.objs.size:=by rw[Q3.1,Q2.1,N5.1]
  have el:e<hp.objs.size:=Heap.lt_size he;have YF:hp.objs.size≠e:=Nat.ne_of_gt el;generalize Md:k3.push { cls:=.type "tuple",data:=.seq #[.int i tk,x] }=k4;have a4:IsEnum k4 e it ((i:Int)+1) oH:=by rw[<- Md];exact ee _ a3
  have t4:k4.get? hp.objs.size=some { cls:=.type "tuple",data:=.seq #[.int i tk,x] }:=by rw[<- Md,<- sz];exact jE _ rfl
  have up:∀b o,b≠e->k1.get? b=some o->k4.get? b=some o:=λb o hb q=>by rw[<- Md];exact ee _ (Q3.extBut b o hb (Q2.extBut b o hb q))
  dsimp only;rw[sz];refine wpAny_bind ?_;unfold Builtin.SmallTypes.ownedTupleIsFree;refine wpAny_bind (wpAny_field (s:=⟨k4,g,d,tk+1,os⟩) a4 rfl (x:=.none) rfl (wpAny_pure ?_));simp only[if_true];refine wpAny_bind (wpAny_rule (wpAny_bind (wpAny_field (s:=⟨k4,g,d,tk+1,os⟩) a4 rfl (x:=oH) rfl ?_)));refine wpAny_bind (wpAny_setField_rec (s:=⟨k4,g,d,tk+1,os⟩) a4 (by simp) λk5 a5 T4=>?_);have T4:Heap.SameBut e k4 k5:=T4;have a5:IsEnum k5 e it ((i:Int)+1) x:=a5;refine wpAny_bind ?_;unfold Builtin.SmallTypes.ownedTupleHandOut;refine wpAny_bind (wpAny_setField_rec (s:=⟨k5,g,d,tk+1,os⟩) a5 (by simp) λk6 a6 T5=>?_);have T5:Heap.SameBut e k5 k6:=T5;have a6:IsEnumOut k6 e it ((i:Int)+1) x hp.objs.size:=a6;refine wpAny_setField_rec (s:=⟨k6,g,d,tk+1,os⟩) a6 (by simp) λk7 a7 T6=>?_;have T6:Heap.SameBut e k6 k7:=T6;have a7:IsEnumOut k7 e it ((i:Int)+1) x hp.objs.size:=a7;have T7:∀b o,b≠e->k4.get? b=some o->k7.get? b=some o:=λb o hb q=>T6.extBut b o hb (T5.extBut b o hb (T4.extBut b o hb q));refine wpAny_bind (wpAny_letGo (wpAny_pure ⟨_,rfl,wpAny_pure (hQ k7 a7 ?_ (T7 _ _ YF t4) ?_)⟩))
  · exact sZ k1 k7 st1 λo q=>T7 _ _ (Ne.symm lA) (up _ _ (Ne.symm lA) q)
  · intro b o QW y4 q;exact T7 b o QW (up b o QW (N5.extBut b o y4 q))
theorem s_ (he : IsEnum s.heap e it i oH) (hn : pw prog w A.in1 s it)
    (hQ:∀h',Heap.ExtBut it s.heap h'->Q none { s with heap:=h' }):wpAny (model prog w) A (pyNext (.ref e)) Q E s:=by
  have hT:s.TypeIs (.ref e) "enumerate" := ⟨_,he,rfl⟩;unfold pyNext
  refine wpAny_bind (wpAny_attempt (wpAny_callSpecial?_slot (name:=Str.ofString "__next__") hT F.slot_enumerate_next
    (wpAny_call_entry F.slot_enumerate_next hT F.entry_enumerate_next ?_ (F.args_enumerate_next_1 _))))
  show wpAny _ _ (field (.ref e) 2 >>= _) _ _ _;refine wpAny_bind (wpAny_field he rfl (x:=.ref it) rfl (wpAny_bind (hn _ _ λk x hk hx=>?_)));obtain⟨o,ho,hc⟩:=hx;exact wpAny_bind (wpAny_isInstance (T := "StopIteration") (b:=true) ⟨o,ho,hc⟩ isSubtype_stop (wpAny_pure (hQ _ hk)))
end
theorem lB{h:Heap}{o:Obj}{b:Addr}(hb:b≠h.objs.size):(h.push o).get? b=h.get? b:=Heap.get?_push_ne h b o hb
theorem Inv.qv{t':Nat}{ch:List Addr}(I:Inv X aa σ H s)(k:∀b o,b∉ch->s.heap.get? b=some o->h'.get? b=some o)(hf:∀b∈ch,kA X aa H b):Inv X aa σ H { s with heap:=h',toks:=t' }:=by
 have MV:∀b u,H b=some u->b∉ch:=λb u e z=>by rw[(hf b z).1]at e;cases e
 refine I.step (g':=s.gens) (d':=s.drawn) (ch:=ch) (λb hb=>⟨(hf b hb).2.2.2.1,(hf b hb).2.1,(hf b hb).2.2.2.2.1,(hf b hb).2.2.2.2.2⟩) (λb o _ _ hc e _=>k b o hc e) (λb o _ _ hc e _=>⟨o.slots,k b o hc e⟩) (λ_ _ _ _ n=>n)
  (λb o hc e=>⟨o,k b o hc e⟩) (λ_ _ e=>e) (λ_ _ _ e=>e) (λb ps e=>⟨#[],by rw[e];simp⟩) (λm hm=>?_) (λb u e=>?_) I.bare
 ·obtain⟨o,es,ep,ho,r⟩:=hm;exact⟨o,es,ep,k _ o (λz=>(hf _ z).2.1 rfl) ho,r⟩
 ·refine(I.bF b u e).yI (λc v hc q=>k c v ?_ q) (λ_ q=>q) λ_ _ q=>q;rcases hc with z | z
  ·rw[z];exact MV b u e
  ·exact MV c _ z
def lX(K:PySem.W.Frag)(H:Hp)(l:Bool)(a:Addr)(xs:List V):Prop:=if l=true then eG K H a xs else fz K H a xs
def Q4(K:PySem.W.Frag)(l:Bool)(a:Addr):It :=
 ⟨λi H=>∃xs x,lX K H l a xs/\xs[i]?=some x,λi H x H'=>∃p y,x=.ref p/\H p=none/\H'=upd H p (.tup [.int i,y])/\∀xs,lX K H l a xs->xs[i]?=some y,λi H=>∃xs,lX K H l a xs/\xs.length<=i⟩
noncomputable def gX(l:Bool)(h:Heap)(it a:Addr)(i:Nat):Prop:=if l=true then h.IsListIter it a i else h.IsTupleIter it a i
theorem gX.at(x:gX l h it a i)(e:∀o,h.get? it=some o->h'.get? it=some o):gX l h' it a i:=by
 cases l with
 | true=>exact Heap.IsListIter.at (show h.IsListIter it a i from x) e
 | false=>exact Heap.IsTupleIter.at (show h.IsTupleIter it a i from x) e
theorem gX.obj(x:gX l h it a i):∃o,h.get? it=some o/\o.data=.fields #[.ref a,.int i 0]:=by
 cases l with
 | true=>obtain⟨o,e,_,d⟩:=(show h.IsListIter it a i from x);exact⟨o,e,d⟩
 | false=>obtain⟨o,e,_,d⟩:=(show h.IsTupleIter it a i from x);exact⟨o,e,d⟩
theorem y6 {P : Program} {w : World} {K : PySem.W.Frag} {tf : List Expr} {k : Nat} {tp : Pos} (l : Bool) (a e it : Addr) (lA : e ≠ it) :
    sG P w K (.Tuple tf k tp) (Q4 K l a) [e,it] e (λi h=>(∃oH,IsEnum h e it i oH)/\gX l h it a i) where
  mem:=by simp
  obj:=λi h st b hb=>by
    obtain⟨⟨oH,h1⟩,h2⟩:=st;have hb:b=e\/b=it:=by simpa using hb
    rcases hb with rfl | rfl
    · exact⟨_,h1,λv z=>by have z':Data.fields _=Data.cell v:=z;cases z'⟩
    · obtain⟨o,q,d⟩:=h2.obj;exact⟨o,q,λv z=>by rw[d]at z;cases z⟩
  keep:=λi h h' st k=>by
    obtain⟨⟨oH,h1⟩,h2⟩:=st;exact⟨⟨oH,k e (by simp) _ h1⟩,h2.at λo q=>k it (by simp) o q⟩
  item:=by
    intro X hP hw hK hc i aa s σ H E I hf st hg;subst hP hw hK;obtain⟨⟨oH,h1⟩,h2⟩:=st;obtain⟨xs,x,hq,hx⟩:=hg;have V4:=hf e (by simp);have Hb:=hf it (by simp);obtain⟨oi,qi,di⟩:=h2.obj
    have main : ∀ (u : Value), RelV x u -> lz X.prog X.w X.A.in1 s it u (fun h => gX l h it a (i + 1)) -> (∀ ys, lX X.K H l a ys -> ys[i]? = some x) ->
        wpAny (model X.prog X.w) X.A (pyNext (.ref e)) (λr s1=>∃u,r=some u /\
          wpAny (model X.prog X.w) X.A (letOwnedTupleGo (.Tuple tf k tp) (.ref e) u) (λ_ s2=>∃x H',Inv X aa σ H' s2/\RelV x u/\(Q4 X.K l a).L9 i H x H'/\((∃oH,IsEnum s2.heap e it ((i+1:Nat):Int) oH)/\gX l s2.heap it a (i+1))/\∀b∈[e,it],H' b=none) E s1) E s:=by
      intro u ru hn vg;refine y3 h1 lA (Heap.lt_size qi) hn (λh h' st hk=>st.at hk) λh' o1 o2 o3 o4=>⟨_,rfl,?_⟩;refine wpAny_letOwnedTupleGo_enum (s:={ s with heap:=h',toks:=s.toks+1 }) o1 λMf p1 p2=>?_;have p2:Heap.SameBut e h' Mf:=p2;have fr:H s.heap.objs.size=none:=I.bF.fresh (bJ _)
      have I1:Inv X aa σ (upd H s.heap.objs.size (.tup [.int i,x])) { s with heap:=s.heap.push { cls:=.type "tuple",data:=.seq #[.int i s.toks,u] },toks:=s.toks+1 } :=
        I.laid (λb o q=>ee _ q) (bJ _) ⟨by show 2<=sizeLine;decide,[.int i s.toks,u],.cons ⟨_,rfl⟩ (.cons ru .nil),⟨_,jE _ rfl,rfl,0,rfl⟩⟩
      have ne1:e≠s.heap.objs.size:=Nat.ne_of_lt (Heap.lt_size h1);have ne2:it≠s.heap.objs.size:=Nat.ne_of_lt (Heap.lt_size qi)
      have N6:∀b∈[e,it],kA X aa (upd H s.heap.objs.size (.tup [.int i,x])) b:=λb hb=>by
        have Er:b=e\/b=it:=by simpa using hb
        rcases Er with z | z
        · subst z;exact⟨by rw[az ne1];exact V4.1,V4.2⟩
        · subst z;exact⟨by rw[az ne2];exact Hb.1,Hb.2⟩
      have I2:=I1.qv (h':=Mf) (t':=s.toks+1) (ch:=[e,it]) (λb o hb q=>by
        have Er:b≠e/\b≠it:=by simpa using hb
        refine p2.extBut b o Er.1 ?_;by_cases hz:b=s.heap.objs.size
        · subst hz;have q':(s.heap.push { cls:=.type "tuple",data:=.seq #[.int i s.toks,u] }).get? s.heap.objs.size=some _:=jE _ rfl;rw[q']at q;cases q;exact o3
        · have q2 : s.heap.get? b = some o := by
            have ko:=Heap.lt_size q;rw[Heap.size_push]at ko
            cases hs:s.heap.get? b with
            | some o'=>rw[ee _ hs]at q;exact q
            | none=>exact absurd q (by rw[lB hz,hs];intro z;cases z)
          exact o4 b o Er.1 Er.2 q2) N6
      refine⟨.ref s.heap.objs.size,_,I2,rfl,⟨s.heap.objs.size,x,rfl,fr,rfl,vg⟩,⟨⟨_,p1⟩,o2.at λo q=>p2.extBut _ _ (Ne.symm lA) q⟩,λb hb=>(N6 b hb).1⟩
    cases l with
    | true =>
      have hq:eG X.K H a xs:=hq;obtain⟨aC,rv,p,hz⟩:=I.list hq;obtain⟨u,hu,ru⟩:=rv.get hx;exact main u ru (mR (show s.heap.IsListIter it a i from h2) p.isList (by simpa using hu)) λys hy=>by rw[I.mG (show eG X.K H a ys from hy) hq];exact hx
    | false =>
      have hq:fz X.K H a xs:=hq;obtain⟨aC,rv,p,hz⟩:=I.tuple hq;obtain⟨u,hu,ru⟩:=rv.get hx;exact main u ru (px (show s.heap.IsTupleIter it a i from h2) (show s.heap.IsTuple a aC.toArray from p) (by simpa using hu)) λys hy=>by rw[I.kz (show fz X.K H a ys from hy) hq];exact hx
  done:=by
    intro X hP hw hK hc i aa s σ H E I hf st hg;subst hP hw hK;obtain⟨⟨oH,h1⟩,h2⟩:=st;obtain⟨xs,hq,hx⟩:=hg;have Hb:=hf it (by simp);have hh:X.A.in1.handled=none:=I.ok.hd hc;have fin:∀h',Heap.ExtBut it s.heap h'->(none:Option Value)=none/\Inv X aa σ H { s with heap:=h' }:=λh' eb=>⟨rfl,I.turned (t':=s.toks) (λb o hb q=>eb b o hb q) Hb.1 Hb.2.1 Hb.2.2.2.1 Hb.2.2.2.2.1 Hb.2.2.2.2.2⟩
    cases l with
    | true =>
      obtain⟨aC,rv,p,hz⟩:=I.list (show eG X.K H a xs from hq);have hl:=rv.length;exact s_ h1 (mS hh (show s.heap.IsListIter it a i from h2) p.isList (by simp;omega)) λh' eb=>fin h' eb
    | false =>
      obtain⟨aC,rv,p,hz⟩:=I.tuple (show fz X.K H a xs from hq);have hl:=rv.length;exact s_ h1 (pz hh (show s.heap.IsTupleIter it a i from h2) (show s.heap.IsTuple a aC.toArray from p) (by simp;omega)) λh' eb=>fin h' eb
  self:=λA i s Q E st h=>by
    obtain⟨⟨oH,h1⟩,_⟩:=st;exact wpAny_pyIter_enum h1 h
theorem mT (t : Addr) (items : Array Value) :
    Meets (Builtin.«enumerate.__new__» ⟨[.type "enumerate",.ref t],[]⟩) (λ_ R s=>s.heap.IsTuple t items /\
      R (.ok (.ret (.ref (s.heap.push { cls:=.type "tuple_iterator",data:=.fields #[.ref t,.int 0 0] }).objs.size)))
        { s with heap:=(s.heap.push { cls:=.type "tuple_iterator",data:=.fields #[.ref t,.int 0 0] }).push { cls:=.type "enumerate",data:=.fields #[.none,.bool false,.ref s.heap.objs.size,rawInt 0,.none,.none] } }) :=
  .of_wp λprog w A R s h=>by
    obtain⟨hp,g,d,tk,os⟩:=s;obtain⟨hT,h⟩:=h;have Jg:=sub_enumerate;have hT:Heap.IsTuple (Shared.heap ⟨hp,g,d,tk,os⟩) t items:=hT
    wp_walk
    refine wpAny_stack_any λst=>wpAny_pure ?_;split
    · rename_i c _ _ _ _ _
      cases (c==Value.type "enumerate")<;>(wp_walk using wpAny_pyIter_tuple hT;exact⟨_,rfl,h⟩)
    · wp_walk using wpAny_pyIter_tuple hT
      exact⟨_,rfl,h⟩
section
variable {prog:Program} {w:World} {A:Around} {E:Value->Shared->Prop} {s:Shared}
theorem y8 (hs : if l = true then s.heap.IsList a items else s.heap.IsTuple a items)
    (h:∀h',IsEnum h' (s.heap.objs.size+1) s.heap.objs.size 0 .none->gX l h' s.heap.objs.size a 0->(∀b o,s.heap.get? b=some o->h'.get? b=some o)->Q (.ref (s.heap.objs.size+1)) { s with heap:=h' }) :
    wpAny (model prog w) A (call (.type "enumerate") [.ref a]) Q E s:=by
  cases l with
  | true=>exact call_enumerate_list (show s.heap.IsList a items from hs) λh' h1 h2 _ h4=>h h' h1 h2 h4
  | false =>
    have hs:s.heap.IsTuple a items:=hs;refine callType_new F.called_enumerate (by decide) (F.typeCall_enumerate_1 _) (F.newCall_enumerate_1 _) (λobj=>F.args_object_init_2 obj _) F.entry_enumerate_new (mT a items) ⟨hs,?_⟩;have hz:(s.heap.push { cls:=.type "tuple_iterator",data:=.fields #[.ref a,.int 0 0] }).objs.size=s.heap.objs.size+1:=Heap.size_push ..;show _/\_;have he:=jE (s.heap.push { cls:=.type "tuple_iterator",data:=.fields #[.ref a,.int 0 0] }) (o:={ cls:=.type "enumerate",data:=.fields #[.none,.bool false,.ref s.heap.objs.size,rawInt 0,.none,.none] }) rfl;rw[hz]at he⊢;exact⟨⟨_,he,rfl⟩,h _ he ⟨_,ee _ (jE _ rfl),rfl,rfl⟩ λb o x=>ee _ (ee _ x)⟩
end
section
variable {X:Cx}
def N7(K:PySem.W.Frag)(ta:TA):TI:=λσ H R=>ta σ H λvs H1=>∃(l:Bool) (a:Addr),vs=[.ref a]/\(∃xs,lX K H1 l a xs)/\R (Q4 K l a) H1
theorem Ez {a : Expr} {ta : TA} {p pos tp : Pos} {tf : List Expr} {k : Nat} (hg : Gl X "enumerate") (hm : X.mg "enumerate" = none) (ha : PA X [a] ta) (hs : starEach [a] X.env = [(false, eval a X.env)]) :
    PI X (.Tuple tf k tp) (.Call (.Name "enumerate" p) [a] [] pos) (N7 X.K ta):=by
  intro aa s σ H R I h;refine Call_ (jd I hg hm boot_enumerate (PyProof.Rows.callWith_type1 (cv (ha pos aa s σ H _ I h) ?_) hs rfl));rintro us s1 ⟨vs,H1,I1,r1,q1⟩;obtain⟨l,b,rfl,⟨xs,hq⟩,q⟩:=q1;obtain⟨u,rfl,ru⟩:=vals1 r1;cases ru
  have hit:∃aC:Array Value,if l=true then s1.heap.IsList b aC else s1.heap.IsTuple b aC:=by
    cases l with
    | true=>obtain⟨aC,_,p,_⟩:=I1.list (show eG X.K H1 b xs from hq);exact⟨aC.toArray,p.isList⟩
    | false=>obtain⟨aC,_,p,_⟩:=I1.tuple (show fz X.K H1 b xs from hq);exact⟨aC.toArray,p⟩
  obtain⟨aC,hit⟩:=hit;refine y8 hit λh' e1 e2 e3=>?_;refine wpAny_pyIter_enum (s:={ s1 with heap:=h' }) e1 ?_;have I2:Inv X aa σ H1 { s1 with heap:=h' }:=I1.kept (t':=s1.toks) e3;refine⟨s1.heap.objs.size+1,[s1.heap.objs.size+1,s1.heap.objs.size],_,_,H1,rfl,I2,y6 l b _ _ (Nat.succ_ne_self _),⟨⟨_,e1⟩,e2⟩,λc hc=>?_,q⟩;have lR:c=s1.heap.objs.size+1\/c=s1.heap.objs.size:=by simpa using hc
  rcases lR with z | z
  · subst z;exact I1.u5 (Nat.le_succ _) (I1.bF.fresh (Nat.le_succ _))
  · subst z;exact I1.u5 (bJ _) (I1.bF.fresh (bJ _))
end
end L2
end
section
namespace L2
open PySem PySem.Spec PyProof.Rows
section
variable {prog:Program} {w:World} {A:Around} {E:Value->Shared->Prop} {s:Shared}
structure ZA (z ti to i j:Addr):Prop where
 tz:ti≠z
 oz:to≠z
 iz:i≠z
 jz:j≠z
 tt:ti≠to
 di:ti≠i
 dj:ti≠j
 oi:to≠i
 oj:to≠j
 ij:i≠j
theorem AV (D : ZA z ti to i j) (zz : IsZip s.heap z ti to .none) (yi : IsPair s.heap ti (.ref i) (.ref j)) (yo : IsPair s.heap to p q)
    (n1:∀h',(∀b o,b≠z->s.heap.get? b=some o->h'.get? b=some o)->lz prog w A.in1 { s with heap:=h' } i x st1)
    (n2:∀h',(∀b o,b≠z->b≠to->b≠i->s.heap.get? b=some o->h'.get? b=some o)->lz prog w A.in1 { s with heap:=h' } j y yQ)
    (k1:∀h h',st1 h->(∀o,h.get? i=some o->h'.get? i=some o)->st1 h') (k2:∀h h',yQ h->(∀o,h.get? j=some o->h'.get? j=some o)->yQ h')
    (hQ:∀h',IsZip h' z ti to (rawInt s.heap.objs.size)->IsPair h' to x y->st1 h'->yQ h'->h'.get? s.heap.objs.size=some { cls:=.type "tuple",data:=.seq #[x,y] } ->
      (∀b o,b≠z->b≠to->b≠i->b≠j->s.heap.get? b=some o->h'.get? b=some o)->Q (some (.ref s.heap.objs.size)) { s with heap:=h' }) :
    wpAny (model prog w) A (pyNext (.ref z)) Q E s:=by
  have hT:s.TypeIs (.ref z) "zip" := ⟨_,zz,rfl⟩;obtain⟨hp,g,d,tk,os⟩:=s;unfold pyNext;refine wpAny_bind (wpAny_attempt (wpAny_callSpecial?_slot (name:=Str.ofString "__next__") hT F.slot_zip_next (wpAny_call_entry F.slot_zip_next hT F.entry_zip_next ?_ (F.args_zip_next_1 _))));show wpAny _ _ (field (.ref z) 2 >>= _) _ _ _;refine wpAny_bind (wpAny_field zz rfl (x:=.bool false) rfl ?_);show wpAny _ _ (field (.ref z) 3 >>= _) _ _ _;refine wpAny_bind (wpAny_field zz rfl (x:=.ref ti) rfl ?_);refine wpAny_bind (wpAny_seqItems yi rfl ?_);show wpAny _ _ (Builtin.SmallTypes.ownedTupleIsFree (.ref z) >>= _) _ _ _;refine wpAny_bind ?_;unfold Builtin.SmallTypes.ownedTupleIsFree;refine wpAny_bind (wpAny_field zz rfl (x:=.none) rfl (wpAny_pure ?_));simp only[if_true];refine wpAny_bind (wpAny_rule (wpAny_bind (wpAny_field zz rfl (x:=.ref to) rfl ?_)));refine wpAny_bind (wpAny_setField_rec zz (by simp) λe1 z1 s1=>?_);have s1:Heap.SameBut z hp e1:=s1
  replace z1:IsZip e1 z ti to .ellipsis:=z1
  refine wpAny_bind ?_;simp only[List.zipIdx_cons,List.zipIdx_nil,List.forIn_cons,List.forIn_nil];refine wpAny_bind (wpAny_bind (wpAny_onRaise ?_));show wpAny _ _ (Builtin.SmallTypes.nextOf (.ref i) >>= _) _ _ _;refine wpAny_bind (n1 e1 (λb o hb=>s1.extBut b o hb) _ _ λe2 a2 s2=>wpAny_pure ?_);have s2:Heap.SameBut i e1 e2:=s2;have o2:IsPair e2 to p q:=s2.extBut _ _ D.oi (s1.extBut _ _ D.oz yo);refine wpAny_bind (wpAny_seqItems o2 rfl ?_);refine wpAny_bind (wpAny_updateSeq_pair (s:=⟨e2,g,d,tk,os⟩) o2 λe3 o3 s3=>?_);have s3:Heap.SameBut to e2 e3:=s3
  replace o3:IsPair e3 to x q:=o3
  refine wpAny_bind (wpAny_letGo (wpAny_pure ?_));refine wpAny_bind (wpAny_bind (wpAny_onRaise ?_));show wpAny _ _ (Builtin.SmallTypes.nextOf (.ref j) >>= _) _ _ _;refine wpAny_bind (n2 e3 (λb o b1 b2 b3 u=>s3.extBut b o b2 (s2.extBut b o b3 (s1.extBut b o b1 u))) _ _ λe4 a4 s4=>wpAny_pure ?_);have s4:Heap.SameBut j e3 e4:=s4;have o4:IsPair e4 to x q:=s4.extBut _ _ D.oj o3;refine wpAny_bind (wpAny_seqItems o4 rfl ?_);refine wpAny_bind (wpAny_updateSeq_pair (s:=⟨e4,g,d,tk,os⟩) o4 λe5 o5 s5=>?_);have s5:Heap.SameBut to e4 e5:=s5
  replace o5:IsPair e5 to x y:=o5
  refine wpAny_bind (wpAny_letGo (wpAny_pure (wpAny_pure ?_)));refine wpAny_bind (wpAny_seqItems o5 rfl ?_);refine wpAny_bind (wpAny_newTuple ?_);have sz:e5.objs.size=hp.objs.size:=by rw[s5.1,s4.1,s3.1,s2.1,s1.1]
  have z5:IsZip e5 z ti to .ellipsis:=s5.extBut _ _ D.oz.symm (s4.extBut _ _ D.jz.symm (s3.extBut _ _ D.oz.symm (s2.extBut _ _ D.iz.symm z1)))
  have YG:∀b o,b≠z->b≠to->b≠i->b≠j->hp.get? b=some o->e5.get? b=some o:=λb o b1 b2 b3 b4 u =>
    s5.extBut _ _ b2 (s4.extBut _ _ b4 (s3.extBut _ _ b2 (s2.extBut _ _ b3 (s1.extBut _ _ b1 u))))
  have V5:z<e5.objs.size:=Heap.lt_size z5;show wpAny _ _ (Builtin.SmallTypes.ownedTupleHandOut (.ref z) (.ref e5.objs.size) >>= _) _ _ _;refine wpAny_bind ?_;unfold Builtin.SmallTypes.ownedTupleHandOut;have z6:IsZip (e5.push { cls:=.type "tuple",data:=.seq #[x,y] }) z ti to .ellipsis:=ee _ z5;refine wpAny_bind (wpAny_setField_rec z6 (by simp) λe7 z7 s7=>?_);have s7:Heap.SameBut z (e5.push { cls:=.type "tuple",data:=.seq #[x,y] }) e7:=s7
  replace z7:IsZip e7 z ti to (rawInt e5.objs.size):=z7
  refine wpAny_setField_rec (s:=⟨e7,g,d,tk,os⟩) z7 (by simp) λe8 z8 s8=>?_;have s8:Heap.SameBut z e7 e8:=s8
  replace z8:IsZip e8 z ti to (rawInt e5.objs.size):=z8
  have up:∀b o,b≠z->e5.get? b=some o->e8.get? b=some o:=λb o b1 u=>s8.extBut _ _ b1 (s7.extBut _ _ b1 (ee _ u));have t8:e8.get? e5.objs.size=some { cls:=.type "tuple",data:=.seq #[x,y] }:=s8.extBut _ _ (Nat.ne_of_gt V5) (s7.extBut _ _ (Nat.ne_of_gt V5) (jE _ rfl));rw[sz]at z8 t8;refine wpAny_pure ⟨_,rfl,wpAny_pure ?_⟩;show Q (some (.ref e5.objs.size)) _;rw[sz]
  exact hQ e8 z8 (up _ _ D.oz o5) (k1 e2 e8 a2 λo u=>up _ o D.iz (s5.extBut _ _ D.oi.symm (s4.extBut _ _ D.ij (s3.extBut _ _ D.oi.symm u)))) (k2 e4 e8 a4 λo u=>up _ o D.jz (s5.extBut _ _ D.oj.symm u)) t8
    λb o b1 b2 b3 b4 u=>up b o b1 (YG b o b1 b2 b3 b4 u)
theorem EA (D : ZA z ti to i j) (zz : IsZip s.heap z ti to .none) (yi : IsPair s.heap ti (.ref i) (.ref j)) (yo : IsPair s.heap to p q)
    (n:(∀h',(∀b o,b≠z->s.heap.get? b=some o->h'.get? b=some o)->pw prog w A.in1 { s with heap:=h' } i) \/
      (∃x,(∀h',(∀b o,b≠z->s.heap.get? b=some o->h'.get? b=some o)->lz prog w A.in1 { s with heap:=h' } i x st1) /\
        ∀h',(∀b o,b≠z->b≠to->b≠i->s.heap.get? b=some o->h'.get? b=some o)->pw prog w A.in1 { s with heap:=h' } j))
    (hQ:∀h',(∀b o,b≠z->b≠to->b≠i->b≠j->s.heap.get? b=some o->h'.get? b=some o)->Q none { s with heap:=h' }) :
    wpAny (model prog w) A (pyNext (.ref z)) Q E s:=by
  have hT:s.TypeIs (.ref z) "zip" := ⟨_,zz,rfl⟩;obtain⟨hp,g,d,tk,os⟩:=s
  have fin : ∀ (h' : Heap) (e : Addr), (∀ b o, b ≠ z -> b ≠ to -> b ≠ i -> b ≠ j -> hp.get? b = some o -> h'.get? b = some o) -> (∃ o, h'.get? e = some o /\ o.cls = .type "StopIteration") ->
      wpAny (model prog w) A (do if <- isInstance (.ref e) (.type "StopIteration") then pure none else throw (.ref e)) Q E ⟨h',g,d,tk,os⟩:=λh' e hk ⟨o,ho,hc⟩ =>
    wpAny_bind (wpAny_isInstance (T := "StopIteration") (b:=true) ⟨o,ho,hc⟩ isSubtype_stop (wpAny_pure (hQ h' hk)))
  unfold pyNext;refine wpAny_bind (wpAny_attempt (wpAny_callSpecial?_slot (name:=Str.ofString "__next__") hT F.slot_zip_next (wpAny_call_entry F.slot_zip_next hT F.entry_zip_next ?_ (F.args_zip_next_1 _))));show wpAny _ _ (field (.ref z) 2 >>= _) _ _ _;refine wpAny_bind (wpAny_field zz rfl (x:=.bool false) rfl ?_);show wpAny _ _ (field (.ref z) 3 >>= _) _ _ _;refine wpAny_bind (wpAny_field zz rfl (x:=.ref ti) rfl ?_);refine wpAny_bind (wpAny_seqItems yi rfl ?_);show wpAny _ _ (Builtin.SmallTypes.ownedTupleIsFree (.ref z) >>= _) _ _ _;refine wpAny_bind ?_;unfold Builtin.SmallTypes.ownedTupleIsFree;refine wpAny_bind (wpAny_field zz rfl (x:=.none) rfl (wpAny_pure ?_));simp only[if_true];refine wpAny_bind (wpAny_rule (wpAny_bind (wpAny_field zz rfl (x:=.ref to) rfl ?_)));refine wpAny_bind (wpAny_setField_rec zz (by simp) λe1 z1 s1=>?_);have s1:Heap.SameBut z hp e1:=s1
  replace z1:IsZip e1 z ti to .ellipsis:=z1
  refine wpAny_bind ?_;simp only[List.zipIdx_cons,List.zipIdx_nil,List.forIn_cons,List.forIn_nil];refine wpAny_bind (wpAny_bind (wpAny_onRaise ?_));show wpAny _ _ (Builtin.SmallTypes.nextOf (.ref i) >>= _) _ _ _;rcases n with n | ⟨x,n1,n2⟩
  · refine wpAny_bind (n e1 (λb o hb=>s1.extBut b o hb) _ _ λe2 e s2 he=>?_);have s2:Heap.ExtBut i e1 e2:=s2;obtain⟨oe,ge,ce⟩:=he;have ge:e2.get? e=some oe:=ge;have z2:IsZip e2 z ti to .ellipsis:=s2 _ _ D.iz.symm z1;have ez:e≠z:=λu=>by subst u;rw[z2]at ge;cases ge;simp at ce
    refine wpAny_setField_rec (s:=⟨e2,g,d,tk,os⟩) z2 (by simp) λe3 _ s3=>?_;have s3:Heap.SameBut z e2 e3:=s3;exact fin e3 e (λb o b1 b2 b3 b4 u=>s3.extBut _ _ b1 (s2 _ _ b3 (s1.extBut _ _ b1 u))) ⟨oe,s3.extBut _ _ ez ge,ce⟩
  · refine wpAny_bind (n1 e1 (λb o hb=>s1.extBut b o hb) _ _ λe2 a2 s2=>wpAny_pure ?_);have s2:Heap.SameBut i e1 e2:=s2;have o2:IsPair e2 to p q:=s2.extBut _ _ D.oi (s1.extBut _ _ D.oz yo);refine wpAny_bind (wpAny_seqItems o2 rfl ?_);refine wpAny_bind (wpAny_updateSeq_pair (s:=⟨e2,g,d,tk,os⟩) o2 λe3 o3 s3=>?_);have s3:Heap.SameBut to e2 e3:=s3;refine wpAny_bind (wpAny_letGo (wpAny_pure ?_));refine wpAny_bind (wpAny_bind (wpAny_onRaise ?_));show wpAny _ _ (Builtin.SmallTypes.nextOf (.ref j) >>= _) _ _ _;refine wpAny_bind (n2 e3 (λb o b1 b2 b3 u=>s3.extBut b o b2 (s2.extBut b o b3 (s1.extBut b o b1 u))) _ _ λe4 e s4 he=>?_);have s4:Heap.ExtBut j e3 e4:=s4;obtain⟨oe,ge,ce⟩:=he;have ge:e4.get? e=some oe:=ge;have z4:IsZip e4 z ti to .ellipsis:=s4 _ _ D.jz.symm (s3.extBut _ _ D.oz.symm (s2.extBut _ _ D.iz.symm z1));have ez:e≠z:=λu=>by subst u;rw[z4]at ge;cases ge;simp at ce
    refine wpAny_setField_rec (s:=⟨e4,g,d,tk,os⟩) z4 (by simp) λe5 _ s5=>?_;have s5:Heap.SameBut z e4 e5:=s5;exact fin e5 e (λb o b1 b2 b3 b4 u=>s5.extBut _ _ b1 (s4 _ _ b4 (s3.extBut _ _ b2 (s2.extBut _ _ b3 (s1.extBut _ _ b1 u))))) ⟨oe,s5.extBut _ _ ez ge,ce⟩
end
def T8(K:PySem.W.Frag)(l m:Bool)(a b:Addr):It :=
  ⟨λi H=>∃xs ys x y,lX K H l a xs/\lX K H m b ys/\xs[i]?=some x/\ys[i]?=some y,
   λi H v H'=>∃p x y,v=.ref p/\H p=none/\H'=upd H p (.tup [x,y])/\(∀xs,lX K H l a xs->xs[i]?=some x)/\∀ys,lX K H m b ys->ys[i]?=some y,
   λi H=>∃xs ys,lX K H l a xs/\lX K H m b ys/\(xs.length<=i\/ys.length<=i)⟩
section
variable {X:Cx} {aa:List (Addr×Obj)} {σ:St} {H:Hp} {s:Shared}
theorem qw (I : Inv X aa σ H s) (hq : lX X.K H l a xs) (h2 : gX l s.heap it a i) (hx : xs[i]? = some x) :
    (∃u,RelV x u/\∀h',(∀o,s.heap.get? a=some o->h'.get? a=some o)->(∀o,s.heap.get? it=some o->h'.get? it=some o)->lz X.prog X.w A { s with heap:=h' } it u (λh=>gX l h it a (i+1)))/\∀ys,lX X.K H l a ys->ys[i]?=some x:=by
  cases l with
  | true =>
    have hq:eG X.K H a xs:=hq;obtain⟨aC,rv,p,hz⟩:=I.list hq;obtain⟨u,hu,ru⟩:=rv.get hx;exact⟨⟨u,ru,λh' e1 e2=>mR (s:={ s with heap:=h' }) (Heap.IsListIter.at (show s.heap.IsListIter it a i from h2) e2) (p.isList.at e1) (by simpa using hu)⟩,λys hy=>by rw[I.mG (show eG X.K H a ys from hy) hq];exact hx⟩
  | false =>
    have hq:fz X.K H a xs:=hq;obtain⟨aC,rv,p,hz⟩:=I.tuple hq;obtain⟨u,hu,ru⟩:=rv.get hx;have p:s.heap.IsTuple a aC.toArray:=p;exact⟨⟨u,ru,λh' e1 e2=>px (s:={ s with heap:=h' }) (Heap.IsTupleIter.at (show s.heap.IsTupleIter it a i from h2) e2) (p.at e1) (by simpa using hu)⟩,λys hy=>by rw[I.kz (show fz X.K H a ys from hy) hq];exact hx⟩
theorem xj (hh : A.handled = none) (I : Inv X aa σ H s) (hq : lX X.K H l a xs) (h2 : gX l s.heap it a i) (hx : xs.length <= i) :
    ∀h',(∀o,s.heap.get? a=some o->h'.get? a=some o)->(∀o,s.heap.get? it=some o->h'.get? it=some o)->pw X.prog X.w A { s with heap:=h' } it:=by
  cases l with
  | true =>
    obtain⟨aC,rv,p,hz⟩:=I.list (show eG X.K H a xs from hq);have hl:=rv.length;exact λh' e1 e2=>mS (s:={ s with heap:=h' }) hh (Heap.IsListIter.at (show s.heap.IsListIter it a i from h2) e2) (p.isList.at e1) (by simp;omega)
  | false =>
    obtain⟨aC,rv,p,hz⟩:=I.tuple (show fz X.K H a xs from hq);have hl:=rv.length;have p:s.heap.IsTuple a aC.toArray:=p;exact λh' e1 e2=>pz (s:={ s with heap:=h' }) hh (Heap.IsTupleIter.at (show s.heap.IsTupleIter it a i from h2) e2) (p.at e1) (by simp;omega)
end
theorem AW {P : Program} {w : World} {K : PySem.W.Frag} {tf : List Expr} {k : Nat} {tp : Pos} (l m : Bool) (a b z ti to i j : Addr) (D : ZA z ti to i j) (ha : a ≠ z) (hb : b ≠ z /\ b ≠ to /\ b ≠ i) :
    sG P w K (.Tuple tf k tp) (T8 K l m a b) [z,ti,to,i,j] z (λn h=>IsZip h z ti to .none/\IsPair h ti (.ref i) (.ref j)/\(∃p q,IsPair h to p q)/\gX l h i a n/\gX m h j b n) where
  mem:=by simp
  obj:=λn h st c hc=>by
    obtain⟨h1,h2,⟨p,q,h3⟩,h4,h5⟩:=st;have hc:c=z\/c=ti\/c=to\/c=i\/c=j:=by simpa using hc
    rcases hc with rfl | rfl | rfl | rfl | rfl
    · exact⟨_,h1,λv u=>by have u':Data.fields _=Data.cell v:=u;cases u'⟩
    · exact⟨_,h2,λv u=>by have u':Data.seq _ _=Data.cell v:=u;cases u'⟩
    · exact⟨_,h3,λv u=>by have u':Data.seq _ _=Data.cell v:=u;cases u'⟩
    · obtain⟨o,q,d⟩:=h4.obj;exact⟨o,q,λv u=>by rw[d]at u;cases u⟩
    · obtain⟨o,q,d⟩:=h5.obj;exact⟨o,q,λv u=>by rw[d]at u;cases u⟩
  keep:=λn h h' st e=>by
    obtain⟨h1,h2,⟨p,q,h3⟩,h4,h5⟩:=st;exact⟨e z (by simp) _ h1,e ti (by simp) _ h2,⟨p,q,e to (by simp) _ h3⟩,h4.at λo u=>e i (by simp) o u,h5.at λo u=>e j (by simp) o u⟩
  item:=by
    intro X hP hw hK hc n aa s σ H E I hf st hg;subst hP hw hK;obtain⟨h1,h2,⟨p,q,h3⟩,h4,h5⟩:=st;obtain⟨xs,ys,x,y,qx,qy,hx,hy⟩:=hg;obtain⟨⟨u,ru,nu⟩,au⟩:=qw (A:=X.A.in1) I qx h4 hx;obtain⟨⟨v,rv,nv⟩,av⟩:=qw (A:=X.A.in1) I qy h5 hy;obtain⟨oi,gi,_⟩:=h4.obj;obtain⟨oj,gj,_⟩:=h5.obj;refine AV D h1 h2 h3 (λh' e=>nu h' (λo=>e a o ha) λo=>e i o D.iz) (λh' e=>nv h' (λo=>e b o hb.1 hb.2.1 hb.2.2) λo=>e j o D.jz D.oj.symm D.ij.symm) (λh h' st e=>st.at e) (λh h' st e=>st.at e) λh' o1 o2 o3 o4 o5 o6=>⟨_,rfl,?_⟩;refine wpAny_letOwnedTupleGo_zip (s:={ s with heap:=h' }) o1 λMf p1 p2=>?_;have p2:Heap.SameBut z h' Mf:=p2;have fr:H s.heap.objs.size=none:=I.bF.fresh (bJ _)
    have I1:Inv X aa σ (upd H s.heap.objs.size (.tup [x,y])) { s with heap:=s.heap.push { cls:=.type "tuple",data:=.seq #[u,v] } } :=
      I.laid (t':=s.toks) (λc o e=>ee _ e) (bJ _) ⟨by show 2<=sizeLine;decide,[u,v],.cons ru (.cons rv .nil),⟨_,jE _ rfl,rfl,0,rfl⟩⟩
    have ne:∀c∈[z,ti,to,i,j],c≠s.heap.objs.size:=λc hc=>by
      have hc:c=z\/c=ti\/c=to\/c=i\/c=j:=by simpa using hc
      rcases hc with rfl | rfl | rfl | rfl | rfl
      · exact Nat.ne_of_lt (Heap.lt_size h1)
      · exact Nat.ne_of_lt (Heap.lt_size h2)
      · exact Nat.ne_of_lt (Heap.lt_size h3)
      · exact Nat.ne_of_lt (Heap.lt_size gi)
      · exact Nat.ne_of_lt (Heap.lt_size gj)
    have N6:∀c∈[z,ti,to,i,j],kA X aa (upd H s.heap.objs.size (.tup [x,y])) c:=λc hc=>⟨by rw[az (ne c hc)];exact(hf c hc).1,(hf c hc).2⟩
    have I2:=I1.qv (h':=Mf) (t':=s.toks) (ch:=[z,ti,to,i,j]) (λc o hc e=>by
      have lR:c≠z/\c≠ti/\c≠to/\c≠i/\c≠j:=by simpa using hc
      refine p2.extBut c o lR.1 ?_;by_cases hz:c=s.heap.objs.size
      · subst hz;have e':(s.heap.push { cls:=.type "tuple",data:=.seq #[u,v] }).get? s.heap.objs.size=some _:=jE _ rfl;rw[e']at e;cases e;exact o5
      · have e2 : s.heap.get? c = some o := by
          cases hs:s.heap.get? c with
          | some o'=>rw[ee _ hs]at e;exact e
          | none=>exact absurd e (by rw[lB hz,hs];intro z;cases z)
        exact o6 c o lR.1 lR.2.2.1 lR.2.2.2.1 lR.2.2.2.2 e2) N6
    have up:∀c o,c≠z->h'.get? c=some o->Mf.get? c=some o:=λc o hc e=>p2.extBut c o hc e;exact⟨.ref s.heap.objs.size,_,I2,rfl,⟨s.heap.objs.size,x,y,rfl,fr,rfl,au,av⟩,⟨p1,up _ _ D.tz (o6 _ _ D.tz D.tt D.di D.dj h2),⟨_,_,up _ _ D.oz o2⟩,o3.at λo e=>up _ _ D.iz e,o4.at λo e=>up _ _ D.jz e⟩,λc hc=>(N6 c hc).1⟩
  done:=by
    intro X hP hw hK hc n aa s σ H E I hf st hg;subst hP hw hK;obtain⟨h1,h2,⟨p,q,h3⟩,h4,h5⟩:=st;obtain⟨xs,ys,qx,qy,hx⟩:=hg;have hh:X.A.in1.handled=none:=I.ok.hd hc
    have fin:∀h',(∀c o,c≠z->c≠to->c≠i->c≠j->s.heap.get? c=some o->h'.get? c=some o)->(none:Option Value)=none/\Inv X aa σ H { s with heap:=h' }:=λh' e=>⟨rfl,I.qv (t':=s.toks) (ch:=[z,ti,to,i,j]) (λc o hc u=>by
      have lR:c≠z/\c≠ti/\c≠to/\c≠i/\c≠j:=by simpa using hc
      exact e c o lR.1 lR.2.2.1 lR.2.2.2.1 lR.2.2.2.2 u) hf⟩
    refine EA (st1:=λh=>gX l h i a (n+1)) D h1 h2 h3 ?_ λh' e=>fin h' e;by_cases hl:xs.length<=n
    · exact .inl λh' e=>xj hh I qx h4 hl h' (λo=>e a o ha) λo=>e i o D.iz
    · have Q5:n<xs.length:=∅;obtain⟨⟨u,ru,nu⟩,au⟩:=qw (A:=X.A.in1) I qx h4 (dM Q5);exact .inr ⟨u,λh' e=>nu h' (λo=>e a o ha) λo=>e i o D.iz,λh' e=>xj hh I qy h5 (∅) h' (λo=>e b o hb.1 hb.2.1 hb.2.2) λo=>e j o D.jz D.oj.symm D.ij.symm⟩
  self:=λA n s Q E st h=>wpAny_pyIter_zip st.1 h
end L2
end
section
namespace L2
open PySem PySem.Spec PyProof.Rows
abbrev T9(l:Bool)(a:Addr):Obj:={ cls:=.type (if l=true then "list_iterator" else "tuple_iterator"),data:=.fields #[.ref a,.int 0 0] }
noncomputable def N8(l:Bool)(h:Heap)(a:Addr)(xs:Array Value):Prop:=if l=true then h.IsList a xs else h.IsTuple a xs
abbrev Q6(h:Heap)(l:Bool)(a:Addr):Heap:=h.push (T9 l a)
abbrev Q7(h:Heap)(l m:Bool)(a b:Addr):Heap:=(Q6 h l a).push (T9 m b)
abbrev Q8(h:Heap)(l m:Bool)(a b:Addr):Heap:=(Q7 h l m a b).push { cls:=.type "tuple",data:=.seq #[.ref h.objs.size,.ref (Q6 h l a).objs.size] }
abbrev Q9(h:Heap)(l m:Bool)(a b:Addr):Heap:=(Q8 h l m a b).push { cls:=.type "tuple",data:=.seq #[.none,.none] }
abbrev Mg(h:Heap)(l m:Bool)(a b:Addr):Heap:=(Q9 h l m a b).push { cls:=.type "zip",data:=.fields #[.none,.bool false,.bool false,.ref (Q7 h l m a b).objs.size,.ref (Q8 h l m a b).objs.size] }
theorem y9 (l m : Bool) (a b : Addr) (xs ys : Array Value) :
    Meets (Builtin.«zip.__new__» ⟨[.type "zip",.ref a,.ref b],[]⟩) (λ_ R s=>N8 l s.heap a xs/\N8 m s.heap b ys/\R (.ok (.ret (.ref (Q9 s.heap l m a b).objs.size))) { s with heap:=Mg s.heap l m a b }) :=
  .of_wp λprog w A R s h=>by
    obtain⟨hp,g,d,tk,os⟩:=s;obtain⟨ha,hb,h⟩:=h;have Jg:=sub_zip;have keep:∀(o:Obj) c v,hp.get? c=some v->(hp.push o).get? c=some v:=λo c v e=>ee _ e
    cases l with
    | true =>
      have h1:Heap.IsList (Shared.heap ⟨hp,g,d,tk,os⟩) a xs:=ha
      cases m with
      | true =>
        have h2:Heap.IsList (Shared.heap ⟨hp.push { cls:=.type "list_iterator",data:=.fields #[.ref a,.int 0 0] },g,d,tk,os⟩) b ys:=(show hp.IsList b ys from hb).at λo e=>keep _ _ _ e
        wp_walk using wpAny_pyIter_list h1,wpAny_pyIter_list h2
        exact⟨_,rfl,h⟩
      | false =>
        have h2:Heap.IsTuple (Shared.heap ⟨hp.push { cls:=.type "list_iterator",data:=.fields #[.ref a,.int 0 0] },g,d,tk,os⟩) b ys:=(show hp.IsTuple b ys from hb).at λo e=>keep _ _ _ e
        wp_walk using wpAny_pyIter_list h1,wpAny_pyIter_tuple h2
        exact⟨_,rfl,h⟩
    | false =>
      have h1:Heap.IsTuple (Shared.heap ⟨hp,g,d,tk,os⟩) a xs:=ha
      cases m with
      | true =>
        have h2:Heap.IsList (Shared.heap ⟨hp.push { cls:=.type "tuple_iterator",data:=.fields #[.ref a,.int 0 0] },g,d,tk,os⟩) b ys:=(show hp.IsList b ys from hb).at λo e=>keep _ _ _ e
        wp_walk using wpAny_pyIter_tuple h1,wpAny_pyIter_list h2
        exact⟨_,rfl,h⟩
      | false =>
        have h2:Heap.IsTuple (Shared.heap ⟨hp.push { cls:=.type "tuple_iterator",data:=.fields #[.ref a,.int 0 0] },g,d,tk,os⟩) b ys:=(show hp.IsTuple b ys from hb).at λo e=>keep _ _ _ e
        wp_walk using wpAny_pyIter_tuple h1,wpAny_pyIter_tuple h2
        exact⟨_,rfl,h⟩
section
variable {prog:Program} {w:World} {A:Around} {E:Value->Shared->Prop} {s:Shared}
theorem tj(e:h.get? it=some (T9 l a)):gX l h it a 0:=by
 cases l with
 | true=>exact⟨_,e,rfl,rfl⟩
 | false=>exact⟨_,e,rfl,rfl⟩
theorem AX (ha : N8 l s.heap a xs) (hb : N8 m s.heap b ys)
    (h:∀h',IsZip h' (s.heap.objs.size+4) (s.heap.objs.size+2) (s.heap.objs.size+3) .none->IsPair h' (s.heap.objs.size+2) (.ref s.heap.objs.size) (.ref (s.heap.objs.size+1))->IsPair h' (s.heap.objs.size+3) .none .none ->
      gX l h' s.heap.objs.size a 0->gX m h' (s.heap.objs.size+1) b 0->(∀c o,s.heap.get? c=some o->h'.get? c=some o)->Q (.ref (s.heap.objs.size+4)) { s with heap:=h' }) :
    wpAny (model prog w) A (call (.type "zip") [.ref a,.ref b]) Q E s:=by
  refine callType_new F.called_zip (by decide) (F.typeCall_zip_2 _ _) (F.newCall_zip_2 _ _) (λobj=>F.args_object_init_3 obj _ _) F.entry_zip_new (y9 l m a b xs ys) ⟨ha,hb,?_⟩;have n1:(Q6 s.heap l a).objs.size=s.heap.objs.size+1:=Heap.size_push ..;have n2:(Q7 s.heap l m a b).objs.size=s.heap.objs.size+2:=by rw[Heap.size_push,n1]
  have n3:(Q8 s.heap l m a b).objs.size=s.heap.objs.size+3:=by rw[Heap.size_push,n2]
  have n4:(Q9 s.heap l m a b).objs.size=s.heap.objs.size+4:=by rw[Heap.size_push,n3]
  have e5:(Mg s.heap l m a b).get? (Q9 s.heap l m a b).objs.size=some _:=jE _ rfl;have e4:(Mg s.heap l m a b).get? (Q8 s.heap l m a b).objs.size=some _:=ee _ (jE _ rfl);have e3:(Mg s.heap l m a b).get? (Q7 s.heap l m a b).objs.size=some _:=ee _ (ee _ (jE _ rfl));have e2:(Mg s.heap l m a b).get? (Q6 s.heap l a).objs.size=some _:=ee _ (ee _ (ee _ (jE _ rfl)));have e1:(Mg s.heap l m a b).get? s.heap.objs.size=some _:=ee _ (ee _ (ee _ (ee _ (jE _ rfl))));show _/\_;rw[n2,n3,n4]at e5;rw[n1,n2]at e3;rw[n3]at e4;rw[n1]at e2;rw[n4];exact⟨⟨_,e5,rfl⟩,h _ e5 e3 e4 (tj e1) (tj e2) λc o u=>ee _ (ee _ (ee _ (ee _ (ee _ u))))⟩
end
section
variable {X:Cx}
def T_(K:PySem.W.Frag)(ta:TA):TI:=λσ H R=>ta σ H λvs H1=>∃(l m:Bool) (a b:Addr),vs=[.ref a,.ref b]/\(∃xs,lX K H1 l a xs)/\(∃ys,lX K H1 m b ys)/\R (T8 K l m a b) H1
theorem AY(I:Inv X aa σ H s)(h:lX X.K H l a xs):∃aC:Array Value,N8 l s.heap a aC/\a<s.heap.objs.size:=by
 cases l with
 | true =>
  obtain⟨aC,_,p,_⟩:=I.list (show eG X.K H a xs from h);exact⟨aC.toArray,p.isList,by obtain⟨o,e,_⟩:=p.isList;exact Heap.lt_size e⟩
 | false =>
  obtain⟨aC,_,p,_⟩:=I.tuple (show fz X.K H a xs from h);exact⟨aC.toArray,p,by obtain⟨o,e,_⟩:=(show s.heap.IsTuple a aC.toArray from p);exact Heap.lt_size e⟩
theorem N9{n:Nat}:ZA (n+4) (n+2) (n+3) n (n+1) :=
 ⟨(by omega:(n+2:Nat)≠n+4),(by omega:(n+3:Nat)≠n+4),(by omega:(n:Nat)≠n+4),(by omega:(n+1:Nat)≠n+4),(by omega:(n+2:Nat)≠n+3),(by omega:(n+2:Nat)≠n),(by omega:(n+2:Nat)≠n+1),(by omega:(n+3:Nat)≠n),(by omega:(n+3:Nat)≠n+1),(by omega:(n:Nat)≠n+1)⟩
theorem AZ(h:c∈[n+4,n+2,n+3,n,n+1]):n<=c:=by
 simp only[List.mem_cons,List.mem_nil_iff,or_false]at h;omega
theorem xk{a n k:Nat}(h:a<n):a≠n+k:=∅
theorem Jh {a b : Expr} {ta : TA} {p pos tp : Pos} {tf : List Expr} {k : Nat} (hg : Gl X "zip") (hm : X.mg "zip" = none) (ha : PA X [a, b] ta) (hs : starEach [a, b] X.env = (false, eval a X.env) :: starEach [b] X.env) (p_ : starEach [b] X.env = [(false, eval b X.env)]) :
    PI X (.Tuple tf k tp) (.Call (.Name "zip" p) [a,b] [] pos) (T_ X.K ta):=by
  intro aa s σ H R I h;refine Call_ (jd I hg hm boot_zip (PyProof.Rows.callWith_type1 (cv (ha pos aa s σ H _ I h) ?_) hs (by rw[p_];rfl)));rintro us s1 ⟨vs,H1,I1,r1,q1⟩;obtain⟨l,m,c,d,rfl,⟨xs,hx⟩,⟨ys,hy⟩,q⟩:=q1;obtain⟨u1,u2,rfl,ru,YH⟩:=vals2 r1;cases ru;cases YH;obtain⟨ix,sx,lx⟩:=AY I1 hx;obtain⟨iy,sy,ly⟩:=AY I1 hy;refine AX sx sy λh' e1 e2 e3 e4 e5 e6=>?_;refine wpAny_pyIter_zip (s:={ s1 with heap:=h' }) e1 ?_;have I2:Inv X aa σ H1 { s1 with heap:=h' }:=I1.kept (t':=s1.toks) e6;exact⟨s1.heap.objs.size+4,[s1.heap.objs.size+4,s1.heap.objs.size+2,s1.heap.objs.size+3,s1.heap.objs.size,s1.heap.objs.size+1],_,_,H1,rfl,I2,AW l m c d _ _ _ _ _ N9 (xk lx) ⟨xk ly,xk ly,xk (k:=0) ly⟩,⟨e1,e2,⟨_,_,e3⟩,e4,e5⟩,λc hc=>I1.u5 (AZ hc) (I1.bF.fresh (AZ hc)),q⟩
end
end L2
end
section
namespace L2
open PySem PySem.Spec PyProof.Rows
open AutoSeq1 (wpAny_loadPart')
end L2
end
section
namespace L2
open PySem PySem.Spec PyProof.Rows
theorem iS:entryFor table "dict.update.loop" = some Builtin.«dict.update.loop»:=entryFor_of_tree (nofun)
theorem eA:plainId "dict.update.loop" = true:=⋯
theorem qz:typeLookup (.type "list") "keys" = pure none:=by rw[typeLookup_type,builtinLookup_eq_fast];kernel_rfl
section
variable {prog:Program} {w:World} {A:Around} {E:Value->Shared->Prop} {s:Shared}
theorem ji 
    (hx:s.heap.get? a=some o) (hc:o.cls=.type "list") (tm:o.data=.seq xs k) (hd:o.dict=none) (hA:A.handled=none)
    (h:∀h' tk,(∀b o,s.heap.get? b=some o->h'.get? b=some o)->Q none { s with heap:=h',toks:=tk }) :
    wpAny (model prog w) A (getAttr? (.ref a) "keys") Q E s:=by
  obtain⟨c,tq,dat,sl⟩:=o;simp only at hc tm hd;subst hc tm hd;obtain⟨hp,g,d,tk,os⟩:=s;have hT:∀Q_,(⟨hp,g,d,Q_,os⟩:Shared).TypeIs (.ref a) "list" := λ_=>⟨_,hx,rfl⟩;have f1:=sub_AttributeError;have f3:=F.slot_list_getattribute.lookup;have f4:=F.slot_list_getattribute.bind (.ref a);have f5:=am_list_getattr_none;unfold getAttr? getAttrBy? getAttrBy
  repeat (any_goals (first | assumption | exact hT _ | ((with_reducible show wpAny _ _ (call (Value.builtin "list.__getattribute__") _ _) _ _ _);refine call_meets F.slot_list_getattribute (hT _) am_entry_list_getattribute (F.args_list_getattribute_2 _ _) (meets_getattribute_miss_list a xs k sl "keys" _ qz (⋯) (⋯)) ⟨hx,hA,λh' Q_ e V6=>?_⟩) | wp_step))
  obtain⟨t',u',he⟩:=V6.there;show wpAny _ _ (getattributeRaised _ _ _ _ _ _ _) _ _ _;unfold getattributeRaised
  repeat (any_goals (first | assumption | wp_step))
  exact h _ _ V6.of.keeps
noncomputable def lC(kv:Nat->bA×Value):Nat->List (bA×Value)
 | 0=>[]
 | n+1=>stored (lC kv n) (kv n).1 (kv n).2
theorem kI(kv:Nat->bA×Value):∀n,(lC kv n).length<=n
 | 0=>bJ _
 | n+1=>Nat.le_trans (stored_length_le _ _ _) (Nat.succ_le_succ (kI kv n))
theorem EB {R : Result -> Shared -> Prop} {I : Addr} {fp wr : List Addr} {n : Nat} {P : Nat -> Value -> Prop} {St : Nat -> Heap -> Prop} (W : Walks prog w A.in1 I fp wr n P St) (d : Addr) (G6 : d ∉ fp) (hn : n <= sizeLine)
    (kv:Nat->bA×Value) (h0:Heap) (Ji:∀i v,P i v->∃a uk,v=.ref a/\a∉wr/\a≠d/\g8 (kv i).1 uk=true/\IsTup h0 a #[uk,(kv i).2]) :
    ∀(k i:Nat)(s:Shared)(j:Int)(t:Tok),n-i=k->i<=n->St i s.heap->(∀b o,b∉wr->b≠d->h0.get? b=some o->s.heap.get? b=some o)->s.heap.DictOf (bt prog w) d (lC kv i) ->
      (∀h' tk,(∀b o,b∉wr->b≠d->s.heap.get? b=some o->h'.get? b=some o)->h'.DictOf (bt prog w) d (lC kv n)->R (.ok (.ret .none)) { s with heap:=h',toks:=tk }) ->
      codeAny (model prog w) A (.builtin "dict.update.loop" ⟨[.ref d,.ref I,.int j t,.none],[]⟩) R s:=by
  have V7:d∉wr:=λh=>G6 (W.sub _ h);intro k
  induction k with
  | zero =>
    intro i s j t hk hi eJ sZ hd hR;have tu:i=n:=∅;subst tu;refine codeAny_builtin iS ?_;rw[Around.under_plainId eA _];show wpAny _ A.in1 (pyNext (.ref I) >>= _) _ _ s;refine wpAny_bind (W.done s _ _ eJ λh' tk hm=>?_);show wpAny _ A.in1 (Builtin.Dict.addKeywords d [] >>= _) _ _ _;refine wpAny_bind (wpAny_pure (wpAny_pure (hR h' tk (λb o hb _ e=>hm b o hb e) ?_)));obtain⟨o,es,ep,ho,eV⟩:=hd;exact⟨o,es,ep,hm d _ V7 ho,eV⟩
  | succ k ih =>
    intro i s j t hk hi eJ sZ hd hR;have ko:i<n:=∅;refine codeAny_builtin iS ?_;rw[Around.under_plainId eA _];show wpAny _ A.in1 (pyNext (.ref I) >>= _) _ _ s;refine wpAny_bind (W.item i s _ _ ko eJ λv h' tk hP Ua hm=>?_);obtain⟨a,uk,rfl,V8,Ub,IE,o,ho,hc,q,tm⟩:=Ji i v hP;have wW:h'.get? a=some o:=hm _ _ V8 (sZ _ _ V8 Ub ho)
    have MT:h'.DictOf (bt prog w) d (lC kv i):=by
      obtain⟨o,es,ep,ho,eV⟩:=hd;exact⟨o,es,ep,hm d _ V7 ho,eV⟩
    have hT:∀Q_,Shared.TypeIs { s with heap:=h',toks:=Q_ } (.ref a) "tuple" := λ_=>⟨o,wW,hc⟩;refine wpAny_bind (wpAny_holding (wpAny_bind (wpAny_tryCatch ?_)));unfold Builtin.Dict.pairItems;refine wpAny_bind (wpAny_typeOf (hT _) ?_);have hz:(Value.type "tuple" == Value.type "list" || Value.type "tuple" == Value.type "tuple")=true:=⋯;rw[if_pos hz];refine wpAny_bind (wpAny_seqItems (s:={ s with heap:=h',toks:=tk }) wW tm (wpAny_pure ?_));show wpAny _ A.in1 (holding [uk,(kv i).2] (dictSet d uk (kv i).2)) _ _ _;refine wpAny_holding (wpAny_dictSet_pairs (knd:=bt prog w) (k:=(kv i).1) IE MT (λh2 hd2 p_=>?_) (Nat.le_trans (kI kv i) (∅)));refine wpAny_pure ⟨plainId_quiet eA _,ih (i+1) _ _ _ (∅) ko (W.frame _ _ _ Ua λb hb o e=>?_) (λb o hb vq e=>?_) hd2 λh3 YI Uc Mh=>?_⟩
    · show h2.get? b=some o;rw[p_.2 b (λz=>G6 (by rw[<- z];exact hb))];exact e
    · show h2.get? b=some o;rw[p_.2 b vq];exact hm _ _ hb (sZ _ _ hb vq e)
    · refine hR h3 YI (λb o hb vq e=>Uc b o hb vq ?_) Mh;show h2.get? b=some o;rw[p_.2 b vq];exact hm _ _ hb e
theorem EC {aC : List Value}  (hA : A.handled = none) (hl : PlainL s.heap l aC.toArray) (hn : aC.length <= sizeLine) (kv : Nat -> bA × Value)
    (Ji:∀i v,aC[i]?=some v->∃a uk,v=.ref a/\g8 (kv i).1 uk=true/\IsTup s.heap a #[uk,(kv i).2])
    (h:∀h' tk,(∀b o,s.heap.get? b=some o->h'.get? b=some o)->h'.DictOf (bt prog w) s.heap.objs.size (lC kv aC.length)->Q (.ref s.heap.objs.size) { s with heap:=h',toks:=tk }) :
    wpAny (model prog w) A (call (.type "dict") [.ref l]) Q E s:=by
  refine callType_codes (Q₁:=λobj bQ=>obj=.ref s.heap.objs.size/\bQ={ s with heap:=s.heap.push { cls:=.type "dict",data:=.dict #[] } }) F.kt_called_dict (F.kt_typeCall_dict_1 _) F.entry_dict_init (kt_code_dict_new _ ⟨rfl,rfl⟩) ?_;rintro obj bQ ⟨rfl,rfl⟩;have gW:(s.heap.push { cls:=.type "dict",data:=.dict #[] }).DictOf (bt prog w) s.heap.objs.size []:=Heap.DictOf.new s.heap;obtain⟨o,m,ho,hc,YJ,tm⟩:=hl;have Ud:(s.heap.push { cls:=.type "dict",data:=.dict #[] }).get? l=some o:=ee _ ho;have hT:Shared.TypeIs { s with heap:=s.heap.push { cls:=.type "dict",data:=.dict #[] } } (.ref l) "list" := ⟨o,Ud,hc⟩;have ko:=Heap.lt_size ho;refine⟨gW.typeIs,F.args_dict_init_2 _ _,?_⟩;unfold Builtin.«dict.__init__»;refine wpAny_bind ?_;unfold Builtin.Dict.selfAndRest;refine wpAny_bind (wpAny_notOrdered_dict gW.typeIs ?_);show wpAny _ _ (pure (s.heap.objs.size,[Value.ref l])) _ _ _;refine wpAny_pure ?_;show wpAny _ _ (Builtin.Dict.updateFrom "dict.__init__" s.heap.objs.size (.ref l) [] .none) _ _ _;unfold Builtin.Dict.updateFrom;refine wpAny_bind (wpAny_typeOf hT ?_);rw[if_pos (⋯)];refine wpAny_bind (ji (s:={ s with heap:=s.heap.push { cls:=.type "dict",data:=.dict #[] } }) Ud hc tm YJ (by simp[hA]) λh1 YK k1=>?_);rw[if_pos (show(none:Option Value).isNone=true from rfl)];have AD:h1.get? l=some o:=k1 _ _ Ud
  have hle:s.heap.objs.size<h1.objs.size:=by
    obtain⟨o',es,ep,he,_⟩:=gW;exact Heap.lt_size (k1 _ _ he)
  refine wpAny_bind (wpAny_rule (wpAny_bind (wpAny_pyIter_list (s:={ s with heap:=h1,toks:=YK }) ⟨o,AD,hc,m,tm⟩ ?_)));have Ue:=Heap.lt_size AD;have tu:l≠h1.objs.size:=Nat.ne_of_lt Ue;have WW:=Walks.list (prog:=prog) (w:=w) (A:=A.in1.in1) (by simp[hA]) h1.objs.size l tu aC.toArray;simp only[iq,List.getElem?_toArray]at WW;refine wpAny_pure ⟨plainId_quiet eA _,?_⟩;have kp:∀b u,s.heap.get? b=some u->(h1.push { cls:=.type "list_iterator",data:=.fields #[.ref l,.int 0 0] }).get? b=some u:=λb u e=>ee _ (k1 _ _ (ee _ e));refine EB WW s.heap.objs.size ?_ hn kv s.heap ?_ (aC.length-0) 0 _ _ _ rfl (Nat.zero_le _) ⟨⟨_,jE _ rfl,rfl,rfl⟩,⟨o,ee _ AD,hc,m,tm⟩⟩ (λb o' _ _ e=>kp b o' e) ?_ ?_
  · simp only[List.mem_cons,List.not_mem_nil,or_false,not_or];exact⟨Nat.ne_of_lt hle,λz=>absurd ko (by rw[z];exact Nat.lt_irrefl _)⟩
  · intro i v hv;obtain⟨a,uk,e,hk,ht⟩:=Ji i v hv;have uV:=ht.lt;refine⟨a,uk,e,?_,Nat.ne_of_lt uV,hk,ht⟩;simp only[List.mem_cons,List.not_mem_nil,or_false];exact Nat.ne_of_lt (Nat.lt_trans uV hle)
  · obtain⟨o',es,ep,he,eV⟩:=gW;exact⟨o',es,ep,ee _ (k1 _ _ he),eV⟩
  · intro h' tk hk hd;refine⟨rfl,h h' tk (λb u e=>?_) hd⟩;have hb:=Heap.lt_size e;exact hk b u (by simp only[List.mem_cons,List.not_mem_nil,or_false];exact Nat.ne_of_lt (Nat.lt_trans hb hle)) (Nat.ne_of_lt hb) (kp b u e)
end
end L2
end
section
namespace L2
open PySem PySem.Spec PyProof.Rows
end L2
end
section
namespace L2
open PySem PySem.Spec PyProof.Rows
theorem y_(a b:Int):Builtin.Range.rangeSize a b (-1)=if b<a then a-b else 0:=by
 unfold Builtin.Range.rangeSize;rw[if_neg (by decide),show -(-1:Int)=1 from rfl,Int.ediv_one];by_cases h:b<a
 ·rw[if_pos h,if_pos h];omega
 ·rw[if_neg h,if_neg h]
theorem small_down(h1:-(2 ^ 62)<=a)(h2:a<2 ^ 62)(h3:-(2 ^ 62)<=b)(h4:b<2 ^ 62):Builtin.Range.small a b (-1)=true:=by
 unfold Builtin.Range.small;rw[y_];simp only[Builtin.Range.rangeFitsLong,cu,Bool.or_eq_true,decide_eq_true_eq,beq_iff_eq,show ¬(-1:Int)>0 by decide,if_false];split<;>omega
end L2
end
section
namespace L2
open PySem PySem.Spec PyProof.Rows
section
variable {X:Cx}
theorem A_:iL X (compareOp .Is) (λx y H Q=>∃b c,x=.bl b/\y=.bl c/\Q (.bl (b==c)) H):=by
 intro aa s σ H x y v u Q I rx ry h;obtain⟨b,c,rfl,rfl,q⟩:=h;cases rx;cases ry;refine wpAny_is_plain rfl (mK I q ?_);cases b<;>cases c<;>rfl
theorem xl:iL X (compareOp .IsNot) (λx y H Q=>∃b c,x=.bl b/\y=.bl c/\Q (.bl (!(b==c))) H):=by
 intro aa s σ H x y v u Q I rx ry h;obtain⟨b,c,rfl,rfl,q⟩:=h;cases rx;cases ry;refine wpAny_isNot_plain rfl (mK I q ?_);cases b<;>cases c<;>rfl
theorem xm:∀{is:List Int}{aC:List Value},aN (is.map V.int) aC->PySem.W.kf_ints aC=true
 | [],_,.nil=>rfl
 | i::is,_,.cons r t=>by
  obtain⟨_,rfl⟩:=r;exact(xm (is:=is) t:PySem.W.kf_ints _=true)
end
end L2
end
section
namespace L2
open PySem PySem.Spec PyProof.Rows
theorem xn{α β:Type}{R:α->β->Prop}:∀{l:List α}{m:List β}{i:Nat}{x:α},Paired R l m->l[i]?=some x->∃y,m[i]?=some y/\R x y
 | _,_,0,_,.cons r _,e=>by cases e;exact⟨_,rfl,r⟩
 | _,_,i+1,_,.cons _ t,e=>xn (i:=i) t e
theorem tw{α β:Type}{R S:α->β->Prop}(f:∀a b,R a b->S a b):∀{l:List α}{m:List β},Paired R l m->Paired S l m
 | _,_,.nil=>.nil
 | _,_,.cons r t=>.cons (f _ _ r) (tw f t)
theorem tx{α β:Type}{R:α->β->Prop}:∀{l:List α}{m:List β},Paired R l m->l.length=m.length
 | _,_,.nil=>rfl
 | _,_,.cons _ t=>by simp[tx t]
section
variable {X:Cx} {tg:Expr}
theorem Inv.freeze{aa:List (Addr×Obj)}{σ:St}{H:Hp}{s:Shared}{a:Addr}{ag:List (List bA×V)}(I:Inv X aa σ H s)(e:H a=some (.dT ag)):∃o,Inv X aa σ (upd H a (.ef o (.dT ag))) s:=by
 obtain⟨hz,hs,xs,pr,o,es,ep,h1,h2,h3,h4,h5⟩:=(show bN X.prog X.w H s.heap a (.dT ag) from I.bF a _ e);refine⟨o,I.write (x:=a) (e:=a) (h':=s.heap) (t':=s.toks) (by rw[e];exact trivial) (.inl rfl) (λb u _ q=>q) ⟨o,h1⟩ ?_⟩;refine⟨h1,hz,hs,xs,?_,o,es,ep,h1,h2,h3,h4,h5⟩;have nt:∀{b:Addr}{ys:List V},H b=some (.tup ys)->b≠a:=λq z=>by subst z;rw[e]at q;cases q
 exact tw (λp q r=>⟨r.1,by rw[az (nt r.2.1)];exact r.2.1,r.2.2⟩) pr
end
end L2
end
section
namespace L2
open PySem PySem.Spec PyProof.Rows
section
variable {X:Cx}
noncomputable def Jj:V->List V->Hp->VK->Prop:=λx vs H Q=>∃(l:Addr) (is:List Int) (i:Int),x=.ref l/\vs=[.int i]/\H l=some (.lst (is.map V.int))/\Q (.int (is.count i:Nat)) H
theorem mU:∀{is:List Int}{aC:List Value},aN (is.map V.int) aC->aC.countP (isInt i)=is.count i
 | [],_,.nil=>rfl
 | j::is,_,.cons r t=>by
  obtain⟨_,rfl⟩:=r;rw[List.countP_cons,List.count_cons,mU (is:=is) t];rfl
theorem Ba:G4 X "list.count" Jj:=by
 intro aa s σ H x vs v us Q I rx rv h;obtain⟨l,is,i,rfl,rfl,hH,q⟩:=h;cases rx;obtain⟨u,rfl,ru⟩:=vals1 rv;obtain⟨t,rfl⟩:=ru;obtain⟨z,aC,n,r,hl,e⟩:=I.sU hH;have hk:=xm r;refine call_meets PySem.F.slot_list_count ⟨_,e,rfl⟩ PySem.F.entry_list_count (PySem.F.args_list_count_2 _ _) (MeetsSeq.list_count l aC.toArray n (.int i t) (isInt i) (λy hy=>PySem.W.kf_eq hk y (by simpa using hy))) ⟨e,?_⟩;rw[show aC.toArray.toList=aC by simp,mU r];exact⟨.int _,H,I.tok _,⟨_,rfl⟩,q⟩
end
end L2
end
section
namespace L2
open PySem PySem.Spec PyProof.Rows
section
variable {prog:Program} {w:World} {A:Around} {E:Value->Shared->Prop} {s:Shared} {it d v:Addr} {i ep:Nat} {od:Obj} {es:Array DictEntry}
theorem vt (nm : (d == sysModules) = false) : MeetsIn prog w (Builtin.«dict.values» ⟨[.ref d], []⟩) (fun _ R s => (∃ od, s.heap.get? d = some od /\ od.ExactDict) /\
      R (.ok (.ret (.ref s.heap.objs.size))) { s with heap:=s.heap.push { cls:=.type "dict_values",data:=.fields #[.ref d] } }) :=
  .of_wp <| by
    rintro A R s ⟨⟨od,g,x⟩,h⟩;refine wpAny_bind ?_;unfold Builtin.Dict.noArgs;refine wpAny_bind (wpAny_notOrdered_dict ⟨od,g,x.1⟩ ?_);show wpAny _ _ (pure d) _ _ s;refine wpAny_pure ?_;show wpAny _ _ (Builtin.Dict.showsAll d >>= _) _ _ s;unfold Builtin.Dict.showsAll;rw[if_neg (by rw[nm];exact cH)];refine wpAny_bind (wpAny_pure ?_);exact wpAny_bind (wpAny_newObj_type (wpAny_pure ⟨_,rfl,h⟩))
theorem zc (hv : s.heap.IsValuesView v d) (g : s.heap.get? d = some od) (dt : od.data = .dict es ep)
    (q:Q (.ref s.heap.objs.size) { s with heap:=s.heap.push { cls:=.type "dict_valueiterator",data:=.fields #[.ref d,.int 0 0,.int es.size 0,.int ep 0] } }):wpAny (model prog w) A (pyIter (.ref v)) Q E s:=by
  obtain⟨ov,YL,hcv,YM⟩:=id hv;refine wpAny_pyIter_slot hv.typeIs F.slot_dict_values_iter (wpAny_call_entry F.slot_dict_values_iter hv.typeIs F.entry_dict_values_iter ?_ (F.args_dict_values_iter_1 _));unfold Builtin.«dict_values.__iter__»;refine wpAny_bind (wpAny_pure ?_);refine wpAny_bind ?_;unfold Builtin.Dict_items.dictOf;refine wpAny_bind (wpAny_field YL YM (x:=.ref d) rfl (wpAny_pure ?_));refine wpAny_bind ?_;unfold Builtin.Dict_items.newIterator;refine wpAny_bind (wpAny_dictEntries g dt (wpAny_bind (wpAny_dictEpoch g dt ?_)));simp only[show Builtin.Dict_items.ownsTuple "dict_valueiterator" = false by decide,Bool.false_eq_true,if_false];exact wpAny_newObj_type (wpAny_pure ⟨_,rfl,"dict_valueiterator",_,⟨_,jE _ rfl,rfl⟩,F.slot_dict_valueiterator_next.lookup,by simpa[rawInt]using q⟩)
theorem zd (hi : s.heap.IsValIter it d i es.size ep) (g : s.heap.get? d = some od) (dt : od.data = .dict es ep) (he : es[i]? = some e)
    (q:∀h,h.IsValIter it d (i+1) es.size ep->Heap.SameBut it s.heap h->Q (some e.val) { s with heap:=h }):wpAny (model prog w) A (pyNext (.ref it)) Q E s:=by
  obtain⟨o,ho,hc,hd⟩:=id hi;unfold pyNext;refine wpAny_bind (wpAny_attempt (wpAny_callSpecial?_slot (name:=Str.ofString "__next__") hi.typeIs F.slot_dict_valueiterator_next (wpAny_call_entry F.slot_dict_valueiterator_next hi.typeIs F.entry_dict_valueiterator_next ?_ (F.args_dict_valueiterator_next_1 _))));refine wpAny_bind (wpAny_pure (wpAny_bind (wpAny_bind ?_)))
  first | refine wpAny_bind (wpAny_typeNameOfWhole_valiter hi.typeIs (wpAny_pure ?_)) | refine wpAny_bind (wpAny_typeNameOf_valiter hi.typeIs (wpAny_pure ?_))
  refine wpAny_bind (wpAny_fieldsOf ho hd ?_);simp only[show Builtin.Dict_items.ownsTuple "dict_valueiterator" = false by decide,Bool.false_eq_true,if_false];show wpAny _ _ (if (Value.ref d==Value.none)=true then _ else _) _ _ s;rw[if_neg (show ¬((Value.ref d==Value.none)=true) from cH)];refine wpAny_bind (wpAny_pure (wpAny_bind (wpAny_dictEntries g dt ?_)));rw[if_neg (by simp)];refine wpAny_bind (wpAny_pure (wpAny_bind (wpAny_dictEpoch g dt ?_)));rw[if_neg (by simp)];refine wpAny_pure ?_;simp only[show ¬((i:Int)<0) from by omega,if_false,Int.toNat_natCast,he];refine wpAny_bind ?_
  first | refine wpAny_bind (wpAny_typeNameOfWhole_valiter hi.typeIs (wpAny_pure ?_)) | refine wpAny_bind (wpAny_typeNameOf_valiter hi.typeIs (wpAny_pure ?_))
  refine wpAny_bind (wpAny_isOneOf_valiter hi.typeIs ?_);refine wpAny_bind (wpAny_setField (i:=1) ho hd (by simp) ?_)
  have Ug:(s.heap.update it (Obj.mapFields (·.setIfInBounds 1 (rawInt ((i:Int)+1))))).IsValIter it d (i+1) es.size ep :=
    ⟨_,Heap.get?_update_self _ ho (Obj.isFreed_of_fields (Obj.data_mapFields hd _)),(Obj.cls_mapFields ..).trans hc,by rw[Obj.data_mapFields hd];simp[rawInt]⟩
  refine wpAny_bind (wpAny_holding (wpAny_bind (wpAny_isOneOf_valiter (s:={ s with heap:=s.heap.update it (Obj.mapFields (·.setIfInBounds 1 (rawInt ((i:Int)+1)))) }) Ug.typeIs ?_)));refine wpAny_bind (wpAny_isOneOf_valiter (s:={ s with heap:=s.heap.update it (Obj.mapFields (·.setIfInBounds 1 (rawInt ((i:Int)+1)))) }) Ug.typeIs ?_);exact wpAny_pure (wpAny_pure ⟨_,rfl,wpAny_pure (q _ Ug (Heap.SameBut.update ..))⟩)
theorem Bb (hh : A.handled = none) (hi : s.heap.IsValIter it d i es.size ep) (g : s.heap.get? d = some od) (dt : od.data = .dict es ep) (he : es.size <= i)
    (q:∀h,Heap.ExtBut it s.heap h->Q none { s with heap:=h }):wpAny (model prog w) A (pyNext (.ref it)) Q E s:=by
  obtain⟨o,ho,hc,hd⟩:=id hi;unfold pyNext;refine wpAny_bind (wpAny_attempt (wpAny_callSpecial?_slot (name:=Str.ofString "__next__") hi.typeIs F.slot_dict_valueiterator_next (wpAny_call_entry F.slot_dict_valueiterator_next hi.typeIs F.entry_dict_valueiterator_next ?_ (F.args_dict_valueiterator_next_1 _))));refine wpAny_bind (wpAny_pure (wpAny_bind (wpAny_bind ?_)))
  first | refine wpAny_bind (wpAny_typeNameOfWhole_valiter hi.typeIs (wpAny_pure ?_)) | refine wpAny_bind (wpAny_typeNameOf_valiter hi.typeIs (wpAny_pure ?_))
  refine wpAny_bind (wpAny_fieldsOf ho hd ?_);simp only[show Builtin.Dict_items.ownsTuple "dict_valueiterator" = false by decide,Bool.false_eq_true,if_false];show wpAny _ _ (if (Value.ref d==Value.none)=true then _ else _) _ _ s;rw[if_neg (show ¬((Value.ref d==Value.none)=true) from cH)];refine wpAny_bind (wpAny_pure (wpAny_bind (wpAny_dictEntries g dt ?_)));rw[if_neg (by simp)];refine wpAny_bind (wpAny_pure (wpAny_bind (wpAny_dictEpoch g dt ?_)));rw[if_neg (by simp)];refine wpAny_pure ?_;simp only[show ¬((i:Int)<0) from by omega,if_false,Int.toNat_natCast,Array.getElem?_eq_none he];refine wpAny_bind ?_
  first | refine wpAny_bind (wpAny_typeNameOfWhole_valiter hi.typeIs (wpAny_pure ?_)) | refine wpAny_bind (wpAny_typeNameOf_valiter hi.typeIs (wpAny_pure ?_))
  refine wpAny_bind (wpAny_setField (i:=0) ho hd (by simp) (wpAny_bind ?_));simp only[newExc,newTuple];refine wpAny_bind (wpAny_newObj_type ?_ (by size_fits));refine wpAny_bind (m:=firstArgMember _ _) (wpAny_of_eq (a:=Value.none) (by first | rfl | (simp only[firstArgMember];rfl)) (wpAny_newObj_type ?_ (by size_fits)));simp only[raiseNew];refine wpAny_bind (wpAny_handled ?_);rw[show A.in1.handled=none from hh];refine wpAny_bind (wpAny_pure (wpAny_throw (wpAny_bind ?_)));refine wpAny_isInstance (T := "StopIteration") (b:=true) ⟨_,jE _ rfl,rfl⟩ isSubtype_stop ?_;exact wpAny_pure (q _ (((Heap.SameBut.update ..).extBut.push _).push _))
end
noncomputable def Mi(a:Addr)(o:Obj)(ag:List (List bA×V)):It:=⟨λi H=>H a=some (.ef o (.dT ag))/\i<ag.length,λi H x H'=>H'=H/\∃k,ag[i]?=some (k,x),λi H=>H a=some (.ef o (.dT ag))/\ag.length<=i⟩
theorem ze {P : Program} {w : World} {K : PySem.W.Frag} {tg : Expr} (it a : Addr) (o : Obj) (ag : List (List bA × V)) (es : Array DictEntry) (ep : Nat) (dt : o.data = .dict es ep) (hl : es.size = ag.length) :
    sG P w K tg (Mi a o ag) [it] it (λi h=>h.IsValIter it a i es.size ep) where
  mem:=by simp
  obj:=λi h st b hb=>by
    obtain rfl:b=it:=by simpa using hb
    obtain⟨ob,e,_,d⟩:=st;exact⟨ob,e,λv z=>by rw[d]at z;cases z⟩
  keep:=λi h h' st k=>by
    obtain⟨ob,e,r⟩:=st;exact⟨ob,k it (by simp) _ e,r⟩
  item:=by
    intro X hP hw hK hc i aa s σ H E I hf st hg;subst hP hw hK;obtain⟨f0,f1,f2,f3,f4,f5⟩:=hf it (by simp);obtain⟨g1,g2⟩:=hg;obtain⟨ho,hz,hs,xs,pr,o2,es2,ep2,h1,h2,h3,h4,h5⟩:=(show bN X.prog X.w H s.heap a (.ef o (.dT ag)) from I.bF a _ g1);obtain rfl:o2=o:=eU (h1.symm.trans ho);rw[dt]at h3;cases h3;obtain⟨p,hp⟩:∃p,ag[i]?=some p:=⟨_,dM g2⟩;obtain⟨y,hy,r1,r2,r3⟩:=xn pr hp;have YN:es[i]?=some (entryOfKey (tupleKind (bt X.prog X.w)) y):=by rw[<- Array.getElem?_toList,h4,dG,hy];rfl
    refine zd st ho dt YN λh' Al sb=>?_;have I1:Inv X aa σ H { s with heap:=h' }:=I.turned (t':=s.toks) (λb ob hb e=>(sb.2 b hb).trans e) f0 f1 f3 f4 f5;obtain⟨ob,e,c,d⟩:=id Al;exact⟨_,rfl,w4 (s:={ s with heap:=h' }) e c d (by decide) ⟨p.2,H,I1,r3,⟨rfl,p.1,hp⟩,Al,λb hb=>(hf b hb).1⟩⟩
  done:=by
    intro X hP hw hK hc i aa s σ H E I hf st hg;subst hP hw hK;obtain⟨f0,f1,f2,f3,f4,f5⟩:=hf it (by simp);obtain⟨g1,g2⟩:=hg;obtain⟨ho,_⟩:=(show bN X.prog X.w H s.heap a (.ef o (.dT ag)) from I.bF a _ g1);exact Bb (I.ok.hd hc) st ho dt (∅) λh' eb=>⟨rfl,I.turned (t':=s.toks) (λb o hb e=>eb b o hb e) f0 f1 f3 f4 f5⟩
  self:=λ_ _ _ _ _ st h=>wpAny_pyIter_valiter st h
section
variable {X:Cx} {tg:Expr}
def N_(te:TE):TI:=λσ H R=>te σ H λv H1=>∃a ag,v=.ref a/\((H1 a=some (.dT ag)/\∀o,R (Mi a o ag) (upd H1 a (.ef o (.dT ag))))\/∃o,H1 a=some (.ef o (.dT ag))/\R (Mi a o ag) H1)
theorem ED {aa : List (Addr × Obj)} {σ : St} {H : Hp} {s : Shared} {R : It -> Hp -> Prop} {a : Addr} {o : Obj} {ag : List (List bA × V)} (I : Inv X aa σ H s) (e : H a = some (.ef o (.dT ag))) (q : R (Mi a o ag) H) :
    wpAny (model X.prog X.w) X.A (call (.builtin "dict.values") [.ref a]) (λv s1=>wpAny (model X.prog X.w) X.A (pyIter v) (QM X aa σ tg R) X.xe s1) X.xe s:=by
  obtain⟨ho,hz,hs,xs,pr,o2,es,ep,h1,h2,h3,h4,h5⟩:=(show bN X.prog X.w H s.heap a (.ef o (.dT ag)) from I.bF a _ e);obtain rfl:o2=o:=eU (h1.symm.trans ho);have hl:es.size=ag.length:=by rw[tx pr,<- Array.length_toList,h4,aX]
  refine call_meetsIn PySem.F.slot_dict_values ⟨_,ho,h2.1⟩ PySem.F.entry_dict_values (PySem.F.args_dict_values_1 _) (vt hs) ⟨⟨_,ho,h2⟩,?_⟩;have I1:=I.kept (t':=s.toks) (h':=s.heap.push { cls:=.type "dict_values",data:=.fields #[.ref a] }) λb o e=>ee _ e;have Uh:(s.heap.push { cls:=.type "dict_values",data:=.fields #[.ref a] }).objs.size=s.heap.objs.size+1:=by simp
  refine zc (s:={ s with heap:=s.heap.push { cls:=.type "dict_values",data:=.fields #[.ref a] } }) ⟨_,jE _ rfl,rfl,rfl⟩ (ee _ ho) h3 ?_;refine⟨_,[_],_,_,H,rfl,I1.kept (t':=s.toks) λb o e=>ee _ e,ze _ a o2 ag es ep h3 hl,⟨_,jE _ rfl,rfl,rfl⟩,λb hb=>?_,q⟩;obtain rfl:=List.mem_singleton.mp hb;exact I1.u5 (bJ _) (I1.bF.fresh (bJ _))
theorem EE{o:Expr}{ap cp:Pos}{te:TE}(he:PE X o te) (sR:attributeBase o "values" X.env (eval o X.env)=eval o X.env) (sS:(ap.endLine==cp.line)=true):PI X tg (.Call (.Attribute o "values" ap) [] [] cp) (N_ te):=by
 intro aa s σ H R I h;refine wpAny_Call_method0_late sR sS (cv (he aa s σ H _ I h) ?_);rintro v s1 ⟨x,H1,I1,r1,a,ag,ex,q⟩;subst ex;cases r1
 have fT:∀{H2:Hp}{o:Obj},Inv X aa σ H2 s1->H2 a=some (.ef o (.dT ag))->R (Mi a o ag) H2->MethodOn X.prog X.w X.A "values" cp (.ref a) [] (λv s1=>wpAny (model X.prog X.w) X.A (pyIter v) (QM X aa σ tg R) X.xe s1) X.xe s1:=λ{H2 o} I2 e2 q2=>by
  obtain⟨ho,hz,hs,xs,pr,o2,es,ep,h1,h2,h3,h4,h5⟩:=(show bN X.prog X.w H2 s1.heap a (.ef o (.dT ag)) from I2.bF a _ e2);refine⟨"dict","dict.values",PySem.F.plainAttrs_dict,PySem.F.slot_dict_values,PySem.F.type_dict_values,⟨_,h1,h2.1⟩,λb hb=>?_,Calls.callWith_builtin rfl (PySem.evalArgs_none (ED I2 e2 q2))⟩;cases hb;exact⟨_,h1,h2.2.1⟩
 rcases q with⟨e,q⟩|⟨o,e,q⟩
 ·obtain⟨o,I2⟩:=I1.freeze e;exact fT I2 bj (q o)
 ·exact fT I1 e q
noncomputable def insI(i:Int):List Int->List Int
 | []=>[i]
 | j::js=>if i<=j then i::j::js else j::insI i js
def jL:List Int->List Int
 | []=>[]
 | i::is=>insI i (jL is)
theorem mV:∀{is:List Int},(insI i is).Perm (i::is)
 | []=>List.Perm.refl _
 | j::js=>by
  unfold insI;split
  ·exact List.Perm.refl _
  ·exact((mV (i:=i) (is:=js)).cons j).trans (List.Perm.swap i j js)
theorem ib:∀{is:List Int},(jL is).Perm is
 | []=>List.Perm.refl _
 | i::is=>mV.trans ((ib (is:=is)).cons i)
theorem mW:∀{is:List Int},is.Pairwise (·<=·)->(insI i is).Pairwise (·<=·)
 | [],_=>List.pairwise_singleton _ _
 | j::js,h=>by
  unfold insI;rw[List.pairwise_cons]at h;split
  ·rename_i Oa
   refine List.pairwise_cons.mpr ⟨λx hx=>?_,List.pairwise_cons.mpr h⟩;rcases List.mem_cons.mp hx with rfl | hx
   ·exact Oa
   ·have:=h.1 x hx;omega
  ·rename_i Oa
   refine List.pairwise_cons.mpr ⟨λx hx=>?_,mW h.2⟩;rcases List.mem_cons.mp (mV.mem_iff.mp hx)with rfl | hx
   ·omega
   ·exact h.1 x hx
theorem mX:∀{is:List Int},(jL is).Pairwise (·<=·)
 | []=>.nil
 | i::is=>mW (mX (is:=is))
theorem mY:∀{a b:List Int},a.Perm b->a.Pairwise (·<=·)->b.Pairwise (·<=·)->a=b
 | [],b,p,_,_=>(List.Perm.nil_eq p)
 | x::a,[],p,_,_=>absurd p.length_eq (by simp)
 | x::a,y::b,p,ha,hb=>by
  rw[List.pairwise_cons]at ha hb
  have h1:x=y:=by
   rcases List.mem_cons.mp (p.mem_iff.mp List.mem_cons_self)with e | e
   ·exact e
   ·rcases List.mem_cons.mp (p.mem_iff.mpr List.mem_cons_self)with e2 | e2
    ·exact e2.symm
    ·have:=ha.1 y e2;have:=hb.1 x e;omega
  subst h1;rw[mY (List.Perm.cons_inv p) ha.2 hb.2]
theorem tB:∀{is:List Int}{aC:List Value},aN (is.map V.int) aC->IntsAre aC is
 | [],_,.nil=>.nil
 | i::is,_,.cons r t=>by
  obtain⟨u,rfl⟩:=r;exact .cons _ _ (tB t)
theorem tF:∀{is:List Int}{aC:List Value},IntsAre aC is->aN (is.map V.int) aC
 | _,_,.nil=>.nil
 | _,_,.cons _ _ t=>.cons ⟨_,rfl⟩ (tF t)
theorem tH:dN X (.builtin "sorted") (λxs H Q=>∃p is,xs=[.ref p]/\eG X.K H p (is.map V.int)/\is.length<64/\∀l,H l=none->Q (.ref l) (upd H l (.lst ((jL is).map V.int)))):=by
 intro aa s σ H xs us Q I r h;obtain⟨p,is,rfl,hq,YO,q⟩:=h;obtain⟨u,rfl,rx⟩:=vals1 r;cases rx;obtain⟨aC,r',pl,hz⟩:=I.list hq;have aR:=r'.length;rw[aX]at aR;refine sorted_ints pl.isList (tB r') (∅) λout YQ a1 a2 a3=>?_;obtain⟨c',e⟩:=sortedAll_at s.heap aC out;have hs:YQ=jL is:=mY (a2.trans ib.symm) a3 mX;subst hs;refine⟨.ref (s.heap.objs.size+1),_,I.laid (t':=s.toks) (λb o e=>sortedAll_old e) (Nat.le_succ _) (show bN X.prog X.w _ _ _ (.lst ((jL is).map V.int)) from ⟨?_,out.toList,c',tF a1,by simpa using e⟩),rfl,q _ (I.bF.fresh (Nat.le_succ _))⟩;rw[aX,ib.length_eq];exact Nat.le_trans (Nat.le_of_lt YO) (by decide)
end
end L2
end
section
namespace Ev
open L2
open PySem PySem.Spec PyProof.Rows
inductive D where
 | aQ | bl (b:Bool) | int (i:Int) | str (s:Str) | tup (ds:List D) | ah (n:Nat) | ls (ds:List D)
 deriving Inhabited
inductive MO where
 | lst (ds:List D) | iT (ds:List D) | dK (ag:List (bA×D)) | dT (ag:List (List bA×D)) | dF (ag:List (List bA×D))
 deriving Inhabited
abbrev aq:=List MO
abbrev En:=List (Option D)
inductive W where
 | d (x:D) | lv (ds:List D)
 deriving Inhabited
structure V9 where
 cls:Nat
 fs:List D
inductive cw (α:Type) where
 | ok (a:α) (M:aq) | err (x:V9) (M:aq) | af
noncomputable def cw.bind{α β:Type}(o:cw α)(f:α->aq->cw β):cw β:=match o with
 | .ok a M=>f a M
 | .err x M=>.err x M
 | .af=>.af
noncomputable def tJ(K:PySem.W.Frag)(H:Hp)(a:Addr)(xs:List V):Prop :=
 (∃o,H a=some (.ef o (.lst xs)))\/∃(o:Obj) (aC:Array Value) (n:Nat),K.lookup a=some o/\o.cls=.type "list" /\ o.dict=none/\o.data=.seq aC n/\aC.size<=sizeLine/\aN xs aC.toList
theorem tJ.sq{K:PySem.W.Frag}{H:Hp}{a:Addr}{xs:List V}(h:tJ K H a xs):eG K H a xs:=by
 rcases h with⟨o,h⟩ | h
 ·exact .inl (.inr ⟨o,h⟩)
 ·exact .inr h
mutual
noncomputable def RD(K:PySem.W.Frag)(ads:List Addr)(H:Hp):D->V->Prop
 | .aQ,v=>v=.aQ
 | .bl b,v=>v=.bl b
 | .int i,v=>v=.int i
 | .str s,v=>v=.str s
 | .tup ds,v=>∃a xs,v=.ref a/\H a=some (.tup xs)/\aJ K ads H ds xs
 | .ah n,v=>∃a,v=.ref a/\ads[n]?=some a
 | .ls ds,v=>∃a xs,v=.ref a/\tJ K H a xs/\aJ K ads H ds xs
noncomputable def aJ(K:PySem.W.Frag)(ads:List Addr)(H:Hp):List D->List V->Prop
 | [],xs=>xs=[]
 | d::ds,xs=>∃x r,xs=x::r/\RD K ads H d x/\aJ K ads H ds r
end
section
variable (K:PySem.W.Frag) (ads:List Addr) (H:Hp)
def bY{κ:Type}:List (κ×D)->List (κ×V)->Prop
 | [],xs=>xs=[]
 | p::ps,xs=>∃x r,xs=x::r/\p.1=x.1/\RD K ads H p.2 x.2/\bY ps r
def Mj(a:Addr):MO->Prop
 | .lst ds=>∃xs,H a=some (.lst xs)/\aJ K ads H ds xs
 | .iT ds=>∃o xs,H a=some (.ef o (.lst xs))/\aJ K ads H ds xs
 | .dK ag=>∃ks,H a=some (.dK ks)/\bY K ads H ag ks
 | .dT ag=>∃ks,H a=some (.dT ks)/\bY K ads H ag ks
 | .dF ag=>∃o ks,H a=some (.ef o (.dT ks))/\bY K ads H ag ks
structure aO (M:aq):Prop where
 nd:ads.Nodup
 len:ads.length=M.length
 obj:∀(n:Nat)(o:MO)(a:Addr),M[n]?=some o->ads[n]?=some a->Mj K ads H a o
def Ob(ρ:En)(σ:L2.St):Prop:=∀(i:Nat)(d:D),ρ[i]?=some (some d)->∃v,σ[i]?=some (some v)/\RD K ads H d v
def RW:W->V->Prop
 | .d x,v=>RD K ads H x v
 | .lv ds,v=>∃a xs,v=.ref a/\H a=some (.lst xs)/\a∉ads/\aJ K ads H ds xs
end
noncomputable def Kept(ads:List Addr)(H H':Hp):Prop:=∀b o,b∉ads->H b=some o->H' b=some o
noncomputable def Oc(H H':Hp):Prop:=∀b xs,H b=some (.tup xs)->H' b=some (.tup xs)
structure aE (ads aB:List Addr) (H H':Hp):Prop where
 pre:∃r,aB=ads++r
 new:∀b∈aB,b∉ads->H b=none
 kept:Kept ads H H'
 gx:Oc H H'
 ef:∀b o u,H b=some (.ef o u)->H' b=some (.ef o u)
theorem aE.refl(ads:List Addr)(H:Hp):aE ads ads H H:=⟨⟨[],by simp⟩,λb h n=>absurd h n,λ_ _ _ h=>h,λ_ _ h=>h,λ_ _ _ h=>h⟩
theorem aE.trans(g:aE a b H H1)(k:aE b c H1 H2):aE a c H H2:=by
 obtain⟨r,e⟩:=g.pre;obtain⟨r',e'⟩:=k.pre;refine⟨⟨r++r',by rw[e',e,List.append_assoc]⟩,λx h n=>?_,λx o n h=>?_,λx xs h=>k.gx x xs (g.gx x xs h),λx o u h=>k.ef x o u (g.ef x o u h)⟩
 ·by_cases hb:x∈b
  ·exact g.new x hb n
  ·have:=k.new x h hb
   cases q:H x with
   | none=>rfl
   | some o=>rw[g.kept x o n q]at this;cases this
 ·refine k.kept x o (λhb=>?_) (g.kept x o n h);rw[g.new x hb n]at h;cases h
section
variable {K:PySem.W.Frag} {ads aB:List Addr} {H H':Hp}
theorem aE.get(g:aE ads aB H H'){n:Nat}(h:ads[n]?=some a):aB[n]?=some a:=by
 obtain⟨r,e⟩:=g.pre;rw[e,uU (by have:=(dU.mp h).1;exact this)];exact h
theorem aE.iT(g:aE ads aB H H')(h:tJ K H a xs):tJ K H' a xs:=by
 rcases h with⟨o,h⟩ | h
 ·exact .inl ⟨o,g.ef _ _ _ h⟩
 ·exact .inr h
mutual
theorem aE.rd(g:aE ads aB H H'):∀(d:D)(v:V),RD K ads H d v->RD K aB H' d v
 | .aQ,_,h=>by unfold RD at *;exact h
 | .bl _,_,h=>by unfold RD at *;exact h
 | .int _,_,h=>by unfold RD at *;exact h
 | .str _,_,h=>by unfold RD at *;exact h
 | .ah n,v,h=>by unfold RD at *;obtain⟨a,e,h⟩:=h;exact⟨a,e,g.get h⟩
 | .tup ds,v,h=>by unfold RD at *;obtain⟨a,xs,e,h,r⟩:=h;exact⟨a,xs,e,g.gx _ _ h,aE.mZ g ds xs r⟩
 | .ls ds,v,h=>by unfold RD at *;obtain⟨a,xs,e,h,r⟩:=h;exact⟨a,xs,e,g.iT h,aE.mZ g ds xs r⟩
theorem aE.mZ(g:aE ads aB H H'):∀(ds:List D)(vs:List V),aJ K ads H ds vs->aJ K aB H' ds vs
 | [],_,h=>by unfold aJ at *;exact h
 | d::ds,vs,h=>by unfold aJ at *;obtain⟨x,r,e,h1,h2⟩:=h;exact⟨x,r,e,aE.rd g d x h1,aE.mZ g ds r h2⟩
end
theorem aE.zf{κ:Type}(g:aE ads aB H H'):∀(ds:List (κ×D))(vs:List (κ×V)),bY K ads H ds vs->bY K aB H' ds vs
 | [],_,h=>by unfold bY at *;exact h
 | d::ds,vs,h=>by unfold bY at *;obtain⟨x,r,e,h0,h1,h2⟩:=h;exact⟨x,r,e,h0,g.rd d.2 x.2 h1,aE.zf g ds r h2⟩
theorem aE.V_(g:aE ads aB H H')(h:Ob K ads H ρ σ):Ob K aB H' ρ σ:=λi d e=>by
 obtain⟨v,e1,r⟩:=h i d e;exact⟨v,e1,g.rd d v r⟩
theorem aE.d9(g:aE ads aB H H')(n:a∉ads)(e:H a=some o):a∉aB:=λh=>by
 rw[g.new a h n]at e;cases e
theorem aE.rw(g:aE ads aB H H')(h:RW K ads H w v):RW K aB H' w v:=by
 cases w with
 | d x=>exact g.rd x v h
 | lv ds =>
  obtain⟨a,xs,e,h,n,r⟩:=h;exact⟨a,xs,e,g.kept a _ n h,g.d9 n h,g.mZ ds xs r⟩
theorem aJ.len:∀{ds:List D}{vs:List V},aJ K ads H ds vs->ds.length=vs.length
 | [],_,h=>by unfold aJ at h;subst h;rfl
 | d::ds,vs,h=>by unfold aJ at h;obtain⟨x,r,e,h1,h2⟩:=h;subst e;simp[aJ.len h2]
theorem aJ.get:∀{ds:List D}{vs:List V}{i:Nat}{d:D},aJ K ads H ds vs->ds[i]?=some d->∃v,vs[i]?=some v/\RD K ads H d v
 | [],_,_,_,h,e=>by simp at e
 | d::ds,vs,0,d',h,e=>by unfold aJ at h;obtain⟨x,r,rfl,h1,h2⟩:=h;simp at e;subst e;exact⟨x,rfl,h1⟩
 | d::ds,vs,i+1,d',h,e=>by
  unfold aJ at h;obtain⟨x,r,rfl,h1,h2⟩:=h;obtain⟨v,e',r'⟩:=aJ.get (i:=i) h2 (by simpa using e);exact⟨v,by simpa using e',r'⟩
theorem aJ.app:∀{ds es:List D}{vs ws:List V},aJ K ads H ds vs->aJ K ads H es ws->aJ K ads H (ds++es) (vs++ws)
 | [],_,vs,_,h,k=>by unfold aJ at h;subst h;exact k
 | d::ds,es,vs,ws,h,k=>by
  unfold aJ at h;obtain⟨x,r,rfl,h1,h2⟩:=h;show aJ K ads H (d::(ds++es)) (x::(r++ws));unfold aJ;exact⟨x,_,rfl,h1,aJ.app h2 k⟩
theorem aJ.one(h:RD K ads H d v):aJ K ads H [d] [v]:=by
 unfold aJ;exact⟨v,[],rfl,h,by unfold aJ;rfl⟩
theorem aJ.take:∀{ds:List D}{vs:List V}(n:Nat),aJ K ads H ds vs->aJ K ads H (ds.take n) (vs.take n)
 | _,_,0,_=>by simp;unfold aJ;rfl
 | [],vs,n+1,h=>by unfold aJ at h;subst h;simp;unfold aJ;rfl
 | d::ds,vs,n+1,h=>by unfold aJ at h;obtain⟨x,r,rfl,h1,h2⟩:=h;simp only[List.take_succ_cons];unfold aJ;exact⟨x,_,rfl,h1,aJ.take n h2⟩
theorem aJ.drop:∀{ds:List D}{vs:List V}(n:Nat),aJ K ads H ds vs->aJ K ads H (ds.drop n) (vs.drop n)
 | _,_,0,h=>by simpa using h
 | [],vs,n+1,h=>by unfold aJ at h;subst h;simp;unfold aJ;rfl
 | d::ds,vs,n+1,h=>by unfold aJ at h;obtain⟨x,r,rfl,h1,h2⟩:=h;simp only[List.drop_succ_cons];exact aJ.drop n h2
theorem aJ.setAt:∀{ds:List D}{vs:List V}(n:Nat){d:D}{v:V},aJ K ads H ds vs->RD K ads H d v->aJ K ads H (ds.set n d) (vs.set n v)
 | [],vs,n,_,_,h,_=>by unfold aJ at h;subst h;simp;unfold aJ;rfl
 | d::ds,vs,0,_,_,h,k=>by unfold aJ at h;obtain⟨x,r,rfl,h1,h2⟩:=h;simp only[List.set_cons_zero];unfold aJ;exact⟨_,_,rfl,k,h2⟩
 | d::ds,vs,n+1,_,_,h,k=>by unfold aJ at h;obtain⟨x,r,rfl,h1,h2⟩:=h;simp only[List.set_cons_succ];unfold aJ;exact⟨_,_,rfl,h1,aJ.setAt n h2 k⟩
theorem aJ.rev(h:aJ K ads H ds vs):aJ K ads H ds.reverse vs.reverse:=by
 induction ds generalizing vs with
 | nil=>unfold aJ at h;subst h;simp;unfold aJ;rfl
 | cons d ds ih=>unfold aJ at h;obtain⟨x,r,rfl,h1,h2⟩:=h;simp only[List.reverse_cons];exact(ih h2).app (.one h1)
theorem aO.grow(m:aO K ads H M)(g:aE ads ads H H')(k:∀a∈ads,H' a=H a):aO K ads H' M:=⟨m.nd,m.len,λn o a e1 e2=>by
 have h:=m.obj n o a e1 e2;have ha:=k a (gU e2)
 cases o with
 | lst ds=>obtain⟨xs,h,r⟩:=h;exact⟨xs,ha.trans h,g.mZ _ _ r⟩
 | iT ds=>obtain⟨o,xs,h,r⟩:=h;exact⟨o,xs,ha.trans h,g.mZ _ _ r⟩
 | dK ds=>obtain⟨xs,h,r⟩:=h;exact⟨xs,ha.trans h,g.zf _ _ r⟩
 | dT ds=>obtain⟨xs,h,r⟩:=h;exact⟨xs,ha.trans h,g.zf _ _ r⟩
 | dF ds=>obtain⟨o,xs,h,r⟩:=h;exact⟨o,xs,ha.trans h,g.zf _ _ r⟩⟩
theorem aO.there(m:aO K ads H M)(h:a∈ads):∃o,H a=some o/\∀xs,o≠.tup xs:=by
 obtain⟨n,hn,e⟩:=List.mem_iff_getElem.mp h;have e2:ads[n]?=some a:=by rw[dM hn,e]
 have hM:n<M.length:=by rw[<- m.len];exact hn
 have h:=m.obj n M[n] a (dM hM) e2
 cases q:M[n]with
 | lst ds=>rw[q]at h;obtain⟨xs,h,r⟩:=h;exact⟨_,h,λ_ z=>by cases z⟩
 | iT ds=>rw[q]at h;obtain⟨o,xs,h,r⟩:=h;exact⟨_,h,λ_ z=>by cases z⟩
 | dK ds=>rw[q]at h;obtain⟨xs,h,r⟩:=h;exact⟨_,h,λ_ z=>by cases z⟩
 | dT ds=>rw[q]at h;obtain⟨xs,h,r⟩:=h;exact⟨_,h,λ_ z=>by cases z⟩
 | dF ds=>rw[q]at h;obtain⟨o,xs,h,r⟩:=h;exact⟨_,h,λ_ z=>by cases z⟩
theorem aO.fresh(m:aO K ads H M)(h:H p=none):p∉ads:=λz=>by
 obtain⟨o,e,_⟩:=m.there z;rw[h]at e;cases e
theorem aE.fZ(m:aO K ads H M)(h:H p=none):aE ads ads H (upd H p o) :=
 ⟨⟨[],by simp⟩,λb h n=>absurd h n,λb u n e=>by rw[az (λz=>by subst z;rw[h]at e;cases e)];exact e,λb xs e=>by rw[az (λz=>by subst z;rw[h]at e;cases e)];exact e,λb u x e=>by rw[az (λz=>by subst z;rw[h]at e;cases e)];exact e⟩
theorem aO.fZ(m:aO K ads H M)(h:H p=none):aO K ads (upd H p o) M :=
 m.grow (aE.fZ m h) λa ha=>az (λz=>by subst z;exact m.fresh h ha)
theorem Bc{α:Type}{l:List α}(h:l.Nodup){i j:Nat}{x:α}(a:l[i]?=some x)(b:l[j]?=some x):i=j:=by
 obtain⟨h1,e1⟩:=dU.mp a;obtain⟨h2,e2⟩:=dU.mp b;rcases Nat.lt_trichotomy i j with q | q | q
 ·exact absurd (e1.trans e2.symm) (List.pairwise_iff_getElem.mp h i j h1 h2 q)
 ·exact q
 ·exact absurd (e2.trans e1.symm) (List.pairwise_iff_getElem.mp h j i h2 h1 q)
mutual
theorem RD.wide:∀(d:D)(v:V),RD K ads H d v->RD K (ads++[a]) H d v
 | .aQ,_,h=>by unfold RD at *;exact h
 | .bl _,_,h=>by unfold RD at *;exact h
 | .int _,_,h=>by unfold RD at *;exact h
 | .str _,_,h=>by unfold RD at *;exact h
 | .ah n,v,h=>by
  unfold RD at *;obtain⟨b,e,h⟩:=h;exact⟨b,e,by rw[uU (dU.mp h).1];exact h⟩
 | .tup ds,v,h=>by unfold RD at *;obtain⟨b,xs,e,h,r⟩:=h;exact⟨b,xs,e,h,aJ.wide ds xs r⟩
 | .ls ds,v,h=>by unfold RD at *;obtain⟨b,xs,e,h,r⟩:=h;exact⟨b,xs,e,h,aJ.wide ds xs r⟩
theorem aJ.wide:∀(ds:List D)(vs:List V),aJ K ads H ds vs->aJ K (ads++[a]) H ds vs
 | [],_,h=>by unfold aJ at *;exact h
 | d::ds,vs,h=>by unfold aJ at *;obtain⟨x,r,e,h1,h2⟩:=h;exact⟨x,r,e,RD.wide d x h1,aJ.wide ds r h2⟩
end
theorem bY.wide{κ:Type}  : ∀(ds:List (κ×D))(vs:List (κ×V)),bY K ads H ds vs->bY K (ads++[a]) H ds vs
 | [],_,h=>by unfold bY at *;exact h
 | d::ds,vs,h=>by unfold bY at *;obtain⟨x,r,e,h0,h1,h2⟩:=h;exact⟨x,r,e,h0,RD.wide d.2 x.2 h1,bY.wide ds r h2⟩
theorem Mj.wide(h:Mj K ads H b o):Mj K (ads++[a]) H b o:=by
 cases o with
 | lst ds=>obtain⟨xs,h,r⟩:=h;exact⟨xs,h,r.wide⟩
 | iT ds=>obtain⟨o,xs,h,r⟩:=h;exact⟨o,xs,h,r.wide⟩
 | dK ds=>obtain⟨xs,h,r⟩:=h;exact⟨xs,h,r.wide⟩
 | dT ds=>obtain⟨xs,h,r⟩:=h;exact⟨xs,h,r.wide⟩
 | dF ds=>obtain⟨o,xs,h,r⟩:=h;exact⟨o,xs,h,r.wide⟩
theorem aO.push(m:aO K ads H M)(n:a∉ads)(h:Mj K ads H a o):aO K (ads++[a]) H (M++[o]) where
  nd:=by
    rw[List.nodup_append]
    exact ⟨m.nd, by simp, fun x hx y hy => by have : y = a := by simpa using hy
                                              subst this;exact λz=>n (z▸hx)⟩
  len:=by simp[m.len]
  obj:=λi o' b e1 e2=>by
    by_cases hi:i<M.length
    · rw[uU hi]at e1;rw[uU (by rw[m.len];exact hi)]at e2;exact(m.obj i o' b e1 e2).wide
    · have YR : i = M.length := by
        have:=(dU.mp e1).1;simp at this;omega
      subst YR;rw[List.getElem?_append_right (bJ _)]at e1;rw[List.getElem?_append_right (by rw[m.len];exact bJ _)]at e2;simp[m.len]at e1 e2;subst e1 e2;exact h.wide
theorem aO.write {M : aq} {n : Nat} {a : Addr} {u o : MO} {ho : HO} (m : aO K ads H M) (e : M[n]? = some u) (ea : ads[n]? = some a) (nf : ∀ o x, H a ≠ some (.ef o x)) (hn : Mj K ads (upd H a ho) a o) :
    aE ads ads H (upd H a ho)/\aO K ads (upd H a ho) (M.set n o):=by
  have tu:a∈ads:=gU ea;obtain⟨o1,e1,nt⟩:=m.there tu
  have g : aE ads ads H (upd H a ho) := ⟨⟨[], by simp⟩, fun b h n => absurd h n, fun b x nb h => by rw [az (by intro z; subst z; exact nb tu)]; exact h, fun b xs h => by
      rw[az (λz=>by subst z;rw[e1]at h;exact nt xs (eU h))];exact h,λb o u h=>by rw[az (λz=>by subst z;exact nf _ _ h)];exact h⟩
  refine⟨g,m.nd,by rw[List.length_set];exact m.len,λi o' b x1 x2=>?_⟩;by_cases hi:i=n
  · subst hi;rw[ea]at x2;cases x2;rw[List.getElem?_set_self (dU.mp e).1]at x1;cases x1;exact hn
  · rw[List.getElem?_set_ne (Ne.symm hi)]at x1
    have hb:b≠a:=λz=>by
      subst z;exact hi (Bc m.nd x2 ea)
    have h:=m.obj i o' b x1 x2
    cases o' with
    | lst ds=>obtain⟨xs,h,r⟩:=h;exact⟨xs,by rw[az hb];exact h,g.mZ _ _ r⟩
    | iT ds=>obtain⟨o,xs,h,r⟩:=h;exact⟨o,xs,by rw[az hb];exact h,g.mZ _ _ r⟩
    | dK ds=>obtain⟨xs,h,r⟩:=h;exact⟨xs,by rw[az hb];exact h,g.zf _ _ r⟩
    | dT ds=>obtain⟨xs,h,r⟩:=h;exact⟨xs,by rw[az hb];exact h,g.zf _ _ r⟩
    | dF ds=>obtain⟨o,xs,h,r⟩:=h;exact⟨o,xs,by rw[az hb];exact h,g.zf _ _ r⟩
end
mutual
noncomputable def cW(M:aq):Nat->D->Option PyData
 | _,.aQ=>some .none
 | _,.bl b=>some (.bool b)
 | _,.int i=>some (.int i)
 | _,.str s=>some (.str s)
 | 0,.tup _=>none
 | 0,.ah _=>none
 | 0,.ls _=>none
 | n+1,.ls ds=>(bG M n ds).map .list
 | n+1,.tup ds=>(bG M n ds).map .tuple
 | n+1,.ah k=>match M[k]? with
  | some (.lst ds)=>(bG M n ds).map .list
  | some (.iT ds)=>(bG M n ds).map .list
  | _=>none
noncomputable def bG(M:aq):Nat->List D->Option (List PyData)
 | _,[]=>some []
 | n,d::ds=>match cW M n d,bG M n ds with
  | some p,some ps=>some (p::ps)
  | _,_=>none
end
def iw(M:aq):W->Option PyData
 | .d x=>cW M 30 x
 | .lv ds=>(bG M 30 ds).map .list
inductive Jk where
 | add | sub | mul | fdiv | mod | pow
 deriving DecidableEq
inductive Jl where
 | eq | ne | lt | le | gt | ge | sg | eZ | isin | d9
 deriving DecidableEq
inductive Ty where
 | int | bool | str | tuple | list | dict | none
 deriving DecidableEq
inductive Bi where
 | len | max2 | min2 | tK | list1 | tuple1 | m8 | uW (t:Ty) | all1 | EF | pA | min1 | EG | m_
 deriving DecidableEq
inductive Me where
 | append | insert | reverse | extend | remove | clear | pop
 deriving DecidableEq
inductive SK where
 | seq | dm | oO | enum | zip | EH | keys | vals
 deriving DecidableEq
mutual
inductive C where
 | ae (i:Nat)
 | ai (d:D)
 | bin (op:Jk) (a b:C)
 | cmp (op:Jl) (a b:C)
 | chain (o1 o2:Jl) (a b c:C)
 | dq (cs:List C) | gA (cs:List C) | neg (a:C)
 | ite (c:fB) (a b:C)
 | tup (cs:List C) | lst (cs:List C)
 | sub (a b:C)
 | nh (a:C) (lo hi:Option C)
 | zU (a:C) (k:Int)
 | call (f:Nat) (cs:List C)
 | bi (b:Bi) (cs:List C)
 | me (m:Me) (o:C) (cs:List C)
 | tq (ks:List Str) (cs:List C)
 | ku (tp:Bool) (cs:List C)
 | EI (x:Str) (v:Int)
 | kJ
 | jk (a b:C)
 | f_ (ng:Bool) (a b:C)
 | cnt (a b:C)
 | gB (ng:Bool) (a:C)
 | comp (k:SK) (dR:List C) (tg:List Nat) (cond:Option fB) (elt:C) (c_:List (Option Nat))
inductive fB where
 | val (c:C) | dq (ts:List fB) | gA (ts:List fB) | neg (a:fB)
end
noncomputable def bx(M:aq):W->Option (Bool×List D)
 | .lv ds=>some (true,ds)
 | .d (.tup ds)=>some (false,ds)
 | .d (.ls ds)=>some (true,ds)
 | .d (.ah n)=>match M[n]? with
  | some (.lst ds)=>some (true,ds)
  | some (.iT ds)=>some (true,ds)
  | _=>none
 | _=>none
noncomputable def dr(M:aq):W->Option (List D)
 | .lv ds=>some ds
 | .d (.ah n)=>match M[n]? with
  | some (.lst ds)=>some ds
  | _=>none
 | _=>none
noncomputable def own:W->aq->cw D
 | .d x,M=>.ok x M
 | .lv ds,M=>.ok (.ah M.length) (M++[.lst ds])
def Ra(ds:List D)(i:Int):Option D:=xb ds i
def cutD(ds:List D)(lo hi:Option Int):List D:=(ds.drop (HT.dW ds.length 0 lo)).take (HT.dW ds.length ds.length hi-HT.dW ds.length 0 lo)
def ni(op:Jk)(a b:W)(M:aq):cw W :=
 match op,a,b with
 | .add,.d (.int i),.d (.int j)=>.ok (.d (.int (i+j))) M
 | .sub,.d (.int i),.d (.int j)=>.ok (.d (.int (i-j))) M
 | .mul,.d (.int i),.d (.int j)=>if (-(2 ^ 64)<i/\i<2 ^ 64)\/(-(2 ^ 64)<j/\j<2 ^ 64) then .ok (.d (.int (i*j))) M else .af
 | .fdiv,.d (.int i),.d (.int j)=>if 0<j/\j<1073741824 then .ok (.d (.int (i / j))) M else .af
 | .mod,.d (.int i),.d (.int j)=>if 0<j then .ok (.d (.int (i % j))) M else .af
 | .pow,.d (.int i),.d (.int j)=>if 0<=j/\j<=1000000/\i.natAbs<2 ^ 64 then .ok (.d (.int (i ^ j.toNat))) M else .af
 | .add,.d (.tup xs),.d (.tup ys)=>if xs.length+ys.length<=sizeLine then .ok (.d (.tup (xs++ys))) M else .af
 | .add,a,b=>match dr M a,dr M b with
  | some xs,some ys=>if xs.length+ys.length<=sizeLine then .ok (.lv (xs++ys)) M else .af
  | _,_=>.af
 | .mul,a,.d (.int k)=>match dr M a with
  | some xs=>if -(2 ^ 63)<=k/\k<2 ^ 63/\xs.length*k.toNat<=sizeLine then .ok (.lv (List.replicate k.toNat xs).flatten) M else .af
  | none=>.af
 | _,_,_=>.af
noncomputable def kK(p:PyData):List PyData->Bool
 | []=>false
 | q::qs=>PyData.eqv q p||kK p qs
noncomputable def gY(M:aq):W->Option (List (bA×D))
 | .d (.ah n)=>match M[n]? with
  | some (.dK ag)=>some ag
  | _=>none
 | _=>none
noncomputable def tL:W->Option bA
 | .d (.int i)=>some (Sum.inl i)
 | .d (.str s)=>some (Sum.inr s)
 | _=>none
noncomputable def cS{κ:Type}[DecidableEq κ](ag:List (κ×D))(k:κ):Option D:=(ag.find? λp=>decide (p.1=k)).map (·.2)
def vv(M:aq)(kb:List (bA×D)):List (bA×D)->Option Bool
 | []=>some true
 | (k,v)::r=>match cS kb k with
  | none=>some false
  | some y=>match cW M 30 v,cW M 30 y with
   | some p,some q=>if SeqAt.shaped p=true/\SeqAt.shaped q=true then (vv M kb r).map (PyData.eqv p q && ·) else none
   | _,_=>none
def aY(op:Jl)(a b:W)(M:aq):cw Bool :=
 match op with
 | .eq=>match iw M a,iw M b with
  | some p,some q=>if SeqAt.shaped p=true/\SeqAt.shaped q=true then .ok (PyData.eqv p q) M else .af
  | _,_=>match gY M a,gY M b with
   | some ka,some kb=>match vv M kb ka with
    | some r=>.ok (ka.length==kb.length&&r) M
    | none=>.af
   | _,_=>.af
 | .ne=>match iw M a,iw M b with
  | some p,some q=>if SeqAt.shaped p=true/\SeqAt.shaped q=true then .ok (!PyData.eqv p q) M else .af
  | _,_=>.af
 | .lt=>match a,b with
  | .d (.int i),.d (.int j)=>.ok (decide (i<j)) M
  | .d (.str x),.d (.str y)=>.ok (decide (x.cps.toList<y.cps.toList)) M
  | _,_=>.af
 | .le=>match a,b with
  | .d (.int i),.d (.int j)=>.ok (decide (i<=j)) M
  | .d (.str x),.d (.str y)=>.ok (!decide (y.cps.toList<x.cps.toList)) M
  | _,_=>.af
 | .gt=>match a,b with
  | .d (.int i),.d (.int j)=>.ok (decide (j<i)) M
  | _,_=>.af
 | .ge=>match a,b with
  | .d (.int i),.d (.int j)=>.ok (decide (j<=i)) M
  | _,_=>.af
 | .sg=>match a with
  | .d .aQ=>.ok true M
  | _=>.ok false M
 | .eZ=>match a with
  | .d .aQ=>.ok false M
  | _=>.ok true M
 | .isin=>match iw M a,bx M b with
  | some p,some (_,ds)=>match bG M 30 ds with
   | some qs=>if SeqAt.shaped p=true/\qs.all SeqAt.shaped=true then .ok (kK p qs) M else .af
   | none=>.af
  | _,none=>match tL a,gY M b with
   | some k,some ag=>.ok (cS ag k).isSome M
   | _,_=>.af
  | _,_=>.af
 | .d9=>match iw M a,bx M b with
  | some p,some (_,ds)=>match bG M 30 ds with
   | some qs=>if SeqAt.shaped p=true/\qs.all SeqAt.shaped=true then .ok (!kK p qs) M else .af
   | none=>.af
  | _,none=>match tL a,gY M b with
   | some k,some ag=>.ok (!(cS ag k).isSome) M
   | _,_=>.af
  | _,_=>.af
def oP(M:aq):W->Option Bool
 | .d .aQ=>some false
 | .d (.bl b)=>some b
 | .d (.int i)=>some (i != 0)
 | w=>(bx M w).map λp=>!p.2.isEmpty
def cU(a b:W)(M:aq):cw W :=
  match b with
  | .d (.int i)=>match bx M a with
    | some (_,ds)=>match Ra ds i with
      | some d=>.ok (.d d) M
      | none=>.af
    | none=>match a with
      | .d (.str s) => if s.length <= sizeLine then match xb s.cps.toList i with
          | some c=>.ok (.d (.str ⟨#[c]⟩)) M
          | none=>.af
        else .af
      | .d (.ah n)=>match M[n]? with
        | some (.dK ag)=>match cS ag (Sum.inl i:bA)with
          | some d=>.ok (.d d) M
          | none=>.af
        | _=>.af
      | _=>.af
  | .d (.str k)=>match a with
    | .d (.ah n)=>match M[n]? with
      | some (.dK ag)=>match (ag.find? λp=>decide (p.1=(Sum.inr k:bA))).map (·.2)with
        | some d=>.ok (.d d) M
        | none=>.af
      | _=>.af
    | _=>.af
  | _=>.af
def kL(a:W)(lo hi:Option Int)(M:aq):cw W :=
 match bx M a with
 | some (true,ds)=>.ok (.lv (cutD ds lo hi)) M
 | some (false,ds)=>if HT.dW ds.length 0 lo=0/\HT.dW ds.length ds.length hi=ds.length then .af else .ok (.d (.tup (cutD ds lo hi))) M
 | none=>.af
def YS:W->Option Int
 | .d (.int i)=>some i
 | _=>none
noncomputable def EJ(M:aq):W->Option Ty
 | .lv _=>some .list
 | .d .aQ=>some .none
 | .d (.bl _)=>some .bool
 | .d (.int _)=>some .int
 | .d (.str _)=>some .str
 | .d (.tup _)=>some .tuple
 | .d (.ls _)=>none
 | .d (.ah n)=>match M[n]? with
  | some (.lst _)=>some .list
  | some (.iT _)=>some .list
  | some (.dK _)=>some .dict
  | some (.dT _)=>some .dict
  | some (.dF _)=>none
  | none=>none
noncomputable def Jm:List D->Option (List Bool)
 | []=>some []
 | .bl b::ds=>(Jm ds).map (b::·)
 | _::_=>none
noncomputable def fG:List D->Option (List Int)
 | []=>some []
 | .int b::ds=>(fG ds).map (b::·)
 | _::_=>none
noncomputable def dO{α:Type}(xs:List α)(k:Int):List α:=(List.range (Builtin.Slice.slicePlaces (Builtin.Slice.sliceAdjust none none k (xs.length:Int)).1 (Builtin.Slice.sliceAdjust none none k (xs.length:Int)).2 k)).filterMap λ(j:Nat)=>xs[((Builtin.Slice.sliceAdjust none none k (xs.length:Int)).1+(j:Int)*k).toNat]?
def kM(a:W)(k:Int)(M:aq):cw W :=
 match a with
 | .d (.tup ds)=>if (k=2\/k=-1)/\(dO ds k).length<=sizeLine then .ok (.d (.tup (dO ds k))) M else .af
 | _=>.af
noncomputable def cD{κ:Type}[DecidableEq κ](ag:List (κ×D))(k:κ)(v:D):List (κ×D) :=
 if (ag.any λkv=>decide (kv.1=k))=true then ag.map (λkv=>if kv.1=k then (kv.1,v) else kv) else ag++[(k,v)]
noncomputable def pairD:D->Option (bA×D)
 | .tup [.int i,d]=>some (Sum.inl i,d)
 | .tup [.str x,d]=>some (Sum.inr x,d)
 | _=>none
def zg(acc:List (bA×D)):List D->Option (List (bA×D))
 | []=>some acc
 | d::ds=>match pairD d with
  | some (k,x)=>zg (cD acc k x) ds
  | none=>none
def jl(b:Bi)(ws:List W)(M:aq):cw W :=
 match b,ws with
 | .len,[w]=>match bx M w with
  | some (_,ds)=>.ok (.d (.int ds.length)) M
  | none=>match w with
   | .d (.str x)=>if x.length<=sizeLine then .ok (.d (.int x.length)) M else .af
   | _=>.af
 | .all1,[w]=>match bx M w with
  | some (_,ds)=>match Jm ds with
   | some bs=>.ok (.d (.bl (bs.all id))) M
   | none=>.af
  | none=>.af
 | .EF,[w]=>match bx M w with
  | some (_,ds)=>match Jm ds with
   | some bs=>.ok (.d (.bl (bs.any id))) M
   | none=>.af
  | none=>.af
 | .m_,[w]=>match bx M w with
  | some (true,ds)=>match fG ds with
   | some is=>if is.length<64 then .ok (.lv ((L2.jL is).map D.int)) M else .af
   | none=>.af
  | _=>.af
 | .min1,[w]=>match bx M w with
  | some (_,ds)=>match fG ds with
   | some (i::is)=>.ok (.d (.int (is.foldl (λa b=>if b<a then b else a) i))) M
   | _=>.af
  | none=>.af
 | .EG,[w]=>match bx M w with
  | some (_,ds)=>match fG ds with
   | some (i::is)=>.ok (.d (.int (is.foldl (λa b=>if a<b then b else a) i))) M
   | _=>.af
  | none=>.af
 | .max2,[.d (.int i),.d (.int j)]=>.ok (.d (.int (if j>i then j else i))) M
 | .min2,[.d (.int i),.d (.int j)]=>.ok (.d (.int (if j<i then j else i))) M
 | .tK,[.d (.int i)]=>.ok (.d (.int i)) M
 | .tK,[.d (.bl k)]=>.ok (.d (.int (if k then 1 else 0))) M
 | .list1,[w]=>match bx M w with
  | some (_,ds)=>.ok (.lv ds) M
  | none=>.af
 | .tuple1,[w]=>match bx M w with
  | some (_,ds)=>.ok (.d (.tup ds)) M
  | none=>.af
 | .m8,[w]=>match iw M w with
  | some p=>if p.showable=true/\p.depth<=40/\p.shown.length<=sizeLine then .ok (.d (.str p.shown)) M else .af
  | none=>.af
 | .pA,[w]=>match gY M w with
  | some ag=>.ok (.d (.ah M.length)) (M++[.dK ag])
  | none=>match bx M w with
   | some (true,ds)=>match zg [] ds with
    | some ag=>.ok (.d (.ah M.length)) (M++[.dK ag])
    | none=>.af
   | _=>.af
 | .uW t,[w]=>match EJ M w with
  | some g=>.ok (.d (.bl (decide (g=t)||(decide (g=.bool)&&decide (t=.int))))) M
  | none=>.af
 | _,_=>.af
noncomputable def vA:List W->Option (Int×Int)
 | [.d (.int i),.d (.int j)]=>some (i,j)
 | [.d (.int j)]=>some (0,j)
 | _=>none
noncomputable def Od(i:Int)(n:Nat):List D:=(List.range n).map λk=>D.int (i+((k:Nat):Int))
noncomputable def Bd(tp:Bool)(ds:List D):W:=if tp=true then .d (.tup ds) else .lv ds
def EK(tp:Bool)(ws:List W)(M:aq):cw W:=match vA ws with
 | some (i,j)=>if (-(2 ^ 62)<=i/\i<2 ^ 62/\-(2 ^ 62)<=j/\j<2 ^ 62)/\(j-i).toNat<=2 ^ 24 then .ok (Bd tp (Od i (j-i).toNat)) M else .af
 | none=>.af
def oQ(m:Me)(o:W)(ws:List D)(M:aq):cw W :=
 match o with
 | .d (.ah n)=>match M[n]? with
  | some (.lst ds)=>match m,ws with
   | .append,[x]=>if ds.length<sizeLine then .ok (.d .aQ) (M.set n (.lst (ds++[x]))) else .af
   | .insert,[.int i,x]=>if ds.length<sizeLine/\0<=i/\i<=ds.length then .ok (.d .aQ) (M.set n (.lst (ds.take i.toNat++x::ds.drop i.toNat))) else .af
   | .reverse,[]=>.ok (.d .aQ) (M.set n (.lst ds.reverse))
   | .clear,[]=>.ok (.d .aQ) (M.set n (.lst []))
   | .pop,[]=>match ds[ds.length-1]? with
    | some d=>.ok (.d d) (M.set n (.lst ds.dropLast))
    | none=>.af
   | .extend,[.ah k]=>match M[k]? with
    | some (.lst es)=>if ds.length+es.length<=sizeLine then .ok (.d .aQ) (M.set n (.lst (ds++es))) else .af
    | _=>.af
   | .remove,[.int i]=>match fG ds with
    | some is=>if i∈is then .ok (.d .aQ) (M.set n (.lst ((is.erase i).map D.int))) else .af
    | none=>.af
   | _,_=>.af
  | _=>.af
 | _=>.af
inductive Z1 where
 | items (ds:List D) | at (n:Nat)
noncomputable def oR(M:aq):Z1->Option (List D)
 | .items ds=>some ds
 | .at n=>match M[n]? with
  | some (.lst ds)=>some ds
  | some (.iT ds)=>some ds
  | _=>none
def Hc(M:aq):W->Option Z1
 | .lv ds=>some (.items ds)
 | .d (.tup ds)=>some (.items ds)
 | .d (.ls ds)=>some (.items ds)
 | .d (.ah n)=>if (bx M (.d (.ah n))).isSome then some (.at n) else none
 | _=>none
noncomputable def tM(xs ys:List D)(i:Nat):Option D:=match xs[i]?,ys[i]? with
 | some x,some y=>some (.tup [x,y])
 | _,_=>none
inductive It where
 | at (n:Nat) | items (ds:List D) | ku (lo:Int) (n:Nat) | jm (n:Nat) | ic (ds:List D) | zip (a b:Z1)
def itemAt(M:aq)(i:Nat):It->Option (Option D)
 | .at n=>match M[n]? with
  | some (.lst ds)=>some ds[i]?
  | some (.iT ds)=>some ds[i]?
  | _=>none
 | .items ds=>some ds[i]?
 | .ku lo n=>some (if i<n then some (.int (lo+i)) else none)
 | .jm n=>match M[n]? with
  | some (.lst ds)=>some (ds[i]?.map λd=>.tup [.int i,d])
  | some (.iT ds)=>some (ds[i]?.map λd=>.tup [.int i,d])
  | _=>none
 | .ic ds=>some (ds[i]?.map λd=>.tup [.int i,d])
 | .zip a b=>match oR M a,oR M b with
  | some xs,some ys=>some (tM xs ys i)
  | _,_=>none
def cX(M:aq):It->Nat
 | .at n=>match M[n]? with
  | some (.lst ds)=>ds.length
  | some (.iT ds)=>ds.length
  | _=>0
 | .items ds=>ds.length
 | .ku _ n=>n
 | .jm n=>match M[n]? with
  | some (.lst ds)=>ds.length
  | some (.iT ds)=>ds.length
  | _=>0
 | .ic ds=>ds.length
 | .zip a b=>match oR M a,oR M b with
  | some xs,some ys=>min xs.length ys.length
  | _,_=>0
def kD:bA->D
 | .inl i=>.int i
 | .inr x=>.str x
def Oe(p:List bA×D):D:=.tup (p.1.map kD)
noncomputable def nj:List D->Option (List bA)
 | []=>some []
 | .int i::ds=>(nj ds).map (Sum.inl i::·)
 | .str x::ds=>(nj ds).map (Sum.inr x::·)
 | _::_=>none
def vB:W->Option (List bA)
 | .d (.tup ds)=>nj ds
 | _=>none
noncomputable def Jn(M:aq):W->Option (List (List bA×D))
 | .d (.ah n)=>match M[n]? with
  | some (.dT ag)=>some ag
  | some (.dF ag)=>some ag
  | _=>none
 | _=>none
def lD(a b:W)(M:aq):cw W:=match Jn M a,vB b with
 | some ag,some k=>match cS ag k with
  | some d=>.ok (.d d) M
  | none=>.af
 | _,_=>.af
def iU(ng:Bool)(a b:W)(M:aq):cw W:=match vB a,Jn M b with
 | some k,some ag=>.ok (.d (.bl (ng != (cS ag k).isSome))) M
 | _,_=>.af
def kN(a b:W)(M:aq):cw W:=match dr M a,b with
 | some ds,.d (.int i)=>match fG ds with
  | some is=>.ok (.d (.int (is.count i:Nat))) M
  | none=>.af
 | _,_=>.af
def gR(a b:W)(d:D)(M:aq):cw Unit:=match a with
 | .d (.ah n)=>match M[n]?,vB b with
  | some (.dT ag),some k=>if ag.length<sizeLine then .ok () (M.set n (.dT (cD ag k d))) else .af
  | _,_=>.af
 | _=>.af
noncomputable def Ui(i:Int)(n:Nat):List D:=(List.range n).map λk=>.int (i-(k:Nat))
def fC(k:SK)(ws:List W)(M:aq):cw It :=
 match k,ws with
 | .seq,[.lv ds]=>.ok (.items ds) M
 | .seq,[.d (.tup ds)]=>.ok (.items ds) M
 | .seq,[.d (.ls ds)]=>.ok (.items ds) M
 | .seq,[.d (.ah n)]=>if (bx M (.d (.ah n))).isSome then .ok (.at n) M else .af
 | .dm,[.d (.int j)]=>if -(2 ^ 62)<=j/\j<2 ^ 62 then .ok (.ku 0 j.toNat) M else .af
 | .oO,[.d (.int i),.d (.int j)]=>if -(2 ^ 62)<=i/\i<2 ^ 62/\-(2 ^ 62)<=j/\j<2 ^ 62 then .ok (.ku i (j-i).toNat) M else .af
 | .enum,[.lv ds]=>.ok (.ic ds) M
 | .enum,[.d (.tup ds)]=>.ok (.ic ds) M
 | .enum,[.d (.ls ds)]=>.ok (.ic ds) M
 | .enum,[.d (.ah n)]=>if (bx M (.d (.ah n))).isSome then .ok (.jm n) M else .af
 | .EH,[.d (.int i),.d (.int j),.d (.int k)]=>if k=-1/\-(2 ^ 62)<=i/\i<2 ^ 62/\-(2 ^ 62)<=j/\j<2 ^ 62 then .ok (.items (Ui i (i-j).toNat)) M else .af
 | .keys,[.d (.ah n)]=>match M[n]? with
  | some (.dT ag)=>.ok (.items (ag.map Oe)) (M.set n (.dF ag))
  | some (.dF ag)=>.ok (.items (ag.map Oe)) M
  | _=>.af
 | .vals,[.d (.ah n)]=>match M[n]? with
  | some (.dT ag)=>.ok (.items (ag.map (·.2))) (M.set n (.dF ag))
  | some (.dF ag)=>.ok (.items (ag.map (·.2))) M
  | _=>.af
 | .zip,[u,v]=>match Hc M u,Hc M v with
  | some a,some b=>.ok (.zip a b) M
  | _,_=>.af
 | _,_=>.af
noncomputable def dZ(tg:List Nat)(ds:List D)(ρ:En):Option En :=
 match tg,ds with
 | [],[]=>some ρ
 | i::tg,d::ds=>dZ tg ds (ρ.set i (some d))
 | _,_=>none
def bR(tg:List Nat)(d:D)(ρ:En):Option En :=
 match tg with
 | [i]=>some (ρ.set i (some d))
 | _=>match d with
  | .tup ds=>dZ tg ds ρ
  | _=>none
abbrev du:=Nat->List D->aq->cw W
def eR(c_:List (Option Nat))(ρ:En):En:=c_.map λo=>o.bind λj=>(ρ[j]?).join
def bc(cond:En->aq->cw Bool)(elt:En->aq->cw D)(it:It)(tg:List Nat):Nat->Nat->En->aq->List D->cw W
  | 0,i,_,M,acc=>match itemAt M i it with
    | some none=>.ok (.lv acc) M
    | _=>.af
  | f+1,i,τ,M,acc=>match itemAt M i it with
    | some none=>.ok (.lv acc) M
    | some (some d)=>match bR tg d τ with
      | none=>.af
      | some τ => if acc.length < sizeLine then
          (cond τ M).bind λb M=>if b then (elt τ M).bind λx M=>bc cond elt it tg f (i+1) τ M (acc++[x]) else bc cond elt it tg f (i+1) τ M acc
        else .af
    | none=>.af
noncomputable def xo(ng:Bool)(x:W)(M:aq):cw W:=match x with
 | .d (.bl b)=>.ok (.d (.bl (ng != b))) M
 | _=>.af
mutual
noncomputable def ev(G:du):C->En->aq->cw W
  | .ae i,ρ,M=>match ρ[i]? with
    | some (some d)=>.ok (.d d) M
    | _=>.af
  | .ai d,_,M=>.ok (.d d) M
  | .bin op a b,ρ,M=>(ev G a ρ M).bind λx M=>(ev G b ρ M).bind λy M=>ni op x y M
  | .cmp op a b,ρ,M=>(ev G a ρ M).bind λx M=>(ev G b ρ M).bind λy M=>(aY op x y M).bind λr M=>.ok (.d (.bl r)) M
  | .chain o1 o2 a b c, ρ, M => (ev G a ρ M).bind fun x M => (ev G b ρ M).bind fun y M => (aY o1 x y M).bind fun r M =>
      if r then (ev G c ρ M).bind λz M=>(aY o2 y z M).bind λr M=>.ok (.d (.bl r)) M else .ok (.d (.bl false)) M
  | .dq cs,ρ,M=>iV G cs ρ M
  | .gA cs,ρ,M=>oS G cs ρ M
  | .neg a,ρ,M=>(ev G a ρ M).bind λx M=>match x with
    | .d (.bl r)=>.ok (.d (.bl (!r))) M
    | _=>.af
  | .ite c a b,ρ,M=>(dH G c ρ M).bind λr M=>if r then ev G a ρ M else ev G b ρ M
  | .tup cs,ρ,M=>(bL G cs ρ M).bind λds M=>if ds.length<=sizeLine then .ok (.d (.tup ds)) M else .af
  | .lst cs,ρ,M=>(bL G cs ρ M).bind λds M=>if ds.length<=sizeLine then .ok (.lv ds) M else .af
  | .sub a b,ρ,M=>(ev G a ρ M).bind λx M=>(ev G b ρ M).bind λy M=>cU x y M
  | .nh a lo hi,ρ,M=>(ev G a ρ M).bind λx M=>(sh G lo ρ M).bind λl M=>(sh G hi ρ M).bind λh M=>kL x l h M
  | .zU a k,ρ,M=>(ev G a ρ M).bind λx M=>kM x k M
  | .call f cs,ρ,M=>(bL G cs ρ M).bind λds M=>G f ds M
  | .bi b cs,ρ,M=>(cY G cs ρ M).bind λws M=>jl b ws M
  | .me m o cs,ρ,M=>(ev G o ρ M).bind λx M=>if (dr M x).isSome then (bL G cs ρ M).bind λds M=>oQ m x ds M else .af
  | .tq ks cs,ρ,M=>(bL G cs ρ M).bind λds M=>if ks.length=ds.length then .ok (.d (.ah M.length)) (M++[.dK ((ks.map Sum.inr).zip ds)]) else .af
  | .ku tp cs,ρ,M=>(cY G cs ρ M).bind λws M=>EK tp ws M
  | .EI _ v,_,M=>.ok (.d (.int v)) M
  | .kJ,_,M=>.ok (.d (.ah M.length)) (M++[.dT []])
  | .jk a b,ρ,M=>(ev G a ρ M).bind λx M=>(ev G b ρ M).bind λy M=>lD x y M
  | .f_ ng a b,ρ,M=>(ev G a ρ M).bind λx M=>(ev G b ρ M).bind λy M=>iU ng x y M
  | .cnt a b,ρ,M=>(ev G a ρ M).bind λx M=>if (dr M x).isSome then (ev G b ρ M).bind λy M=>kN x y M else .af
  | .gB ng a,ρ,M=>(ev G a ρ M).bind λx M=>xo ng x M
  | .comp k dR tg cond elt c_, ρ, M => (cY G dR ρ M).bind fun ws M => (fC k ws M).bind fun it M =>
      bc (λτ M=>bH G cond τ M) (λτ M=>(ev G elt τ M).bind own) it tg (cX M it) 0 (eR c_ ρ) M []
noncomputable def dH(G:du):fB->En->aq->cw Bool
 | .dq ts,ρ,M=>fH G ts ρ M
 | .gA ts,ρ,M=>fI G ts ρ M
 | .neg a,ρ,M=>(dH G a ρ M).bind λr M=>.ok (!r) M
 | .val c,ρ,M=>(ev G c ρ M).bind λw M=>match oP M w with
  | some r=>.ok r M
  | none=>.af
noncomputable def iV(G:du):List C->En->aq->cw W
 | [],_,_=>.af
 | c::cs,ρ,M=>(ev G c ρ M).bind λx M=>match cs,x with
  | [],x=>.ok x M
  | _,.d (.bl true)=>iV G cs ρ M
  | _,.d (.bl false)=>.ok (.d (.bl false)) M
  | _,_=>.af
noncomputable def oS(G:du):List C->En->aq->cw W
 | [],_,_=>.af
 | c::cs,ρ,M=>(ev G c ρ M).bind λx M=>match cs,x with
  | [],x=>.ok x M
  | _,.d (.bl false)=>oS G cs ρ M
  | _,.d (.bl true)=>.ok (.d (.bl true)) M
  | _,_=>.af
noncomputable def fH(G:du):List fB->En->aq->cw Bool
 | [],_,_=>.af
 | c::cs,ρ,M=>(dH G c ρ M).bind λx M=>match cs,x with
  | [],x=>.ok x M
  | _,true=>fH G cs ρ M
  | _,false=>.ok false M
noncomputable def fI(G:du):List fB->En->aq->cw Bool
 | [],_,_=>.af
 | c::cs,ρ,M=>(dH G c ρ M).bind λx M=>match cs,x with
  | [],x=>.ok x M
  | _,false=>fI G cs ρ M
  | _,true=>.ok true M
noncomputable def bL(G:du):List C->En->aq->cw (List D)
 | [],_,M=>.ok [] M
 | c::cs,ρ,M=>((ev G c ρ M).bind own).bind λd M=>(bL G cs ρ M).bind λds M=>.ok (d::ds) M
noncomputable def cY(G:du):List C->En->aq->cw (List W)
 | [],_,M=>.ok [] M
 | c::cs,ρ,M=>(ev G c ρ M).bind λd M=>(cY G cs ρ M).bind λds M=>.ok (d::ds) M
noncomputable def sh(G:du):Option C->En->aq->cw (Option Int)
 | none,_,M=>.ok none M
 | some c,ρ,M=>(ev G c ρ M).bind λw M=>match w with
  | .d (.int i)=>.ok (some i) M
  | _=>.af
noncomputable def bH(G:du):Option fB->En->aq->cw Bool
 | none,_,M=>.ok true M
 | some c,ρ,M=>dH G c ρ M
end
section
variable {G:du} {lo hi:Option C} {cond:Option fB}
theorem Be : ev G (.ae i) ρ M = (match ρ[i]? with
    | some (some d)=>.ok (.d d) M
    | _=>.af):=rfl
theorem Jo:ev G (.ai d) u0 M=.ok (.d d) M:=rfl
theorem Jp:ev G (.bin op a b) ρ M=(ev G a ρ M).bind λx M=>(ev G b ρ M).bind λy M=>ni op x y M:=rfl
theorem Bf:ev G (.cmp op a b) ρ M=(ev G a ρ M).bind λx M=>(ev G b ρ M).bind λy M=>(aY op x y M).bind λr M=>.ok (.d (.bl r)) M:=rfl
theorem tN : ev G (.chain o1 o2 a b c) ρ M = ((ev G a ρ M).bind fun x M => (ev G b ρ M).bind fun y M => (aY o1 x y M).bind fun r M =>
      if r then (ev G c ρ M).bind λz M=>(aY o2 y z M).bind λr M=>.ok (.d (.bl r)) M else .ok (.d (.bl false)) M):=rfl
theorem EL:ev G (.dq cs) ρ M=iV G cs ρ M:=rfl
theorem EM:ev G (.gA cs) ρ M=oS G cs ρ M:=rfl
theorem Jq : ev G (.neg a) ρ M = ((ev G a ρ M).bind fun x M => match x with
    | .d (.bl r)=>.ok (.d (.bl (!r))) M
    | _=>.af):=rfl
theorem Bg:ev G (.ite c a b) ρ M=(dH G c ρ M).bind λr M=>if r then ev G a ρ M else ev G b ρ M:=rfl
theorem Bh:ev G (.tup cs) ρ M=(bL G cs ρ M).bind λds M=>if ds.length<=sizeLine then .ok (.d (.tup ds)) M else .af:=rfl
theorem Bj:ev G (.lst cs) ρ M=(bL G cs ρ M).bind λds M=>if ds.length<=sizeLine then .ok (.lv ds) M else .af:=rfl
theorem Jr:ev G (.sub a b) ρ M=(ev G a ρ M).bind λx M=>(ev G b ρ M).bind λy M=>cU x y M:=rfl
theorem Js:ev G (.nh a lo hi) ρ M=(ev G a ρ M).bind λx M=>(sh G lo ρ M).bind λl M=>(sh G hi ρ M).bind λh M=>kL x l h M:=rfl
theorem Jt:ev G (.zU a k) ρ M=(ev G a ρ M).bind λx M=>kM x k M:=rfl
theorem xp:ev G (.call f cs) ρ M=(bL G cs ρ M).bind λds M=>G f ds M:=rfl
theorem Bk:ev G (.bi b cs) ρ M=(cY G cs ρ M).bind λws M=>jl b ws M:=rfl
theorem Bl:ev G (.me m o cs) ρ M=(ev G o ρ M).bind λx M=>if (dr M x).isSome then (bL G cs ρ M).bind λds M=>oQ m x ds M else .af:=rfl
theorem vC:ev G (.tq ks cs) ρ M=(bL G cs ρ M).bind λds M=>if ks.length=ds.length then .ok (.d (.ah M.length)) (M++[.dK ((ks.map Sum.inr).zip ds)]) else .af:=rfl
theorem Ju:ev G (.ku tp cs) ρ M=(cY G cs ρ M).bind λws M=>EK tp ws M:=rfl
theorem Jv:ev G (.EI u0 v) u1 M=.ok (.d (.int v)) M:=rfl
theorem EN:ev G (.kJ) u0 M=.ok (.d (.ah M.length)) (M++[.dT []]):=rfl
theorem EO:ev G (.jk a b) ρ M=(ev G a ρ M).bind λx M=>(ev G b ρ M).bind λy M=>lD x y M:=rfl
theorem xq:ev G (.f_ ng a b) ρ M=(ev G a ρ M).bind λx M=>(ev G b ρ M).bind λy M=>iU ng x y M:=rfl
theorem Bm:ev G (.cnt a b) ρ M=(ev G a ρ M).bind λx M=>if (dr M x).isSome then (ev G b ρ M).bind λy M=>kN x y M else .af:=rfl
theorem xr:ev G (.gB ng a) ρ M=(ev G a ρ M).bind λx M=>xo ng x M:=rfl
theorem qA : ev G (.comp k dR tg cond elt c_) ρ M = ((cY G dR ρ M).bind fun ws M => (fC k ws M).bind fun it M =>
      bc (λτ M=>bH G cond τ M) (λτ M=>(ev G elt τ M).bind own) it tg (cX M it) 0 (eR c_ ρ) M []):=rfl
theorem Bn:dH G (.dq ts) ρ M=fH G ts ρ M:=rfl
theorem Bo:dH G (.gA ts) ρ M=fI G ts ρ M:=rfl
theorem ER:dH G (.neg a) ρ M=(dH G a ρ M).bind λr M=>.ok (!r) M:=rfl
theorem qB : dH G (.val c) ρ M = ((ev G c ρ M).bind fun w M => match oP M w with
    | some r=>.ok r M
    | none=>.af):=rfl
theorem kO:iV G [] u0 u1=.af:=rfl
theorem jn : iV G (c :: cs) ρ M = ((ev G c ρ M).bind fun x M => match cs, x with
    | [],x=>.ok x M
    | _,.d (.bl true)=>iV G cs ρ M
    | _,.d (.bl false)=>.ok (.d (.bl false)) M
    | _,_=>.af):=rfl
theorem nk:oS G [] u0 u1=.af:=rfl
theorem kP : oS G (c :: cs) ρ M = ((ev G c ρ M).bind fun x M => match cs, x with
    | [],x=>.ok x M
    | _,.d (.bl false)=>oS G cs ρ M
    | _,.d (.bl true)=>.ok (.d (.bl true)) M
    | _,_=>.af):=rfl
theorem kQ:fH G [] u0 u1=.af:=rfl
theorem jo : fH G (c :: cs) ρ M = ((dH G c ρ M).bind fun x M => match cs, x with
    | [],x=>.ok x M
    | _,true=>fH G cs ρ M
    | _,false=>.ok false M):=rfl
theorem kR:fI G [] u0 u1=.af:=rfl
theorem jq : fI G (c :: cs) ρ M = ((dH G c ρ M).bind fun x M => match cs, x with
    | [],x=>.ok x M
    | _,false=>fI G cs ρ M
    | _,true=>.ok true M):=rfl
theorem gc:bL G [] u0 M=.ok [] M:=rfl
theorem fh:bL G (c::cs) ρ M=((ev G c ρ M).bind own).bind λd M=>(bL G cs ρ M).bind λds M=>.ok (d::ds) M:=rfl
theorem ie:cY G [] u0 M=.ok [] M:=rfl
theorem gf:cY G (c::cs) ρ M=(ev G c ρ M).bind λd M=>(cY G cs ρ M).bind λds M=>.ok (d::ds) M:=rfl
theorem nq:sh G none u0 M=.ok none M:=rfl
theorem nr : sh G (some c) ρ M = ((ev G c ρ M).bind fun w M => match w with
    | .d (.int i)=>.ok (some i) M
    | _=>.af):=rfl
end
def Jw(K:PySem.W.Frag)(ads:List Addr)(sA H:Hp):W->V->Prop
 | .d x,v=>RD K ads H x v
 | .lv ds,v=>∃a xs,v=.ref a/\sA a=none/\H a=some (.lst xs)/\a∉ads/\aJ K ads H ds xs
def jM(K:PySem.W.Frag)(ads:List Addr)(H:Hp)(w:W)(M':aq)(Q:VK):Prop :=
 ∀v H' aB,aE ads aB H H'->aO K aB H' M'->Jw K aB H H' w v->Q v H'
def Jx(K:PySem.W.Frag)(ads:List Addr)(H:Hp)(ds:List D)(M':aq)(Q:List V->Hp->Prop):Prop :=
 ∀vs H' aB,aE ads aB H H'->aO K aB H' M'->aJ K aB H' ds vs->Q vs H'
noncomputable def Of(K:PySem.W.Frag)(ads:List Addr)(H:Hp)(b:Bool)(M':aq)(Q:Bool->Hp->Prop):Prop :=
 ∀H' aB,aE ads aB H H'->aO K aB H' M'->Q b H'
def cq(K:PySem.W.Frag)(ads:List Addr)(H:Hp)(Q:VK):cw W->Prop
 | .ok w M=>jM K ads H w M Q
 | _=>False
def tP(K:PySem.W.Frag)(ads:List Addr)(H:Hp)(Q:List V->Hp->Prop):cw (List D)->Prop
 | .ok w M=>Jx K ads H w M Q
 | _=>False
def DF(K:PySem.W.Frag)(ads:List Addr)(H:Hp)(Q:Bool->Hp->Prop):cw Bool->Prop
 | .ok w M=>Of K ads H w M Q
 | _=>False
structure SR (K:PySem.W.Frag) (ads:List Addr) (M:aq) (ρ:En) (σ:L2.St) (H:Hp):Prop where
 mem:aO K ads H M
 en:Ob K ads H ρ σ
 ln:ρ.length=σ.length
def tE(K:PySem.W.Frag)(o:En->aq->cw W):TE:=λσ H Q=>∃ads M ρ,SR K ads M ρ σ H/\cq K ads H Q (o ρ M)
def ES(K:PySem.W.Frag)(o:En->aq->cw (List D)):TA:=λσ H Q=>∃ads M ρ,SR K ads M ρ σ H/\tP K ads H Q (o ρ M)
def ny(K:PySem.W.Frag)(o:En->aq->cw Bool):TT:=λσ H Q=>∃ads M ρ,SR K ads M ρ σ H/\DF K ads H Q (o ρ M)
section
variable {K:PySem.W.Frag} {ads aB aT:List Addr} {H H' H2:Hp} {M M2:aq} {ρ:En} {σ:L2.St}
theorem Jw.rw(h:Jw K ads sA H w v):RW K ads H w v:=by
 cases w with
 | d x=>exact h
 | lv ds=>obtain⟨a,xs,e,_,h1,n,r⟩:=h;exact⟨a,xs,e,h1,n,r⟩
theorem SR.grow(s:SR K ads M ρ σ H)(g:aE ads aB H H')(m:aO K aB H' M2):SR K aB M2 ρ σ H':=⟨m,g.V_ s.en,s.ln⟩
theorem zh(g:aE ads aB H H')(m:aO K ads H M)(m':aO K aB H' M2)(h:H' a=none):H a=none:=by
 by_cases hb:a∈ads
 ·have:a∈aB:=by obtain⟨r,e⟩:=g.pre;rw[e];exact List.mem_append_left _ hb
  exact absurd this (m'.fresh h)
 ·cases q:H a with
  | none=>rfl
  | some o=>rw[g.kept a o hb q]at h;cases h
theorem Jw.back(g:aE ads aB H H')(m:aO K ads H M)(m':aO K aB H' M2)(h:Jw K aT H' H2 w v):Jw K aT H H2 w v:=by
 cases w with
 | d x=>exact h
 | lv ds=>obtain⟨a,xs,e,h0,h1,n,r⟩:=h;exact⟨a,xs,e,zh g m m' h0,h1,n,r⟩
theorem jM.shift(p:jM K ads H w Mw Q)(g:aE ads aB H H')(m:aO K ads H M)(m':aO K aB H' M2):jM K aB H' w Mw Q :=
 λv H1 ar g1 m1 r=>p v H1 ar (g.trans g1) m1 (r.back g m m')
theorem cq.shift(p:cq K ads H Q o)(g:aE ads aB H H')(m:aO K ads H M)(m':aO K aB H' M2):cq K aB H' Q o:=by
 cases o with
 | ok w Mw=>exact jM.shift p g m m'
 | err _ _=>exact p
 | af=>exact p
theorem DF.shift(p:DF K ads H Q o)(g:aE ads aB H H'):DF K aB H' Q o:=by
 cases o with
 | ok w Mw=>exact λH1 ar g1 m1=>p H1 ar (g.trans g1) m1
 | err _ _=>exact p
 | af=>exact p
theorem dD (s : SR K ads M ρ σ H) (h : cq K ads H Q ((o ρ M).bind k))
    (hk:∀w M1 v H1 ar,SR K ar M1 ρ σ H1->RW K ar H1 w v->cq K ar H1 Q (k w M1)->R v H1):tE K o σ H R:=by
  refine⟨ads,M,ρ,s,?_⟩
  cases q:o ρ M with
  | ok w M1 =>
    rw[q]at h;have h:cq K ads H Q (k w M1):=h;exact λv H1 ar g1 m1 r=>hk w M1 v H1 ar (s.grow g1 m1) r.rw (h.shift g1 s.mem m1)
  | err _ _=>rw[q]at h;exact h
  | af=>rw[q]at h;exact h
theorem two {oa ob : En -> aq -> cw W} {f : W -> W -> aq -> cw W} {r : R2} {Q : VK}
    (hr:∀ {ads M H x y vx vy Q},aO K ads H M->RW K ads H x vx->RW K ads H y vy->cq K ads H Q (f x y M)->r vx vy H Q)
    (h:tE K (λρ M=>(oa ρ M).bind λx M=>(ob ρ M).bind λy M=>f x y M) σ H Q):DB r (tE K oa) (tE K ob) σ H Q:=by
  obtain⟨ads,M,ρ,s,h⟩:=h;refine dD s h λw M1 v H1 ar s1 jN h1=>?_;refine⟨ar,M1,ρ,s1,?_⟩
  cases q:ob ρ M1 with
  | ok y M2 =>
    rw[q]at h1;have h1:cq K ar H1 Q (f w y M2):=h1;exact λvy H2 aT g2 m2 ry=>hr m2 (g2.rw jN) ry.rw (h1.shift g2 s1.mem m2)
  | err _ _=>rw[q]at h1;exact h1
  | af=>rw[q]at h1;exact h1
theorem cq.plain(h:cq K ads H Q (.ok (.d x) M))(m:aO K ads H M)(r:RD K ads H x v):Q v H:=h v H ads (aE.refl _ _) m r
theorem cq.list(h:cq K ads H Q (.ok (.lv ds) M))(m:aO K ads H M)(r:aJ K ads H ds xs)(hp:H p=none):Q (.ref p) (upd H p (.lst xs)) :=
 h _ _ ads (aE.fZ m hp) (m.fZ hp) ⟨p,xs,rfl,hp,bj,m.fresh hp,(aE.fZ m hp).mZ _ _ r⟩
theorem cq.tuple(h:cq K ads H Q (.ok (.d (.tup ds)) M))(m:aO K ads H M)(r:aJ K ads H ds xs)(hp:H p=none):Q (.ref p) (upd H p (.tup xs)):=by
 refine h _ _ ads (aE.fZ m hp) (m.fZ hp) ?_;show RD _ _ _ (.tup ds) _;unfold RD;exact⟨p,xs,rfl,bj,(aE.fZ m hp).mZ _ _ r⟩
theorem eK (m : aO K ads H M) (r : RW K ads H w v) (e : bx M w = some (l, ds)) :
    ∃a xs,v=.ref a/\aJ K ads H ds xs/\((l=true/\eG K H a xs)\/(l=false/\fz K H a xs)):=by
  cases w with
  | lv es =>
    simp only[bx,Option.some.injEq,Prod.mk.injEq]at e;obtain⟨rfl,rfl⟩:=e;obtain⟨a,xs,e,h,n,r⟩:=r;exact⟨a,xs,e,r,.inl ⟨rfl,eG.of h⟩⟩
  | d x =>
    cases x with
    | tup es =>
      simp only[bx,Option.some.injEq,Prod.mk.injEq]at e;obtain⟨rfl,rfl⟩:=e;have r:RD K ads H (.tup es) v:=r;unfold RD at r;obtain⟨a,xs,e,h,r⟩:=r;exact⟨a,xs,e,r,.inr ⟨rfl,fz.of h⟩⟩
    | ls es =>
      simp only[bx,Option.some.injEq,Prod.mk.injEq]at e;obtain⟨rfl,rfl⟩:=e;have r:RD K ads H (.ls es) v:=r;unfold RD at r;obtain⟨a,xs,e,h,r⟩:=r;exact⟨a,xs,e,r,.inl ⟨rfl,h.sq⟩⟩
    | ah n =>
      have r:RD K ads H (.ah n) v:=r;unfold RD at r;obtain⟨a,ev,ea⟩:=r;simp only[bx]at e
      cases q:M[n]? with
      | none=>rw[q]at e;cases e
      | some o =>
        rw[q]at e;have ho:=m.obj n o a q ea
        cases o with
        | lst es=>cases e;obtain⟨xs,h,r⟩:=ho;exact⟨a,xs,ev,r,.inl ⟨rfl,eG.of h⟩⟩
        | iT es=>cases e;obtain⟨o,xs,h,r⟩:=ho;exact⟨a,xs,ev,r,.inl ⟨rfl,.inl (.inr ⟨o,h⟩)⟩⟩
        | dK _=>cases e
        | dT _=>cases e
        | dF _=>cases e
    | aQ=>cases e
    | bl _=>cases e
    | int _=>cases e
    | str _=>cases e
theorem jr(m:aO K ads H M)(r:RW K ads H w v)(e:dr M w=some ds):∃a xs,v=.ref a/\aJ K ads H ds xs/\H a=some (.lst xs):=by
 cases w with
 | lv es =>
  simp only[dr,Option.some.injEq]at e;subst e;obtain⟨a,xs,e,h,n,r⟩:=r;exact⟨a,xs,e,r,h⟩
 | d x =>
  cases x with
  | ah n =>
   have r:RD K ads H (.ah n) v:=r;unfold RD at r;obtain⟨a,ev,ea⟩:=r;simp only[dr]at e
   cases q:M[n]? with
   | none=>rw[q]at e;cases e
   | some o =>
    rw[q]at e;have ho:=m.obj n o a q ea
    cases o with
    | lst es=>cases e;obtain⟨xs,h,r⟩:=ho;exact⟨a,xs,ev,r,h⟩
    | iT es=>cases e
    | dK _=>cases e
    | dT _=>cases e
    | dF _=>cases e
  | tup _=>cases e
  | ls _=>cases e
  | aQ=>cases e
  | bl _=>cases e
  | int _=>cases e
  | str _=>cases e
theorem aS(r:RW K ads H (.d (.int i)) v):v=.int i:=by
 have r:RD K ads H (.int i) v:=r;unfold RD at r;exact r
theorem eL{i:Str}(r:RW K ads H (.d (.str i)) v):v=.str i:=by
 have r:RD K ads H (.str i) v:=r;unfold RD at r;exact r
theorem iW(r:RW K ads H (.d (.bl i)) v):v=.bl i:=by
 have r:RD K ads H (.bl i) v:=r;unfold RD at r;exact r
theorem nz(r:RW K ads H (.d .aQ) v):v=.aQ:=by
 have r:RD K ads H .aQ v:=r;unfold RD at r;exact r
theorem cP(i:Int):RD K ads H (.int i) (.int i):=by unfold RD;rfl
theorem iX(i:Bool):RD K ads H (.bl i) (.bl i):=by unfold RD;rfl
theorem vD(i:Str):RD K ads H (.str i) (.str i):=by unfold RD;rfl
theorem jt:RD K ads H .aQ .aQ:=by unfold RD;rfl
end
section
variable {X:Cx}
def Uj(K:PySem.W.Frag)(op:Jk):R2:=λx y H Q=>∃ads M wx wy,aO K ads H M/\RW K ads H wx x/\RW K ads H wy y/\cq K ads H Q (ni op wx wy M)
noncomputable def ET:Jk->Operator
 | .add=>.Add | .sub=>.Sub | .mul=>.Mult | .fdiv=>.FloorDiv | .mod=>.Mod | .pow=>.Pow
theorem EU:iL X (binaryOp .Add) (λx y H Q=>∃a b ys,x=.ref a/\y=.ref b/\fz X.K H a []/\fz X.K H b ys/\Q (.ref b) H):=by
 intro aa s σ H x y v u Q I rx ry h;obtain⟨a,b,ys,rfl,rfl,ha,hb,q⟩:=h;cases rx;cases ry;obtain⟨aC,r1,p1,_⟩:=I.tuple ha;obtain⟨AH,r2,p2,_⟩:=I.tuple hb;cases r1;obtain⟨⟨cls,dd,data,sl⟩,ho,hc,n,hd⟩:=id p1;obtain⟨⟨Tf,QR,data2,QS⟩,AD,zS,n2,hd2⟩:=id p2;simp only at hc hd zS hd2;subst hc hd zS hd2
 exact concat_meets ⟨_,ho,rfl⟩ ⟨_,AD,rfl⟩ noFill_tuple_add seq_tuple_add PySem.F.slot_tuple_add PySem.F.entry_tuple_add (PySem.F.args_tuple_add_2 _ _)
  (tuple_addW0 a b _ AH.toArray n n2 dd QR sl QS rfl) ⟨ho,AD,⟨.ref b,H,I,rfl,q⟩⟩
theorem aJ.rep{K:PySem.W.Frag}{ads:List Addr}{H:Hp}{ds:List D}{vs:List V}(r:aJ K ads H ds vs):∀k:Nat,aJ K ads H (List.replicate k ds).flatten (List.replicate k vs).flatten
 | 0=>by simp;unfold aJ;rfl
 | k+1=>by simp only[List.replicate_succ,List.flatten_cons];exact r.app (aJ.rep r k)
theorem Jy(op:Jk):iL X (binaryOp (ET op)) (Uj X.K op):=by
 intro aa s σ H x y v u Q I rx ry h;obtain⟨ads,M,wx,wy,m,r1,r2,h⟩:=h
 have Og:∀ {op},op=Jk.add->cq X.K ads H Q (match dr M wx,dr M wy with
  | some xs,some ys=>if xs.length+ys.length<=sizeLine then .ok (.lv (xs++ys)) M else .af
  | _,_=>.af)->wpAny (model X.prog X.w) X.A (binaryOp (ET op) v u) (EP X aa σ Q) X.xe s:=by
  intro op e h;subst e
  cases q1:dr M wx with
  | none=>rw[q1]at h;exact h.elim
  | some xs =>
   cases q2:dr M wy with
   | none=>rw[q1,q2]at h;exact h.elim
   | some ys =>
    rw[q1,q2]at h;dsimp only at h;split at h
    ·rename_i hz
     obtain⟨a,vs,e1,ra,ha⟩:=jr m r1 q1;obtain⟨b,ws,e2,rb,hb⟩:=jr m r2 q2;subst e1 e2;refine IY aa s σ H _ _ v u Q I rx ry ⟨a,b,vs,ws,rfl,rfl,ha,hb,by rw[<- ra.len,<- rb.len];exact hz,λp hp=>h.list m (ra.app rb) hp⟩
    ·exact h.elim
 unfold ni at h;split at h
 ·rw[aS r1]at rx;rw[aS r2]at ry;exact Iw aa s σ H _ _ v u Q I rx ry ⟨_,_,rfl,rfl,h.plain m (cP _)⟩
 ·rw[aS r1]at rx;rw[aS r2]at ry;exact Iy aa s σ H _ _ v u Q I rx ry ⟨_,_,rfl,rfl,h.plain m (cP _)⟩
 ·rw[aS r1]at rx;rw[aS r2]at ry;split at h
  ·rename_i hc
   exact Iz aa s σ H _ _ v u Q I rx ry ⟨_,_,rfl,rfl,hc,h.plain m (cP _)⟩
  ·exact h.elim
 ·rw[aS r1]at rx;rw[aS r2]at ry;split at h
  ·rename_i hc
   exact D0 aa s σ H _ _ v u Q I rx ry ⟨_,_,rfl,rfl,hc,h.plain m (cP _)⟩
  ·exact h.elim
 ·rw[aS r1]at rx;rw[aS r2]at ry;split at h
  ·rename_i hc
   exact IA aa s σ H _ _ v u Q I rx ry ⟨_,_,rfl,rfl,hc,h.plain m (cP _)⟩
  ·exact h.elim
 ·rw[aS r1]at rx;rw[aS r2]at ry;split at h
  ·rename_i hc
   exact IB aa s σ H _ _ v u Q I rx ry ⟨_,_,rfl,rfl,hc,h.plain m (cP _)⟩
  ·exact h.elim
 ·rename_i xs ys
  split at h
  ·rename_i hc
   have r1:RD X.K ads H (.tup xs) x:=r1;have r2:RD X.K ads H (.tup ys) y:=r2;unfold RD at r1 r2;obtain⟨a,vs,e1,ha,ra⟩:=r1;obtain⟨b,ws,e2,hb,rb⟩:=r2;subst e1 e2;by_cases Uk:vs=[]
   ·have ex:xs=[]:=List.eq_nil_of_length_eq_zero (by rw[ra.len,Uk];rfl);subst ex Uk;refine EU aa s σ H _ _ v u Q I rx ry ⟨a,b,ws,rfl,rfl,fz.of ha,fz.of hb,cq.plain (x:=.tup ys) h m ?_⟩;unfold RD;exact⟨b,ws,rfl,hb,rb⟩
   refine Ec aa s σ H _ _ v u Q I rx ry ⟨a,b,vs,ws,rfl,rfl,fz.of ha,fz.of hb,Uk,by rw[<- ra.len,<- rb.len];exact hc,λz=>?_,λ_ p hp=>h.tuple m (ra.app rb) hp⟩;have ey:ys=[]:=List.eq_nil_of_length_eq_zero (by rw[rb.len,z];rfl);subst ey;rw[List.append_nil]at h;refine h.plain m ?_;unfold RD;exact⟨a,vs,rfl,ha,ra⟩
  ·exact h.elim
 ·exact Og rfl h
 ·rename_i k _
  cases q1:dr M wx with
  | none=>rw[q1]at h;exact h.elim
  | some xs =>
   rw[q1]at h;dsimp only at h;split at h
   ·rename_i hz
    obtain⟨a,vs,e1,ra,ha⟩:=jr m r1 q1;subst e1;rw[aS r2]at ry;refine IZ aa s σ H _ _ v u Q I rx ry ⟨a,k,vs,rfl,rfl,ha,hz.1,hz.2.1,by rw[<- ra.len];exact hz.2.2,λp hp=>h.list m (aJ.rep ra k.toNat) hp⟩
   ·exact h.elim
 ·exact h.elim
end
section
variable {X:Cx} {aa:List (Addr×Obj)} {σ:L2.St} {H:Hp} {s:Shared} {ads:List Addr} {M:aq}
theorem da (I : Inv X aa σ H s) (n : Nat) (hA : ∀ d v u p, RD X.K ads H d v -> RelV v u -> cW M n d = some p -> ∃ as, Reads s.heap u p as) :
    ∀(ds:List D)(vs:List V)(us:List Value)(ps:List PyData),aJ X.K ads H ds vs->aN vs us->bG M n ds=some ps->∃as,ReadsAll s.heap us ps as
  | [],vs,us,ps,r,rv,e=>by
    unfold aJ at r;subst r;cases rv;unfold bG at e;cases e;exact⟨[],.nil⟩
  | d::ds,vs,us,ps,r,rv,e=>by
    unfold aJ at r;obtain⟨x,r',rfl,h1,h2⟩:=r
    cases rv with
    | cons rx rr =>
      unfold bG at e
      cases q1:cW M n d with
      | none=>rw[q1]at e;cases e
      | some p =>
        cases q2:bG M n ds with
        | none=>rw[q1,q2]at e;cases e
        | some qs =>
          rw[q1,q2]at e;cases e;obtain⟨as,k1⟩:=hA d x _ p h1 rx q1;obtain⟨bs,k2⟩:=da I n hA ds r' _ qs h2 rr q2;exact⟨as++bs,.cons k1 k2⟩
theorem fJ(I:Inv X aa σ H s)(m:aO X.K ads H M):∀(n:Nat)(d:D)(v:V)(u:Value)(p:PyData),RD X.K ads H d v->RelV v u->cW M n d=some p->∃as,Reads s.heap u p as:=by
 intro n
 induction n with
 | zero =>
  intro d v u p r rv e
  cases d with
  | aQ=>unfold RD at r;subst r;cases rv;unfold cW at e;cases e;exact⟨_,.none⟩
  | bl b=>unfold RD at r;subst r;cases rv;unfold cW at e;cases e;exact⟨_,.bool _⟩
  | int b=>unfold RD at r;subst r;obtain⟨t,rfl⟩:=rv;unfold cW at e;cases e;exact⟨_,.int _ _⟩
  | str b=>unfold RD at r;subst r;obtain⟨t,rfl⟩:=rv;unfold cW at e;cases e;exact⟨_,.str _ _⟩
  | tup _=>unfold cW at e;cases e
  | ah _=>unfold cW at e;cases e
  | ls _=>unfold cW at e;cases e
 | succ n ih =>
  intro d v u p r rv e
  cases d with
  | aQ=>unfold RD at r;subst r;cases rv;unfold cW at e;cases e;exact⟨_,.none⟩
  | bl b=>unfold RD at r;subst r;cases rv;unfold cW at e;cases e;exact⟨_,.bool _⟩
  | int b=>unfold RD at r;subst r;obtain⟨t,rfl⟩:=rv;unfold cW at e;cases e;exact⟨_,.int _ _⟩
  | str b=>unfold RD at r;subst r;obtain⟨t,rfl⟩:=rv;unfold cW at e;cases e;exact⟨_,.str _ _⟩
  | tup ds =>
   unfold RD at r;obtain⟨a,xs,rfl,hs,r⟩:=r;cases rv;unfold cW at e
   cases q:bG M n ds with
   | none=>rw[q]at e;cases e
   | some ps =>
    rw[q]at e;cases e;obtain⟨aC,rv,⟨o,h1,h2,k,h3⟩,_⟩:=I.tuple (fz.of (K:=X.K) hs);obtain⟨as,ra⟩:=da I n ih ds xs aC ps r rv q;exact⟨as,.tuple h1 h2 h3 (by simpa using ra)⟩
  | ls ds =>
   unfold RD at r;obtain⟨a,xs,rfl,hs,r⟩:=r;cases rv;unfold cW at e
   cases q:bG M n ds with
   | none=>rw[q]at e;cases e
   | some ps =>
    rw[q]at e;cases e;obtain⟨aC,rv,⟨o,kk,h1,h2,h3,h4⟩,_⟩:=I.list hs.sq;obtain⟨as,ra⟩:=da I n ih ds xs aC ps r rv q;exact⟨a::as,.list h1 h2 h4 (by simpa using ra)⟩
  | ah k =>
   unfold RD at r;obtain⟨a,rfl,ea⟩:=r;cases rv;unfold cW at e
   have lst:∀ds,eG X.K H a ds->∀es,aJ X.K ads H es ds->(bG M n es).map PyData.list=some p->∃as,Reads s.heap (.ref a) p as:=by
    intro xs hs es r e
    cases q:bG M n es with
    | none=>rw[q]at e;cases e
    | some ps =>
     rw[q]at e;cases e;obtain⟨aC,rv,⟨o,kk,h1,h2,h3,h4⟩,_⟩:=I.list hs;obtain⟨as,ra⟩:=da I n ih es xs aC ps r rv q;exact⟨a::as,.list h1 h2 h4 (by simpa using ra)⟩
   cases q:M[k]? with
   | none=>rw[q]at e;cases e
   | some o =>
    rw[q]at e;have ho:=m.obj k o a q ea
    cases o with
    | lst es=>obtain⟨xs,h,r⟩:=ho;exact lst xs (eG.of h) es r e
    | iT es=>obtain⟨o,xs,h,r⟩:=ho;exact lst xs (.inl (.inr ⟨o,h⟩)) es r e
    | dK _=>cases e
    | dT _=>cases e
    | dF _=>cases e
theorem gC(I:Inv X aa σ H s)(m:aO X.K ads H M)(r:RW X.K ads H w v)(rv:RelV v u)(e:iw M w=some p):∃as,Reads s.heap u p as:=by
 cases w with
 | d x=>exact fJ I m 30 x v u p r rv e
 | lv ds =>
  obtain⟨a,xs,rfl,h,n,r⟩:=r;cases rv;have e:(bG M 30 ds).map PyData.list=some p:=e
  cases q:bG M 30 ds with
  | none=>rw[q]at e;cases e
  | some ps =>
   rw[q]at e;cases e;obtain⟨aC,rv,⟨o,kk,h1,h2,h3,h4⟩,_⟩:=I.list (eG.of (K:=X.K) h);obtain⟨as,ra⟩:=da I 30 (fJ I m 30) ds xs aC ps r rv q;exact⟨a::as,.list h1 h2 h4 (by simpa using ra)⟩
end
section
variable {K:PySem.W.Frag} {ads:List Addr} {H:Hp}
theorem bY.find{κ:Type}[DecidableEq κ]{k:κ}:∀{ag:List (κ×D)}{ks:List (κ×V)}{d:D},bY K ads H ag ks->(ag.find? λp=>decide (p.1=k)).map (·.2)=some d->∃v,jG ks k=some v/\RD K ads H d v
 | [],_,_,_,e=>by cases e
 | p::ps,ks,d,r,e=>by
  unfold bY at r;obtain⟨x,r',rfl,h0,h1,h2⟩:=r;by_cases hk:p.1=k
  ·have e':p.2=d:=by simpa[List.find?_cons,hk]using e
   subst e';exact⟨x.2,jH (h0▸hk),h1⟩
  ·obtain⟨v,e1,rv⟩:=bY.find h2 (by simpa[List.find?_cons,hk]using e);exact⟨v,(hZ (h0▸hk)).trans e1,rv⟩
theorem bY.len{κ:Type}:∀{ag:List (κ×D)}{ks:List (κ×V)},bY K ads H ag ks->ag.length=ks.length
 | [],_,r=>by unfold bY at r;subst r;rfl
 | p::ps,ks,r=>by unfold bY at r;obtain⟨x,r',rfl,h0,h1,h2⟩:=r;simp[bY.len h2]
theorem bY.xt{κ:Type}[DecidableEq κ]{k:κ}:∀{ag:List (κ×D)}{ks:List (κ×V)},bY K ads H ag ks->cS ag k=none->jG ks k=none
 | [],_,r,_=>by unfold bY at r;subst r;rfl
 | p::ps,ks,r,e=>by
  unfold bY at r;obtain⟨x,r',rfl,h0,h1,h2⟩:=r;by_cases hk:p.1=k
  ·unfold cS at e;simp[List.find?_cons,hk]at e
  ·exact(hZ (h0▸hk)).trans (bY.xt h2 (by unfold cS at e⊢;simpa[List.find?_cons,hk]using e))
end
section
variable {X:Cx} {aa:List (Addr×Obj)} {σ:L2.St} {H:Hp} {s:Shared} {ads:List Addr} {M:aq}
theorem nF{w:W}{v:V}{ag:List (bA×D)}{K:PySem.W.Frag}(m:aO K ads H M)(r:RW K ads H w v)(e:gY M w=some ag):∃a ks,v=.ref a/\H a=some (.dK ks)/\bY K ads H ag ks:=by
 cases w with
 | lv es=>cases e
 | d x =>
  cases x with
  | ah n =>
   have r:RD K ads H (.ah n) v:=r;unfold RD at r;obtain⟨a,ev,ea⟩:=r;simp only[gY]at e
   cases q:M[n]? with
   | none=>rw[q]at e;cases e
   | some o =>
    rw[q]at e;have ho:=m.obj n o a q ea
    cases o with
    | lst es=>cases e
    | iT es=>cases e
    | dK _=>cases e;obtain⟨ks,h,r⟩:=ho;exact⟨a,ks,ev,h,r⟩
    | dT _=>cases e
    | dF _=>cases e
  | tup _=>cases e
  | ls _=>cases e
  | aQ=>cases e
  | bl _=>cases e
  | int _=>cases e
  | str _=>cases e
theorem Bp{w:W}{v:V}{k:bA}{K:PySem.W.Frag}(r:RW K ads H w v)(e:tL w=some k):v=kV k:=by
 cases w with
 | lv es=>cases e
 | d x =>
  cases x with
  | int i=>cases e;exact aS r
  | str i=>cases e;exact eL r
  | ah _=>cases e
  | tup _=>cases e
  | ls _=>cases e
  | aQ=>cases e
  | bl _=>cases e
theorem xu{K:PySem.W.Frag}{ag:List (bA×D)}{ks:List (bA×V)}{a:Addr}{k:bA}(ha:H a=some (.dK ks))(r:bY K ads H ag ks):∃o,jg H a (kV k) o/\o.isSome=(cS ag k).isSome:=by
 refine⟨_,jg.k (k:=k) ha,?_⟩
 cases q:cS ag k with
 | none=>rw[r.xt q];rfl
 | some d=>obtain⟨v,e,_⟩:=r.find q;rw[e];rfl
theorem xv (I : Inv X aa σ H s) (m : aO X.K ads H M) (hu : X.A.units + 100 < cLine) {kb : List (bA × D)} {Ul : List (bA × V)} {Rb : List (bA × Value)} (rb : bY X.K ads H kb Ul) (vb : KV Ul Rb) :
    ∀{ka:List (bA×D)}{Oh:List (bA×V)}{Mk:List (bA×Value)}{r:Bool},bY X.K ads H ka Oh->KV Oh Mk->vv M kb ka=some r->PySem.W.KeqHits X.A.in1 s Rb Mk r
  | [],Oh,Mk,r,ra,va,e=>by
    unfold bY at ra;subst ra;cases va;cases e;exact .nil
  | (k,d)::ka,Oh,Mk,r,ra,va,e=>by
    unfold bY at ra;obtain⟨x,r',rfl,h0,h1,h2⟩:=ra;obtain⟨x1,x2⟩:=x;have h0:k=x1:=h0;subst h0;have h1:RD X.K ads H d x2:=h1
    cases va with
    | cons hp hr =>
      rename_i q vr
      obtain⟨q1,q2⟩:=q;obtain⟨e1,e2⟩:=hp;have e1:k=q1:=e1;subst e1;have e2:RelV x2 q2:=e2;have hv:=vb.val k;simp only[vv]at e
      cases hg:cS kb k with
      | none =>
        rw[hg]at e;cases e;rw[rb.xt hg]at hv;exact .miss (jb.none_of hv)
      | some y =>
        rw[hg]at e;dsimp only at e;obtain⟨v',Um,Rc⟩:=rb.find hg;rw[Um]at hv;obtain⟨u',eu,ru⟩:=jb.some_of hv
        cases p1:cW M 30 d with
        | none=>rw[p1]at e;cases e
        | some p =>
          cases p2:cW M 30 y with
          | none=>rw[p1,p2]at e;cases e
          | some p' =>
            rw[p1,p2]at e;dsimp only at e;split at e
            · rename_i hs
              cases DG:vv M kb ka with
              | none=>rw[DG]at e;cases e
              | some b =>
                rw[DG]at e;have e:(PyData.eqv p p'&&b)=r:=eU e;subst e;obtain⟨as,YT⟩:=fJ I m 30 d x2 q2 p h1 e2 p1;obtain⟨bs,YU⟩:=fJ I m 30 y v' u' p' Rc ru p2;exact .hit eu (PySem.W.keq_at YT YU hs.1 hs.2 (by show X.A.units+1+64<cLine;omega)) (xv I m hu rb vb h2 hr DG)
            · cases e
end
noncomputable def Jz:Jl->CmpOp
 | .eq=>.Eq | .ne=>.NotEq | .lt=>.Lt | .le=>.LtE | .gt=>.Gt | .ge=>.GtE | .sg=>.Is | .eZ=>.IsNot | .isin=>.In | .d9=>.NotIn
noncomputable def EV(K:PySem.W.Frag)(ads:List Addr)(H:Hp)(Q:VK):cw Bool->Prop
 | .ok b M=>∀H' aB,aE ads aB H H'->aO K aB H' M->Q (.bl b) H'
 | _=>False
def EW(K:PySem.W.Frag)(op:Jl):R2:=λx y H Q=>∃ads M wx wy,aO K ads H M/\RW K ads H wx x/\RW K ads H wy y/\((op=.sg\/op=.eZ)->y=.aQ)/\EV K ads H Q (aY op wx wy M)
theorem EV.now{K:PySem.W.Frag}{ads:List Addr}{H:Hp}{Q:VK}{b:Bool}{M:aq}(h:EV K ads H Q (.ok b M))(m:aO K ads H M):Q (.bl b) H:=h H ads (aE.refl _ _) m
section
variable {X:Cx}
open Classical in
noncomputable def tQ(h:Heap)(p:PyData)(y:Value):Bool:=decide (∃q' Wa,Reads h y q' Wa/\PyData.eqv q' p=true)
open Classical in
theorem tR(ry:Reads h y q cs):tQ h p y=PyData.eqv q p:=by
 unfold tQ
 cases hb:PyData.eqv q p with
 | true=>exact decide_eq_true ⟨q,cs,ry,hb⟩
 | false =>
  refine decide_eq_false ?_;rintro⟨q',Wa,YV,Oi⟩;obtain⟨e,_⟩:=PyProof.Rows.reads_det (λ_ _ e _=>e) ry YV;rw[<- e,Oi]at hb;cases hb
theorem Bq {s : Shared} {A : Around} {x : Value} {p : PyData} {as : List Addr} (rx : Reads s.heap x p as) (hx : SeqAt.shaped p = true) (hu : A.units + 65 < cLine) :
    ∀{us:List Value}{qs:List PyData}{bs:List Addr},ReadsAll s.heap us qs bs->qs.all SeqAt.shaped=true->(∀y∈us,SeqAt.EqAt A.in1 s y x (tQ s.heap p y))/\us.any (tQ s.heap p)=kK p qs
  | _,_,_,.nil,_=>⟨(λy hy=>by cases hy),rfl⟩
  | _,_,_,.cons (v:=v) (d:=q) ry rr,hq=>by
    rw[List.all_cons,cu]at hq;have Oi:=hq;obtain⟨k1,k2⟩:=Bq rx hx hu rr Oi.2;have e0:=SeqAt.eqAt_reads q p A.in1 s v x _ _ ry rx (SeqAt.canLay_of_shaped Oi.1) (SeqAt.canLay_of_shaped hx) (SeqAt.room_of_shaped Oi.1 (by show A.units+1+64<cLine;omega));rw[<- tR ry]at e0;refine⟨λy hy=>?_,?_⟩
    · rcases List.mem_cons.mp hy with z | z
      · subst z;exact e0
      · exact k1 y z
    · rw[List.any_cons,k2,tR ry];rfl
theorem lY {s : Shared} {A : Around} {x : Value} {p : PyData} {as : List Addr} (rx : Reads s.heap x p as) (hx : SeqAt.shaped p = true) (hu : A.units + 65 < cLine)
    {us:List Value} {qs:List PyData} {bs:List Addr} (r:ReadsAll s.heap us qs bs) (hq:qs.all SeqAt.shaped=true):∃e:Value->Bool,(∀y∈us,SeqAt.EqAt A.in1 s y x (e y))/\us.any e=kK p qs :=
  ⟨tQ s.heap p,Bq rx hx hu r hq⟩
theorem zi:iL X (compareOp .LtE) (λx y H Q=>∃i j,x=.str i/\y=.str j/\Q (.bl (!decide (j.cps.toList<i.cps.toList))) H):=by
 intro aa s σ H x y v u Q I rx ry h;obtain⟨i,j,rfl,rfl,q⟩:=h;obtain⟨t,rfl⟩:=rx;obtain⟨t',rfl⟩:=ry;exact PySem.P.le_str ⟨.bl _,H,I,rfl,q⟩
theorem kS(hu:X.A.units+100<cLine)(op:Jl):iL X (compareOp (Jz op)) (EW X.K op):=by
 intro aa s σ H x y v u Q I rx ry h;obtain⟨ads,M,wx,wy,m,r1,r2,hn,h⟩:=h;unfold aY at h
 cases op with
 | eq =>
  dsimp only at h
  have Hd:EV X.K ads H Q (match gY M wx,gY M wy with
   | some ka,some kb=>match vv M kb ka with
    | some r=>.ok (ka.length==kb.length&&r) M
    | none=>.af
   | _,_=>.af)->wpAny (model X.prog X.w) X.A (compareOp .Eq v u) (EP X aa σ Q) X.xe s:=by
   intro h
   cases q1:gY M wx with
   | none=>rw[q1]at h;exact h.elim
   | some ka =>
    cases q2:gY M wy with
    | none=>rw[q1,q2]at h;exact h.elim
    | some kb =>
     rw[q1,q2]at h;dsimp only at h
     cases q3:vv M kb ka with
     | none=>rw[q3]at h;exact h.elim
     | some r =>
      rw[q3]at h;dsimp only at h;obtain⟨a,Oh,rfl,ha,ra⟩:=nF m r1 q1;obtain⟨b,Ul,rfl,hb,rb⟩:=nF m r2 q2;cases rx;cases ry;obtain⟨za,zj,Mk,va,YW⟩:=sN I.bF ha;obtain⟨zb,II,Rb,vb,YX⟩:=sN I.bF hb;refine PySem.W.keq_eq zj II YW YX (∅) (λ_=>xv I m hu rb vb ra va q3) ⟨.bl _,H,I,rfl,?_⟩;have e1:Mk.length=ka.length:=by rw[<- va.length,ra.len]
      have e2:Rb.length=kb.length:=by rw[<- vb.length,rb.len]
      rw[e1,e2];exact h.now m
  cases q1:iw M wx with
  | none=>rw[q1]at h;exact Hd h
  | some p =>
   cases q2:iw M wy with
   | none=>rw[q1,q2]at h;exact Hd h
   | some q =>
    rw[q1,q2]at h;dsimp only at h;split at h
    ·rename_i hs
     obtain⟨as,ra⟩:=gC I m r1 rx q1;obtain⟨bs,rb⟩:=gC I m r2 ry q2;exact SeqAt.compareEq_shaped ra rb hs.1 hs.2 (∅) ⟨.bl _,H,I,rfl,h.now m⟩
    ·exact h.elim
 | ne =>
  dsimp only at h
  cases q1:iw M wx with
  | none=>rw[q1]at h;exact h.elim
  | some p =>
   cases q2:iw M wy with
   | none=>rw[q1,q2]at h;exact h.elim
   | some q =>
    rw[q1,q2]at h;dsimp only at h;split at h
    ·rename_i hs
     obtain⟨as,ra⟩:=gC I m r1 rx q1;obtain⟨bs,rb⟩:=gC I m r2 ry q2;exact SeqAt.compareNe_shaped ra rb hs.1 hs.2 (∅) ⟨.bl _,H,I,rfl,h.now m⟩
    ·exact h.elim
 | lt =>
  dsimp only at h;split at h
  ·rw[aS r1]at rx;rw[aS r2]at ry;exact Nt aa s σ H _ _ v u Q I rx ry ⟨_,_,rfl,rfl,h.now m⟩
  ·rw[eL r1]at rx;rw[eL r2]at ry;exact yR aa s σ H _ _ v u Q I rx ry ⟨_,_,rfl,rfl,h.now m⟩
  ·exact h.elim
 | le =>
  dsimp only at h;split at h
  ·rw[aS r1]at rx;rw[aS r2]at ry;exact Nu aa s σ H _ _ v u Q I rx ry ⟨_,_,rfl,rfl,h.now m⟩
  ·rw[eL r1]at rx;rw[eL r2]at ry;exact zi aa s σ H _ _ v u Q I rx ry ⟨_,_,rfl,rfl,h.now m⟩
  ·exact h.elim
 | gt =>
  dsimp only at h;split at h
  ·rw[aS r1]at rx;rw[aS r2]at ry;exact Nv aa s σ H _ _ v u Q I rx ry ⟨_,_,rfl,rfl,h.now m⟩
  ·exact h.elim
 | ge =>
  dsimp only at h;split at h
  ·rw[aS r1]at rx;rw[aS r2]at ry;exact Nw aa s σ H _ _ v u Q I rx ry ⟨_,_,rfl,rfl,h.now m⟩
  ·exact h.elim
 | sg =>
  have e:=hn (.inl rfl)
  have hx:∀b,aY .sg wx wy M=.ok b M->b=decide (x=.aQ):=by
   intro b e;unfold aY at e;dsimp only at e;split at e
   ·cases e;rw[nz r1];rfl
   ·rename_i lA
    cases e;refine(decide_eq_false ?_).symm;intro z;subst z
    cases wx with
    | lv ds=>obtain⟨a,xs,e,_⟩:=r1;cases e
    | d z=>cases z with
     | aQ=>exact lA rfl
     | bl b=>have:=iW r1;cases this
     | int b=>have:=aS r1;cases this
     | str b=>have:=eL r1;cases this
     | tup b=>have r1:RD X.K ads H (.tup b) .aQ:=r1;unfold RD at r1;obtain⟨a,xs,e,_⟩:=r1;cases e
     | ah b=>have r1:RD X.K ads H (.ah b) .aQ:=r1;unfold RD at r1;obtain⟨a,e,_⟩:=r1;cases e
     | ls b=>have r1:RD X.K ads H (.ls b) .aQ:=r1;unfold RD at r1;obtain⟨a,xs,e,_⟩:=r1;cases e
  subst e;have:∃b,aY .sg wx wy M=.ok b M:=by unfold aY;dsimp only;split<;>exact⟨_,rfl⟩
  obtain⟨b,hb⟩:=this;have h:EV X.K ads H Q (aY .sg wx wy M):=h;rw[hb]at h;refine IC aa s σ H _ _ v u Q I rx ry ⟨rfl,?_⟩;rw[<- hx b hb];exact h.now m
 | eZ =>
  have e:=hn (.inr rfl)
  have hx:∀b,aY .eZ wx wy M=.ok b M->b=!decide (x=.aQ):=by
   intro b e;unfold aY at e;dsimp only at e;split at e
   ·cases e;rw[nz r1];rfl
   ·rename_i lA
    cases e
    have:decide (x=.aQ)=false:=by
     refine decide_eq_false ?_;intro z;subst z
     cases wx with
     | lv ds=>obtain⟨a,xs,e,_⟩:=r1;cases e
     | d z=>cases z with
      | aQ=>exact lA rfl
      | bl b=>have:=iW r1;cases this
      | int b=>have:=aS r1;cases this
      | str b=>have:=eL r1;cases this
      | tup b=>have r1:RD X.K ads H (.tup b) .aQ:=r1;unfold RD at r1;obtain⟨a,xs,e,_⟩:=r1;cases e
      | ah b=>have r1:RD X.K ads H (.ah b) .aQ:=r1;unfold RD at r1;obtain⟨a,e,_⟩:=r1;cases e
      | ls b=>have r1:RD X.K ads H (.ls b) .aQ:=r1;unfold RD at r1;obtain⟨a,xs,e,_⟩:=r1;cases e
    rw[this];rfl
  subst e;have:∃b,aY .eZ wx wy M=.ok b M:=by unfold aY;dsimp only;split<;>exact⟨_,rfl⟩
  obtain⟨b,hb⟩:=this;have h:EV X.K ads H Q (aY .eZ wx wy M):=h;rw[hb]at h;refine D1 aa s σ H _ _ v u Q I rx ry ⟨rfl,?_⟩;rw[<- hx b hb];exact h.now m
 | isin =>
  dsimp only at h
  cases q2:bx M wy with
  | none =>
   rw[q2]at h
   have h:EV X.K ads H Q (match tL wx,gY M wy with
    | some k,some ag=>.ok ((cS ag k).isSome) M
    | _,_=>.af):=by cases hp:iw M wx<;>rw[hp]at h<;>exact h
   cases q3:tL wx with
   | none=>rw[q3]at h;exact h.elim
   | some k =>
    cases q4:gY M wy with
    | none=>rw[q3,q4]at h;exact h.elim
    | some ag =>
     rw[q3,q4]at h;have ek:=Bp r1 q3;subst ek;obtain⟨a,ks,rfl,ha,ra⟩:=nF m r2 q4;cases ry;obtain⟨o,g,eo⟩:=xu (k:=k) ha ra;refine NH (∅) I g rx λs' I'=>⟨.bl _,H,I',rfl,?_⟩;rw[eo];exact h.now m
  | some Uo =>
   cases q1:iw M wx with
   | none=>rw[q1,q2]at h;exact h.elim
   | some p =>
    obtain⟨l,ds⟩:=Uo;rw[q1,q2]at h;dsimp only at h
    cases q3:bG M 30 ds with
    | none=>rw[q3]at h;exact h.elim
    | some qs =>
     rw[q3]at h;dsimp only at h;split at h
     ·rename_i hs
      obtain⟨as,ra⟩:=gC I m r1 rx q1;obtain⟨a,xs,ea,rd,sq⟩:=eK m r2 q2;subst ea;cases ry;rcases sq with⟨_,sq⟩|⟨_,sq⟩
      ·obtain⟨aC,rv,pl,_⟩:=I.list sq;obtain⟨bs,rb⟩:=da I 30 (fJ I m 30) ds xs aC qs rd rv q3;obtain⟨e,he,vE⟩:=lY (A:=X.A) ra hs.1 (∅) rb hs.2;refine SeqAt.in_listAt e pl.isList (λy hy=>he y (by simpa using hy)) ⟨.bl _,H,I,rfl,?_⟩;have:aC.toArray.any e=kK p qs:=by rw[<- vE];simp
       rw[this];exact h.now m
      ·obtain⟨aC,rv,pl,_⟩:=I.tuple sq;obtain⟨bs,rb⟩:=da I 30 (fJ I m 30) ds xs aC qs rd rv q3;obtain⟨e,he,vE⟩:=lY (A:=X.A) ra hs.1 (∅) rb hs.2;refine SeqAt.in_tupleAt e (show s.heap.IsTuple a aC.toArray from pl) (λy hy=>he y (by simpa using hy)) ⟨.bl _,H,I,rfl,?_⟩;have:aC.toArray.any e=kK p qs:=by rw[<- vE];simp
       rw[this];exact h.now m
     ·exact h.elim
 | d9 =>
  dsimp only at h
  cases q2:bx M wy with
  | none =>
   rw[q2]at h
   have h:EV X.K ads H Q (match tL wx,gY M wy with
    | some k,some ag=>.ok (!(cS ag k).isSome) M
    | _,_=>.af):=by cases hp:iw M wx<;>rw[hp]at h<;>exact h
   cases q3:tL wx with
   | none=>rw[q3]at h;exact h.elim
   | some k =>
    cases q4:gY M wy with
    | none=>rw[q3,q4]at h;exact h.elim
    | some ag =>
     rw[q3,q4]at h;have ek:=Bp r1 q3;subst ek;obtain⟨a,ks,rfl,ha,ra⟩:=nF m r2 q4;cases ry;obtain⟨o,g,eo⟩:=xu (k:=k) ha ra;refine w8 (∅) I g rx λs' I'=>⟨.bl _,H,I',rfl,?_⟩;rw[eo];exact h.now m
  | some Uo =>
   cases q1:iw M wx with
   | none=>rw[q1,q2]at h;exact h.elim
   | some p =>
    obtain⟨l,ds⟩:=Uo;rw[q1,q2]at h;dsimp only at h
    cases q3:bG M 30 ds with
    | none=>rw[q3]at h;exact h.elim
    | some qs =>
     rw[q3]at h;dsimp only at h;split at h
     ·rename_i hs
      obtain⟨as,ra⟩:=gC I m r1 rx q1;obtain⟨a,xs,ea,rd,sq⟩:=eK m r2 q2;subst ea;cases ry;rcases sq with⟨_,sq⟩|⟨_,sq⟩
      ·obtain⟨aC,rv,pl,_⟩:=I.list sq;obtain⟨bs,rb⟩:=da I 30 (fJ I m 30) ds xs aC qs rd rv q3;obtain⟨e,he,vE⟩:=lY (A:=X.A) ra hs.1 (∅) rb hs.2;refine SeqAt.notIn_listAt e pl.isList (λy hy=>he y (by simpa using hy)) ⟨.bl _,H,I,rfl,?_⟩;have:aC.toArray.any e=kK p qs:=by rw[<- vE];simp
       rw[this];exact h.now m
      ·obtain⟨aC,rv,pl,_⟩:=I.tuple sq;obtain⟨bs,rb⟩:=da I 30 (fJ I m 30) ds xs aC qs rd rv q3;obtain⟨e,he,vE⟩:=lY (A:=X.A) ra hs.1 (∅) rb hs.2;refine SeqAt.notIn_tupleAt e (show s.heap.IsTuple a aC.toArray from pl) (λy hy=>he y (by simpa using hy)) ⟨.bl _,H,I,rfl,?_⟩;have:aC.toArray.any e=kK p qs:=by rw[<- vE];simp
       rw[this];exact h.now m
     ·exact h.elim
end
section
variable {K:PySem.W.Frag} {ads:List Addr} {H:Hp} {M:aq}
theorem Oj(m:aO K ads H M)(r:RW K ads H w v)(e:oP M w=some k):Aq K v H k:=by
 have seq:∀w,RW K ads H w v->((bx M w).map λp=>!p.2.isEmpty)=some k->Aq K v H k:=by
  intro w r e
  cases q:bx M w with
  | none=>rw[q]at e;cases e
  | some p =>
   obtain⟨l,ds⟩:=p;rw[q]at e;have e:(!ds.isEmpty)=k:=eU e;obtain⟨a,xs,rfl,rd,sq⟩:=eK m r q;have hl:=rd.len
   have ex:k=!xs.isEmpty:=by
    rw[<- e];cases ds<;>cases xs<;>simp_all
   rcases sq with⟨_,sq⟩|⟨_,sq⟩
   ·exact .inl ⟨xs,sq,ex⟩
   ·exact .inr (.inl ⟨xs,sq,ex⟩)
 cases w with
 | lv ds=>exact seq _ r e
 | d x =>
  cases x with
  | aQ=>rw[nz r];exact(eU e).symm
  | bl b=>rw[iW r];exact(eU e).symm
  | int i=>rw[aS r];exact(eU e).symm
  | str s=>exact seq _ r e
  | tup ds=>exact seq _ r e
  | ah n=>exact seq _ r e
  | ls n=>exact seq _ r e
theorem aJ.xb(r:aJ K ads H ds xs)(e:L2.xb ds i=some d):∃v,L2.xb xs i=some v/\RD K ads H d v:=by
 unfold L2.xb at e⊢;rw[<- r.len]
 cases q:AI ds.length i with
 | none=>rw[q]at e;cases e
 | some j=>rw[q]at e;exact r.get e
theorem aJ.cut{ds:List D}{xs:List V}{lo hi:Option Int}(r:aJ K ads H ds xs):aJ K ads H (cutD ds lo hi) (sQ xs lo hi):=by
 unfold cutD sQ;rw[<- r.len];exact(r.drop _).take _
theorem bY.any{κ:Type}[DecidableEq κ]{k:κ}:∀{ag:List (κ×D)}{ks:List (κ×V)},bY K ads H ag ks->(ag.any λkv=>decide (kv.1=k))=(ks.any λkv=>decide (kv.1=k))
 | [],_,r=>by unfold bY at r;subst r;rfl
 | p::ps,ks,r=>by unfold bY at r;obtain⟨x,r',rfl,h0,h1,h2⟩:=r;simp[bY.any h2,h0]
theorem bY.map {κ : Type} [DecidableEq κ] {k : κ} {d : D} {v : V} (rd : RD K ads H d v) : ∀ {ag : List (κ × D)} {ks : List (κ × V)}, bY K ads H ag ks ->
    bY K ads H (ag.map λkv=>if kv.1=k then (kv.1,d) else kv) (ks.map λkv=>if kv.1=k then (kv.1,v) else kv)
  | [],_,r=>by unfold bY at r;subst r;simp;unfold bY;rfl
  | p::ps,ks,r=>by
    unfold bY at r;obtain⟨x,r',rfl,h0,h1,h2⟩:=r;simp only[List.map_cons];unfold bY;refine⟨_,_,rfl,?_,?_,bY.map rd h2⟩
    · rw[h0];split<;>first | rfl | exact h0
    · rw[h0];split<;>first | exact rd | exact h1
theorem bY.app{κ:Type}:∀{ag es:List (κ×D)}{ks fs:List (κ×V)},bY K ads H ag ks->bY K ads H es fs->bY K ads H (ag++es) (ks++fs)
 | [],_,_,_,r,q=>by unfold bY at r;subst r;exact q
 | p::ps,es,ks,fs,r,q=>by
  unfold bY at r;obtain⟨x,r',rfl,h0,h1,h2⟩:=r;show bY K ads H (p::(ps++es)) (x::(r'++fs));unfold bY;exact⟨x,_,rfl,h0,h1,bY.app h2 q⟩
theorem bY.put{κ:Type}[DecidableEq κ]{k:κ}{d:D}{v:V}{ag:List (κ×D)}{ks:List (κ×V)}(r:bY K ads H ag ks)(rd:RD K ads H d v):bY K ads H (cD ag k d) (dX ks k v):=by
 unfold cD dX;rw[r.any (k:=k)];split
 ·exact bY.map rd r
 ·refine r.app ?_;unfold bY;exact⟨_,[],rfl,rfl,rd,by unfold bY;rfl⟩
end
section
variable {X:Cx} {M':aq}
def Nz(K:PySem.W.Frag):R2:=λx y H Q=>∃ads M wx wy,aO K ads H M/\RW K ads H wx x/\RW K ads H wy y/\cq K ads H Q (cU wx wy M)
theorem JA(hu:X.A.units+1<cLine):Mc X (Nz X.K):=by
 intro value iQ aa s σ H x y v u Q I rx ry h hs;obtain⟨ads,M,wx,wy,m,r1,r2,h⟩:=h;unfold cU at h;split at h
 ·rename_i i
  have ey:=aS r2;subst ey
  cases q:bx M wx with
  | some p =>
   obtain⟨l,ds⟩:=p;rw[q]at h;dsimp only at h
   cases q2:Ra ds i with
   | none=>rw[q2]at h;exact h.elim
   | some d =>
    rw[q2]at h;obtain⟨a,xs,rfl,rd,sq⟩:=eK m r1 q;obtain⟨z,e2,rz⟩:=rd.xb q2;rcases sq with⟨_,sq⟩|⟨_,sq⟩
    ·exact Ed value iQ aa s σ H _ _ v u Q I rx ry ⟨a,xs,i,z,rfl,rfl,sq,e2,h.plain m rz⟩ hs
    ·exact IT value iQ aa s σ H _ _ v u Q I rx ry ⟨a,xs,i,z,rfl,rfl,sq,e2,h.plain m rz⟩ hs
  | none =>
   rw[q]at h;dsimp only at h;split at h
   ·split at h
    ·rename_i z hz
     have ex:=eL r1;subst ex
     cases q2:L2.xb z.cps.toList i with
     | none=>rw[q2]at h;exact h.elim
     | some c =>
      rw[q2]at h;exact IU value iQ aa s σ H _ _ v u Q I rx ry ⟨_,i,c,rfl,rfl,hz,q2,h.plain m (vD _)⟩ hs
    ·exact h.elim
   ·rename_i n
    have r1:RD X.K ads H (.ah n) x:=r1;unfold RD at r1;obtain⟨a,rfl,ea⟩:=r1;split at h
    ·rename_i ag q
     obtain⟨ks,hk,rk⟩:=m.obj n _ a q ea;split at h
     ·rename_i d q2
      obtain⟨z,e2,rz⟩:=rk.find (k:=Sum.inl i) q2;cases rx;have g:jg H a (kV (Sum.inl i)) (some z):=by have:=jg.k (k:=Sum.inl i) hk;rw[e2]at this;exact this
      exact tail_any (ia I g) F.slot_dict_getitem.lookup (kE hu I g ry λw' s' I' vf=>⟨z,H,I',vf,h.plain m rz⟩) hs
     ·exact h.elim
    ·exact h.elim
   ·exact h.elim
 ·rename_i k
  have ey:=eL r2;subst ey;split at h
  ·rename_i n
   have r1:RD X.K ads H (.ah n) x:=r1;unfold RD at r1;obtain⟨a,rfl,ea⟩:=r1;split at h
   ·rename_i ag q
    obtain⟨ks,hk,rk⟩:=m.obj n _ a q ea;split at h
    ·rename_i d q2
     obtain⟨z,e2,rz⟩:=rk.find (k:=Sum.inr k) q2;cases rx;have g:jg H a (kV (Sum.inr k)) (some z):=by have:=jg.k (k:=Sum.inr k) hk;rw[e2]at this;exact this
     exact tail_any (ia I g) F.slot_dict_getitem.lookup (kE hu I g ry λw' s' I' vf=>⟨z,H,I',vf,h.plain m rz⟩) hs
    ·exact h.elim
   ·exact h.elim
  ·exact h.elim
 ·exact h.elim
def Up(K:PySem.W.Frag):V->Option Int->Option Int->Hp->VK->Prop:=λx lo hi H Q=>∃ads M wx,aO K ads H M/\RW K ads H wx x/\cq K ads H Q (kL wx lo hi M)
theorem JB:QT X (Up X.K):=by
 intro aa s σ H x v vl vu lo hi sl Q I rx hs pl pu h;obtain⟨ads,M,wx,m,r1,h⟩:=h;unfold kL at h;split at h
 ·rename_i ds q
  obtain⟨a,xs,rfl,rd,sq⟩:=eK m r1 q;rcases sq with⟨_,sq⟩|⟨e,_⟩
  ·exact Ee aa s σ H _ v vl vu lo hi sl Q I rx hs pl pu ⟨a,xs,rfl,sq,λp hp=>h.list m rd.cut hp⟩
  ·cases e
 ·rename_i ds q
  obtain⟨a,xs,rfl,rd,sq⟩:=eK m r1 q;rcases sq with⟨e,_⟩|⟨_,sq⟩
  ·cases e
  ·split at h
   ·exact h.elim
   ·rename_i hw
    refine IS aa s σ H _ v vl vu lo hi sl Q I rx hs pl pu ⟨a,xs,rfl,sq,by rw[<- rd.len];exact hw,λp hp=>h.tuple m rd.cut hp⟩
 ·exact h.elim
theorem cq.JC{K:PySem.W.Frag}{ads:List Addr}{H:Hp}{Q:VK}{M:aq}{ag:List (bA×D)}{ks:List (bA×V)}{p:Addr}(q:cq K ads H Q (.ok (.d (.ah M.length)) (M++[.dK ag])))(m:aO K ads H M)(hp:H p=none)(r:bY K ads H ag ks):Q (.ref p) (upd H p (.dK ks)):=by
 have pn:=m.fresh hp;have g0:aE ads ads H (upd H p (.dK ks)):=aE.fZ m hp;have m1:aO K ads (upd H p (.dK ks)) M:=m.fZ hp;have m2:=m1.push (o:=.dK ag) pn ⟨_,bj,g0.zf _ _ r⟩;refine q (.ref p) _ (ads++[p]) ⟨⟨[p],rfl⟩,λb hb nb=>?_,g0.kept,g0.gx,g0.ef⟩ m2 ?_
 ·rcases fk.mp hb with z | z
  ·exact absurd z nb
  ·have:b=p:=by simpa using z
   subst this;exact hp
 ·show RD K (ads++[p]) (upd H p (.dK ks)) (.ah M.length) (.ref p);unfold RD;exact⟨p,rfl,by rw[List.getElem?_append_right (by rw[m.len];exact bJ _)];simp[m.len]⟩
def EX(K:PySem.W.Frag)(ads:List Addr)(H:Hp):List W->List V->Prop
 | [],vs=>vs=[]
 | w::ws,vs=>∃v r,vs=v::r/\RW K ads H w v/\EX K ads H ws r
def Br(K:PySem.W.Frag)(b:Bi):List V->Hp->VK->Prop:=λvs H Q=>∃ads M ws,aO K ads H M/\EX K ads H ws vs/\cq K ads H Q (jl b ws M)
theorem EX.one{K:PySem.W.Frag}{ads:List Addr}{H:Hp}{w:W}{vs:List V}(r:EX K ads H [w] vs):∃v,vs=[v]/\RW K ads H w v:=by
 obtain⟨v,r,rfl,h,h2⟩:=r;have h2:r=[]:=h2;subst h2;exact⟨v,rfl,h⟩
theorem EX.two{K:PySem.W.Frag}{ads:List Addr}{H:Hp}{w w2:W}{vs:List V}(r:EX K ads H [w,w2] vs):∃v v2,vs=[v,v2]/\RW K ads H w v/\RW K ads H w2 v2:=by
 obtain⟨v,r,rfl,h,h2⟩:=r;obtain⟨v2,rfl,h3⟩:=EX.one h2;exact⟨v,v2,rfl,h,h3⟩
theorem ju(ps:List (bA×Value)):∀n,n<=ps.length->lC (λi=>ps.getD i (Sum.inl 0,.none)) n=(ps.take n).foldl (λacc p=>stored acc p.1 p.2) []
 | 0,_=>by simp[lC]
 | n+1,h=>by
  have hn:n<ps.length:=h;rw[List.take_add_one,dM hn,Option.toList_some,List.foldl_append,<- ju ps n (Nat.le_of_lt hn)];show stored _ _ _=stored _ _ _
  try simp only[sk,dM hn,Option.getD_some]
theorem xx:∀{qs:List (bA×V)}{ps:List (bA×Value)}{a:List (bA×V)}{b:List (bA×Value)},KV qs ps->KV a b->KV (qs.foldl (λacc p=>dX acc p.1 p.2) a) (ps.foldl (λacc p=>stored acc p.1 p.2) b)
 | [],_,a,b,r,k=>by cases r;exact k
 | q::qs,_,a,b,r,k=>by
  cases r with
  | cons h r =>
   rename_i p ps
   obtain⟨h1,h2⟩:=h;have k2:KV (dX a q.1 q.2) (stored b p.1 p.2):=by rw[<- h1];exact k.put q.1 h2
   exact xx (qs:=qs) (ps:=ps) r k2
theorem JD(r:RelV (.int i) u):∃t,u=.int i t:=r
theorem JE{x:Str}(r:RelV (.str x) u):∃t,u=.str x t:=r
theorem Bs {H0 : Hp} {h : Heap} (ok : jc X.prog X.w H0 h) {K : PySem.W.Frag} {ads : List Addr} : ∀ {ds : List D} {acc ag : List (bA × D)} {va : List (bA × V)} {ys : List V} {aC : List Value}, zg acc ds = some ag -> bY K ads H0 acc va -> aJ K ads H0 ds ys -> aN ys aC ->
    ∃(ps:List (bA×Value)) (qs:List (bA×V)),ps.length=aC.length/\KV qs ps/\bY K ads H0 ag (qs.foldl (λacc p=>dX acc p.1 p.2) va)/\∀i v,aC[i]?=some v->∃a uk,v=.ref a/\g8 (ps.getD i (Sum.inl 0,.none)).1 uk=true/\IsTup h a #[uk,(ps.getD i (Sum.inl 0,.none)).2]
  | [],acc,ag,va,ys,aC,e,ra,rd,rv=>by
    cases e;unfold aJ at rd;subst rd;cases rv;exact⟨[],[],rfl,.nil,ra,λi v h=>by simp at h⟩
  | d::ds,acc,ag,va,ys,aC,e,ra,rd,rv=>by
    unfold aJ at rd;obtain⟨y,yr,rfl,r1,r2⟩:=rd
    cases rv with
    | cons hv rv =>
      rename_i u us
      unfold zg at e
      cases hp:pairD d with
      | none=>rw[hp]at e;cases e
      | some kx =>
        obtain⟨k,x⟩:=kx;rw[hp]at e
        have main:∀kd:D,d=.tup [kd,x]->(∀z uz,RD K ads H0 kd z->RelV z uz->g8 k uz=true)->∃(ps:List (bA×Value)) (qs:List (bA×V)),ps.length=(u::us).length/\KV qs ps/\bY K ads H0 ag (qs.foldl (λacc p=>dX acc p.1 p.2) va)/\∀i v,(u::us)[i]?=some v->∃a uk,v=.ref a/\g8 (ps.getD i (Sum.inl 0,.none)).1 uk=true/\IsTup h a #[uk,(ps.getD i (Sum.inl 0,.none)).2]:=by
          intro kd ed hk;subst ed;unfold RD at r1;obtain⟨a,xs,rfl,ha,rx⟩:=r1;unfold aJ at rx;obtain⟨z,zr,rfl,rz,rx⟩:=rx;unfold aJ at rx;obtain⟨z2,zr2,rfl,YY,rx⟩:=rx;unfold aJ at rx;subst rx;obtain⟨_,YZ,tv,tt⟩:=ok a _ ha
          cases tv with
          | cons t1 tv =>
            cases tv with
            | cons t2 tv =>
              cases tv
              rename_i uk uv
              obtain⟨ps,qs,l,kk,rr,hh⟩:=Bs ok e (ra.put (k:=k) YY) r2 rv;refine⟨(k,uv)::ps,(k,z2)::qs,by simp[l],.cons ⟨rfl,t2⟩ kk,rr,λi v hi=>?_⟩
              cases i with
              | zero =>
                have hi:u=v:=by simpa using hi
                subst hi;have hu:u=.ref a:=hv;exact⟨a,uk,hu,hk z uk rz t1,tt⟩
              | succ i =>
                obtain⟨a',Y0,q1,q2,q3⟩:=hh i v (by simpa using hi);exact⟨a',Y0,q1,by simpa using q2,by simpa using q3⟩
        unfold pairD at hp;split at hp
        · rename_i i dd
          cases hp;refine main _ rfl λz uz rz hz=>?_;unfold RD at rz;subst rz;obtain⟨t,rfl⟩:=JD hz;exact oX i t
        · rename_i i dd
          cases hp;refine main _ rfl λz uz rz hz=>?_;unfold RD at rz;subst rz;obtain⟨t,rfl⟩:=JE hz;exact oY i t
        · cases hp
theorem EY(hc:X.calm=true):dN X (.type "dict") (Br X.K .pA):=by
 intro aa s σ H xs us Q I r h;obtain⟨ads,M,ws,m,rw,h⟩:=h;rcases ws with _|⟨w,_|⟨w2,ws⟩⟩
 ·exact h.elim
 ·obtain⟨v,rfl,rv⟩:=rw.one;unfold jl at h;dsimp only at h;split at h
  ·rename_i ag q
   obtain⟨a,ks,rfl,ha,ra⟩:=nF m rv q;obtain⟨u,rfl,ru⟩:=vals1 r;cases ru;obtain⟨z,hd,vs,va,dd⟩:=sN I.bF ha;refine kt_call_dict hd dd (by rw[<- va.length];exact z) λh' MT hs=>?_
   have kp:∀b o',s.heap.get? b=some o'->h'.get? b=some o':=λb o' e=>by
    have hb:b≠s.heap.objs.size:=λz=>by subst z;exact absurd (Heap.lt_size e) (Nat.lt_irrefl _)
    rw[hs.2 b hb];exact ee _ e
   refine⟨.ref s.heap.objs.size,_,I.laid (t':=s.toks) (o:=.dK ks) kp (bJ _) ?_,rfl,h.JC m (I.bF.fresh (bJ _)) ra⟩;exact⟨z,beq_eq_false_iff_ne.mpr (Ne.symm (Nat.ne_of_lt I.big)),vs,va,MT⟩
  ·split at h
   ·rename_i ds q
    split at h
    ·rename_i ag qp
     obtain⟨a,ys,rfl,rd,sq⟩:=eK m rv q;rcases sq with⟨_,sq⟩|⟨e,_⟩
     ·obtain⟨u,rfl,ru⟩:=vals1 r;cases ru;obtain⟨aC,vy,pl,hz⟩:=I.list sq;obtain⟨ps,qs,l,kk,rr,hh⟩:=Bs I.bF qp (va:=[]) (show bY X.K ads H [] [] by unfold bY;rfl) rd vy;refine EC (I.ok.hd hc) pl (by rw[<- vy.length];exact hz) (λi=>ps.getD i (Sum.inl 0,.none)) hh λh' tk kp hd=>?_;rw[<- l,ju ps _ (bJ _),List.take_length]at hd;refine⟨.ref s.heap.objs.size,_,I.laid (t':=tk) (o:=.dK (qs.foldl (λacc p=>dX acc p.1 p.2) [])) kp (bJ _) ?_,rfl,h.JC m (I.bF.fresh (bJ _)) rr⟩;have kf:=xx kk (a:=[]) (b:=[]) .nil;refine⟨?_,beq_eq_false_iff_ne.mpr (Ne.symm (Nat.ne_of_lt I.big)),_,kf,hd⟩;have l1:=Paired.length kf;have l2:=kI (λi=>ps.getD i (Sum.inl 0,.none)) ps.length;rw[ju ps _ (bJ _),List.take_length]at l2;rw[l1];exact Nat.le_trans l2 (by rw[l,<- vy.length];exact hz)
     ·cases e
    ·exact h.elim
   ·exact h.elim
 ·exact h.elim
theorem JF:dN X (.builtin "len") (Br X.K .len):=by
 intro aa s σ H xs us Q I r h;obtain⟨ads,M,ws,m,rw,h⟩:=h;rcases ws with _|⟨w,_|⟨w2,ws⟩⟩
 ·exact h.elim
 ·obtain⟨v,rfl,rv⟩:=rw.one;unfold jl at h;dsimp only at h;split at h
  ·rename_i l ds q
   obtain⟨a,ys,rfl,rd,sq⟩:=eK m rv q;refine qj aa s σ H _ us Q I r ⟨a,ys,rfl,?_,by rw[<- rd.len];exact h.plain m (cP _)⟩;rcases sq with⟨_,sq⟩|⟨_,sq⟩
   ·exact .inl sq
   ·exact .inr sq
  ·split at h
   ·split at h
    ·rename_i hz
     have e1:=eL rv;subst e1;exact qo aa s σ H _ us Q I r ⟨_,rfl,hz,h.plain m (cP _)⟩
    ·exact h.elim
   ·exact h.elim
 ·exact h.elim
theorem EZ:dN X (.type "list") (Br X.K .list1):=by
 intro aa s σ H xs us Q I r h;obtain⟨ads,M,ws,m,rw,h⟩:=h;rcases ws with _|⟨w,_|⟨w2,ws⟩⟩
 ·exact h.elim
 ·obtain⟨v,rfl,rv⟩:=rw.one;unfold jl at h;dsimp only at h;split at h
  ·rename_i l ds q
   obtain⟨a,ys,rfl,rd,sq⟩:=eK m rv q;refine qq aa s σ H _ us Q I r ⟨a,ys,rfl,?_,λp hp=>h.list m rd hp⟩;rcases sq with⟨_,sq⟩|⟨_,sq⟩
   ·exact .inl sq
   ·exact .inr sq
  ·exact h.elim
 ·exact h.elim
theorem Bt:dN X (.type "tuple") (Br X.K .tuple1):=by
 intro aa s σ H xs us Q I r h;obtain⟨ads,M,ws,m,rw,h⟩:=h;rcases ws with _|⟨w,_|⟨w2,ws⟩⟩
 ·exact h.elim
 ·obtain⟨v,rfl,rv⟩:=rw.one;unfold jl at h;dsimp only at h;split at h
  ·rename_i l ds q
   have hq:=q;obtain⟨a,ys,rfl,rd,sq⟩:=eK m rv q;rcases sq with⟨_,sq⟩|⟨el,sq⟩
   ·exact iR aa s σ H _ us Q I r ⟨a,ys,rfl,.inl ⟨sq,λp hp=>h.tuple m rd hp⟩⟩
   ·refine iR aa s σ H _ us Q I r ⟨a,ys,rfl,.inr ⟨sq,h.plain m ?_⟩⟩;subst el
    cases w with
    | lv es=>cases hq
    | d x =>
     cases x with
     | tup es =>
      have e:es=ds:=by simpa[bx]using hq
      subst e;exact rv
     | ah n =>
      simp only[bx]at hq;split at hq<;>cases hq
     | ls _=>cases hq
     | aQ=>cases hq
     | bl _=>cases hq
     | int _=>cases hq
     | str _=>cases hq
  ·exact h.elim
 ·exact h.elim
theorem JG(hc:X.calm=true):dN X (.builtin "max") (Br X.K .max2):=by
 intro aa s σ H xs us Q I r h;obtain⟨ads,M,ws,m,rw,h⟩:=h;rcases ws with _|⟨w,_|⟨w2,_|⟨w3,ws⟩⟩⟩
 ·exact h.elim
 ·rcases w with⟨_|_|_|_|_|_⟩|_<;>exact h.elim
 ·rcases w with⟨_|_ | i | _|_|_⟩|_<;>first | exact h.elim | skip
  rcases w2 with⟨_|_ | j | _|_|_⟩|_<;>first | exact h.elim | skip
  obtain⟨v,v2,rfl,r1,r2⟩:=rw.two;have e1:=aS r1;have e2:=aS r2;subst e1 e2;exact yS hc aa s σ H _ us Q I r ⟨i,j,rfl,cq.plain h m (cP _)⟩
 ·rcases w with⟨_|_ | i | _|_|_⟩|_<;>first | exact h.elim | skip
  rcases w2 with⟨_|_ | j | _|_|_⟩|_<;>exact h.elim
theorem JH(hc:X.calm=true):dN X (.builtin "min") (Br X.K .min2):=by
 intro aa s σ H xs us Q I r h;obtain⟨ads,M,ws,m,rw,h⟩:=h;rcases ws with _|⟨w,_|⟨w2,_|⟨w3,ws⟩⟩⟩
 ·exact h.elim
 ·rcases w with⟨_|_|_|_|_|_⟩|_<;>exact h.elim
 ·rcases w with⟨_|_ | i | _|_|_⟩|_<;>first | exact h.elim | skip
  rcases w2 with⟨_|_ | j | _|_|_⟩|_<;>first | exact h.elim | skip
  obtain⟨v,v2,rfl,r1,r2⟩:=rw.two;have e1:=aS r1;have e2:=aS r2;subst e1 e2;exact yT hc aa s σ H _ us Q I r ⟨i,j,rfl,cq.plain h m (cP _)⟩
 ·rcases w with⟨_|_ | i | _|_|_⟩|_<;>first | exact h.elim | skip
  rcases w2 with⟨_|_ | j | _|_|_⟩|_<;>exact h.elim
theorem eg(n:Nat)(hA:∀d p,cW M' n d=some p->p.hasDict=false):∀(ds:List D)(ps:List PyData),bG M' n ds=some ps->PyData.hasDictAll ps=false
 | [],ps,e=>by unfold bG at e;cases e;rfl
 | d::ds,ps,e=>by
  unfold bG at e
  cases q1:cW M' n d with
  | none=>rw[q1]at e;cases e
  | some p =>
   cases q2:bG M' n ds with
   | none=>rw[q1,q2]at e;cases e
   | some qs =>
    rw[q1,q2]at e;cases e;rw[PyData.hasDictAll,hA d p q1,eg n hA ds qs q2];rfl
theorem tS:∀(n:Nat)(d:D)(p:PyData),cW M' n d=some p->p.hasDict=false:=by
 intro n
 induction n with
 | zero=>intro d p e;cases d<;>(unfold cW at e;cases e)<;>simp[PyData.hasDict]
 | succ n ih =>
  intro d p e
  cases d with
  | tup ds =>
   unfold cW at e
   cases q:bG M' n ds with
   | none=>rw[q]at e;cases e
   | some ps=>rw[q]at e;cases e;rw[PyData.hasDict];exact eg n ih ds ps q
  | ah k =>
   unfold cW at e;split at e
   ·cases q:bG M' n _ with
    | none=>rw[q]at e;cases e
    | some ps=>rw[q]at e;cases e;rw[PyData.hasDict];exact eg n ih _ ps q
   ·cases q:bG M' n _ with
    | none=>rw[q]at e;cases e
    | some ps=>rw[q]at e;cases e;rw[PyData.hasDict];exact eg n ih _ ps q
   ·cases e
  | ls ds =>
   unfold cW at e
   cases q:bG M' n ds with
   | none=>rw[q]at e;cases e
   | some ps=>rw[q]at e;cases e;rw[PyData.hasDict];exact eg n ih ds ps q
  | aQ=>unfold cW at e;cases e;simp[PyData.hasDict]
  | bl _=>unfold cW at e;cases e;simp[PyData.hasDict]
  | int _=>unfold cW at e;cases e;simp[PyData.hasDict]
  | str _=>unfold cW at e;cases e;simp[PyData.hasDict]
theorem JI:dN X (.type "int") (Br X.K .tK):=by
 intro aa s σ H xs us Q I r h;obtain⟨ads,M,ws,m,rw,h⟩:=h;rcases ws with _|⟨w,_|⟨w2,ws⟩⟩
 ·exact h.elim
 ·obtain⟨v,rfl,rv⟩:=rw.one
  cases w with
  | lv ds=>exact h.elim
  | d x =>
   cases x with
   | int i =>
    have e:=aS rv;subst e;exact oZ aa s σ H _ us Q I r (.inl ⟨i,rfl,cq.plain h m (cP _)⟩)
   | bl i =>
    have e:=iW rv;subst e;exact oZ aa s σ H _ us Q I r (.inr ⟨i,rfl,cq.plain h m (cP _)⟩)
   | aQ=>exact h.elim
   | str _=>exact h.elim
   | tup _=>exact h.elim
   | ah _=>exact h.elim
   | ls _=>exact h.elim
 ·rcases w with⟨_|_|_|_|_|_⟩|_<;>exact h.elim
theorem E1{k:Nat}(hr:hU k X.A):dN X (.builtin "repr") (Br X.K .m8):=by
 intro aa s σ H xs us Q I r h;obtain⟨ads,M,ws,m,rw,h⟩:=h;rcases ws with _|⟨w,_|⟨w2,ws⟩⟩
 ·exact h.elim
 ·obtain⟨v,rfl,rv⟩:=rw.one;unfold jl at h;dsimp only at h;split at h
  ·rename_i p q
   split at h
   ·rename_i hs
    obtain⟨u,rfl,ru⟩:=vals1 r;obtain⟨as,ra⟩:=gC I m rv ru q;have JJ:=hr.un
    have fin:∀(h':Heap)(t:Tok)(tk:Nat),(∀b o,s.heap.get? b=some o->h'.get? b=some o)->EP X aa σ Q (.str p.shown t) { s with heap:=h',toks:=tk }:=λh' t tk hk =>
     ⟨.str p.shown,H,I.kept hk,⟨t,rfl⟩,h.plain m (vD _)⟩
    have E2:∀(t:Tok)(tk:Nat),EP X aa σ Q (.str p.shown t) { s with toks:=tk }:=λt tk=>fin s.heap t tk λ_ _ e=>e
    have nd:p.hasDict=false:=by
     cases w with
     | d x=>exact tS 30 x p q
     | lv ds =>
      have e:(bG M 30 ds).map PyData.list=some p:=q
      cases q2:bG M 30 ds with
      | none=>rw[q2]at e;cases e
      | some ps=>rw[q2]at e;cases e;rw[PyData.hasDict];exact eg 30 (tS 30) ds ps q2
    cases ra with
    | none=>exact PySem.P.repr_of_none (E2 _ _)
    | bool b=>exact PySem.P.repr_of_bool (E2 _ _)
    | int i t=>exact PySem.P.repr_of_int (of_decide_eq_true hs.1) (E2 _ _)
    | str x t=>exact PySem.P.repr_of_str (E2 _ _) hs.2.2
    | list h1 h2 h3 h4=>exact repr_of_reads' (.list h1 h2 h3 h4) hs.1 (PyData.noDict_hsm nd) hr.gd (by have:=hs.2.1;omega) (λ_ _ e=>e) (λh' t tk hk=>fin h' t tk hk) hs.2.2
    | tuple h1 h2 h3 h4=>exact repr_of_reads' (.tuple h1 h2 h3 h4) hs.1 (PyData.noDict_hsm nd) hr.gd (by have:=hs.2.1;omega) (λ_ _ e=>e) (λh' t tk hk=>fin h' t tk hk) hs.2.2
    | dict h1 h2 h3 h4 h5=>rw[PyData.hasDict]at nd;cases nd
   ·exact h.elim
  ·exact h.elim
 ·exact h.elim
noncomputable def tT:Ty->String
 | .int => "int" | .bool => "bool" | .str => "str" | .tuple => "tuple" | .list => "list" | .dict => "dict" | .none => "NoneType"
theorem E3(K:PySem.W.Frag):∀g t:Ty,PySem.W.kitOne K (.type (tT g)) (.type (tT t))=some (decide (g=t)||(decide (g=.bool)&&decide (t=.int))):=by
 intro g t;cases g<;>cases t<;>kernel_rfl
theorem JK{K:PySem.W.Frag}{ads:List Addr}{H:Hp}{M:aq}{w:W}{v:V}{g:Ty}(m:aO K ads H M)(r:RW K ads H w v)(e:EJ M w=some g):kC K H v (.type (tT g)):=by
 cases w with
 | lv ds=>cases e;obtain⟨a,xs,rfl,h,_⟩:=r;exact .lst h
 | d x =>
  cases x with
  | aQ=>cases e;rw[nz r];exact .aQ
  | bl b=>cases e;rw[iW r];exact .bl b
  | int b=>cases e;rw[aS r];exact .int b
  | str b=>cases e;rw[eL r];exact .str b
  | ls b=>cases e
  | tup b=>cases e;have r:RD K ads H (.tup b) v:=r;unfold RD at r;obtain⟨a,xs,rfl,h,_⟩:=r;exact .tup h
  | ah n =>
   have r:RD K ads H (.ah n) v:=r;unfold RD at r;obtain⟨a,rfl,ea⟩:=r;simp only[EJ]at e
   cases q:M[n]? with
   | none=>rw[q]at e;cases e
   | some o =>
    rw[q]at e;have ho:=m.obj n o a q ea
    cases o with
    | lst es=>cases e;obtain⟨xs,h,_⟩:=ho;exact .lst h
    | iT es=>cases e;obtain⟨o,xs,h,_⟩:=ho;exact .ef h
    | dK es=>cases e;obtain⟨xs,h,_⟩:=ho;exact .dK h
    | dT es=>cases e;obtain⟨xs,h,_⟩:=ho;exact .dT h
    | dF es=>cases e
theorem JL(t:Ty):dN X (.builtin "isinstance") (λvs H Q=>∃v,vs=[v,.ty (tT t)]/\Br X.K (.uW t) [v] H Q):=by
 intro aa s σ H xs us Q I r h;obtain⟨v,rfl,ads,M,ws,m,rw,h⟩:=h;obtain⟨u,u2,rfl,r1,r2⟩:=vals2 r;rcases ws with _|⟨w,_|⟨w2,ws⟩⟩
 ·exact h.elim
 ·obtain⟨v',e,rv⟩:=rw.one;cases e;unfold jl at h;dsimp only at h;split at h
  ·rename_i g q
   have e2:u2=Value.type (tT t):=r2;subst e2;exact yV I r1 (JK m rv q) (E3 X.K g t) λtk=>⟨.bl _,H,I.tok tk,rfl,h.plain m (iX _)⟩
  ·exact h.elim
 ·obtain⟨_,_,e,_,_,_,e2,_⟩:=rw;cases e;cases e2
end
section
variable {X:Cx}
def Ml(K:PySem.W.Frag)(me:Me):V->List V->Hp->VK->Prop:=λx vs H Q=>∃ads M wx ds,aO K ads H M/\RW K ads H wx x/\aJ K ads H ds vs/\cq K ads H Q (oQ me wx ds M)
theorem aJ.Ol{K:PySem.W.Frag}{ads:List Addr}{H:Hp}{d:D}{vs:List V}(r:aJ K ads H [d] vs):∃v,vs=[v]/\RD K ads H d v:=by
 unfold aJ at r;obtain⟨v,r',rfl,h,h2⟩:=r;unfold aJ at h2;subst h2;exact⟨v,rfl,h⟩
theorem aJ.Om{K:PySem.W.Frag}{ads:List Addr}{H:Hp}{vs:List V}(r:aJ K ads H [] vs):vs=[]:=by
 unfold aJ at r;exact r
theorem aJ.Uq{K:PySem.W.Frag}{ads:List Addr}{H:Hp}{d e:D}{vs:List V}(r:aJ K ads H [d,e] vs):∃v w,vs=[v,w]/\RD K ads H d v/\RD K ads H e w:=by
 unfold aJ at r;obtain⟨v,r',rfl,h,h2⟩:=r;obtain⟨w,rfl,h3⟩:=h2.Ol;exact⟨v,w,rfl,h,h3⟩
theorem cq.wrote {K : PySem.W.Frag} {ads : List Addr} {H : Hp} {M : aq} {n : Nat} {a : Addr} {ds es : List D} {ys : List V} {x : D} {Q : VK} {v : V} (h : cq K ads H Q (.ok (.d x) (M.set n (.lst es)))) (m : aO K ads H M) (q : M[n]? = some (.lst ds)) (ea : ads[n]? = some a)
    (ha:∃xs,H a=some (.lst xs)) (ry:aJ K ads H es ys) (rx:RD K ads (upd H a (.lst ys)) x v):Q v (upd H a (.lst ys)):=by
  obtain⟨xs,ha⟩:=ha;have nf:∀o x,H a≠some (.ef o x):=λo x z=>by rw[ha]at z;cases z
  have g:aE ads ads H (upd H a (.lst ys)):=by
    have tu:a∈ads:=gU ea
    exact⟨⟨[],by simp⟩,λb h n=>absurd h n,λb x nb h=>by rw[az (by intro z;subst z;exact nb tu)];exact h,λb xs h=>by
      rw[az (λz=>by subst z;rw[ha]at h;cases h)];exact h,λb o u h=>by rw[az (λz=>by subst z;exact nf _ _ h)];exact h⟩
  obtain⟨g',m'⟩:=m.write (o:=.lst es) (ho:=.lst ys) q ea nf ⟨ys,bj,g.mZ _ _ ry⟩;exact h v _ ads g m' rx
theorem pB:G4 X "list.append" (Ml X.K .append):=by
 intro aa s σ H x vs v us Q I rx rv h;obtain⟨ads,M,wx,ds,m,r1,r2,h⟩:=h;rcases wx with⟨_|_|_|_|_ | n⟩|_<;>first | exact h.elim | skip
 have r1:RD X.K ads H (.ah n) x:=r1;unfold RD at r1;obtain⟨a,rfl,ea⟩:=r1;simp only[oQ]at h
 cases q:M[n]? with
 | none=>rw[q]at h;exact h.elim
 | some o =>
  rw[q]at h
  cases o with
  | lst es =>
   rcases ds with _|⟨d,_|⟨d2,ds⟩⟩
   ·exact h.elim
   ·dsimp only at h;split at h
    ·rename_i hz
     obtain⟨y,rfl,ry⟩:=r2.Ol;obtain⟨xs,ha,rd⟩:=m.obj n _ a q ea;exact pk aa s σ H _ _ v us Q I rx rv ⟨a,xs,y,rfl,rfl,ha,by rw[<- rd.len];exact hz,cq.wrote h m q ea ⟨xs,ha⟩ (rd.app (.one ry)) jt⟩
    ·exact h.elim
   ·exact h.elim
  | iT _=>exact h.elim
  | dK _=>exact h.elim
  | dT _=>exact h.elim
  | dF _=>exact h.elim
theorem xy{K:PySem.W.Frag}{ads:List Addr}{H:Hp}:∀(is:List Int),aJ K ads H (is.map D.int) (is.map V.int)
 | []=>by unfold aJ;rfl
 | i::is=>by
  show aJ K ads H (D.int i::is.map D.int) (V.int i::is.map V.int);unfold aJ;exact⟨_,_,rfl,cP _,xy is⟩
theorem ints_of{K:PySem.W.Frag}{ads:List Addr}{H:Hp}:∀{ds:List D}{is:List Int}{xs:List V},fG ds=some is->aJ K ads H ds xs->xs=is.map V.int
 | [],_,_,e,r=>by cases e;unfold aJ at r;exact r
 | d::ds,_,_,e,r=>by
  unfold aJ at r;obtain⟨y,r',rfl,h1,h2⟩:=r;cases d<;>first | cases e | skip
  rename_i b
  have e:(fG ds).map (b::·)=some _:=e
  cases q:fG ds with
  | none=>rw[q]at e;cases e
  | some bs =>
   rw[q]at e;cases e;unfold RD at h1;rw[h1,ints_of q h2];rfl
theorem E4:dN X (.builtin "sorted") (Br X.K .m_):=by
 intro aa s σ H xs us Q I r h;obtain⟨ads,M,ws,m,rw,h⟩:=h;rcases ws with _|⟨w,_|⟨w2,ws⟩⟩
 ·exact h.elim
 ·obtain⟨v,rfl,rv⟩:=rw.one;unfold jl at h;dsimp only at h;split at h
  ·rename_i ds q
   split at h
   ·rename_i is qi
    split at h
    ·rename_i hl
     obtain⟨a,ys,rfl,rd,sq⟩:=eK m rv q;have ey:=ints_of qi rd;subst ey;refine tH aa s σ H _ us Q I r ⟨a,is,rfl,?_,hl,λp hp=>h.list m (xy _) hp⟩;rcases sq with⟨_,sq⟩|⟨z,_⟩
     ·exact sq
     ·cases z
    ·exact h.elim
   ·exact h.elim
  ·exact h.elim
 ·exact h.elim
theorem xB{K:PySem.W.Frag}{ads:List Addr}{H:Hp}:∀{ds:List D}{vs:List V}{i:Nat}{d:D},aJ K ads H ds vs->ds[i]?=some d->∃v,vs[i]?=some v/\RD K ads H d v
 | d::ds,vs,i,e,r,h=>by
  unfold aJ at r;obtain⟨x,r',rfl,h1,h2⟩:=r
  cases i with
  | zero=>cases h;exact⟨x,rfl,h1⟩
  | succ i=>exact xB (i:=i) h2 h
theorem tU{K:PySem.W.Frag}{ads:List Addr}{H:Hp}:∀{ds:List D}{vs:List V},aJ K ads H ds vs->aJ K ads H ds.dropLast vs.dropLast
 | [],vs,r=>by unfold aJ at r;subst r;unfold aJ;rfl
 | [d],vs,r=>by
  unfold aJ at r;obtain⟨x,r',rfl,_,h2⟩:=r;unfold aJ at h2;subst h2;show aJ K ads H [] [];unfold aJ;rfl
 | d::e::ds,vs,r=>by
  unfold aJ at r;obtain⟨x,r',rfl,h1,h2⟩:=r;have h3:=tU h2;unfold aJ at h2;obtain⟨y,Y1,rfl,_,_⟩:=h2;show aJ K ads H (d::(e::ds).dropLast) (x::(y::Y1).dropLast);unfold aJ;exact⟨x,_,rfl,h1,h3⟩
theorem JM{ads:List Addr}{n:Nat}{xs ys:List V}(ha:H a=some (.lst xs))(ea:ads[n]?=some a):aE ads ads H (upd H a (.lst ys)):=by
 have nf:∀o x,H a≠some (.ef o x):=λo x z=>by rw[ha]at z;cases z
 have tu:a∈ads:=gU ea
 exact⟨⟨[],by simp⟩,λb h n=>absurd h n,λb x nb h=>by rw[az (by intro z;subst z;exact nb tu)];exact h,λb xs h=>by
  rw[az (λz=>by subst z;rw[ha]at h;cases h)];exact h,λb o u h=>by rw[az (λz=>by subst z;exact nf _ _ h)];exact h⟩
theorem Bu:G4 X "list.pop" (Ml X.K .pop):=by
 intro aa s σ H x vs v us Q I rx rv h;obtain⟨ads,M,wx,ds,m,r1,r2,h⟩:=h;rcases wx with⟨_|_|_|_|_ | n⟩|_<;>first | exact h.elim | skip
 have r1:RD X.K ads H (.ah n) x:=r1;unfold RD at r1;obtain⟨a,rfl,ea⟩:=r1;simp only[oQ]at h
 cases q:M[n]? with
 | none=>rw[q]at h;exact h.elim
 | some o =>
  rw[q]at h
  cases o with
  | lst es =>
   rcases ds with _|⟨d,ds⟩
   ·have e0:=r2.Om;subst e0;obtain⟨xs,ha,rd⟩:=m.obj n _ a q ea
    cases hy:es[es.length-1]? with
    | none=>simp only[hy]at h;exact h.elim
    | some d =>
     simp only[hy]at h;obtain⟨y,Y2,ry⟩:=xB rd hy;have hl:=rd.len;exact IX aa s σ H _ _ v us Q I rx rv ⟨a,xs,y,rfl,rfl,ha,by rw[<- hl];exact Y2,cq.wrote h m q ea ⟨xs,ha⟩ (tU rd) ((JM ha ea).rd _ _ ry)⟩
   ·exact h.elim
  | iT _=>exact h.elim
  | dK _=>exact h.elim
  | dT _=>exact h.elim
  | dF _=>exact h.elim
theorem Bv{K:PySem.W.Frag}{ads:List Addr}{H:Hp}:∀{ds:List D}{ks:List bA}{xs:List V},nj ds=some ks->aJ K ads H ds xs->xs=ks.map kV
 | [],_,_,e,r=>by cases e;unfold aJ at r;exact r
 | d::ds,_,_,e,r=>by
  unfold aJ at r;obtain⟨y,r',rfl,h1,h2⟩:=r;cases d<;>first | cases e | skip
  all_goals
   rename_i b
   have e:(nj ds).map (_::·)=some _:=e
   cases q:nj ds with
   | none=>rw[q]at e;cases e
   | some bs =>
    rw[q]at e;cases e;unfold RD at h1;rw[h1,Bv q h2];rfl
theorem qC{K:PySem.W.Frag}{ads:List Addr}{H:Hp}{w:W}{v:V}{k:List bA}(r:RW K ads H w v)(e:vB w=some k):∃b,v=.ref b/\H b=some (.tup (k.map kV)):=by
 rcases w with⟨_|_|_|_ | ds | _|_⟩|_<;>first | cases e | skip
 have r:RD K ads H (.tup ds) v:=r;unfold RD at r;obtain⟨b,xs,rfl,hb,rd⟩:=r;have e:nj ds=some k:=e;exact⟨b,rfl,by rw[<- Bv e rd];exact hb⟩
theorem He{K:PySem.W.Frag}{ads:List Addr}{H:Hp}{M:aq}{w:W}{v:V}{ag:List (List bA×D)}(m:aO K ads H M)(r:RW K ads H w v)(e:Jn M w=some ag):∃a ks,v=.ref a/\Rd H a (.dT ks)/\bY K ads H ag ks:=by
 rcases w with⟨_|_|_|_|_ | n | _⟩|_<;>first | cases e | skip
 have r:RD K ads H (.ah n) v:=r;unfold RD at r;obtain⟨a,rfl,ea⟩:=r;unfold Jn at e;dsimp only at e;split at e
 ·rename_i q
  cases e;obtain⟨ks,h,rk⟩:=m.obj n _ a q ea;exact⟨a,ks,rfl,.inl h,rk⟩
 ·rename_i q
  cases e;obtain⟨o,ks,h,rk⟩:=m.obj n _ a q ea;exact⟨a,ks,rfl,.inr ⟨o,h⟩,rk⟩
 ·cases e
theorem Bw(h:Rd H a (.dT ks))(hb:H b=some (.tup (k.map kV))):jg H a (.ref b) (jG ks k):=.inr ⟨ks,k,b,h,rfl,hb,rfl⟩
theorem JN{K:PySem.W.Frag}{ads:List Addr}{H:Hp}{a b:Addr}{k:List bA}{ag:List (List bA×D)}{ks:List (List bA×V)}(h:Rd H a (.dT ks))(hb:H b=some (.tup (k.map kV)))(r:bY K ads H ag ks):∃o,jg H a (.ref b) o/\o.isSome=(cS ag k).isSome:=by
 refine⟨_,Bw h hb,?_⟩
 cases q:cS ag k with
 | none=>rw[r.xt q];rfl
 | some d =>
  obtain⟨v,e,_⟩:=r.find (k:=k) q;rw[e];rfl
theorem nG:G4 X "list.reverse" (Ml X.K .reverse):=by
 intro aa s σ H x vs v us Q I rx rv h;obtain⟨ads,M,wx,ds,m,r1,r2,h⟩:=h;rcases wx with⟨_|_|_|_|_ | n⟩|_<;>first | exact h.elim | skip
 have r1:RD X.K ads H (.ah n) x:=r1;unfold RD at r1;obtain⟨a,rfl,ea⟩:=r1;simp only[oQ]at h
 cases q:M[n]? with
 | none=>rw[q]at h;exact h.elim
 | some o =>
  rw[q]at h
  cases o with
  | lst es =>
   rcases ds with _|⟨d,ds⟩
   ·dsimp only at h;obtain rfl:=r2.Om;obtain⟨xs,ha,rd⟩:=m.obj n _ a q ea;exact vn aa s σ H _ _ v us Q I rx rv ⟨a,xs,rfl,rfl,ha,cq.wrote h m q ea ⟨xs,ha⟩ rd.rev jt⟩
   ·exact h.elim
  | iT _=>exact h.elim
  | dK _=>exact h.elim
  | dT _=>exact h.elim
  | dF _=>exact h.elim
def E5:V->List V->Hp->VK->Prop:=λx vs H Q=>∃l xs i y,x=.ref l/\vs=[.int i,y]/\H l=some (.lst xs)/\xs.length<sizeLine/\0<=i/\i<=xs.length/\Q .aQ (upd H l (.lst (xs.take i.toNat++y::xs.drop i.toNat)))
theorem zk:G4 X "list.insert" E5:=by
 intro aa s σ H x vs v us Q I rx rv h;obtain⟨l,xs,i,y,rfl,rfl,hH,hz,h0,h1,q⟩:=h;cases rx;obtain⟨u,w,rfl,ru,vf⟩:=rv.two;obtain⟨t,rfl⟩:=ru;obtain⟨z,aC,n,r,hl,e⟩:=I.sU hH;have hs:sizeLine=16777216:=sizeLine_eq;refine call_meets F.slot_list_insert ⟨_,e,rfl⟩ F.entry_list_insert (F.args_list_insert_3 _ _ _) (AutoSeq1.list_insert_list_int_val_1 l aC.toArray n i t w ?_ (by rw[iq];omega)) ⟨e,?_⟩
 ·simp only[Builtin.List.listFitsIndex,Bool.not_eq_true',Bool.not_eq_false];have:(i:Int)<=16777216:=∅;simp;omega
 ·refine⟨.aQ,_,I.Ef (its':=aC.take i.toNat++w::aC.drop i.toNat) hH e ?_ ((r.take _).append (.cons vf (r.drop _))) ?_,rfl,q⟩
  ·dsimp only;rw[if_neg (∅)];have hk:min i.toNat aC.toArray.size=i.toNat:=by rw[iq];omega
   rw[hk];apply Array.ext';simp only[Array.toList_append,Array.toList_push,Array.toList_extract,List.extract_eq_take_drop,iq,List.drop_zero,Nat.sub_zero];rw[List.take_of_length_le (l:=List.drop i.toNat aC) (by simp)];simp
  ·simp;omega
theorem pC:G4 X "list.insert" (Ml X.K .insert):=by
 intro aa s σ H x vs v us Q I rx rv h;obtain⟨ads,M,wx,ds,m,r1,r2,h⟩:=h;rcases wx with⟨_|_|_|_|_ | n⟩|_<;>first | exact h.elim | skip
 have r1:RD X.K ads H (.ah n) x:=r1;unfold RD at r1;obtain⟨a,rfl,ea⟩:=r1;simp only[oQ]at h
 cases q:M[n]? with
 | none=>rw[q]at h;exact h.elim
 | some o =>
  rw[q]at h
  cases o with
  | lst es =>
   rcases ds with _|⟨d,_|⟨d2,_|⟨d3,ds⟩⟩⟩
   ·exact h.elim
   ·rcases d with _|_|_|_|_|_<;>exact h.elim
   ·rcases d with _|_ | i | _|_|_<;>first | exact h.elim | skip
    dsimp only at h;split at h
    ·rename_i hz
     obtain⟨vi,y,rfl,ri,ry⟩:=r2.Uq;unfold RD at ri;subst ri;obtain⟨xs,ha,rd⟩:=m.obj n _ a q ea;refine zk aa s σ H _ _ v us Q I rx rv ⟨a,xs,i,y,rfl,rfl,ha,by rw[<- rd.len];exact hz.1,hz.2.1,by rw[<- rd.len];exact hz.2.2,cq.wrote h m q ea ⟨xs,ha⟩ ((rd.take _).app ?_) jt⟩;show aJ X.K ads H (d2::es.drop i.toNat) (y::xs.drop i.toNat);unfold aJ;exact⟨y,_,rfl,ry,rd.drop _⟩
    ·exact h.elim
   ·rcases d with _|_ | i | _|_|_<;>exact h.elim
  | iT _=>exact h.elim
  | dK _=>exact h.elim
  | dT _=>exact h.elim
  | dF _=>exact h.elim
def gD(o i:W)(d:D)(M:aq):cw Unit :=
 match o with
 | .d (.ah n)=>match M[n]? with
  | some (.lst ds)=>match i with
   | .d (.int k)=>match AI ds.length k with
    | some j=>.ok () (M.set n (.lst (ds.set j d)))
    | none=>.af
   | _=>.af
  | some (.dK ag)=>match i with
   | .d (.str k)=>if ag.length<sizeLine then .ok () (M.set n (.dK (cD ag (Sum.inr k) d))) else .af
   | .d (.int k)=>if ag.length<sizeLine then .ok () (M.set n (.dK (cD ag (Sum.inl k) d))) else .af
   | _=>.af
  | _=>.af
 | _=>.af
noncomputable def Ur(K:PySem.W.Frag)(ads:List Addr)(H:Hp)(Q:Hp->Prop):cw Unit->Prop
 | .ok _ M=>∀H' aB,aE ads aB H H'->aO K aB H' M->Q H'
 | _=>False
def Us(K:PySem.W.Frag):Ij:=λo i v H Q=>∃ads M wo wi d,aO K ads H M/\RW K ads H wo o/\RW K ads H wi i/\RD K ads H d v/\Ur K ads H Q (gD wo wi d M)
theorem JO(hu:X.A.units+1<cLine):DX X (Us X.K):=by
 intro aa s σ H o i v ov iv u Q I ro ri rv h;obtain⟨ads,M,wo,wi,d,m,r1,r2,r3,h⟩:=h;rcases wo with⟨_|_|_|_|_ | n⟩|_<;>first | exact h.elim | skip
 have r1:RD X.K ads H (.ah n) o:=r1;unfold RD at r1;obtain⟨a,rfl,ea⟩:=r1;simp only[gD]at h
 cases q:M[n]? with
 | none=>rw[q]at h;exact h.elim
 | some ob =>
  rw[q]at h;have tu:a∈ads:=gU ea
  cases ob with
  | lst ds =>
   rcases wi with⟨_|_ | k | _|_|_⟩|_<;>first | exact h.elim | skip
   have ei:=aS r2;subst ei;dsimp only at h
   cases q2:AI ds.length k with
   | none=>rw[q2]at h;exact h.elim
   | some j =>
    rw[q2]at h;obtain⟨xs,ha,rd⟩:=m.obj n _ a q ea;refine AJ aa s σ H _ _ v ov iv u Q I ro ri rv ⟨a,xs,k,j,rfl,rfl,ha,by rw[<- rd.len];exact q2,?_⟩;have nf:∀o x,H a≠some (.ef o x):=λo x z=>by rw[ha]at z;cases z
    have hg:aE ads ads H (upd H a (.lst (xs.set j v))):=⟨⟨[],by simp⟩,λb h n=>absurd h n,λb x nb h=>by rw[az (by intro z;subst z;exact nb tu)];exact h,λb xs h=>by
     rw[az (λz=>by subst z;rw[ha]at h;cases h)];exact h,λb o u h=>by rw[az (λz=>by subst z;exact nf _ _ h)];exact h⟩
    obtain⟨g',m'⟩:=m.write (o:=.lst (ds.set j d)) (ho:=.lst (xs.set j v)) q ea nf ⟨_,bj,hg.mZ _ _ (rd.setAt j r3)⟩;exact h _ ads hg m'
  | dK ag =>
   obtain⟨ks,ha,rk⟩:=m.obj n _ a q ea;have nf:∀o x,H a≠some (.ef o x):=λo x z=>by rw[ha]at z;cases z
   have put:∀(k:bA),i=kV k->ag.length<sizeLine->Ur X.K ads H Q (.ok () (M.set n (.dK (cD ag k d))))->wpAny (model X.prog X.w) X.A (setItem ov iv u) (λ_ s'=>∃H',Inv X aa σ H' s'/\Q H') X.xe s:=by
    intro k ek hz h;subst ek;cases ro;refine pj hu I (ve.k (k:=k) ha (by rw[<- rk.len];exact hz)) ri rv λs' I'=>⟨_,I',?_⟩
    have hg:aE ads ads H (upd H a (.dK (dX ks k v))):=⟨⟨[],by simp⟩,λb h n=>absurd h n,λb x nb h=>by rw[az (by intro z;subst z;exact nb tu)];exact h,λb xs h=>by
     rw[az (λz=>by subst z;rw[ha]at h;cases h)];exact h,λb o u h=>by rw[az (λz=>by subst z;exact nf _ _ h)];exact h⟩
    obtain⟨g',m'⟩:=m.write (o:=.dK (cD ag k d)) (ho:=.dK (dX ks k v)) q ea nf ⟨_,bj,hg.zf _ _ (rk.put r3)⟩;exact h _ ads hg m'
   rcases wi with⟨_|_ | k | k | _|_⟩|_<;>first | exact h.elim | skip
   ·have ei:=aS r2;subst ei;dsimp only at h;split at h
    ·rename_i hz
     exact put (Sum.inl k) rfl hz h
    ·exact h.elim
   ·have ei:=eL r2;subst ei;dsimp only at h;split at h
    ·rename_i hz
     exact put (Sum.inr k) rfl hz h
    ·exact h.elim
  | iT _=>exact h.elim
  | dT _=>exact h.elim
  | dF _=>exact h.elim
def Oo(K:PySem.W.Frag):V->V->V->Hp->(Hp->Prop)->Prop:=λo i v H Q=>∃ads M wo wi d,aO K ads H M/\RW K ads H wo o/\RW K ads H wi i/\RD K ads H d v/\Ur K ads H Q (gR wo wi d M)
theorem E6(hu:X.A.units+1<cLine):DX X (Oo X.K):=by
 intro aa s σ H o i v ov iv u Q I ro ri rv h;obtain⟨ads,M,wo,wi,d,m,r1,r2,r3,h⟩:=h;rcases wo with⟨_|_|_|_|_ | n⟩|_<;>first | exact h.elim | skip
 have r1:RD X.K ads H (.ah n) o:=r1;unfold RD at r1;obtain⟨a,rfl,ea⟩:=r1;have tu:a∈ads:=gU ea;unfold gR at h;dsimp only at h;split at h
 ·rename_i ag k q qk
  split at h
  ·rename_i hz
   obtain⟨ks,ha,rk⟩:=m.obj n _ a q ea;have nf:∀o x,H a≠some (.ef o x):=λo x z=>by rw[ha]at z;cases z
   obtain⟨b,rfl,hb⟩:=qC r2 qk;cases ro;refine pj hu I (ve.t (k:=k) ha hb (by rw[<- rk.len];exact hz)) ri rv λs' I'=>⟨_,I',?_⟩
   have hg:aE ads ads H (upd H a (.dT (dX ks k v))):=⟨⟨[],by simp⟩,λb h n=>absurd h n,λb x nb h=>by rw[az (by intro z;subst z;exact nb tu)];exact h,λb xs h=>by
    rw[az (λz=>by subst z;rw[ha]at h;cases h)];exact h,λb o u h=>by rw[az (λz=>by subst z;exact nf _ _ h)];exact h⟩
   obtain⟨g',m'⟩:=m.write (o:=.dT (cD ag k d)) (ho:=.dT (dX ks k v)) q ea nf ⟨_,bj,hg.zf _ _ (rk.put r3)⟩;exact h _ ads hg m'
  ·exact h.elim
 ·exact h.elim
end
structure CC where
 N:List Str
 names:List (Str×NameKind)
 fs:List (Str×Nat)
 gs:List (Str×Int)
noncomputable def Mm(cc:CC)(x:Str):Bool:=match cc.names.lookup x with
 | some .local=>true
 | some .cell=>true
 | some .free=>true
 | _=>false
noncomputable def glob(cc:CC)(x:Str):Bool:=match cc.names.lookup x with
 | some .globalImplicit=>true
 | _=>false
noncomputable def dP(x:Str):Bool:=!(x==("__debug__" : Str)) && !(x==("__classdict__" : Str)) && !(x==("__name__" : Str))
theorem bS{p:Prop}[d:Decidable p]{f:p->Bool}(h:(if h:p then f h else false)=true):p:=by
 cases d with
 | isTrue q=>exact q
 | isFalse q=>rw[dif_neg q]at h;exact absurd h cH
noncomputable def gh(e:Expr)(f:BoolOp->List Expr->Pos->Bool):Bool:=if h:e.ctorIdx=0 then Expr.BoolOp.elim (motive_1:=λ_=>Bool) e h f else false
theorem fK{P:Expr->Prop}{e:Expr}{f:BoolOp->List Expr->Pos->Bool}(h:gh e f=true)(k:∀a b c,f a b c=true->P (.BoolOp a b c)):P e :=
 Expr.BoolOp.elim (motive_1:=λe=>gh e f=true->P e) e (bS h) (λa b c h=>k a b c h) h
noncomputable def qD(e:Expr)(f:Expr->Operator->Expr->Pos->Bool):Bool:=if h:e.ctorIdx=2 then Expr.BinOp.elim (motive_1:=λ_=>Bool) e h f else false
theorem vF{P:Expr->Prop}{e:Expr}{f:Expr->Operator->Expr->Pos->Bool}(h:qD e f=true)(k:∀a b c d,f a b c d=true->P (.BinOp a b c d)):P e :=
 Expr.BinOp.elim (motive_1:=λe=>qD e f=true->P e) e (bS h) (λa b c d h=>k a b c d h) h
noncomputable def fi(e:Expr)(f:UnaryOp->Expr->Pos->Bool):Bool:=if h:e.ctorIdx=3 then Expr.UnaryOp.elim (motive_1:=λ_=>Bool) e h f else false
theorem e9{P:Expr->Prop}{e:Expr}{f:UnaryOp->Expr->Pos->Bool}(h:fi e f=true)(k:∀a b c,f a b c=true->P (.UnaryOp a b c)):P e :=
 Expr.UnaryOp.elim (motive_1:=λe=>fi e f=true->P e) e (bS h) (λa b c h=>k a b c h) h
noncomputable def qE(e:Expr)(f:Expr->Expr->Expr->Pos->Bool):Bool:=if h:e.ctorIdx=5 then Expr.IfExp.elim (motive_1:=λ_=>Bool) e h f else false
theorem vG{P:Expr->Prop}{e:Expr}{f:Expr->Expr->Expr->Pos->Bool}(h:qE e f=true)(k:∀a b c d,f a b c d=true->P (.IfExp a b c d)):P e :=
 Expr.IfExp.elim (motive_1:=λe=>qE e f=true->P e) e (bS h) (λa b c d h=>k a b c d h) h
noncomputable def qF(e:Expr)(f:List (Option Expr)->List Expr->Pos->Bool):Bool:=if h:e.ctorIdx=6 then Expr.Dict.elim (motive_1:=λ_=>Bool) e h f else false
theorem pE{P:Expr->Prop}{e:Expr}{f:List (Option Expr)->List Expr->Pos->Bool}(h:qF e f=true)(k:∀a b c,f a b c=true->P (.Dict a b c)):P e :=
 Expr.Dict.elim (motive_1:=λe=>qF e f=true->P e) e (bS h) (λa b c h=>k a b c h) h
noncomputable def gE(e:Expr)(f:Expr->List Comprehension->Scope->Pos->Bool):Bool:=if h:e.ctorIdx=8 then Expr.ListComp.elim (motive_1:=λ_=>Bool) e h f else false
theorem iY{P:Expr->Prop}{e:Expr}{f:Expr->List Comprehension->Scope->Pos->Bool}(h:gE e f=true)(k:∀a b c d,f a b c d=true->P (.ListComp a b c d)):P e :=
 Expr.ListComp.elim (motive_1:=λe=>gE e f=true->P e) e (bS h) (λa b c d h=>k a b c d h) h
noncomputable def fj(e:Expr)(f:Expr->List CmpOp->List Expr->Pos->Bool):Bool:=if h:e.ctorIdx=15 then Expr.Compare.elim (motive_1:=λ_=>Bool) e h f else false
theorem e_{P:Expr->Prop}{e:Expr}{f:Expr->List CmpOp->List Expr->Pos->Bool}(h:fj e f=true)(k:∀a b c d,f a b c d=true->P (.Compare a b c d)):P e :=
 Expr.Compare.elim (motive_1:=λe=>fj e f=true->P e) e (bS h) (λa b c d h=>k a b c d h) h
noncomputable def eM(e:Expr)(f:Expr->List Expr->List Keyword->Pos->Bool):Bool:=if h:e.ctorIdx=16 then Expr.Call.elim (motive_1:=λ_=>Bool) e h f else false
theorem dc{P:Expr->Prop}{e:Expr}{f:Expr->List Expr->List Keyword->Pos->Bool}(h:eM e f=true)(k:∀a b c d,f a b c d=true->P (.Call a b c d)):P e :=
 Expr.Call.elim (motive_1:=λe=>eM e f=true->P e) e (bS h) (λa b c d h=>k a b c d h) h
noncomputable def cQ(e:Expr)(f:Const->Nat->Pos->Bool):Bool:=if h:e.ctorIdx=19 then Expr.Constant.elim (motive_1:=λ_=>Bool) e h f else false
theorem cf{P:Expr->Prop}{e:Expr}{f:Const->Nat->Pos->Bool}(h:cQ e f=true)(k:∀a b c,f a b c=true->P (.Constant a b c)):P e :=
 Expr.Constant.elim (motive_1:=λe=>cQ e f=true->P e) e (bS h) (λa b c h=>k a b c h) h
noncomputable def eC(e:Expr)(f:Expr->Str->Pos->Bool):Bool:=if h:e.ctorIdx=20 then Expr.Attribute.elim (motive_1:=λ_=>Bool) e h f else false
theorem fv{P:Expr->Prop}{e:Expr}{f:Expr->Str->Pos->Bool}(h:eC e f=true)(k:∀a b c,f a b c=true->P (.Attribute a b c)):P e :=
 Expr.Attribute.elim (motive_1:=λe=>eC e f=true->P e) e (bS h) (λa b c h=>k a b c h) h
noncomputable def cJ(e:Expr)(f:Expr->Expr->Pos->Bool):Bool:=if h:e.ctorIdx=21 then Expr.Subscript.elim (motive_1:=λ_=>Bool) e h f else false
theorem cy{P:Expr->Prop}{e:Expr}{f:Expr->Expr->Pos->Bool}(h:cJ e f=true)(k:∀a b c,f a b c=true->P (.Subscript a b c)):P e :=
 Expr.Subscript.elim (motive_1:=λe=>cJ e f=true->P e) e (bS h) (λa b c h=>k a b c h) h
noncomputable def d4(e:Expr)(f:Str->Pos->Bool):Bool:=if h:e.ctorIdx=23 then Expr.Name.elim (motive_1:=λ_=>Bool) e h f else false
theorem bT{P:Expr->Prop}{e:Expr}{f:Str->Pos->Bool}(h:d4 e f=true)(k:∀a b,f a b=true->P (.Name a b)):P e :=
 Expr.Name.elim (motive_1:=λe=>d4 e f=true->P e) e (bS h) (λa b h=>k a b h) h
noncomputable def vH(e:Expr)(f:List Expr->Pos->Bool):Bool:=if h:e.ctorIdx=24 then Expr.List.elim (motive_1:=λ_=>Bool) e h f else false
theorem zl{P:Expr->Prop}{e:Expr}{f:List Expr->Pos->Bool}(h:vH e f=true)(k:∀a b,f a b=true->P (.List a b)):P e :=
 Expr.List.elim (motive_1:=λe=>vH e f=true->P e) e (bS h) (λa b h=>k a b h) h
noncomputable def lZ(e:Expr)(f:List Expr->Nat->Pos->Bool):Bool:=if h:e.ctorIdx=25 then Expr.Tuple.elim (motive_1:=λ_=>Bool) e h f else false
theorem jv{P:Expr->Prop}{e:Expr}{f:List Expr->Nat->Pos->Bool}(h:lZ e f=true)(k:∀a b c,f a b c=true->P (.Tuple a b c)):P e :=
 Expr.Tuple.elim (motive_1:=λe=>lZ e f=true->P e) e (bS h) (λa b c h=>k a b c h) h
noncomputable def l0(e:Expr)(f:Option Expr->Option Expr->Option Expr->Pos->Bool):Bool:=if h:e.ctorIdx=26 then Expr.Slice.elim (motive_1:=λ_=>Bool) e h f else false
theorem nI{P:Expr->Prop}{e:Expr}{f:Option Expr->Option Expr->Option Expr->Pos->Bool}(h:l0 e f=true)(k:∀a b c d,f a b c d=true->P (.Slice a b c d)):P e :=
 Expr.Slice.elim (motive_1:=λe=>l0 e f=true->P e) e (bS h) (λa b c d h=>k a b c d h) h
noncomputable def jO(e:Stmt)(f:Option Expr->Pos->Bool):Bool:=if h:e.ctorIdx=3 then Stmt.Return.elim (motive_2:=λ_=>Bool) e h f else false
theorem lE{P:Stmt->Prop}{e:Stmt}{f:Option Expr->Pos->Bool}(h:jO e f=true)(k:∀a b,f a b=true->P (.Return a b)):P e :=
 Stmt.Return.elim (motive_2:=λe=>jO e f=true->P e) e (bS h) (λa b h=>k a b h) h
noncomputable def gk(e:Stmt)(f:List Expr->Expr->Pos->Bool):Bool:=if h:e.ctorIdx=5 then Stmt.Assign.elim (motive_2:=λ_=>Bool) e h f else false
theorem fL{P:Stmt->Prop}{e:Stmt}{f:List Expr->Expr->Pos->Bool}(h:gk e f=true)(k:∀a b c,f a b c=true->P (.Assign a b c)):P e :=
 Stmt.Assign.elim (motive_2:=λe=>gk e f=true->P e) e (bS h) (λa b c h=>k a b c h) h
noncomputable def Bx(e:Stmt)(f:Expr->Expr->List Stmt->List Stmt->Pos->Bool):Bool:=if h:e.ctorIdx=9 then Stmt.For.elim (motive_2:=λ_=>Bool) e h f else false
theorem By{P:Stmt->Prop}{e:Stmt}{f:Expr->Expr->List Stmt->List Stmt->Pos->Bool}(h:Bx e f=true)(k:∀a b c d e,f a b c d e=true->P (.For a b c d e)):P e :=
 Stmt.For.elim (motive_2:=λe=>Bx e f=true->P e) e (bS h) (λa b c d e h=>k a b c d e h) h
noncomputable def qG(e:Stmt)(f:Expr->List Stmt->List Stmt->Pos->Bool):Bool:=if h:e.ctorIdx=11 then Stmt.While.elim (motive_2:=λ_=>Bool) e h f else false
theorem vI{P:Stmt->Prop}{e:Stmt}{f:Expr->List Stmt->List Stmt->Pos->Bool}(h:qG e f=true)(k:∀a b c d,f a b c d=true->P (.While a b c d)):P e :=
 Stmt.While.elim (motive_2:=λe=>qG e f=true->P e) e (bS h) (λa b c d h=>k a b c d h) h
noncomputable def JP(e:Stmt)(f:Expr->List Stmt->List Stmt->Pos->Bool):Bool:=if h:e.ctorIdx=12 then Stmt.If.elim (motive_2:=λ_=>Bool) e h f else false
theorem E7{P:Stmt->Prop}{e:Stmt}{f:Expr->List Stmt->List Stmt->Pos->Bool}(h:JP e f=true)(k:∀a b c d,f a b c d=true->P (.If a b c d)):P e :=
 Stmt.If.elim (motive_2:=λe=>JP e f=true->P e) e (bS h) (λa b c d h=>k a b c d h) h
noncomputable def vJ(e:Stmt)(f:Expr->Pos->Bool):Bool:=if h:e.ctorIdx=24 then Stmt.Expr.elim (motive_2:=λ_=>Bool) e h f else false
theorem zm{P:Stmt->Prop}{e:Stmt}{f:Expr->Pos->Bool}(h:vJ e f=true)(k:∀a b,f a b=true->P (.Expr a b)):P e :=
 Stmt.Expr.elim (motive_2:=λe=>vJ e f=true->P e) e (bS h) (λa b h=>k a b h) h
noncomputable def vK(e:Stmt)(f:Pos->Bool):Bool:=if h:e.ctorIdx=25 then Stmt.Pass.elim (motive_2:=λ_=>Bool) e h f else false
theorem zo{P:Stmt->Prop}{e:Stmt}{f:Pos->Bool}(h:vK e f=true)(k:∀a,f a=true->P (.Pass a)):P e :=
 Stmt.Pass.elim (motive_2:=λe=>vK e f=true->P e) e (bS h) (λa h=>k a h) h
noncomputable def qH(e:Stmt)(f:Pos->Bool):Bool:=if h:e.ctorIdx=26 then Stmt.Break.elim (motive_2:=λ_=>Bool) e h f else false
theorem vL{P:Stmt->Prop}{e:Stmt}{f:Pos->Bool}(h:qH e f=true)(k:∀a,f a=true->P (.Break a)):P e :=
 Stmt.Break.elim (motive_2:=λe=>qH e f=true->P e) e (bS h) (λa h=>k a h) h
noncomputable def jw(e:Stmt)(f:Pos->Bool):Bool:=if h:e.ctorIdx=27 then Stmt.Continue.elim (motive_2:=λ_=>Bool) e h f else false
theorem oT{P:Stmt->Prop}{e:Stmt}{f:Pos->Bool}(h:jw e f=true)(k:∀a,f a=true->P (.Continue a)):P e :=
 Stmt.Continue.elim (motive_2:=λe=>jw e f=true->P e) e (bS h) (λa h=>k a h) h
def isInt(k:Int):Const->Bool
 | .int j=>k==j
 | _=>false
def E8:Const->Bool
 | .none=>true
 | _=>false
def isNone(e:Expr):Bool:=cQ e λc _ _=>E8 c
def E9:Const->Bool
 | .bool true=>true
 | _=>false
def qI(e:Expr):Bool:=cQ e λc _ _=>E9 c
def xC:BoolOp->Bool
 | .And=>true
 | .Or=>false
def Bz:UnaryOp->Bool
 | .USub=>true
 | _=>false
def Hf:UnaryOp->Bool
 | .Not=>true
 | _=>false
def fb(e:Expr):Bool:=!Nat.beq e.ctorIdx 26
noncomputable def iB(e:Expr):Bool:=[23,16,21,24,25,19,2].contains e.ctorIdx
def fw(e:Expr):Bool:=!(eM e λf as ks _=>Nat.beq f.ctorIdx 23&&as.isEmpty&&ks.isEmpty)
def aL(e:Expr):Bool:=!Nat.beq e.ctorIdx 22
noncomputable def BA:Bi->Str
 | .len => "len" | .max2 => "max" | .min2 => "min" | .tK => "int" | .list1 => "list" | .tuple1 => "tuple" | .m8 => "repr" | .uW _ => "isinstance" | .all1 => "all" | .EF => "any" | .pA => "dict" | .min1 => "min" | .EG => "max" | .m_ => "sorted"
noncomputable def BB:Me->Str
 | .append => "append" | .insert => "insert" | .reverse => "reverse" | .extend => "extend" | .remove => "remove" | .clear => "clear" | .pop => "pop"
noncomputable def cT:List Str:=["len","max","min","int","list","tuple","repr","isinstance","all","any","bool","str","dict","range","enumerate","zip","sorted"]
noncomputable def Oq:Me->Bool
 | .append=>true | .insert=>true | .reverse=>true | .extend=>false | .remove=>false | .clear=>false | .pop=>true
noncomputable def JQ:Bi->Bool
 | .all1=>false
 | .EF=>false
 | .min1=>false
 | .EG=>false
 | .uW _=>false
 | _=>true
def isStr(k:Str):Const->Bool
 | .str s=>k==s
 | _=>false
def jP:List Str->List (Option Expr)->Bool
 | [],[]=>true
 | k::ks,some e::es=>(cQ e λc _ _=>isStr k c)&&jP ks es
 | _,_=>false
noncomputable def fx(sc:Scope):List Str:=(sc.names.filter λy=>y.2 == .local||y.2 == .free||y.2 == .cell).map (·.1)
def nJ(cc:CC)(sc:Scope):List (Option Nat):=(fx sc).map λx=>if sc.names.lookup x==some .free then cc.N.findIdx? (· == x) else none
def qJ(cc:CC)(sc:Scope):CC:=⟨fx sc,sc.names,cc.fs,cc.gs⟩
def tV(cc:CC)(sc:Scope):Bool:=sc.kind == .function&&sc.names.all (λy=>y.2 != .cell||sc.names.lookup y.1==some .cell)&&sc.names.all (λy=>y.2 != .local||sc.names.lookup y.1==some .local)&&decide (fx sc).Nodup &&
 sc.names.all (λy=>y.2 != .free||(sc.names.lookup y.1==some .free&&(cc.names.lookup y.1==some .cell||cc.names.lookup y.1==some .free)))
def jQ(cc:CC):List Nat->List Expr->Bool
 | [],[]=>true
 | i::tg,e::es=>(d4 e λx _=>cc.N[i]? == some x&&(cc.names.lookup x==some .local||cc.names.lookup x==some .cell))&&jQ cc tg es
 | _,_=>false
def iZ(cc:CC)(tg:List Nat)(e:Expr):Bool:=match tg with
 | []=>false
 | [i]=>jQ cc [i] [e]
 | i::j::r=>lZ e λes _ _=>jQ cc (i::j::r) es&&decide ((i::j::r).length<20)
def fM(e:Expr):Bool:=Nat.beq e.ctorIdx 25
def dw(e:Expr):Bool:=!Nat.beq e.ctorIdx 7
noncomputable def Ut:D->Const->Bool
 | .int i,.int j=>i==j
 | .bl i,.bool j=>i==j
 | .str i,.str j=>i==j
 | .aQ,.none=>true
 | _,_=>false
noncomputable def JR:D->Const->Bool
 | .int i,.int j=>i == -j
 | _,_=>false
def BC(d:D)(e:Expr):Bool:=(cQ e λc _ _=>Ut d c)||fi e λop x _=>Bz op&&cQ x λc _ _=>JR d c
def BD:Bi->Option Ty
 | .uW t=>some t
 | _=>none
theorem vM(h:BD b=some t):b=.uW t:=by
 cases b<;>first | (cases h;rfl) | cases h
mutual
noncomputable def bI(cc:CC):C->Expr->Bool
 | .ae i,e=>d4 e λx _=>cc.N[i]? == some x&&Mm cc x&&dP x
 | .ai d,e=>BC d e
 | .bin op a b,e=>qD e λl o r _=>o==ET op&&bI cc a l&&bI cc b r
 | .cmp op a b,e=>fj e λl os rs _=>match os,rs with
  | [o],[r]=>o==Jz op && !behindInMarks o r&&(if op=.sg\/op=.eZ then isNone r else true)&&bI cc a l&&bI cc b r
  | _,_=>false
 | .chain o1 o2 a b c,e=>fj e λl os rs _=>match os,rs with
  | [p,q],[m,r]=>p==Jz o1&&q==Jz o2 && !lastMarks [p,q] [m,r] && !(decide (o1=.sg)||decide (o1=.eZ)||decide (o2=.sg)||decide (o2=.eZ))&&bI cc a l&&bI cc b m&&bI cc c r
  | _,_=>false
 | .dq cs,e=>gh e λop es _=>xC op&&cE cc cs es && !es.isEmpty
 | .gA cs,e=>gh e λop es _=>!xC op&&cE cc cs es && !es.isEmpty
 | .neg a,e=>fi e λop x _=>Hf op&&bI cc a x
 | .ite t a b,e=>qE e λc x y _=>jR cc t c&&bI cc a x&&bI cc b y
 | .tup cs,e=>lZ e λes _ _=>cE cc cs es
 | .lst cs,e=>vH e λes _=>cE cc cs es
 | .sub a b,e=>cJ e λe i _=>fb i&&bI cc a e&&bI cc b i
 | .nh a lo hi,e=>cJ e λe i _=>l0 i λl h st _=>st.isNone&&bI cc a e&&JS cc lo l&&JS cc hi h
 | .zU a k,e=>cJ e λe i _=>l0 i λl h st _=>match l,h,st with
  | none,none,some ke=>((cQ ke λc _ _=>isInt k c)||fi ke λop x _=>Bz op&&cQ x λc _ _=>isInt (-k) c)&&bI cc a e
  | _,_,_=>false
 | .call f cs,e=>eM e λfe args fc _=>d4 fe λx _=>match args,fc with
  | e::es,[]=>cc.fs[f]? == some (x,cs.length)&&glob cc x&&dP x&&cE cc cs (e::es)
  | _,_=>false
 | .bi b cs,e=>eM e λfe args fc _=>d4 fe λx _=>fc.isEmpty&&x==BA b&&glob cc x&&match BD b,args with
  | some t,[e,f]=>(d4 f λy _=>y==Str.ofString (tT t)&&glob cc y&&decide (t≠.none))&&cE cc cs [e]
  | none,e::es=>JQ b&&cE cc cs (e::es)
  | _,_=>false
 | .me m o cs,e=>eM e λfe es fc cp=>eC fe λe n ap=>fc.isEmpty&&n==BB m&&Oq m&&ap.endLine==cp.line&&fw e&&bI cc o e&&cE cc cs es&&decide (es.length<20)
 | .tq ks cs,e=>qF e λkeys vs _=>(jP ks keys&&decide ks.Nodup && !keys.isEmpty&&decide (keys.length<=15)&&cE cc cs vs&&decide (ks.length=cs.length))||(ks.isEmpty&&cs.isEmpty&&keys.isEmpty&&vs.isEmpty)
 | .ku tp cs,e=>false
 | .EI x v,e=>d4 e λy _=>y==x&&glob cc x&&dP x&&cc.gs.lookup x==some v
 | .gB ng a,e=>fj e λl os rs _=>match os,rs with
  | [o],[r]=>o==(if ng=true then CmpOp.IsNot else CmpOp.Is) && !behindInMarks o r&&qI r&&bI cc a l
  | _,_=>false
 | .kJ,e=>qF e λkeys vs _=>keys.isEmpty&&vs.isEmpty
 | .jk a b,e=>cJ e λe i _=>fb i&&bI cc a e&&bI cc b i
 | .f_ ng a b,e=>fj e λl os rs _=>match os,rs with
  | [o],[r]=>o==(if ng=true then CmpOp.NotIn else CmpOp.In) && !behindInMarks o r&&bI cc a l&&bI cc b r
  | _,_=>false
 | .cnt a b,e=>eM e λfe args fc cp=>eC fe λe n ap=>match args,fc with
  | [x],[]=>n == "count" && ap.endLine==cp.line&&fw e&&aL x&&bI cc a e&&bI cc b x
  | _,_=>false
 | .comp k dR tg cond elt c_,e=>gE e λel gens sc _=>match gens with
  | [⟨t,aK,ifs,as⟩]=>as==0&&tV cc sc&&decide (c_=nJ cc sc)&&qK cc k dR t aK&&iZ (qJ cc sc) tg t&&E_ (qJ cc sc) cond ifs&&bI (qJ cc sc) elt el
  | _=>false
noncomputable def E_(cc:CC):Option fB->List Expr->Bool
 | none,[]=>true
 | some t,[e]=>jR cc t e
 | _,_=>false
noncomputable def qK(cc:CC):SK->List C->Expr->Expr->Bool
 | .seq,[c],_,e=>dw e&&bI cc c e
 | .dm,[c],_,e=>eM e λfe args fc _=>d4 fe λx _=>match args,fc with
  | [a],[]=>x == "range" && glob cc x&&aL a&&bI cc c a
  | _,_=>false
 | .oO,[c,d],_,e=>eM e λfe args fc _=>d4 fe λx _=>match args,fc with
  | [a,b],[]=>x == "range" && glob cc x&&aL a&&aL b&&bI cc c a&&bI cc d b
  | _,_=>false
 | .enum,[c],t,e=>eM e λfe args fc _=>d4 fe λx _=>match args,fc with
  | [a],[]=>x == "enumerate" && fM t&&glob cc x&&aL a&&bI cc c a
  | _,_=>false
 | .vals,[c],_,e=>eM e λfe args fc cp=>eC fe λe n ap=>match args,fc with
  | [],[]=>n == "values" && ap.endLine==cp.line&&fw e&&bI cc c e
  | _,_=>false
 | .zip,[c,d],t,e=>eM e λfe args fc _=>d4 fe λx _=>match args,fc with
  | [a,b],[]=>x == "zip" && fM t&&glob cc x&&aL a&&aL b&&bI cc c a&&bI cc d b
  | _,_=>false
 | _,_,_,_=>false
noncomputable def jR(cc:CC):fB->Expr->Bool
 | .dq ts,e=>gh e λop es _=>xC op&&nK cc ts es && !es.isEmpty
 | .gA ts,e=>gh e λop es _=>!xC op&&nK cc ts es && !es.isEmpty
 | .neg a,e=>fi e λop x _=>Hf op&&jR cc a x
 | .val (.cmp op a b),e=>bI cc (.cmp op a b) e
 | .val (.chain o1 o2 a b c),e=>bI cc (.chain o1 o2 a b c) e
 | .val (.gB ng a),e=>bI cc (.gB ng a) e
 | .val (.f_ ng a b),e=>bI cc (.f_ ng a b) e
 | .val c,e=>iB e&&bI cc c e
noncomputable def nK(cc:CC):List fB->List Expr->Bool
 | [],[]=>true
 | c::cs,e::es=>jR cc c e&&nK cc cs es
 | _,_=>false
noncomputable def cE(cc:CC):List C->List Expr->Bool
 | [],[]=>true
 | c::cs,e::es=>aL e&&bI cc c e&&cE cc cs es
 | _,_=>false
noncomputable def JS(cc:CC):Option C->Option Expr->Bool
 | none,none=>true
 | some c,some e=>bI cc c e
 | _,_=>false
end
noncomputable def JT(X:Cx)(x:Str):NameKind->Prop
 | .local=>X.env.kindOf x=some .local
 | .cell=>X.env.kindOf x=some .cell
 | .free=>X.env.kindOf x=some .cell\/X.env.kindOf x=some .free
 | .globalImplicit=>X.env.kindOf x=some .globalImplicit
 | _=>True
def Fb(K:PySem.W.Frag)(n:Nat)(F:List D->aq->cw W):Sp:=λvs H Q _=>∃ads M ds,aO K ads H M/\aJ K ads H ds vs/\ds.length=n/\cq K ads H Q (F ds M)
structure Good (kk:Nat) (X:Cx) (cc:CC) (G:du):Prop where
 calm:X.calm=true
 room:hU kk X.A
 N:X.N=cc.N
 nd:cc.N.Nodup
 kinds:∀x k,cc.names.lookup x=some k->JT X x k
 Y3:∀x,cc.names.lookup x=some .cell->X.fn x=true
 blt:∀b∈cT,X.mg b=none
 Wb:∀(x:Str)(v:Int),cc.gs.lookup x=some v->∃t,X.mg x=some (.int v t)
 fns:∀(i:Nat)(x:Str)(n:Nat),cc.fs[i]?=some (x,n)->∃f fd ps,hV X.prog X.w X.K X.mg X.base yZ kk f fd ps (Fb X.K n (G i))/\X.mg x=some (.ref f)/\PySem.W.keepIn X.K (.ref f)=true/\Binds X.K fd ps []
section
variable {kk:Nat} {X:Cx} {cc:CC} {G:du}
theorem Good.Mm(g:Good kk X cc G){x:Str}(h:Mm cc x=true):SF X.env.scope x:=by
 unfold Ev.Mm at h;split at h
 ·rename_i q;exact .inl (g.kinds x _ q)
 ·rename_i q;exact .inr (.inl (g.kinds x _ q))
 ·rename_i q
  rcases g.kinds x _ q with z | z
  ·exact .inr (.inl z)
  ·exact .inr (.inr z)
 ·cases h
theorem Good.gl(g:Good kk X cc G){x:Str}(h:glob cc x=true):Gl X x:=by
 unfold glob at h;split at h
 ·rename_i q;exact g.kinds x _ q
 ·cases h
theorem kT{x:Str}(h:dP x=true):(x==("__debug__" : Str))=false/\(x==("__classdict__" : Str))=false/\x≠("__name__" : Str):=by
 unfold dP at h;simp only[cu,Bool.not_eq_true']at h;exact⟨h.1.1,h.1.2,λz=>by rw[z]at h;simp at h⟩
theorem eS(h:PE X e t)(f:∀σ H Q,u σ H Q->t σ H Q):PE X e u:=λaa s σ H Q I q=>h aa s σ H Q I (f σ H Q q)
theorem DH(h:PT X e t)(f:∀σ H Q,u σ H Q->t σ H Q):PT X e u:=λaa s σ H Q I q=>h aa s σ H Q I (f σ H Q q)
theorem Rf(h:PW X e t)(f:∀σ H Q,u σ H Q->t σ H Q):PW X e u:=λwh aa s σ H Q I q=>h wh aa s σ H Q I (f σ H Q q)
theorem Rg(h:PA X e t)(f:∀σ H Q,u σ H Q->t σ H Q):PA X e u:=λp aa s σ H Q I q=>h p aa s σ H Q I (f σ H Q q)
theorem bg(h:aL e=true)(es:List Expr)(env:Env):starEach (e::es) env=(false,eval e env)::starEach es env:=by
 cases e<;>first | rfl | exact absurd (show false=true from h) cH
theorem Ot(g:Good kk X cc G)(h:bI cc (.ae i) e=true):PE X e (tE X.K (ev G (.ae i))):=by
 refine bT (P:=λe=>PE X e _) h λx pos h=>?_;have h:(cc.N[i]? == some x&&Mm cc x&&dP x)=true:=h;simp only[cu,beq_iff_eq]at h;obtain⟨⟨h1,h2⟩,h3⟩:=h;obtain⟨d1,d2,_⟩:=kT h3;refine eS (HY (i:=i) (by rw[g.N];exact h1) (g.Mm h2) d1 d2) λσ H Q q=>?_;obtain⟨ads,M,ρ,s,q⟩:=q;simp only[Be]at q;split at q
 ·rename_i d e
  obtain⟨v,Um,r⟩:=s.en i d e;exact⟨v,Um,q.plain s.mem r⟩
 ·exact q.elim
theorem tW(hd:∀ads H,RD X.K ads H d v)(σ:L2.St)(H:Hp)(Q:VK)(h:tE X.K (ev G (.ai d)) σ H Q):tC v σ H Q:=by
 obtain⟨ads,M,ρ,s,q⟩:=h;exact cq.plain q s.mem (hd _ _)
theorem Ou(h:bI cc (.ai d) e=true):PE X e (tE X.K (ev G (.ai d))):=by
 replace h:BC d e=true:=h
 rcases(Bool.or_eq_true _ _).mp h with h | h
 case inr =>
  refine e9 (P:=λe=>PE X e _) h λop x pos h=>?_
  replace h:=(cu _ _).mp h
  have h0:=h.1
  replace h:=h.2
  cases op<;>first | exact absurd (show false=true from h0) cH | skip
  refine cf (P:=λx=>PE X (.UnaryOp .USub x pos) _) h λc j p h=>?_;clear h0;rcases d with _|_ | i | _|_|_|_<;>first | exact absurd (show false=true from h) cH | skip
  rcases c with _|_ | k | _|_|_|_|_<;>first | exact absurd (show false=true from h) cH | skip
  have h:i=-k:=eq_of_beq h;subst h;exact eS (G1 An p0) λσ H Q q=>⟨k,rfl,tW (λ_ _=>cP _) σ H Q q⟩
 refine cf (P:=λe=>PE X e _) h λc j pos h=>?_
 cases d with
 | int i =>
  cases c<;>first | exact absurd (show false=true from h) cH | skip
  have h:=eq_of_beq (show(i==_)=true from h);subst h;exact eS p0 (tW λ_ _=>cP _)
 | bl i =>
  cases c<;>first | exact absurd (show false=true from h) cH | skip
  have h:=eq_of_beq (show(i==_)=true from h);subst h;exact eS GW (tW λ_ _=>iX _)
 | str i =>
  cases c<;>first | exact absurd (show false=true from h) cH | skip
  have h:=eq_of_beq (show(i==_)=true from h);subst h;exact eS Ac (tW λ_ _=>vD _)
 | aQ =>
  cases c<;>first | exact absurd (show false=true from h) cH | skip
  exact eS HZ (tW λ_ _=>jt)
 | tup _=>cases h
 | ah _=>cases h
 | ls _=>cases h
theorem Ov(tX:∀e,bI cc a e=true->PE X e (tE X.K (ev G a)))(DI:∀e,bI cc b e=true->PE X e (tE X.K (ev G b)))(h:bI cc (.bin op a b) e=true):PE X e (tE X.K (ev G (.bin op a b))):=by
 refine vF (P:=λe=>PE X e _) h λl o r pos h=>?_;have h:(o==ET op&&bI cc a l&&bI cc b r)=true:=h;simp only[cu,beq_iff_eq]at h;obtain⟨⟨rfl,h1⟩,h2⟩:=h;refine eS (Nq (Jy op) (tX l h1) (DI r h2)) λσ H Q q=>?_;exact two (λm r1 r2 h=>⟨_,_,_,_,m,r1,r2,h⟩) q
theorem vN{K:PySem.W.Frag}{ads:List Addr}{H:Hp}{Q:VK}{o:cw Bool}(h:cq K ads H Q (o.bind λr M=>.ok (.d (.bl r)) M)):EV K ads H Q o:=by
 cases o with
 | ok b M=>exact λH' aB g m=>h (.bl b) H' aB g m (show RD K aB H' (.bl b) _ from iX _)
 | err _ _=>exact h
 | af=>exact h
theorem BE(hn:isNone e=true)(hb:bI cc b e=true):b=.ai .aQ:=by
 revert hb;refine cf (P:=λe=>bI cc b e=true->b=.ai .aQ) hn λc j pos hn hb=>?_;cases c<;>first | cases hn | skip
 cases b<;>first | exact absurd (show false=true from hb) cH | skip
 rename_i d
 cases d<;>first | rfl | exact absurd (show false=true from hb) cH
theorem Hg (g : Good kk X cc G) (tX : ∀ e, bI cc a e = true -> PE X e (tE X.K (ev G a))) (DI : ∀ e, bI cc b e = true -> PE X e (tE X.K (ev G b))) (h : bI cc (.cmp op a b) e = true) :
    PE X e (tE X.K (ev G (.cmp op a b)))/\PT X e (hG (tE X.K (ev G (.cmp op a b)))):=by
  refine e_ (P:=λe=>PE X e (tE X.K (ev G (.cmp op a b)))/\PT X e (hG (tE X.K (ev G (.cmp op a b))))) h λl ops rs pos h=>?_;rcases ops with _|⟨o,_|⟨o2,ops⟩⟩<;>rcases rs with _|⟨r,_|⟨r2,rs⟩⟩<;>first | exact absurd (show false=true from h) cH | skip
  have h:(o==Jz op && !behindInMarks o r&&(if op=.sg\/op=.eZ then isNone r else true)&&bI cc a l&&bI cc b r)=true:=h;simp only[cu,beq_iff_eq,Bool.not_eq_true']at h;obtain⟨⟨⟨⟨rfl,hm⟩,hn⟩,h1⟩,h2⟩:=h;have JJ:=g.room.un
  have fT:∀σ H Q,tE X.K (ev G (.cmp op a b)) σ H Q->DB (EW X.K op) (tE X.K (ev G a)) (tE X.K (ev G b)) σ H Q:=by
    intro σ H Q q;by_cases Wc:op=.sg\/op=.eZ
    · rw[if_pos Wc]at hn;have eb:=BE hn h2;subst eb;obtain⟨ads,M,ρ,s,q⟩:=q;refine dD s q λw M1 v H1 ar s1 jN q1=>⟨ar,M1,ρ,s1,?_⟩;intro vy H2 aT g2 m2 ry;have ey:=nz ry;refine⟨aT,M1,w,.d .aQ,m2,g2.rw jN,(show RD X.K aT H2 .aQ vy by rw[ey];exact jt),λ_=>ey,?_⟩;have q1:cq X.K ar H1 Q ((aY op w (.d .aQ) M1).bind λr M=>.ok (.d (.bl r)) M):=q1;exact vN (q1.shift g2 s1.mem m2)
    · exact two (λm r1 r2 h=>⟨_,_,_,_,m,r1,r2,λz=>absurd z Wc,vN h⟩) q
  exact⟨eS (lS (kS (∅) op) (tX l h1) (DI r h2) hm) fT,DH (lV (kS (∅) op) (tX l h1) (DI r h2) hm) λσ H Q q=>fT σ H _ q⟩
theorem Ow(tX:∀e,bI cc a e=true->PE X e (tE X.K (ev G a)))(h:bI cc (.neg a) e=true):PE X e (tE X.K (ev G (.neg a))):=by
 refine e9 (P:=λe=>PE X e _) h λop x pos h=>?_;obtain⟨h0,h⟩:=(cu _ _).mp h;cases op<;>first | exact absurd (show false=true from h0) cH | skip
 refine eS (Ie (tX x h)) λσ H Q q=>?_;obtain⟨ads,M,ρ,s,q⟩:=q;refine dD s q λw M1 v H1 ar s1 jN q1=>?_;rcases w with⟨_ | b | _|_|_|_⟩|_<;>first | exact q1.elim | skip
 exact⟨b,iW jN,cq.plain q1 s1.mem (iX _)⟩
theorem Ox(ih:∀es,cE cc cs es=true->PA X es (ES X.K (bL G cs)))(h:bI cc (.tup cs) e=true):PE X e (tE X.K (ev G (.tup cs))):=by
 refine jv (P:=λe=>PE X e _) h λes k pos h=>?_;refine eS (IF (ih es h)) λσ H Q q=>?_;obtain⟨ads,M,ρ,s,q⟩:=q;refine⟨ads,M,ρ,s,?_⟩;simp only[Bh]at q
 cases hq:bL G cs ρ M with
 | ok ds M1 =>
  rw[hq]at q;have q:cq X.K ads H Q (if ds.length<=sizeLine then .ok (.d (.tup ds)) M1 else .af):=q;intro vs H1 ar g1 m1 r1;split at q
  ·rename_i hz
   exact⟨by rw[<- r1.len];exact hz,λp hp=>(q.shift g1 s.mem m1).tuple m1 r1 hp⟩
  ·exact q.elim
 | err _ _=>rw[hq]at q;exact q
 | af=>rw[hq]at q;exact q
theorem Oy(ih:∀es,cE cc cs es=true->PA X es (ES X.K (bL G cs)))(h:bI cc (.lst cs) e=true):PE X e (tE X.K (ev G (.lst cs))):=by
 refine zl (P:=λe=>PE X e _) h λes pos h=>?_;refine eS (IG (ih es h)) λσ H Q q=>?_;obtain⟨ads,M,ρ,s,q⟩:=q;refine⟨ads,M,ρ,s,?_⟩;simp only[Bj]at q
 cases hq:bL G cs ρ M with
 | ok ds M1 =>
  rw[hq]at q;have q:cq X.K ads H Q (if ds.length<=sizeLine then .ok (.lv ds) M1 else .af):=q;intro vs H1 ar g1 m1 r1;split at q
  ·rename_i hz
   exact⟨by rw[<- r1.len];exact hz,λp hp=>(q.shift g1 s.mem m1).list m1 r1 hp⟩
  ·exact q.elim
 | err _ _=>rw[hq]at q;exact q
 | af=>rw[hq]at q;exact q
theorem qL {K : PySem.W.Frag} {ads aB : List Addr} {H H' : Hp} {w : W} {v : V} {M1 : aq} {d : D} {M2 : aq} (m : aO K ads H M) (g : aE ads aB H H') (m1 : aO K aB H' M1) (r : Jw K aB H H' w v) (e : own w M1 = .ok d M2) :
    ∃aT,aE ads aT H H'/\aO K aT H' M2/\RD K aT H' d v:=by
  cases w with
  | d x=>cases e;exact⟨aB,g,m1,r⟩
  | lv ds =>
    cases e;obtain⟨a,xs,rfl,h0,h1,n,r⟩:=r;refine⟨aB++[a],⟨?_,λb hb nb=>?_,g.kept,g.gx,g.ef⟩,m1.push n ⟨xs,h1,r⟩,?_⟩
    · obtain⟨t,e⟩:=g.pre;exact⟨t++[a],by rw[e,List.append_assoc]⟩
    · rcases fk.mp hb with z | z
      · exact g.new b z nb
      · have:b=a:=by simpa using z
        subst this;exact h0
    · unfold RD;exact⟨a,rfl,by rw[List.getElem?_append_right (by rw[m1.len];exact bJ _)];simp[m1.len]⟩
theorem Oz:PA X [] (ES X.K (bL G [])):=Rg jf λσ H Q q=>by
 obtain⟨ads,M,ρ,s,q⟩:=q;exact q [] H ads (aE.refl _ _) s.mem (by unfold aJ;rfl)
theorem JU(hs:aL e=true)(ha:PE X e (tE X.K (ev G c)))(hr:PA X es (ES X.K (bL G cs))):PA X (e::es) (ES X.K (bL G (c::cs))):=by
 refine Rg (eh ha hr (bg hs es X.env)) λσ H Q q=>?_;obtain⟨ads,M,ρ,s,q⟩:=q;refine⟨ads,M,ρ,s,?_⟩;simp only[gc,fh]at q
 cases hq:ev G c ρ M with
 | ok w M1 =>
  rw[hq]at q;intro v H1 ar g1 m1 r1
  cases ho:own w M1 with
  | ok d M2 =>
   have q:tP X.K ads H Q ((own w M1).bind λd M=>(bL G cs ρ M).bind λds M=>.ok (d::ds) M):=q;rw[ho]at q;obtain⟨aT,g2,m2,rd⟩:=qL s.mem g1 m1 r1 ho;refine⟨aT,M2,ρ,s.grow g2 m2,?_⟩;have q:tP X.K ads H Q ((bL G cs ρ M2).bind λds M=>.ok (d::ds) M):=q
   cases BF:bL G cs ρ M2 with
   | ok ds M3 =>
    rw[BF]at q;intro vs H3 d5 g3 m3 r3;refine q (v::vs) H3 d5 (g2.trans g3) m3 ?_;unfold aJ;exact⟨v,vs,rfl,g3.rd _ _ rd,r3⟩
   | err _ _=>rw[BF]at q;exact q
   | af=>rw[BF]at q;exact q
  | err _ _=>cases w<;>cases ho
  | af=>cases w<;>cases ho
 | err _ _=>rw[hq]at q;exact q
 | af=>rw[hq]at q;exact q
end
section
variable {kk:Nat} {X:Cx} {cc:CC} {G:du}
theorem xD (g : Good kk X cc G) (tX : ∀ e, bI cc a e = true -> PE X e (tE X.K (ev G a))) (DI : ∀ e, bI cc b e = true -> PE X e (tE X.K (ev G b))) (Rh : ∀ e, bI cc c e = true -> PE X e (tE X.K (ev G c)))
    (h:bI cc (.chain o1 o2 a b c) e=true):PE X e (tE X.K (ev G (.chain o1 o2 a b c)))/\PT X e (hG (tE X.K (ev G (.chain o1 o2 a b c)))):=by
  refine e_ (P:=λe=>PE X e (tE X.K (ev G (.chain o1 o2 a b c)))/\PT X e (hG (tE X.K (ev G (.chain o1 o2 a b c))))) h λl ops rs pos h=>?_;rcases ops with _|⟨p,_|⟨q,_|⟨_,ops⟩⟩⟩<;>rcases rs with _|⟨m,_|⟨r,_|⟨_,rs⟩⟩⟩<;>first | exact absurd (show false=true from h) cH | skip
  have h:(p==Jz o1&&q==Jz o2 && !lastMarks [p,q] [m,r] && !(decide (o1=.sg)||decide (o1=.eZ)||decide (o2=.sg)||decide (o2=.eZ))&&bI cc a l&&bI cc b m&&bI cc c r)=true:=h;simp only[cu,beq_iff_eq,Bool.not_eq_true',Bool.or_eq_false_iff,decide_eq_false_iff_not]at h;obtain⟨⟨⟨⟨⟨⟨rfl,rfl⟩,hm⟩,⟨⟨⟨n1,n2⟩,n3⟩,n4⟩⟩,h1⟩,h2⟩,h3⟩:=h;have JJ:=g.room.un
  have fT:∀σ H Q,tE X.K (ev G (.chain o1 o2 a b c)) σ H Q->u9 (EW X.K o1) (EW X.K o2) (tE X.K (ev G a)) (tE X.K (ev G b)) (tE X.K (ev G c)) σ H Q:=by
    intro σ H Q q;obtain⟨ads,M,ρ,s,q⟩:=q;refine dD s q λx M1 v H1 ar s1 rx q1=>?_;refine⟨ar,M1,ρ,s1,?_⟩
    cases hq:ev G b ρ M1 with
    | ok y M2 =>
      rw[hq]at q1;intro vy H2 aT g2 m2 ry;have q2:cq X.K ar H1 Q ((aY o1 x y M2).bind λr M=>if r then (ev G c ρ M).bind λz M=>(aY o2 y z M).bind λr M=>.ok (.d (.bl r)) M else .ok (.d (.bl false)) M):=q1;have s2:=s1.grow g2 m2;refine⟨aT,M2,x,y,m2,g2.rw rx,ry.rw,λz=>absurd z (by simp[n1,n2]),?_⟩
      cases hc:aY o1 x y M2 with
      | ok k M3 =>
        rw[hc]at q2;intro H3 d5 g3 m3;have s3:=s2.grow g3 m3;have Y4:=g3.rw ry.rw;refine⟨k,rfl,?_⟩;have q3:cq X.K d5 H3 Q (if k then (ev G c ρ M3).bind λz M=>(aY o2 y z M).bind λr M=>.ok (.d (.bl r)) M else .ok (.d (.bl false)) M3):=cq.shift q2 (g2.trans g3) s1.mem m3
        cases k with
        | false=>rw[if_neg (by simp)]at q3⊢;exact cq.plain q3 m3 (iX _)
        | true =>
          rw[if_pos rfl]at q3⊢;refine⟨d5,M3,ρ,s3,?_⟩
          cases hz:ev G c ρ M3 with
          | ok z M4 =>
            rw[hz]at q3;intro vz H4 zp g4 m4 rz;exact⟨zp,M4,y,z,m4,g4.rw Y4,rz.rw,λw=>absurd w (by simp[n3,n4]),vN (cq.shift (o:=(aY o2 y z M4).bind λr M=>.ok (.d (.bl r)) M) q3 g4 m3 m4)⟩
          | err _ _=>rw[hz]at q3;exact q3
          | af=>rw[hz]at q3;exact q3
      | err _ _=>rw[hc]at q2;exact q2
      | af=>rw[hc]at q2;exact q2
    | err _ _=>rw[hq]at q1;exact q1
    | af=>rw[hq]at q1;exact q1
  exact⟨eS (Ao (kS (∅) o1) (kS (∅) o2) (tX l h1) (DI m h2) (Rh r h3) hm) fT,DH (Ap (kS (∅) o1) (kS (∅) o2) (tX l h1) (DI m h2) (Rh r h3) hm) λσ H Q q=>fT σ H _ q⟩
theorem zq{P:Expr->Prop}{e:Expr}(h:qI e=true)(k:∀j p,P (.Constant (.bool true) j p)):P e:=cf (P:=P) h λc j p h=>by
 rcases c with _ | b | _|_|_|_|_|_<;>first | exact absurd (show false=true from h) cH | skip
 cases b with
 | true=>exact k j p
 | false=>exact absurd (show false=true from h) cH
theorem tY(q:tE X.K (ev G (.gB ng a)) σ H Q):DB (λx y H Q=>∃b c,x=.bl b/\y=.bl c/\Q (.bl (ng != (b==c))) H) (tE X.K (ev G a)) (tC (.bl true)) σ H Q:=by
 obtain⟨ads,M,ρ,s,q⟩:=q;refine dD s q λw M1 v H1 ar s1 jN q1=>?_;rcases w with⟨_ | b | _|_|_|_|_⟩|_<;>first | exact q1.elim | skip
 refine⟨b,true,iW jN,rfl,?_⟩;rw[show(b==true)=b from by cases b<;>rfl];exact cq.plain q1 s1.mem (iX _)
theorem BG {ng : Bool} {a : C} {e : Expr} (tX : ∀ e, bI cc a e = true -> PE X e (tE X.K (ev G a))) (h : bI cc (.gB ng a) e = true) :
    PE X e (tE X.K (ev G (.gB ng a)))/\PT X e (hG (tE X.K (ev G (.gB ng a)))):=by
  refine e_ (P:=λe=>PE X e (tE X.K (ev G (.gB ng a)))/\PT X e (hG (tE X.K (ev G (.gB ng a))))) h λl ops rs pos h=>?_;rcases ops with _|⟨o,_|⟨o2,ops⟩⟩<;>rcases rs with _|⟨r,_|⟨r2,rs⟩⟩<;>first | exact absurd (show false=true from h) cH | skip
  have h:(o==(if ng=true then CmpOp.IsNot else CmpOp.Is) && !behindInMarks o r&&qI r&&bI cc a l)=true:=h;simp only[cu,beq_iff_eq,Bool.not_eq_true']at h;obtain⟨⟨⟨ho,hm⟩,hr⟩,h1⟩:=h;have pc:PE X r (tC (.bl true)):=zq (P:=λr=>PE X r (tC (.bl true))) hr λj p=>GW
  cases ng with
  | true =>
    have ho:o=.IsNot:=ho;subst ho
    have fT:∀σ H Q,tE X.K (ev G (.gB true a)) σ H Q->DB (λx y H Q=>∃b c,x=.bl b/\y=.bl c/\Q (.bl (!(b==c))) H) (tE X.K (ev G a)) (tC (.bl true)) σ H Q:=λσ H Q q=>by
      have:=tY q;simp only[Bool.true_bne]at this;exact this
    exact⟨eS (lS xl (tX l h1) pc hm) fT,DH (lV xl (tX l h1) pc hm) λσ H Q q=>fT σ H _ q⟩
  | false =>
    have ho:o=.Is:=ho;subst ho
    have fT:∀σ H Q,tE X.K (ev G (.gB false a)) σ H Q->DB (λx y H Q=>∃b c,x=.bl b/\y=.bl c/\Q (.bl (b==c)) H) (tE X.K (ev G a)) (tC (.bl true)) σ H Q:=λσ H Q q=>by
      have:=tY q;simp only[Bool.false_bne]at this;exact this
    exact⟨eS (lS A_ (tX l h1) pc hm) fT,DH (lV A_ (tX l h1) pc hm) λσ H Q q=>fT σ H _ q⟩
theorem Fc(ρ:En)(M:aq)(w:W)(M':aq)(h:ev G (.gB ng a) ρ M=.ok w M'):∃k,w=.d (.bl k):=by
 simp only[xr]at h
 cases h1:ev G a ρ M with
 | ok x M1 =>
  rw[h1]at h;rcases x with⟨_ | b | _|_|_|_|_⟩|_<;>first | cases h | skip
  exact⟨_,rfl⟩
 | err _ _=>rw[h1]at h;cases h
 | af=>rw[h1]at h;cases h
def OA(K:PySem.W.Frag)(ng:Bool):R2:=λx y H Q=>∃ads M wx wy,aO K ads H M/\RW K ads H wx x/\RW K ads H wy y/\cq K ads H Q (iU ng wx wy M)
theorem BH(hu:X.A.units+1<cLine)(ng:Bool):iL X (compareOp (if ng=true then CmpOp.NotIn else CmpOp.In)) (OA X.K ng):=by
 intro aa s σ H x y v u Q I rx ry h;obtain⟨ads,M,wx,wy,m,r1,r2,h⟩:=h;unfold iU at h;split at h
 ·rename_i k ag qk qd
  obtain⟨b,rfl,hb⟩:=qC r1 qk;obtain⟨a,ks,rfl,ha,rk⟩:=He m r2 qd;cases rx;cases ry;obtain⟨o,g,eo⟩:=JN ha hb rk
  cases ng with
  | true =>
   rw[Bool.true_bne]at h;refine w8 hu I g rfl λs' I'=>⟨.bl _,H,I',rfl,?_⟩;rw[eo];exact cq.plain h m (iX _)
  | false =>
   rw[Bool.false_bne]at h;refine NH hu I g rfl λs' I'=>⟨.bl _,H,I',rfl,?_⟩;rw[eo];exact cq.plain h m (iX _)
 ·exact h.elim
theorem Hh (g : Good kk X cc G) (tX : ∀ e, bI cc a e = true -> PE X e (tE X.K (ev G a))) (DI : ∀ e, bI cc b e = true -> PE X e (tE X.K (ev G b))) (h : bI cc (.f_ ng a b) e = true) :
    PE X e (tE X.K (ev G (.f_ ng a b)))/\PT X e (hG (tE X.K (ev G (.f_ ng a b)))):=by
  refine e_ (P:=λe=>PE X e (tE X.K (ev G (.f_ ng a b)))/\PT X e (hG (tE X.K (ev G (.f_ ng a b))))) h λl ops rs pos h=>?_;rcases ops with _|⟨o,_|⟨o2,ops⟩⟩<;>rcases rs with _|⟨r,_|⟨r2,rs⟩⟩<;>first | exact absurd (show false=true from h) cH | skip
  have h:(o==(if ng=true then CmpOp.NotIn else CmpOp.In) && !behindInMarks o r&&bI cc a l&&bI cc b r)=true:=h;simp only[cu,beq_iff_eq,Bool.not_eq_true']at h;obtain⟨⟨⟨rfl,hm⟩,h1⟩,h2⟩:=h;have JJ:=g.room.un;have fT:∀σ H Q,tE X.K (ev G (.f_ ng a b)) σ H Q->DB (OA X.K ng) (tE X.K (ev G a)) (tE X.K (ev G b)) σ H Q:=λσ H Q q=>two (λm r1 r2 h=>⟨_,_,_,_,m,r1,r2,h⟩) q;exact⟨eS (lS (BH (∅) ng) (tX l h1) (DI r h2) hm) fT,DH (lV (BH (∅) ng) (tX l h1) (DI r h2) hm) λσ H Q q=>fT σ H _ q⟩
theorem JV(ρ:En)(M:aq)(w:W)(M':aq)(h:ev G (.f_ ng a b) ρ M=.ok w M'):∃k,w=.d (.bl k):=by
 simp only[xq]at h
 cases h1:ev G a ρ M with
 | ok x M1 =>
  rw[h1]at h;simp only[cw.bind]at h
  cases h2:ev G b ρ M1 with
  | ok y M2 =>
   rw[h2]at h;have h:iU ng x y M2=.ok w M':=h;unfold iU at h;split at h
   ·cases h;exact⟨_,rfl⟩
   ·cases h
  | err _ _=>rw[h2]at h;cases h
  | af=>rw[h2]at h;cases h
 | err _ _=>rw[h1]at h;cases h
 | af=>rw[h1]at h;cases h
theorem Hi{op:BoolOp}:∀(cs:List C)(es:List Expr)(pos:Pos),(∀c∈cs,∀e,bI cc c e=true->PE X e (tE X.K (ev G c)))->cE cc cs es=true->es≠[]->PE X (.BoolOp .And es pos) (tE X.K (iV G cs))
 | [],[],_,_,_,h=>absurd rfl h
 | [],_::_,_,_,h,_=>by cases h
 | _::_,[],_,_,h,_=>by cases h
 | c::cs,e::es,pos,ih,h,_=>by
  have h':(aL e&&bI cc c e&&cE cc cs es)=true:=h;simp only[cu]at h';have he:=ih c List.mem_cons_self e h'.1.2
  cases es with
  | nil =>
   cases cs with
   | cons _ _=>cases h'.2
   | nil =>
    refine eS (Ad he) λσ H Q q=>?_;obtain⟨ads,M,ρ,s,q⟩:=q;refine⟨ads,M,ρ,s,?_⟩;simp only[kO,jn]at q
    cases hq:ev G c ρ M with
    | ok w M1=>rw[hq]at q;exact q
    | err _ _=>rw[hq]at q;exact q
    | af=>rw[hq]at q;exact q
  | cons e2 es =>
   cases cs with
   | nil=>cases h'.2
   | cons c2 cs =>
    have hr:=Hi (op:=op) (c2::cs) (e2::es) pos (λc hc=>ih c (ja _ hc)) h'.2 (by simp);refine eS (Ic he hr) λσ H Q q=>?_;obtain⟨ads,M,ρ,s,q⟩:=q
    have q:cq X.K ads H Q ((ev G c ρ M).bind λx M=>match c2::cs,x with
     | [],x=>.ok x M
     | _,.d (.bl true)=>iV G (c2::cs) ρ M
     | _,.d (.bl false)=>.ok (.d (.bl false)) M
     | _,_=>.af):=by unfold iV at q;exact q
    refine dD s q λw M1 v H1 ar s1 jN q1=>?_;rcases w with⟨_ | b | _|_|_|_⟩|_<;>first | exact q1.elim | skip
    refine⟨b,iW jN,?_⟩
    cases b with
    | false=>rw[if_neg (by simp)];exact cq.plain q1 s1.mem (iX _)
    | true=>rw[if_pos rfl];exact⟨ar,M1,ρ,s1,q1⟩
theorem OB:∀(cs:List C)(es:List Expr)(pos:Pos),(∀c∈cs,∀e,bI cc c e=true->PE X e (tE X.K (ev G c)))->cE cc cs es=true->es≠[]->PE X (.BoolOp .Or es pos) (tE X.K (oS G cs))
 | [],[],_,_,_,h=>absurd rfl h
 | [],_::_,_,_,h,_=>by cases h
 | _::_,[],_,_,h,_=>by cases h
 | c::cs,e::es,pos,ih,h,_=>by
  have h':(aL e&&bI cc c e&&cE cc cs es)=true:=h;simp only[cu]at h';have he:=ih c List.mem_cons_self e h'.1.2
  cases es with
  | nil =>
   cases cs with
   | cons _ _=>cases h'.2
   | nil =>
    refine eS (Ad he) λσ H Q q=>?_;obtain⟨ads,M,ρ,s,q⟩:=q;refine⟨ads,M,ρ,s,?_⟩;simp only[nk,kP]at q
    cases hq:ev G c ρ M with
    | ok w M1=>rw[hq]at q;exact q
    | err _ _=>rw[hq]at q;exact q
    | af=>rw[hq]at q;exact q
  | cons e2 es =>
   cases cs with
   | nil=>cases h'.2
   | cons c2 cs =>
    have hr:=OB (c2::cs) (e2::es) pos (λc hc=>ih c (ja _ hc)) h'.2 (by simp);refine eS (Nb he hr) λσ H Q q=>?_;obtain⟨ads,M,ρ,s,q⟩:=q
    have q:cq X.K ads H Q ((ev G c ρ M).bind λx M=>match c2::cs,x with
     | [],x=>.ok x M
     | _,.d (.bl false)=>oS G (c2::cs) ρ M
     | _,.d (.bl true)=>.ok (.d (.bl true)) M
     | _,_=>.af):=by unfold oS at q;exact q
    refine dD s q λw M1 v H1 ar s1 jN q1=>?_;rcases w with⟨_ | b | _|_|_|_⟩|_<;>first | exact q1.elim | skip
    refine⟨b,iW jN,?_⟩
    cases b with
    | true=>rw[if_pos rfl];exact cq.plain q1 s1.mem (iX _)
    | false=>rw[if_neg (by simp)];exact⟨ar,M1,ρ,s1,q1⟩
theorem qM {K : PySem.W.Frag} {ads : List Addr} {H : Hp} {M : aq} {ρ : En} {σ : L2.St} {o : En -> aq -> cw Bool} {k : Bool -> aq -> cw Bool} {Q : Bool -> Hp -> Prop} {R : Bool -> Hp -> Prop} (s : SR K ads M ρ σ H) (h : DF K ads H Q ((o ρ M).bind k))
    (hk:∀w M1 H1 ar,SR K ar M1 ρ σ H1->DF K ar H1 Q (k w M1)->R w H1):ny K o σ H R:=by
  refine⟨ads,M,ρ,s,?_⟩
  cases q:o ρ M with
  | ok w M1 =>
    rw[q]at h;have h:DF K ads H Q (k w M1):=h;exact λH1 ar g1 m1=>hk w M1 H1 ar (s.grow g1 m1) (h.shift g1)
  | err _ _=>rw[q]at h;exact h
  | af=>rw[q]at h;exact h
theorem OC(h:ny X.K (dH G (.val c)) σ H Q):tE X.K (ev G c) σ H λx H'=>∃k,Aq X.K x H' k/\Q k H':=by
 obtain⟨ads,M,ρ,s,q⟩:=h;refine⟨ads,M,ρ,s,?_⟩;simp only[qB]at q
 cases hq:ev G c ρ M with
 | ok w M1 =>
  rw[hq]at q;intro v H1 ar g1 m1 r1;have q:DF X.K ads H Q (match oP M1 w with | some r=>.ok r M1 | none=>.af):=q
  cases ht:oP M1 w with
  | none=>rw[ht]at q;exact q.elim
  | some k=>rw[ht]at q;exact⟨k,Oj m1 r1.rw ht,q H1 ar g1 m1⟩
 | err _ _=>rw[hq]at q;exact q
 | af=>rw[hq]at q;exact q
theorem Fd(h:iB e=true)(env:Env):∀mF,isTrue e env mF=(do let v <- mF;standAt e.pos;holding [v] (truthy v)):=by
 cases e<;>first | (intro _;rfl) | exact absurd (show false=true from h) cH
theorem Fe(hp:iB e=true)(he:PE X e (tE X.K (ev G c))):PT X e (ny X.K (dH G (.val c))) :=
 DH (Ar he (Fd hp X.env)) λσ H Q q=>OC q
theorem qN(hb:∀ρ M w M',ev G c ρ M=.ok w M'->∃k,w=.d (.bl k))(he:PT X e (hG (tE X.K (ev G c)))):PT X e (ny X.K (dH G (.val c))):=by
 refine DH he λσ H Q q=>?_;obtain⟨ads,M,ρ,s,q⟩:=q;refine⟨ads,M,ρ,s,?_⟩;simp only[qB]at q
 cases hq:ev G c ρ M with
 | ok w M1 =>
  rw[hq]at q;obtain⟨k,rfl⟩:=hb _ _ _ _ hq;intro v H1 ar g1 m1 r1;exact⟨k,iW r1,q H1 ar g1 m1⟩
 | err _ _=>rw[hq]at q;exact q
 | af=>rw[hq]at q;exact q
theorem JW(ρ:En)(M:aq)(w:W)(M':aq)(h:ev G (.cmp op a b) ρ M=.ok w M'):∃k,w=.d (.bl k):=by
 simp only[Bf]at h
 cases h1:ev G a ρ M with
 | ok x M1 =>
  rw[h1]at h;simp only[cw.bind]at h
  cases h2:ev G b ρ M1 with
  | ok y M2 =>
   rw[h2]at h;simp only at h
   cases h3:aY op x y M2 with
   | ok k M3=>rw[h3]at h;cases h;exact⟨k,rfl⟩
   | err _ _=>rw[h3]at h;cases h
   | af=>rw[h3]at h;cases h
  | err _ _=>rw[h2]at h;cases h
  | af=>rw[h2]at h;cases h
 | err _ _=>rw[h1]at h;cases h
 | af=>rw[h1]at h;cases h
theorem BI(ρ:En)(M:aq)(w:W)(M':aq)(h:ev G (.chain o1 o2 a b c) ρ M=.ok w M'):∃k,w=.d (.bl k):=by
 simp only[tN]at h
 cases h1:ev G a ρ M with
 | ok x M1 =>
  rw[h1]at h;simp only[cw.bind]at h
  cases h2:ev G b ρ M1 with
  | ok y M2 =>
   rw[h2]at h;simp only at h
   cases h3:aY o1 x y M2 with
   | ok k M3 =>
    rw[h3]at h;simp only at h
    cases k with
    | false=>cases h;exact⟨_,rfl⟩
    | true =>
     simp only[if_true]at h
     cases h4:ev G c ρ M3 with
     | ok z M4 =>
      rw[h4]at h;simp only at h
      cases h5:aY o2 y z M4 with
      | ok k M5=>rw[h5]at h;cases h;exact⟨k,rfl⟩
      | err _ _=>rw[h5]at h;cases h
      | af=>rw[h5]at h;cases h
     | err _ _=>rw[h4]at h;cases h
     | af=>rw[h4]at h;cases h
   | err _ _=>rw[h3]at h;cases h
   | af=>rw[h3]at h;cases h
  | err _ _=>rw[h2]at h;cases h
  | af=>rw[h2]at h;cases h
 | err _ _=>rw[h1]at h;cases h
 | af=>rw[h1]at h;cases h
theorem OD(ih:PT X e (ny X.K (dH G t))):PT X (.UnaryOp .Not e pos) (ny X.K (dH G (.neg t))):=by
 refine DH (Ib ih) λσ H Q q=>?_;obtain⟨ads,M,ρ,s,q⟩:=q;exact qM s q λw M1 H1 ar s1 q1=>q1 H1 ar (aE.refl _ _) s1.mem
theorem Hj:∀(ts:List fB)(es:List Expr)(pos:Pos),(∀t∈ts,∀e,jR cc t e=true->PT X e (ny X.K (dH G t)))->nK cc ts es=true->es≠[]->PW X (.BoolOp .And es pos) (ny X.K (fH G ts))
 | [],[],_,_,_,h=>absurd rfl h
 | [],_::_,_,_,h,_=>by cases h
 | _::_,[],_,_,h,_=>by cases h
 | c::cs,e::es,pos,ih,h,_=>by
  have h':(jR cc c e&&nK cc cs es)=true:=h;simp only[cu]at h';have he:=ih c List.mem_cons_self e h'.1
  cases es with
  | nil =>
   cases cs with
   | cons _ _=>cases h'.2
   | nil =>
    refine Rf (DS he) λσ H Q q=>?_;obtain⟨ads,M,ρ,s,q⟩:=q;refine⟨ads,M,ρ,s,?_⟩;simp only[kQ,jo]at q
    cases hq:dH G c ρ M with
    | ok w M1=>rw[hq]at q;exact q
    | err _ _=>rw[hq]at q;exact q
    | af=>rw[hq]at q;exact q
  | cons e2 es =>
   cases cs with
   | nil=>cases h'.2
   | cons c2 cs =>
    have hr:=Hj (c2::cs) (e2::es) pos (λc hc=>ih c (ja _ hc)) h'.2 (by simp);refine Rf (Ia he hr) λσ H Q q=>?_;obtain⟨ads,M,ρ,s,q⟩:=q
    have q:DF X.K ads H Q ((dH G c ρ M).bind λx M=>match c2::cs,x with
     | [],x=>.ok x M
     | _,true=>fH G (c2::cs) ρ M
     | _,false=>.ok false M):=by unfold fH at q;exact q
    refine qM s q λw M1 H1 ar s1 q1=>?_
    cases w with
    | false=>rw[if_neg (by simp)];exact q1 H1 ar (aE.refl _ _) s1.mem
    | true=>rw[if_pos rfl];exact⟨ar,M1,ρ,s1,q1⟩
theorem Hk:∀(ts:List fB)(es:List Expr)(pos:Pos),(∀t∈ts,∀e,jR cc t e=true->PT X e (ny X.K (dH G t)))->nK cc ts es=true->es≠[]->PW X (.BoolOp .Or es pos) (ny X.K (fI G ts))
 | [],[],_,_,_,h=>absurd rfl h
 | [],_::_,_,_,h,_=>by cases h
 | _::_,[],_,_,h,_=>by cases h
 | c::cs,e::es,pos,ih,h,_=>by
  have h':(jR cc c e&&nK cc cs es)=true:=h;simp only[cu]at h';have he:=ih c List.mem_cons_self e h'.1
  cases es with
  | nil =>
   cases cs with
   | cons _ _=>cases h'.2
   | nil =>
    refine Rf (H_ he) λσ H Q q=>?_;obtain⟨ads,M,ρ,s,q⟩:=q;refine⟨ads,M,ρ,s,?_⟩;simp only[kR,jq]at q
    cases hq:dH G c ρ M with
    | ok w M1=>rw[hq]at q;exact q
    | err _ _=>rw[hq]at q;exact q
    | af=>rw[hq]at q;exact q
  | cons e2 es =>
   cases cs with
   | nil=>cases h'.2
   | cons c2 cs =>
    have hr:=Hk (c2::cs) (e2::es) pos (λc hc=>ih c (ja _ hc)) h'.2 (by simp);refine Rf (MZ he hr) λσ H Q q=>?_;obtain⟨ads,M,ρ,s,q⟩:=q
    have q:DF X.K ads H Q ((dH G c ρ M).bind λx M=>match c2::cs,x with
     | [],x=>.ok x M
     | _,false=>fI G (c2::cs) ρ M
     | _,true=>.ok true M):=by unfold fI at q;exact q
    refine qM s q λw M1 H1 ar s1 q1=>?_
    cases w with
    | true=>rw[if_pos rfl];exact q1 H1 ar (aE.refl _ _) s1.mem
    | false=>rw[if_neg (by simp)];exact⟨ar,M1,ρ,s1,q1⟩
theorem OE(ht:PT X c (ny X.K (dH G t)))(ha:PE X x (tE X.K (ev G a)))(hb:PE X y (tE X.K (ev G b))):PE X (.IfExp c x y pos) (tE X.K (ev G (.ite t a b))):=by
 refine eS (Ae ht ha hb) λσ H Q q=>?_;obtain⟨ads,M,ρ,s,q⟩:=q;refine⟨ads,M,ρ,s,?_⟩;simp only[Bg]at q
 cases hq:dH G t ρ M with
 | ok w M1 =>
  rw[hq]at q;intro H1 ar g1 m1;have q:cq X.K ads H Q (if w then ev G a ρ M1 else ev G b ρ M1):=q;have q:=q.shift g1 s.mem m1
  cases w with
  | true=>rw[if_pos rfl]at q⊢;exact⟨ar,M1,ρ,s.grow g1 m1,q⟩
  | false=>rw[if_neg (by simp)]at q⊢;exact⟨ar,M1,ρ,s.grow g1 m1,q⟩
 | err _ _=>rw[hq]at q;exact q
 | af=>rw[hq]at q;exact q
end
section
variable {kk:Nat} {X:Cx} {cc:CC} {G:du}
theorem nN(h:fb b=true):xg b:=by
 intro o i;cases b<;>first | rfl | exact absurd (show false=true from h) cH
theorem OF(g:Good kk X cc G)(hs:fb i=true)(ha:PE X e (tE X.K (ev G a)))(hb:PE X i (tE X.K (ev G b))):PE X (.Subscript e i pos) (tE X.K (ev G (.sub a b))):=by
 have JJ:=g.room.un;refine eS (G5 (JA (∅)) ha hb (nN hs)) λσ H Q q=>?_;exact two (λm r1 r2 h=>⟨_,_,_,_,m,r1,r2,h⟩) q
noncomputable def Y5(K:PySem.W.Frag)(ads:List Addr)(H:Hp)(Q:Option Int->Hp->Prop):cw (Option Int)->Prop
 | .ok o M=>∀H' aB,aE ads aB H H'->aO K aB H' M->Q o H'
 | _=>False
def tO(K:PySem.W.Frag)(o:En->aq->cw (Option Int)):TO:=λσ H Q=>∃ads M ρ,SR K ads M ρ σ H/\Y5 K ads H Q (o ρ M)
theorem JX:PO X none (tO X.K (sh G none)):=λaa s σ H Q I q=>Ea aa s σ H Q I (by
 obtain⟨ads,M,ρ,s,q⟩:=q;exact q H ads (aE.refl _ _) s.mem)
theorem JY(h:PE X e (tE X.K (ev G c))):PO X (some e) (tO X.K (sh G (some c))):=λaa s σ H Q I q=>Eb h aa s σ H Q I (by
 obtain⟨ads,M,ρ,s,q⟩:=q;refine⟨ads,M,ρ,s,?_⟩;simp only[nq,nr]at q
 cases hq:ev G c ρ M with
 | ok w M1 =>
  rw[hq]at q;intro v H1 ar g1 m1 r1;rcases w with⟨_|_ | i | _|_|_⟩|_<;>first | exact q.elim | skip
  exact⟨i,aS r1,q H1 ar g1 m1⟩
 | err _ _=>rw[hq]at q;exact q
 | af=>rw[hq]at q;exact q)
theorem OG {lo hi : Option C}  {l h : Option Expr}  (ha : PE X e (tE X.K (ev G a))) (hl : PO X l (tO X.K (sh G lo))) (hh : PO X h (tO X.K (sh G hi))) :
    PE X (.Subscript e (.Slice l h none p2) pos) (tE X.K (ev G (.nh a lo hi))):=by
  refine eS (AG JB ha hl hh) λσ H Q q=>?_;obtain⟨ads,M,ρ,s,q⟩:=q;refine dD s q λw M1 v H1 ar s1 jN q1=>⟨ar,M1,ρ,s1,?_⟩
  cases hq:sh G lo ρ M1 with
  | ok o1 M2 =>
    rw[hq]at q1;have q1:cq X.K ar H1 Q ((sh G hi ρ M2).bind λh M=>kL w o1 h M):=q1;intro H2 aT g2 m2;have s2:=s1.grow g2 m2;refine⟨aT,M2,ρ,s2,?_⟩
    cases BJ:sh G hi ρ M2 with
    | ok o2 M3 =>
      rw[BJ]at q1;intro H3 d5 g3 m3;exact⟨d5,M3,w,m3,g3.rw (g2.rw jN),cq.shift (o:=kL w o1 o2 M3) q1 (g2.trans g3) s1.mem m3⟩
    | err _ _=>rw[BJ]at q1;exact q1
    | af=>rw[BJ]at q1;exact q1
  | err _ _=>rw[hq]at q1;exact q1
  | af=>rw[hq]at q1;exact q1
theorem tZ:∀(cs:List C)(ρ:En)(M:aq)(ds:List D)(M':aq),bL G cs ρ M=.ok ds M'->ds.length=cs.length
 | [],ρ,M,ds,M',h=>by cases h;rfl
 | c::cs,ρ,M,ds,M',h=>by
  simp only[gc,fh]at h
  cases h1:(ev G c ρ M).bind own with
  | ok d M1 =>
   rw[h1]at h;simp only[cw.bind]at h
   cases h2:bL G cs ρ M1 with
   | ok es M2=>rw[h2]at h;cases h;simp[tZ cs ρ M1 es _ h2]
   | err _ _=>rw[h2]at h;cases h
   | af=>rw[h2]at h;cases h
  | err _ _=>rw[h1]at h;cases h
  | af=>rw[h1]at h;cases h
theorem dI(h:cE cc cs es=true)(env:Env)(pos:Pos):(backTo pos (starEach es env)).any (·.1)=false:=by
 have:∀(cs:List C)(es:List Expr),cE cc cs es=true->(starEach es env).any (·.1)=false:=by
  intro cs
  induction cs with
  | nil=>intro es h;cases es with
   | nil=>rfl
   | cons _ _=>cases h
  | cons c cs ih =>
   intro es h
   cases es with
   | nil=>cases h
   | cons e es =>
    have h':(aL e&&bI cc c e&&cE cc cs es)=true:=h;simp only[cu]at h';rw[bg h'.1.1,List.any_cons,ih es h'.2];rfl
 have e:=this cs es h;unfold backTo;simp only[List.any_map];exact e
theorem JZ {x : Str}  (g : Good kk X cc G) (hf : cc.fs[f]? = some (x, cs.length)) (hg : glob cc x = true) (hp : dP x = true) (hc : cE cc cs (e :: es) = true)
    (ha:PA X (e::es) (ES X.K (bL G cs))):PE X (.Call (.Name x p) (e::es) [] pos) (tE X.K (ev G (.call f cs))):=by
  obtain⟨fa,fd,ps,F,hm,hk,hb⟩:=g.fns f x _ hf
  have eJ:aL e=true/\cE cc cs.tail es=true:=by
    cases cs with
    | nil=>cases hc
    | cons c cs =>
      have h':(aL e&&bI cc c e&&cE cc cs es)=true:=hc;simp only[cu]at h';exact⟨h'.1.1,h'.2⟩
  refine eS (D5 (pos:=pos) (p:=p) (E:=E0) F g.room (g.gl hg) hm hk hb .nil NT ha (kT hp).1 (bg eJ.1 es X.env) (dI eJ.2 X.env pos)) λσ H Q q=>?_;obtain⟨ads,M,ρ,s,q⟩:=q;refine⟨ads,M,ρ,s,?_⟩;simp only[xp]at q
  cases hq:bL G cs ρ M with
  | ok ds M1 =>
    rw[hq]at q;intro vs H1 ar g1 m1 r1;refine⟨ar,M1,ds,m1,?_,tZ cs ρ M ds M1 hq,cq.shift (o:=G f ds M1) q g1 s.mem m1⟩;rw[List.append_nil];exact r1
  | err _ _=>rw[hq]at q;exact q
  | af=>rw[hq]at q;exact q
def OH(K:PySem.W.Frag)(ads:List Addr)(H:Hp)(Q:List V->Hp->Prop):cw (List W)->Prop
 | .ok ws M=>∀vs H' aB,aE ads aB H H'->aO K aB H' M->EX K aB H' ws vs->Q vs H'
 | _=>False
def Mn(K:PySem.W.Frag)(o:En->aq->cw (List W)):TA:=λσ H Q=>∃ads M ρ,SR K ads M ρ σ H/\OH K ads H Q (o ρ M)
theorem Hl:PA X [] (Mn X.K (cY G [])):=Rg jf λσ H Q q=>by
 obtain⟨ads,M,ρ,s,q⟩:=q;exact q [] H ads (aE.refl _ _) s.mem rfl
theorem BK(hs:aL e=true)(ha:PE X e (tE X.K (ev G c)))(hr:PA X es (Mn X.K (cY G cs))):PA X (e::es) (Mn X.K (cY G (c::cs))):=by
 refine Rg (eh ha hr (bg hs es X.env)) λσ H Q q=>?_;obtain⟨ads,M,ρ,s,q⟩:=q;refine⟨ads,M,ρ,s,?_⟩;simp only[ie,gf]at q
 cases hq:ev G c ρ M with
 | ok w M1 =>
  rw[hq]at q;intro v H1 ar g1 m1 r1;refine⟨ar,M1,ρ,s.grow g1 m1,?_⟩;have q:OH X.K ads H Q ((cY G cs ρ M1).bind λds M=>.ok (w::ds) M):=q
  cases BF:cY G cs ρ M1 with
  | ok ds M3 =>
   rw[BF]at q;intro vs H3 d5 g3 m3 r3;exact q (v::vs) H3 d5 (g1.trans g3) m3 ⟨v,vs,rfl,g3.rw r1.rw,r3⟩
  | err _ _=>rw[BF]at q;exact q
  | af=>rw[BF]at q;exact q
 | err _ _=>rw[hq]at q;exact q
 | af=>rw[hq]at q;exact q
theorem gF(q:tE X.K (ev G (.bi b cs)) σ H Q):Te (Br X.K b) (Mn X.K (cY G cs)) σ H Q:=by
 obtain⟨ads,M,ρ,s,q⟩:=q;refine⟨ads,M,ρ,s,?_⟩;simp only[Bk]at q
 cases hq:cY G cs ρ M with
 | ok ws M1 =>
  rw[hq]at q;intro vs H1 ar g1 m1 r1;exact⟨ar,M1,ws,m1,r1,cq.shift (o:=jl b ws M1) q g1 s.mem m1⟩
 | err _ _=>rw[hq]at q;exact q
 | af=>rw[hq]at q;exact q
theorem Uu {x : Str}  (g : Good kk X cc G) (hb : JQ b = true) (hx : x = BA b) (hg : glob cc x = true)
    (hs:aL e=true) (hc:cE cc cs.tail es=true) (ha:PA X (e::es) (Mn X.K (cY G cs))):PE X (.Call (.Name x p) (e::es) [] pos) (tE X.K (ev G (.bi b cs))):=by
  have qO:=g.gl hg;have eJ:=bg hs es X.env;have qc:=dI hc X.env pos;have hm:X.mg x=none:=g.blt x (by subst hx;cases b<;>first | (show _∈cT;decide +kernel) | (exact absurd hb (by simp[JQ])));subst hx
  cases b with
  | len=>exact eS (fX JF qO hm boot_len ha (⋯) (⋯) eJ qc) λσ H Q q=>gF q
  | max2=>exact eS (fX (JG g.calm) qO hm boot_max ha (⋯) (⋯) eJ qc) λσ H Q q=>gF q
  | min2=>exact eS (fX (JH g.calm) qO hm boot_min ha (⋯) (⋯) eJ qc) λσ H Q q=>gF q
  | m8=>exact eS (fX (E1 g.room) qO hm boot_repr ha (⋯) (⋯) eJ qc) λσ H Q q=>gF q
  | tK=>exact eS (ir JI qO hm (⋯) ha (⋯) (⋯) eJ qc) λσ H Q q=>gF q
  | list1=>exact eS (ir EZ qO hm (⋯) ha (⋯) (⋯) eJ qc) λσ H Q q=>gF q
  | tuple1=>exact eS (ir Bt qO hm (⋯) ha (⋯) (⋯) eJ qc) λσ H Q q=>gF q
  | pA=>exact eS (ir (EY g.calm) qO hm (⋯) ha (⋯) (⋯) eJ qc) λσ H Q q=>gF q
  | all1=>cases hb
  | EF=>cases hb
  | uW t=>cases hb
  | m_=>exact eS (fX E4 qO hm boot_sorted ha (⋯) (⋯) eJ qc) λσ H Q q=>gF q
  | min1=>cases hb
  | EG=>cases hb
theorem Uv{y:Str}{T:String}{pos:Pos}(hg:Gl X y)(hm:X.mg y=none)(hv:bootBuiltins y=some (.type T)) (hn:y≠ "__name__") (hd:(y==("__debug__" : Str))=false):PE X (.Name y pos) (tC (.ty T)) :=
 DR hg hm hv rfl hn hd
theorem OI {t : Ty} {c : C} {x y : Str} {e : Expr} {p py pos : Pos} (g : Good kk X cc G) (hx : x = "isinstance") (Y6 : glob cc x = true) (hy : y = Str.ofString (tT t)) (Y7 : glob cc y = true) (ht : t ≠ .none)
    (hs:aL e=true) (ha:PE X e (tE X.K (ev G c))):PE X (.Call (.Name x p) [e,.Name y py] [] pos) (tE X.K (ev G (.bi (.uW t) [c]))):=by
  have Y8:X.mg x=none:=g.blt x (by subst hx;show _∈cT;decide +kernel);have Y9:X.mg y=none:=g.blt y (by subst hy;cases t<;>first | exact absurd rfl ht | (show _∈cT;decide +kernel))
  have Y_:PE X (.Name y py) (tC (.ty (tT t))):=by
    subst hy;cases t<;>first | exact absurd rfl ht | exact Uv (g.gl Y7) Y9 (⋯) (⋯) (⋯)
  have qO:=g.gl Y6;subst hx;refine eS (fX (JL t) qO Y8 boot_isinstance (eh ha (eh Y_ jf) (bg hs _ X.env)) (⋯) (⋯) (bg hs _ X.env) rfl) λσ H Q q=>?_;obtain⟨ads,M,ρ,s,q⟩:=q;refine⟨ads,M,ρ,s,?_⟩;simp only[Bk,ie,gf]at q
  cases hq:ev G c ρ M with
  | ok w M1 =>
    rw[hq]at q;intro v H1 ar g1 m1 r1;exact⟨v,rfl,ar,M1,[w],m1,⟨v,[],rfl,r1.rw,rfl⟩,cq.shift (o:=jl (.uW t) [w] M1) q g1 s.mem m1⟩
  | err _ _=>rw[hq]at q;exact q
  | af=>rw[hq]at q;exact q
section
variable {prog:Program} {w:World} {A:Around} {E:Value->Shared->Prop} {s:Shared}
theorem qP (hs : s.heap.IsSliceOf sl .none .none (.int k u)) (hk : k ≠ 0)
    (h:Q ((Builtin.Slice.sliceAdjust none none k (n:Int)).1,k,Builtin.Slice.slicePlaces (Builtin.Slice.sliceAdjust none none k (n:Int)).1 (Builtin.Slice.sliceAdjust none none k (n:Int)).2 k) s):wpAny (model prog w) A (Builtin.Slice.sliceApplied (.ref sl) (pure (n:Int))) Q E s:=by
  obtain⟨os,AE,NK,D9⟩:=id hs;unfold Builtin.Slice.sliceApplied Builtin.Slice.sliceFields;refine wpAny_bind (wpAny_bind (wpAny_field AE D9 (x:=.none) rfl (wpAny_bind (wpAny_field AE D9 (x:=.none) rfl (wpAny_bind (wpAny_field AE D9 (x:=.int k u) rfl (wpAny_pure ?_)))))));refine wpAny_bind (slicePart_int ?_);show wpAny _ _ (if (k==0)=true then _ else _) _ _ s;rw[if_neg (by simpa using hk)];refine wpAny_bind (slicePart_none (wpAny_bind (slicePart_none (wpAny_bind (wpAny_pure ?_)))));exact wpAny_pure h
theorem qQ (ht : IsTup s.heap t aC.toArray) (hs : s.heap.IsSliceOf sl .none .none (.int k u)) (hk : k ≠ 0) (Za : k ≠ 1) (hsz : (dO aC k).length <= sizeLine)
    (h:Q (.ref s.heap.objs.size) { s with heap:=s.heap.push { cls:=.type "tuple",data:=.seq (dO aC k).toArray } }):wpAny (model prog w) A (getItem (.ref t) (.ref sl)) Q E s:=by
  have Ri:sizeOk (.seq (dO aC k).toArray):=by
    show(dO aC k).toArray.size<=sizeLine;rw[iq];exact hsz
  obtain⟨os,AE,NK,D9⟩:=id hs;have Tg:s.TypeIs (.ref sl) "slice" := ⟨os,AE,NK⟩;unfold getItem
  try with_reducible refine wpAny_holding ?_
  first | refine wpAny_bind (wpAny_pure ?_) | skip
  refine wpAny_bind (wpAny_sequenceKey ht.typeIs (by decide) ?_)
  refine wpAny_bind (wpAny_callSpecial?_slot (name:=Str.ofString "__getitem__") ht.typeIs PyProof.Rows.slot_tuple_getitem
    (wpAny_call_entry PyProof.Rows.slot_tuple_getitem ht.typeIs entry_tuple_getitem ?_ (args_tuple_getitem _ _)))
  show wpAny _ _ (Builtin.Tuple.tupleItemsOf (.ref t) >>= _) _ _ s;refine wpAny_bind (tupleItemsOf_ ht ?_);refine wpAny_bind (wpAny_typeOf Tg ?_);rw[if_pos (by decide)];refine wpAny_bind (qP hs hk ?_)
  have Mb:∀(a b:Bool),¬((a&&(k==(1:Int))&&b)=true):=by
    intro a b z;have:(k==(1:Int))=false:=beq_eq_false_iff_ne.mpr Za;rw[this]at z;simp at z
  dsimp only;rw[if_neg (Mb _ _)];have e:∀(f:Nat->Nat)(l:List Nat),(l.filterMap λj=>aC.toArray[f j]?)=l.filterMap λj=>aC[f j]?:=λf l=>by simp
  rw[e];have hl:(aC.toArray.size:Int)=(aC.length:Int):=by simp
  rw[hl]
  first
    | exact wpAny_bind (m:=Builtin.Tuple.tupleExact _) (wpAny_newObj_type (wpAny_pure ⟨_,rfl,wpAny_pure h⟩) Ri)
    | exact wpAny_bind (m:=Builtin.Tuple.tupleExact _) (wpAny_newObj_type (wpAny_bind (wpAny_pure (wpAny_pure ⟨_,rfl,wpAny_pure h⟩))) Ri)
    | exact wpAny_bind (wpAny_bind (m:=Builtin.Tuple.tupleExact _) (wpAny_newObj_type (wpAny_pure (wpAny_pure ⟨_,rfl,wpAny_pure h⟩)) Ri))
    | exact wpAny_bind (wpAny_bind (m:=Builtin.Tuple.tupleExact _) (wpAny_newObj_type (wpAny_pure ⟨_,rfl,wpAny_pure h⟩) Ri))
end
theorem l_{K:PySem.W.Frag}{ads:List Addr}{H:Hp}{ds:List D}{xs:List V}(r:aJ K ads H ds xs)(f:Nat->Nat):∀js:List Nat,aJ K ads H (js.filterMap λj=>ds[f j]?) (js.filterMap λj=>xs[f j]?)
 | []=>by simp;unfold aJ;rfl
 | j::js=>by
  cases q:ds[f j]? with
  | none =>
   have:xs[f j]?=none:=by rw[List.getElem?_eq_none_iff]at q⊢;rw[<- r.len];exact q
   simp only[List.filterMap_cons,q,this];exact l_ r f js
  | some d =>
   obtain⟨v,e,rv⟩:=r.get q;simp only[List.filterMap_cons,q,e];unfold aJ;exact⟨_,_,rfl,rv,l_ r f js⟩
theorem iC(r:aN xs us)(f:Nat->Nat):∀js:List Nat,aN (js.filterMap λj=>xs[f j]?) (js.filterMap λj=>us[f j]?)
 | []=>.nil
 | j::js=>by
  cases q:xs[f j]? with
  | none =>
   have:us[f j]?=none:=by rw[List.getElem?_eq_none_iff]at q⊢;rw[<- r.length];exact q
   simp only[List.filterMap_cons,q,this];exact iC r f js
  | some d =>
   obtain⟨v,e,rv⟩:=r.get q;simp only[List.filterMap_cons,q,e];exact .cons rv (iC r f js)
theorem OJ{a:C}{k:Int}{e ke:Expr}{pos p2:Pos}(Zb:PE X ke (tC (.int k)))(ha:PE X e (tE X.K (ev G a))):PE X (.Subscript e (.Slice none none (some ke) p2) pos) (tE X.K (ev G (.zU a k))):=by
 intro aa s σ H Q I h;obtain⟨ads,M,ρ,sr,q⟩:=h
 have h1:tE X.K (ev G a) σ H (λx H1=>∃ar M1 w,aO X.K ar H1 M1/\RW X.K ar H1 w x/\cq X.K ar H1 Q (kM w k M1)):=by
  refine dD sr q λw M1 v H1 ar s1 jN q1=>⟨ar,M1,w,s1.mem,jN,q1⟩
 refine Subscript_ (cv (ha aa s σ H _ I h1) ?_);rintro v s1 ⟨x,H1,I1,r1,ar,M1,w,m1,jN,q1⟩;rcases w with⟨_|_|_|_ | ds | _|_⟩|_<;>first | exact q1.elim | skip
 have jN:RD X.K ar H1 (.tup ds) x:=jN;unfold RD at jN;obtain⟨p,xs,rfl,hp,rd⟩:=jN;cases r1;simp only[kM]at q1;split at q1
 ·rename_i hk
  refine wpAny_Slice ?_;rw[evalPart_none];refine wpAny_pure ?_;refine wpAny_pure ?_;rw[evalPart_some];refine cv (Zb aa s1 σ H1 (λz H'=>z=.int k/\H1=H') I1 ⟨rfl,rfl⟩) ?_;rintro u s2 ⟨z,H2,I2,rz,rfl,rfl⟩;obtain⟨t,rfl⟩:=rz;have I3:Inv X aa σ H1 { s2 with heap:=s2.heap.push { cls:=.type "slice",data:=.fields #[.none,.none,.int k t] } }:=I2.kept (t':=s2.toks) λb ob q=>ee _ q;obtain⟨aC,rv,ht,hz⟩:=I3.tuple (fz.of (K:=X.K) hp)
  have aR:(dO aC k).length=(dO ds k).length:=by
   have e1:aC.length=xs.length:=rv.length.symm;have e2:xs.length=ds.length:=rd.len.symm;have r1:=(l_ rd (λ(j:Nat)=>((Builtin.Slice.sliceAdjust none none k (ds.length:Int)).1+(j:Int)*k).toNat) (List.range (Builtin.Slice.slicePlaces (Builtin.Slice.sliceAdjust none none k (ds.length:Int)).1 (Builtin.Slice.sliceAdjust none none k (ds.length:Int)).2 k))).len;have r2:=(iC rv (λ(j:Nat)=>((Builtin.Slice.sliceAdjust none none k (ds.length:Int)).1+(j:Int)*k).toNat) (List.range (Builtin.Slice.slicePlaces (Builtin.Slice.sliceAdjust none none k (ds.length:Int)).1 (Builtin.Slice.sliceAdjust none none k (ds.length:Int)).2 k))).length;unfold dO;rw[e1,e2,<- r2,<- r1]
  have Zc:aJ X.K ar H1 (dO ds k) (dO xs k):=by
   unfold dO;rw[<- rd.len];exact l_ rd _ _
  have Rc:aN (dO xs k) (dO aC k):=by
   unfold dO;rw[<- rv.length];exact iC rv _ _
  have vO:({ s2 with heap:=s2.heap.push { cls:=.type "slice",data:=.fields #[.none,.none,.int k t] } }:Shared).heap.IsSliceOf s2.heap.objs.size .none .none (.int k t):=Heap.IsSliceOf.new ..;show wpAny (model X.prog X.w) X.A (subscriptTail e (.Slice none none (some ke) p2) (.ref p) (.ref s2.heap.objs.size)) (EP X aa σ Q) X.xe { s2 with heap:=s2.heap.push { cls:=.type "slice",data:=.fields #[.none,.none,.int k t] } };refine tail_any (ops:=[.ref p,.ref s2.heap.objs.size]) ht.typeIs PyProof.Rows.slot_tuple_getitem.lookup (qQ ht vO (by rcases hk.1 with z | z<;>rw[z]<;>decide) (by rcases hk.1 with z | z<;>rw[z]<;>decide) (by rw[aR];exact hk.2) ?_) (by with_unfolding_all rfl);refine⟨.ref _,_,I3.laid (t':=s2.toks) (o:=.tup (dO xs k)) (λb ob q=>ee _ q) (bJ _) ?_,rfl,q1.tuple m1 Zc (I3.bF.fresh (bJ _))⟩;exact⟨by rw[Rc.length,aR];exact hk.2,_,Rc,IsTup.new _ _⟩
 ·exact q1.elim
theorem iu(h:fw e=true)(n:Str)(env:Env)(wh:Sem Value):attributeBase e n env wh=wh:=by
 cases e<;>first | rfl | skip
 rename_i f args fc pos
 cases f<;>first | rfl | skip
 cases args<;>first | rfl | skip
 cases fc<;>first | rfl | exact absurd (show false=true from h) cH
theorem qR{m:Me}{o:C}{cs:List C}{σ:L2.St}{H:Hp}{Q:VK}(q:tE X.K (ev G (.me m o cs)) σ H Q):VY X.K "list" (Ml X.K m) (tE X.K (ev G o)) (ES X.K (bL G cs)) σ H Q:=by
 obtain⟨ads,M,ρ,s,q⟩:=q;have q:cq X.K ads H Q ((ev G o ρ M).bind λx M=>if (dr M x).isSome then (bL G cs ρ M).bind λds M=>oQ m x ds M else .af):=by simp only[Bl]at q;exact q
 refine dD s q λw M1 v H1 ar s1 jN q1=>?_;split at q1
 ·rename_i hs
  obtain⟨es,he⟩:=Option.isSome_iff_exists.mp hs;obtain⟨a,xs,rfl,rd,ha⟩:=jr s1.mem jN he;refine⟨.inl ⟨rfl,xs,eG.of ha⟩,ar,M1,ρ,s1,?_⟩
  cases hq:bL G cs ρ M1 with
  | ok ds M2 =>
   rw[hq]at q1;intro vs H2 aT g2 m2 r2;exact⟨aT,M2,w,ds,m2,g2.rw jN,r2,cq.shift (o:=oQ m w ds M2) q1 g2 s1.mem m2⟩
  | err _ _=>rw[hq]at q1;exact q1
  | af=>rw[hq]at q1;exact q1
 ·exact q1.elim
theorem ma{m:Me}{o:C}{σ:L2.St}{H:Hp}{Q:VK}(q:tE X.K (ev G (.me m o [])) σ H Q):NO X.K "list" (Ml X.K m) (tE X.K (ev G o)) σ H Q:=by
 obtain⟨ads,M,ρ,s,q⟩:=q;have q:cq X.K ads H Q ((ev G o ρ M).bind λx M=>if (dr M x).isSome then (bL G [] ρ M).bind λds M=>oQ m x ds M else .af):=by simp only[Bl]at q;exact q
 refine dD s q λw M1 v H1 ar s1 jN q1=>?_;split at q1
 ·rename_i hs
  obtain⟨es,he⟩:=Option.isSome_iff_exists.mp hs;obtain⟨a,xs,rfl,rd,ha⟩:=jr s1.mem jN he;exact⟨.inl ⟨rfl,xs,eG.of ha⟩,ar,M1,w,[],s1.mem,jN,(by unfold aJ;rfl),q1⟩
 ·exact q1.elim
theorem BL (h : cE cc cs es = true) (hl : es.length < 20) (env : Env) (eX : Pos) :
    ((backTo eX (starEach es env)).all (λx=>!x.1)&&(backToKw eX (keywordEach [] env)).all (λx=>x.1.isSome)&&decide (es.length+([]:List Keyword).length+(if ([]:List Keyword).isEmpty then 0 else 1)<30))=true:=by
  have h1:=dI h env eX
  have h2:(backTo eX (starEach es env)).all (λx=>!x.1)=true:=by
    rw[List.all_eq_true];intro x hx;rw[List.any_eq_false]at h1;have:=h1 x hx;simpa using this
  rw[h2];simp[keywordEach,backToKw];omega
theorem Uw {n : Str}  (hn : n = BB m) (hm : Oq m = true) (hl : (ap.endLine == cp.line) = true) (h0 : fw e = true) (hc : cE cc cs es = true) (aR : es.length < 20)
    (ho:PE X e (tE X.K (ev G o))) (ha:PA X es (ES X.K (bL G cs))):PE X (.Call (.Attribute e n ap) es [] cp) (tE X.K (ev G (.me m o cs))):=by
  have hb:=iu h0 n X.env (eval e X.env);subst hn
  cases es with
  | nil =>
    cases cs with
    | cons _ _=>cases hc
    | nil =>
      cases m with
      | append=>exact eS (qr F.plainAttrs_list F.slot_list_append F.type_list_append pB ho hb hl) λσ H Q q=>ma q
      | insert=>exact eS (qr F.plainAttrs_list F.slot_list_insert F.type_list_insert pC ho hb hl) λσ H Q q=>ma q
      | reverse=>exact eS (qr F.plainAttrs_list F.slot_list_reverse F.type_list_reverse nG ho hb hl) λσ H Q q=>ma q
      | extend=>cases hm
      | remove=>cases hm
      | pop=>exact eS (qr F.plainAttrs_list F.slot_list_pop F.type_list_pop Bu ho hb hl) λσ H Q q=>ma q
      | clear=>cases hm
  | cons e1 es =>
    have eJ:aL e1=true/\cE cc cs.tail es=true:=by
      cases cs with
      | nil=>cases hc
      | cons c cs =>
        have h':(aL e1&&bI cc c e1&&cE cc cs es)=true:=hc;simp only[cu]at h';exact⟨h'.1.1,h'.2⟩
    have mQ:=BL hc aR X.env cp
    cases m with
    | append=>exact eS (sT F.plainAttrs_list F.slot_list_append F.type_list_append pB ho ha hb mQ hl (bg eJ.1 es X.env) (dI eJ.2 X.env cp)) λσ H Q q=>qR q
    | insert=>exact eS (sT F.plainAttrs_list F.slot_list_insert F.type_list_insert pC ho ha hb mQ hl (bg eJ.1 es X.env) (dI eJ.2 X.env cp)) λσ H Q q=>qR q
    | reverse=>exact eS (sT F.plainAttrs_list F.slot_list_reverse F.type_list_reverse nG ho ha hb mQ hl (bg eJ.1 es X.env) (dI eJ.2 X.env cp)) λσ H Q q=>qR q
    | extend=>cases hm
    | remove=>cases hm
    | pop=>exact eS (sT F.plainAttrs_list F.slot_list_pop F.type_list_pop Bu ho ha hb mQ hl (bg eJ.1 es X.env) (dI eJ.2 X.env cp)) λσ H Q q=>qR q
    | clear=>cases hm
theorem OK{x:Str}(g:Good kk X cc G)(hg:glob cc x=true)(hp:dP x=true)(hl:cc.gs.lookup x=some v):PE X (.Name x pos) (tE X.K (ev G (.EI x v))):=by
 obtain⟨t,ht⟩:=g.Wb x v hl;refine eS (DQ (v:=.int v) (g.gl hg) ht ⟨t,rfl⟩ (kT hp).1) λσ H Q q=>?_;obtain⟨ads,M,ρ,s,q⟩:=q;exact cq.plain q s.mem (cP _)
def OL(K:PySem.W.Frag):R2:=λx y H Q=>∃ads M wx wy,aO K ads H M/\RW K ads H wx x/\RW K ads H wy y/\cq K ads H Q (lD wx wy M)
theorem J0(hu:X.A.units+1<cLine):Mc X (OL X.K):=by
 intro value iQ aa s σ H x y v u Q I rx ry h hs;obtain⟨ads,M,wx,wy,m,r1,r2,h⟩:=h;unfold lD at h;split at h
 ·rename_i ag k qd qk
  split at h
  ·rename_i d q
   obtain⟨b,rfl,hb⟩:=qC r2 qk;obtain⟨a,ks,rfl,ha,rk⟩:=He m r1 qd;obtain⟨z,e2,rz⟩:=rk.find (k:=k) q;cases rx;have g:jg H a (.ref b) (some z):=by have:=Bw ha hb;rw[e2]at this;exact this
   exact tail_any (ia I g) F.slot_dict_getitem.lookup (kE hu I g ry λw' s' I' vf=>⟨z,H,I',vf,h.plain m rz⟩) hs
  ·exact h.elim
 ·exact h.elim
theorem J1(g:Good kk X cc G)(hs:fb i=true)(ha:PE X e (tE X.K (ev G a)))(hb:PE X i (tE X.K (ev G b))):PE X (.Subscript e i pos) (tE X.K (ev G (.jk a b))):=by
 have JJ:=g.room.un;exact eS (G5 (J0 (∅)) ha hb (nN hs)) λσ H Q q=>two (λm r1 r2 h=>⟨_,_,_,_,m,r1,r2,h⟩) q
theorem OM {a b : C} {e x : Expr} {n : Str} {ap cp : Pos} (hn : n = "count") (hl : (ap.endLine == cp.line) = true) (h0 : fw e = true) (hx : aL x = true) (Zd : bI cc b x = true)
    (ho:PE X e (tE X.K (ev G a))) (hb:PE X x (tE X.K (ev G b))):PE X (.Call (.Attribute e n ap) [x] [] cp) (tE X.K (ev G (.cnt a b))):=by
  have Ze:=iu h0 n X.env (eval e X.env)
  have hc:cE cc [b] [x]=true:=by
    show(aL x&&bI cc b x&&true)=true;rw[hx,Zd];rfl
  have mQ:=BL hc (show 1<20 by decide) X.env cp;subst hn;refine eS (sT F.plainAttrs_list F.slot_list_count F.type_list_count Ba ho (BK hx hb Hl) Ze mQ hl (bg hx [] X.env) rfl) λσ H Q q=>?_;obtain⟨ads,M,ρ,s,q⟩:=q;have q:cq X.K ads H Q ((ev G a ρ M).bind λx M=>if (dr M x).isSome then (ev G b ρ M).bind λy M=>kN x y M else .af):=by simp only[Bm]at q;exact q
  refine dD s q λw M1 v H1 ar s1 jN q1=>?_;split at q1
  · rename_i hs
    obtain⟨es,he⟩:=Option.isSome_iff_exists.mp hs;obtain⟨ad,xs,rfl,rd,Ub⟩:=jr s1.mem jN he;refine⟨.inl ⟨rfl,xs,eG.of Ub⟩,ar,M1,ρ,s1,?_⟩;simp only[ie,gf];have q1:cq X.K ar H1 Q ((ev G b ρ M1).bind λy M=>kN w y M):=q1
    cases hq:ev G b ρ M1 with
    | ok y M2 =>
      rw[hq]at q1;intro vs H2 aT g2 m2 r2;obtain⟨v2,rfl,Ux⟩:=EX.one r2;have q1:cq X.K ar H1 Q (kN w y M2):=q1;have q2:=cq.shift (o:=kN w y M2) q1 g2 s1.mem m2;clear q1;unfold kN at q2
      cases ql:dr M2 w with
      | none=>rw[ql]at q2;exact q2.elim
      | some ds =>
        rw[ql]at q2;rcases y with⟨_|_ | i | _|_|_|_⟩|_<;>first | exact q2.elim | skip
        dsimp only at q2
        cases qi:fG ds with
        | none=>rw[qi]at q2;exact q2.elim
        | some is =>
          rw[qi]at q2;obtain⟨ad2,xs2,e2,Zf,Uy⟩:=jr m2 (g2.rw jN) ql;cases e2;have ex:=ints_of qi Zf;subst ex;exact⟨ad,is,i,rfl,by rw[aS Ux],Uy,cq.plain q2 m2 (cP _)⟩
    | err _ _=>rw[hq]at q1;exact q1
    | af=>rw[hq]at q1;exact q1
  · exact q1.elim
end
section
variable {kk:Nat} {X:Cx} {cc:CC} {G:du}
structure TF (H H':Hp):Prop where
 tup:Oc H H'
 ef:∀b o u,H b=some (.ef o u)->H' b=some (.ef o u)
theorem TF.iT{K:PySem.W.Frag}{H H':Hp}(t:TF H H'){a:Addr}{xs:List V}(h:tJ K H a xs):tJ K H' a xs:=by
 rcases h with⟨o,h⟩ | h
 ·exact .inl ⟨o,t.ef _ _ _ h⟩
 ·exact .inr h
mutual
theorem RD.keep{K:PySem.W.Frag}{ads:List Addr}{H H':Hp}(t:TF H H'):∀(d:D)(v:V),RD K ads H d v->RD K ads H' d v
 | .aQ,_,h=>by unfold RD at *;exact h
 | .bl _,_,h=>by unfold RD at *;exact h
 | .int _,_,h=>by unfold RD at *;exact h
 | .str _,_,h=>by unfold RD at *;exact h
 | .ah n,v,h=>by unfold RD at *;exact h
 | .tup ds,v,h=>by unfold RD at *;obtain⟨a,xs,e,h,r⟩:=h;exact⟨a,xs,e,t.tup _ _ h,aJ.keep t ds xs r⟩
 | .ls ds,v,h=>by unfold RD at *;obtain⟨a,xs,e,h,r⟩:=h;exact⟨a,xs,e,t.iT h,aJ.keep t ds xs r⟩
theorem aJ.keep{K:PySem.W.Frag}{ads:List Addr}{H H':Hp}(t:TF H H'):∀(ds:List D)(vs:List V),aJ K ads H ds vs->aJ K ads H' ds vs
 | [],_,h=>by unfold aJ at *;exact h
 | d::ds,vs,h=>by unfold aJ at *;obtain⟨x,r,e,h1,h2⟩:=h;exact⟨x,r,e,RD.keep t d x h1,aJ.keep t ds r h2⟩
end
theorem bY.keep{κ:Type}{K:PySem.W.Frag}{ads:List Addr}{H H':Hp}(t:TF H H'):∀(ds:List (κ×D))(vs:List (κ×V)),bY K ads H ds vs->bY K ads H' ds vs
 | [],_,h=>by unfold bY at *;exact h
 | d::ds,vs,h=>by unfold bY at *;obtain⟨x,r,e,h0,h1,h2⟩:=h;exact⟨x,r,e,h0,RD.keep t d.2 x.2 h1,bY.keep t ds r h2⟩
theorem aO.keep{K:PySem.W.Frag}{ads:List Addr}{H H':Hp}{M:aq}(m:aO K ads H M)(t:TF H H')(k:∀a∈ads,H' a=H a):aO K ads H' M:=⟨m.nd,m.len,λn o a e1 e2=>by
 have h:=m.obj n o a e1 e2;have ha:=k a (gU e2)
 cases o with
 | lst ds=>obtain⟨xs,h,r⟩:=h;exact⟨xs,ha.trans h,aJ.keep t _ _ r⟩
 | iT ds=>obtain⟨o,xs,h,r⟩:=h;exact⟨o,xs,ha.trans h,aJ.keep t _ _ r⟩
 | dK ds=>obtain⟨xs,h,r⟩:=h;exact⟨xs,ha.trans h,bY.keep t _ _ r⟩
 | dT ds=>obtain⟨xs,h,r⟩:=h;exact⟨xs,ha.trans h,bY.keep t _ _ r⟩
 | dF ds=>obtain⟨o,xs,h,r⟩:=h;exact⟨o,xs,ha.trans h,bY.keep t _ _ r⟩⟩
theorem jS:∀(ag acc:List (bA×V)),(acc.map (·.1)++ag.map (·.1)).Nodup->fP acc ag=acc++ag
 | [],acc,_=>by simp[fP]
 | p::ps,acc,h=>by
  have hn:¬p.1∈acc.map (·.1):=by
   intro hm;rw[List.nodup_append]at h;exact h.2.2 _ hm _ (by simp) rfl
  have ha:(acc.any λkv=>decide (kv.1=p.1))=false:=by
   rw[List.any_eq_false];intro x hx;simp only[decide_eq_true_eq];exact λe=>hn (e▸List.mem_map_of_mem hx)
  have e:fP acc (p::ps)=fP (acc++[p]) ps:=by
   show fP (dX acc p.1 p.2) ps=_;unfold dX;rw[ha];simp
  rw[e,jS ps (acc++[p]) (by simpa using h)];simp
def kU(K:PySem.W.Frag)(G:du):List Str->List C->List (TE×TE)
 | k::ks,c::cs=>(tC (.str k),tE K (ev G c))::kU K G ks cs
 | _,_=>[]
theorem nO{K:PySem.W.Frag}(ks:List Str)(cs:List C):∀t∈kU K G ks cs,(∀σ H A B,(∀v H,A v H->B v H)->t.1 σ H A->t.1 σ H B)/\(∀σ H A B,(∀v H,A v H->B v H)->t.2 σ H A->t.2 σ H B):=by
 intro t ht
 have:∀(ks:List Str)(cs:List C),t∈kU K G ks cs->∃k c,t=(tC (.str k),tE K (ev G c)):=by
  intro ks
  induction ks with
  | nil=>intro cs h;cases cs<;>cases h
  | cons k ks ih =>
   intro cs h
   cases cs with
   | nil=>cases h
   | cons c cs =>
    rcases List.mem_cons.mp h with z | z
    ·exact⟨k,c,z⟩
    ·exact ih cs z
 obtain⟨k,c,rfl⟩:=this ks cs ht;refine⟨λσ H A B f h=>f _ _ h,λσ H A B f h=>?_⟩;obtain⟨ads,M,ρ,s,q⟩:=h;refine⟨ads,M,ρ,s,?_⟩
 cases hq:ev G c ρ M with
 | ok w M1=>rw[hq]at q;exact λv H' aB g m r=>f _ _ (q v H' aB g m r)
 | err _ _=>rw[hq]at q;exact q
 | af=>rw[hq]at q;exact q
theorem t5 {K : PySem.W.Frag} {ρ : En} {σ : L2.St} : ∀ (ks : List Str) (cs : List C) {ads : List Addr} {H : Hp} {M : aq} {R : List V -> Hp -> Prop}, ks.length = cs.length -> SR K ads M ρ σ H -> tP K ads H R (bL G cs ρ M) ->
    gz (kU K G ks cs) σ H λps H2=>∃vs,ps=(ks.map V.str).zip vs/\vs.length=ks.length/\R vs H2
  | [],[],ads,H,M,R,_,s,h=>⟨[],rfl,rfl,h [] H ads (aE.refl _ _) s.mem (by unfold aJ;rfl)⟩
  | [],_::_,_,_,_,_,e,_,_=>by cases e
  | _::_,[],_,_,_,_,e,_,_=>by cases e
  | k::ks,c::cs,ads,H,M,R,e,s,h=>by
    show tE K (ev G c) σ H λy H2=>gz (kU K G ks cs) σ H2 λps H3=>_;refine⟨ads,M,ρ,s,?_⟩;simp only[gc,fh]at h
    cases hq:ev G c ρ M with
    | ok w M1 =>
      rw[hq]at h;intro v H1 ar g1 m1 r1
      cases ho:own w M1 with
      | ok d M2 =>
        have h:tP K ads H R ((own w M1).bind λd M=>(bL G cs ρ M).bind λds M=>.ok (d::ds) M):=h;rw[ho]at h;obtain⟨aT,g2,m2,rd⟩:=qL s.mem g1 m1 r1 ho;have h:tP K ads H R ((bL G cs ρ M2).bind λds M=>.ok (d::ds) M):=h
        have h2:tP K aT H1 (λvs H'=>R (v::vs) H') (bL G cs ρ M2):=by
          cases BF:bL G cs ρ M2 with
          | ok ds M3 =>
            rw[BF]at h;intro vs H3 d5 g3 m3 r3;refine h (v::vs) H3 d5 (g2.trans g3) m3 ?_;unfold aJ;exact⟨v,vs,rfl,g3.rd _ _ rd,r3⟩
          | err _ _=>rw[BF]at h;exact h
          | af=>rw[BF]at h;exact h
        have ih:=t5 ks cs (by simpa using e) (s.grow g2 m2) h2
        have mono:∀(oM:List (TE×TE))(H:Hp)(P Q:List (V×V)->Hp->Prop),(∀ps H,P ps H->Q ps H)->(∀t∈oM,(∀σ H A B,(∀v H,A v H->B v H)->t.1 σ H A->t.1 σ H B)/\(∀σ H A B,(∀v H,A v H->B v H)->t.2 σ H A->t.2 σ H B))->gz oM σ H P->gz oM σ H Q:=by
          intro oM
          induction oM with
          | nil=>intro H P Q f _ h;exact f _ _ h
          | cons t oM ih =>
            intro H P Q f hm h;obtain⟨m1,m2⟩:=hm t List.mem_cons_self;refine m1 σ H _ _ (λx H1 h1=>m2 σ H1 _ _ (λy H2 h2=>ih H2 _ _ (λps H3 h3=>f _ _ h3) (λt ht=>hm t (ja _ ht)) h2) h1) h
        refine mono _ _ _ _ ?_ ?_ ih
        · rintro ps H3 ⟨vs,rfl,hl,hR⟩;exact⟨v::vs,rfl,by simp[hl],hR⟩
        · intro t ht;exact nO ks cs t ht
      | err _ _=>cases w<;>cases ho
      | af=>cases w<;>cases ho
    | err _ _=>rw[hq]at h;exact h
    | af=>rw[hq]at h;exact h
theorem BM{ks:List Str}  : ∀{keys:List (Option Expr)}{vs:List Expr}{pos:Pos},jP ks keys=true->ks.length=cs.length->cE cc cs vs=true->(∀c∈cs,∀e,bI cc c e=true->PE X e (tE X.K (ev G c)))->Ma X pos keys vs (kU X.K G ks cs):=by
 induction ks generalizing cs with
 | nil =>
  intro keys vs pos h1 h2 h3 ih
  cases keys with
  | cons _ _=>cases h1
  | nil =>
   cases cs with
   | cons _ _=>cases h2
   | nil =>
    cases vs with
    | cons _ _=>cases h3
    | nil=>exact D6
 | cons k ks Zg =>
  intro keys vs pos h1 h2 h3 ih
  cases cs with
  | nil=>cases h2
  | cons c cs =>
   cases vs with
   | nil=>cases h3
   | cons e es =>
    have h':(aL e&&bI cc c e&&cE cc cs es)=true:=h3;simp only[cu]at h'
    cases keys with
    | nil=>cases h1
    | cons ky keys =>
     cases ky with
     | none=>cases h1
     | some ke =>
      obtain⟨h1,hk⟩:=(cu _ _).mp h1;refine cf (P:=λke=>Ma X pos (some ke::keys) (e::es) _) h1 λcn j p h1=>?_;cases cn<;>first | exact absurd (show false=true from h1) cH | skip
      rename_i st
      obtain rfl:k=st:=eq_of_beq h1;exact AB Ac (ih c List.mem_cons_self e h'.1.2) (Zg hk (by simpa using h2) h'.2 λc hc=>ih c (ja _ hc))
theorem jT:∀{ks:List Str}{keys:List (Option Expr)},jP ks keys=true->keys.all (·.isSome)=true/\keys.length=ks.length
 | [],[],_=>⟨rfl,rfl⟩
 | [],_::_,h=>by cases h
 | _::_,[],h=>by cases h
 | k::ks,ky::keys,h=>by
  cases ky with
  | none=>cases h
  | some ke =>
   obtain⟨a,b⟩:=jT ((cu _ _).mp h).2;exact⟨by simp[a],by simp[b]⟩
theorem t6:∀{cs:List C}{es:List Expr},cE cc cs es=true->cs.length=es.length
 | [],[],_=>rfl
 | [],_::_,h=>by cases h
 | _::_,[],h=>by cases h
 | c::cs,e::es,h=>by
  have h':(aL e&&bI cc c e&&cE cc cs es)=true:=h;simp only[cu]at h';simp[t6 h'.2]
theorem xE{α β:Type}:∀(l:List α)(r:List β),l.length=r.length->(l.zip r).map (·.1)=l
 | [],_,_=>by simp
 | a::l,[],h=>by simp at h
 | a::l,b::r,h=>by simp[xE l r (by simpa using h)]
theorem xF{K:PySem.W.Frag}{ads:List Addr}{H:Hp}:∀(ks:List bA){ds:List D}{vs:List V},aJ K ads H ds vs->ks.length=ds.length->bY K ads H (ks.zip ds) (ks.zip vs)
 | [],ds,vs,r,h=>by simp;unfold bY;rfl
 | k::ks,[],vs,r,h=>by simp at h
 | k::ks,d::ds,vs,r,h=>by
  unfold aJ at r;obtain⟨x,r',rfl,h1,h2⟩:=r;show bY K ads H ((k,d)::ks.zip ds) ((k,x)::ks.zip r');unfold bY;exact⟨_,_,rfl,rfl,h1,xF ks h2 (by simpa using h)⟩
theorem J2:PE X (.Dict [] [] pos) (tE X.K (ev G (.tq [] []))):=by
 refine eS Az λσ H Q q=>?_;obtain⟨ads,M,ρ,s,q⟩:=q;intro p hp
 have q:cq X.K ads H Q (.ok (.d (.ah M.length)) (M++[.dK []])):=by
  simp only[vC,gc,fh]at q;exact q
 exact q.JC s.mem hp (show bY X.K ads H [] [] by unfold bY;rfl)
theorem J3:PE X (.Dict [] [] pos) (tE X.K (ev G .kJ)):=eS AA λσ H Q q=>by
 obtain⟨ads,M,ρ,s,q⟩:=q;intro p hp;have np:=s.mem.fresh hp;refine q (.ref p) _ (ads++[p]) ?_ ((s.mem.fZ (o:=.dT []) hp).push np ⟨[],bj,rfl⟩) ?_
 ·exact⟨⟨[p],rfl⟩,λb hb nb=>by
   rcases fk.mp hb with z | z
   ·exact absurd z nb
   ·rw[List.mem_singleton.mp z];exact hp,λb u n e=>by rw[az (λz=>by subst z;rw[hp]at e;cases e)];exact e,λb xs e=>by rw[az (λz=>by subst z;rw[hp]at e;cases e)];exact e,λb u x e=>by rw[az (λz=>by subst z;rw[hp]at e;cases e)];exact e⟩
 ·show RD X.K (ads++[p]) (upd H p (.dT [])) (.ah M.length) (.ref p);unfold RD;exact⟨p,rfl,by rw[List.getElem?_append_right (by rw[s.mem.len];exact bJ _)];simp[s.mem.len]⟩
theorem ON {ks : List Str} {cs : List C} {keys : List (Option Expr)} {vs : List Expr} {pos : Pos} (h1 : jP ks keys = true) (hn : ks.Nodup) (h0 : keys ≠ []) (NJ : keys.length <= 15) (hc : cE cc cs vs = true) (hl : ks.length = cs.length)
    (ih:∀c∈cs,∀e,bI cc c e=true->PE X e (tE X.K (ev G c))):PE X (.Dict keys vs pos) (tE X.K (ev G (.tq ks cs))):=by
  obtain⟨k1,k2⟩:=jT h1;refine eS (D7 (BM h1 hl hc ih) k1 (by rw[k2,hl,t6 hc]) h0 NJ) λσ H Q q=>?_;obtain⟨ads,M,ρ,s,q⟩:=q;intro p hp;have Wd:=s.mem.fresh hp;have g0:aE ads ads H (upd H p (.dK [])):=aE.fZ s.mem hp;have s0:SR X.K ads M ρ σ (upd H p (.dK [])):=s.grow g0 (s.mem.fZ hp);simp only[vC]at q
  have main:tP X.K ads (upd H p (.dK [])) (λvs H2=>H2 p=some (.dK [])/\(vs.length=ks.length->Q (.ref p) (upd H2 p (.dK ((ks.map Sum.inr).zip vs))))) (bL G cs ρ M):=by
    cases hq:bL G cs ρ M with
    | ok ds M1 =>
      rw[hq]at q;have q:cq X.K ads H Q (if ks.length=ds.length then .ok (.d (.ah M1.length)) (M1++[.dK ((ks.map Sum.inr).zip ds)]) else .af):=q;split at q
      · rename_i Mo
        intro vs H2 aT g2 m2 r2;have e2:H2 p=some (.dK []):=g2.kept p _ Wd bj;refine⟨e2,λRj=>?_⟩;have We:p∉aT:=g2.d9 Wd bj;have tk:TF H2 (upd H2 p (.dK ((ks.map Sum.inr).zip vs))):=⟨λb xs h=>by rw[az (λz=>by subst z;rw[e2]at h;cases h)];exact h,λb o u h=>by rw[az (λz=>by subst z;rw[e2]at h;cases h)];exact h⟩;have m3:aO X.K aT (upd H2 p (.dK ((ks.map Sum.inr).zip vs))) M1:=m2.keep tk λa ha=>az (λz=>by subst z;exact We ha);have r3:=aJ.keep (K:=X.K) (ads:=aT) tk _ _ r2;have m4:=m3.push (o:=.dK ((ks.map Sum.inr).zip ds)) We ⟨_,bj,xF (ks.map Sum.inr) r3 (by simpa using Mo)⟩;obtain⟨t,et⟩:=g2.pre;refine q (.ref p) _ (aT++[p]) ⟨⟨t++[p],by rw[et,List.append_assoc]⟩,λb hb nb=>?_,λb x nb h=>?_,λb xs h=>?_,λb o u h=>?_⟩ m4 ?_
        · rcases fk.mp hb with z | z
          · have:=g2.new b z nb;by_cases BN:b=p
            · subst BN;exact hp
            · rw[az BN]at this;exact this
          · have:b=p:=by simpa using z
            subst this;exact hp
        · have BN:b≠p:=λz=>by subst z;rw[hp]at h;cases h
          rw[az BN];exact g2.kept b x nb (by rw[az BN];exact h)
        · have BN:b≠p:=λz=>by subst z;rw[hp]at h;cases h
          rw[az BN];exact g2.gx b xs (by rw[az BN];exact h)
        · have BN:b≠p:=λz=>by subst z;rw[hp]at h;cases h
          rw[az BN];exact g2.ef b o u (by rw[az BN];exact h)
        · show RD X.K (aT++[p]) (upd H2 p (.dK ((ks.map Sum.inr).zip vs))) (.ah M1.length) (.ref p);unfold RD;exact⟨p,rfl,by rw[List.getElem?_append_right (by rw[m2.len];exact bJ _)];simp[m2.len]⟩
      · exact q.elim
    | err _ _=>rw[hq]at q;exact q
    | af=>rw[hq]at q;exact q
  have h:=t5 ks cs hl s0 main
  have mono:∀(oM:List (TE×TE))(H:Hp)(P Q:List (V×V)->Hp->Prop),(∀ps H,P ps H->Q ps H)->(∀t∈oM,(∀σ H A B,(∀v H,A v H->B v H)->t.1 σ H A->t.1 σ H B)/\(∀σ H A B,(∀v H,A v H->B v H)->t.2 σ H A->t.2 σ H B))->gz oM σ H P->gz oM σ H Q:=by
    intro oM
    induction oM with
    | nil=>intro H P Q f _ h;exact f _ _ h
    | cons t oM ih =>
      intro H P Q f hm h;obtain⟨m1,m2⟩:=hm t List.mem_cons_self;refine m1 σ H _ _ (λx H1 h1=>m2 σ H1 _ _ (λy H2 h2=>ih H2 _ _ (λps H3 h3=>f _ _ h3) (λt ht=>hm t (ja _ ht)) h2) h1) h
  refine mono _ _ _ _ ?_ (nO ks cs) h;rintro ps H2 ⟨vs,rfl,Rj,e2,hQ⟩;refine⟨e2,(ks.map Sum.inr).zip vs,?_,?_,?_⟩
  · rw[List.zip_map_left,List.zip_map_left,List.map_map];rfl
  · rw[List.length_zip,aX,Rj];omega
  · have Rk : ((([] : List (bA × V)).map (·.1)) ++ ((ks.map (Sum.inr (α := Int))).zip vs).map (·.1)).Nodup := by
      rw[xE _ _ (by rw[aX];exact Rj.symm)];simp only[List.map_nil,List.nil_append];exact List.Pairwise.map _ (λa b Mp z=>Mp (Sum.inr.inj z)) hn
    rw[jS _ _ Rk];exact hQ Rj
end
def Ff(K:PySem.W.Frag)(ads:List Addr)(H:Hp)(it:Ev.It)(J:L2.It):Prop :=
 ∀(i:Nat)(ar:List Addr)(H1:Hp)(M1:aq),aE ads ar H H1->aO K ar H1 M1 ->
  (itemAt M1 i it=some none->J.stop i H1) /\
  (∀d,itemAt M1 i it=some (some d)->J.go i H1/\∀x H2,J.L9 i H1 x H2->aE ar ar H1 H2/\aO K ar H2 M1/\RD K ar H2 d x)
def gG(K:PySem.W.Frag)(ads:List Addr)(H:Hp)(R:L2.It->Hp->Prop):cw Ev.It->Prop
 | .ok it M=>∀J H' aB,aE ads aB H H'->aO K aB H' M->Ff K aB H' it J->R J H'
 | _=>False
def tI(K:PySem.W.Frag)(o:En->aq->cw Ev.It):TI:=λσ H R=>∃ads M ρ,SR K ads M ρ σ H/\gG K ads H R (o ρ M)
def cK(G:du)(k:SK)(dR:List C)(ρ:En)(M:aq):cw Ev.It:=(cY G dR ρ M).bind λws M=>fC k ws M
section
variable {K:PySem.W.Frag} {ads:List Addr} {H:Hp} {M:aq}
theorem xG(lo:Int)(n:Nat):Ff K ads H (.ku lo n) (Nl lo n):=by
 intro i ar H1 M1 g1 m1;refine⟨λe=>?_,λd e=>?_⟩
 ·by_cases h:i<n
  ·simp[itemAt,h]at e
  ·exact Nat.not_lt.mp h
 ·by_cases h:i<n
  ·simp only[itemAt,if_pos h,Option.some.injEq]at e;subst e;refine⟨h,λx H2 y=>?_⟩;obtain⟨rfl,rfl⟩:=y;exact⟨aE.refl _ _,m1,cP _⟩
  ·simp[itemAt,h]at e
theorem nP(h:∀(i:Nat)(ar:List Addr)(H1:Hp)(M1:aq),aE ads ar H H1->aO K ar H1 M1->∀o,itemAt M1 i it=some o->∃ds xs,o=ds[i]?/\aJ K ar H1 ds xs/\eG K H1 a xs):Ff K ads H it (S2 K a):=by
 intro i ar H1 M1 g1 m1;refine⟨λe=>?_,λd e=>?_⟩
 ·obtain⟨ds,xs,e2,rd,sq⟩:=h i ar H1 M1 g1 m1 _ e;refine⟨xs,sq,?_⟩;rw[<- rd.len];exact List.getElem?_eq_none_iff.mp e2.symm
 ·obtain⟨ds,xs,e2,rd,sq⟩:=h i ar H1 M1 g1 m1 _ e;obtain⟨v,ev,rv⟩:=rd.get e2.symm;refine⟨⟨xs,v,sq,ev⟩,λx H2 y=>?_⟩;obtain⟨rfl,y⟩:=y;have:=y xs sq;rw[ev]at this;cases this;exact⟨aE.refl _ _,m1,rv⟩
theorem Fg(ha:H a=some (.tup xs))(rd:aJ K ads H ds xs):Ff K ads H (.items ds) (S3 K a):=by
 intro i ar H1 M1 g1 m1;have sq:fz K H1 a xs:=fz.of (g1.gx _ _ ha);have Zh:=g1.mZ _ _ rd;refine⟨λe=>?_,λd e=>?_⟩
 ·refine⟨xs,sq,?_⟩;rw[<- rd.len];exact List.getElem?_eq_none_iff.mp (eU e)
 ·obtain⟨v,ev,rv⟩:=Zh.get (eU e);refine⟨⟨xs,v,sq,ev⟩,λx H2 y=>?_⟩;obtain⟨rfl,y⟩:=y;have:=y xs sq;rw[ev]at this;cases this;exact⟨aE.refl _ _,m1,rv⟩
end
theorem qS{K:PySem.W.Frag}{ads:List Addr}{H:Hp}{M:aq}{n:Nat}{v:V}{p:Bool×List D}(m:aO K ads H M)(r:RD K ads H (.ah n) v)(hp:bx M (.d (.ah n))=some p):∃a,v=.ref a/\∃xs,eG K H a xs:=by
 obtain⟨l,ds⟩:=p;obtain⟨a,xs,e,rd,sq⟩:=eK (w:=.d (.ah n)) m r hp;rcases sq with⟨_,sq⟩|⟨hl,_⟩
 ·exact⟨a,e,xs,sq⟩
 ·simp only[bx]at hp;split at hp
  ·cases hp;cases hl
  ·cases hp;cases hl
  ·cases hp
theorem t7 {K : PySem.W.Frag} {ads aT : List Addr} {H H2 : Hp} {M2 : aq} {n i : Nat} {a : Addr} {o : Option D} (r : RD K ads H (.ah n) (.ref a)) (g2 : aE ads aT H H2) (m2 : aO K aT H2 M2) (e : itemAt M2 i (.at n) = some o) :
    ∃ds xs,o=ds[i]?/\aJ K aT H2 ds xs/\eG K H2 a xs:=by
  unfold RD at r;obtain⟨b,eb,ea⟩:=r;cases eb;have OO:=g2.get ea;simp only[itemAt]at e;split at e
  · rename_i ds q
    obtain⟨xs,h,rd⟩:=m2.obj n _ a q OO;exact⟨ds,xs,(eU e).symm,rd,eG.of h⟩
  · rename_i ds q
    obtain⟨o,xs,h,rd⟩:=m2.obj n _ a q OO;exact⟨ds,xs,(eU e).symm,rd,.inl (.inr ⟨o,h⟩)⟩
  · cases e
section
variable {kk:Nat} {X:Cx} {cc:CC} {G:du} {tg:Expr} {K:PySem.W.Frag} {ads:List Addr} {H:Hp}
theorem OP(h:PI X tg aK t)(f:∀σ H R,u σ H R->t σ H R):PI X tg aK u:=λaa s σ H R I q=>h aa s σ H R I (f σ H R q)
theorem Fh(he:PE X aK (tE X.K (ev G c))):PI X tg aK (tI X.K (cK G .seq [c])):=by
 intro aa s σ H R I q;obtain⟨ads,M,ρ,sr,q⟩:=q;simp only[cK,cY]at q
 cases hq:ev G c ρ M with
 | ok w M1 =>
  rw[hq]at q;have q:gG X.K ads H R (fC .seq [w] M1):=q
  cases w with
  | lv ds =>
   have q:gG X.K ads H R (.ok (.items ds) M1):=q;refine p9 he aa s σ H R I ⟨ads,M,ρ,sr,?_⟩;rw[hq];intro v H1 ar g1 m1 r1;obtain⟨a,xs,rfl,h0,h1,n,rd⟩:=r1;refine⟨a,rfl,⟨xs,eG.of h1⟩,q _ H1 ar g1 m1 (nP λi aT H2 M2 g2 m2 o e=>?_)⟩;exact⟨ds,xs,(eU e).symm,g2.mZ _ _ rd,eG.of (g2.kept a _ n h1)⟩
  | d x =>
   cases x with
   | tup ds =>
    have q:gG X.K ads H R (.ok (.items ds) M1):=q;refine Io he aa s σ H R I ⟨ads,M,ρ,sr,?_⟩;rw[hq];intro v H1 ar g1 m1 r1;have r1:RD X.K ar H1 (.tup ds) v:=r1;unfold RD at r1;obtain⟨a,xs,rfl,h1,rd⟩:=r1;exact⟨a,rfl,⟨xs,fz.of h1⟩,q _ H1 ar g1 m1 (Fg h1 rd)⟩
   | ls ds =>
    have q:gG X.K ads H R (.ok (.items ds) M1):=q;refine p9 he aa s σ H R I ⟨ads,M,ρ,sr,?_⟩;rw[hq];intro v H1 ar g1 m1 r1;have r1:RD X.K ar H1 (.ls ds) v:=r1;unfold RD at r1;obtain⟨a,xs,rfl,h1,rd⟩:=r1;refine⟨a,rfl,⟨xs,h1.sq⟩,q _ H1 ar g1 m1 (nP λi aT H2 M2 g2 m2 o e=>?_)⟩;exact⟨ds,xs,(eU e).symm,g2.mZ _ _ rd,(g2.iT h1).sq⟩
   | ah n =>
    have q:gG X.K ads H R (if (bx M1 (.d (.ah n))).isSome then .ok (.at n) M1 else .af):=q;split at q
    ·rename_i hs
     obtain⟨p,hp⟩:=Option.isSome_iff_exists.mp hs;refine p9 he aa s σ H R I ⟨ads,M,ρ,sr,?_⟩;rw[hq];intro v H1 ar g1 m1 r1;obtain⟨a,ea,sq⟩:=qS m1 r1 hp;subst ea;exact⟨a,rfl,sq,q _ H1 ar g1 m1 (nP λi aT H2 M2 g2 m2 o e=>t7 r1 g2 m2 e)⟩
    ·exact q.elim
   | aQ=>exact q.elim
   | bl _=>exact q.elim
   | int _=>exact q.elim
   | str _=>exact q.elim
 | err _ _=>rw[hq]at q;exact q.elim
 | af=>rw[hq]at q;exact q.elim
theorem BO{c:C}{a:Expr}{x:Str}{p pos:Pos}(g:Good kk X cc G) (hx:x = "range") (hg:glob cc x=true) (hs:aL a=true) (he:PE X a (tE X.K (ev G c))):PI X tg (.Call (.Name x p) [a] [] pos) (tI X.K (cK G .dm [c])):=by
 have qO:=g.gl hg;have hm:X.mg x=none:=g.blt x (by subst hx;show _∈cT;decide +kernel);subst hx;refine OP (yN qO hm (eh he jf (bg hs [] X.env)) (bg hs [] X.env)) λσ H R q=>?_;obtain⟨ads,M,ρ,s,q⟩:=q;simp only[cK,cY]at q;refine⟨ads,M,ρ,s,?_⟩
 cases hq:ev G c ρ M with
 | ok w M1 =>
  rw[hq]at q;have q:gG X.K ads H R (fC .dm [w] M1):=q;intro v H1 ar g1 m1 r1;rcases w with⟨_|_ | j | _|_|_⟩|_<;>first | exact q.elim | skip
  have q:gG X.K ads H R (if -(2 ^ 62)<=j/\j<2 ^ 62 then .ok (.ku 0 j.toNat) M1 else .af):=q;split at q
  ·rename_i hj
   exact⟨j,by rw[aS r1],hj.1,hj.2,q _ H1 ar g1 m1 (xG _ _)⟩
  ·exact q.elim
 | err _ _=>rw[hq]at q;exact q.elim
 | af=>rw[hq]at q;exact q.elim
theorem BP {c d : C} {a b : Expr} {x : Str} {p pos : Pos} (g : Good kk X cc G) (hx : x = "range") (hg : glob cc x = true) (hs : aL a = true) (p_ : aL b = true) (he : PE X a (tE X.K (ev G c))) (hd : PE X b (tE X.K (ev G d))) :
    PI X tg (.Call (.Name x p) [a,b] [] pos) (tI X.K (cK G .oO [c,d])):=by
  have qO:=g.gl hg;have hm:X.mg x=none:=g.blt x (by subst hx;show _∈cT;decide +kernel);subst hx;refine OP (yO qO hm (eh he (eh hd jf (bg p_ [] X.env)) (bg hs [b] X.env)) (by rw[bg hs,bg p_];rfl) (bg p_ [] X.env)) λσ H R q=>?_;obtain⟨ads,M,ρ,s,q⟩:=q;simp only[cK,cY]at q;refine⟨ads,M,ρ,s,?_⟩
  cases hq:ev G c ρ M with
  | ok w M1 =>
    rw[hq]at q;intro v H1 ar g1 m1 r1;have s1:=s.grow g1 m1;refine⟨ar,M1,ρ,s1,?_⟩;simp only[cw.bind]at q
    cases BJ:ev G d ρ M1 with
    | ok w2 M2 =>
      rw[BJ]at q;have q:gG X.K ads H R (fC .oO [w,w2] M2):=q;intro v2 H2 aT g2 m2 r2;rcases w with⟨_|_ | i | _|_|_⟩|_<;>first | exact q.elim | skip
      rcases w2 with⟨_|_ | j | _|_|_⟩|_<;>first | exact q.elim | skip
      have q:gG X.K ads H R (if -(2 ^ 62)<=i/\i<2 ^ 62/\-(2 ^ 62)<=j/\j<2 ^ 62 then .ok (.ku i (j-i).toNat) M2 else .af):=q;split at q
      · rename_i hj
        exact⟨i,j,by rw[aS r1,aS r2],hj,q _ H2 aT (g1.trans g2) m2 (xG _ _)⟩
      · exact q.elim
    | err _ _=>rw[BJ]at q;exact q.elim
    | af=>rw[BJ]at q;exact q.elim
  | err _ _=>rw[hq]at q;exact q.elim
  | af=>rw[hq]at q;exact q.elim
theorem bY.Wf{κ:Type}  : ∀{ag:List (κ×D)}{ks:List (κ×V)}{i:Nat}{p:κ×D}{x:κ×V},bY K ads H ag ks->ag[i]?=some p->ks[i]?=some x->RD K ads H p.2 x.2
 | p::ag,_,i,_,_,r,e1,e2=>by
  unfold bY at r;obtain⟨x,r',rfl,_,h1,h2⟩:=r
  cases i with
  | zero=>cases e1;cases e2;exact h1
  | succ i=>exact bY.Wf (i:=i) h2 e1 e2
theorem t9(hk:H a=some (.ef o (.dT ks)))(rk:bY K ads H ag ks):Ff K ads H (.items (ag.map (·.2))) (Mi a o ks):=by
 intro i ar H1 M1 g1 m1;have h1:=g1.ef _ _ _ hk;have hl:=rk.len
 have e0:itemAt M1 i (.items (ag.map (·.2)))=some ((ag[i]?).map (·.2)):=by
  show some ((ag.map (·.2))[i]?)=_;rw[dG]
 rw[e0];refine⟨λe=>⟨h1,?_⟩,λd e=>?_⟩
 ·have e:(ag[i]?).map (·.2)=none:=eU e;have:=List.getElem?_eq_none_iff.mp (Option.map_eq_none_iff.mp e);omega
 ·obtain⟨p,hp,rfl⟩:=Option.map_eq_some_iff.mp (eU e);have hi:=(dU.mp hp).1;refine⟨⟨h1,∅⟩,λx H2 y=>?_⟩;obtain⟨rfl,k,Zi⟩:=y;exact⟨aE.refl _ _,m1,(g1.zf _ _ rk).Wf hp Zi⟩
theorem BQ{c:C}{o:Expr}{ap cp:Pos}(he:PE X o (tE X.K (ev G c)))(hb:fw o=true)(hl:(ap.endLine==cp.line)=true):PI X tg (.Call (.Attribute o "values" ap) [] [] cp) (tI X.K (cK G .vals [c])):=by
 refine OP (EE he (iu hb _ X.env (eval o X.env)) hl) λσ H R q=>?_;obtain⟨ads,M,ρ,s,q⟩:=q;simp only[cK,cY]at q;refine⟨ads,M,ρ,s,?_⟩
 cases hq:ev G c ρ M with
 | ok w M1 =>
  rw[hq]at q;have q:gG X.K ads H R (fC .vals [w] M1):=q;intro v H1 ar g1 m1 r1;rcases w with⟨_|_|_|_|_ | n | _⟩|_<;>first | exact q.elim | skip
  have r1:RD X.K ar H1 (.ah n) v:=r1;unfold RD at r1;obtain⟨a,rfl,ea⟩:=r1
  have q:gG X.K ads H R (match M1[n]? with
   | some (.dT ag)=>.ok (.items (ag.map (·.2))) (M1.set n (.dF ag))
   | some (.dF ag)=>.ok (.items (ag.map (·.2))) M1
   | _=>.af):=q
  cases qm:M1[n]? with
  | none=>rw[qm]at q;exact q.elim
  | some ob =>
   rw[qm]at q
   cases ob with
   | dT ag =>
    obtain⟨ks,hk,rk⟩:=m1.obj n _ a qm ea;have nf:∀o x,H1 a≠some (.ef o x):=λo x z=>by rw[hk]at z;cases z
    refine⟨a,ks,rfl,.inl ⟨hk,λo=>?_⟩⟩;have tu:a∈ar:=gU ea
    have hg:aE ar ar H1 (upd H1 a (.ef o (.dT ks))):=⟨⟨[],by simp⟩,λb h n=>absurd h n,λb x nb h=>by rw[az (by intro z;subst z;exact nb tu)];exact h,λb xs h=>by
     rw[az (λz=>by subst z;rw[hk]at h;cases h)];exact h,λb o u h=>by rw[az (λz=>by subst z;exact nf _ _ h)];exact h⟩
    obtain⟨g',m'⟩:=m1.write (o:=.dF ag) (ho:=.ef o (.dT ks)) qm ea nf ⟨o,ks,bj,hg.zf _ _ rk⟩;exact q _ _ ar (g1.trans hg) m' (t9 bj (hg.zf _ _ rk))
   | dF ag =>
    obtain⟨o,ks,hk,rk⟩:=m1.obj n _ a qm ea;exact⟨a,ks,rfl,.inr ⟨o,hk,q _ H1 ar g1 m1 (t9 hk rk)⟩⟩
   | lst _=>exact q.elim
   | iT _=>exact q.elim
   | dK _=>exact q.elim
 | err _ _=>rw[hq]at q;exact q.elim
 | af=>rw[hq]at q;exact q.elim
theorem jU(h:∀(i:Nat)(ar:List Addr)(H1:Hp)(M1:aq),aE ads ar H H1->aO K ar H1 M1->∀o,itemAt M1 i it=some o->∃ds xs,o=(ds[i]?.map λd=>D.tup [.int i,d])/\aJ K ar H1 ds xs/\lX K H1 l a xs):Ff K ads H it (Q4 K l a):=by
 intro i ar H1 M1 g1 m1;refine⟨λe=>?_,λd e=>?_⟩
 ·obtain⟨ds,xs,e2,rd,sq⟩:=h i ar H1 M1 g1 m1 _ e;refine⟨xs,sq,?_⟩;rw[<- rd.len]
  cases q:ds[i]? with
  | none=>exact List.getElem?_eq_none_iff.mp q
  | some d=>rw[q]at e2;cases e2
 ·obtain⟨ds,xs,e2,rd,sq⟩:=h i ar H1 M1 g1 m1 _ e
  cases q:ds[i]? with
  | none=>rw[q]at e2;cases e2
  | some d' =>
   rw[q]at e2;cases e2;obtain⟨v,ev,rv⟩:=rd.get q;refine⟨⟨xs,v,sq,ev⟩,λx H2 y=>?_⟩;obtain⟨p,y,rfl,hp,rfl,vg⟩:=y;have:=vg xs sq;rw[ev]at this;cases this;refine⟨aE.fZ m1 hp,m1.fZ hp,?_⟩;have g2:=aE.fZ (o:=.tup [.int i,v]) m1 hp;unfold RD;refine⟨p,_,rfl,bj,?_⟩;unfold aJ;exact⟨.int i,[v],rfl,cP _,.one (g2.rd _ _ rv)⟩
theorem BR{c:C}{a t:Expr}{x:Str}{p pos:Pos}(g:Good kk X cc G) (hx:x = "enumerate") (ht:fM t=true) (hg:glob cc x=true) (hs:aL a=true) (he:PE X a (tE X.K (ev G c))):PI X t (.Call (.Name x p) [a] [] pos) (tI X.K (cK G .enum [c])):=by
 have qO:=g.gl hg;have hm:X.mg x=none:=g.blt x (by subst hx;show _∈cT;decide +kernel);subst hx;cases t<;>first | cases ht | skip
 refine OP (Ez qO hm (eh he jf (bg hs [] X.env)) (bg hs [] X.env)) λσ H R q=>?_;obtain⟨ads,M,ρ,s,q⟩:=q;simp only[cK,cY]at q;refine⟨ads,M,ρ,s,?_⟩
 cases hq:ev G c ρ M with
 | ok w M1 =>
  rw[hq]at q;have q:gG X.K ads H R (fC .enum [w] M1):=q;intro v H1 ar g1 m1 r1;rcases w with⟨_|_|_|_ | ds | n | ds⟩ | ds<;>first | exact q.elim | skip
  ·have q:gG X.K ads H R (.ok (.ic ds) M1):=q;have r1:RD X.K ar H1 (.tup ds) v:=r1;unfold RD at r1;obtain⟨b,xs,rfl,h1,rd⟩:=r1;refine⟨false,b,rfl,⟨xs,fz.of h1⟩,q _ H1 ar g1 m1 (jU λi aT H2 M2 g2 m2 o e=>⟨ds,xs,(eU e).symm,g2.mZ _ _ rd,fz.of (g2.gx _ _ h1)⟩)⟩
  ·have q:gG X.K ads H R (if (bx M1 (.d (.ah n))).isSome then .ok (.jm n) M1 else .af):=q;split at q
   ·rename_i hs
    obtain⟨p,hp⟩:=Option.isSome_iff_exists.mp hs;obtain⟨b,ea,sq⟩:=qS m1 r1 hp;subst ea;refine⟨true,b,rfl,sq,q _ H1 ar g1 m1 (jU λi aT H2 M2 g2 m2 o e=>?_)⟩
    have e':∃o',itemAt M2 i (.at n)=some o'/\o=o'.map λd=>D.tup [.int i,d]:=by
     simp only[itemAt]at e⊢;split at e
     ·exact⟨_,rfl,(eU e).symm⟩
     ·exact⟨_,rfl,(eU e).symm⟩
     ·cases e
    obtain⟨o',e1,e2⟩:=e';obtain⟨ds,xs,e3,rd,Uz⟩:=t7 r1 g2 m2 e1;exact⟨ds,xs,by rw[e2,e3],rd,Uz⟩
   ·exact q.elim
  ·have q:gG X.K ads H R (.ok (.ic ds) M1):=q;have r1:RD X.K ar H1 (.ls ds) v:=r1;unfold RD at r1;obtain⟨b,xs,rfl,h1,rd⟩:=r1;exact⟨true,b,rfl,⟨xs,h1.sq⟩,q _ H1 ar g1 m1 (jU λi aT H2 M2 g2 m2 o e=>⟨ds,xs,(eU e).symm,g2.mZ _ _ rd,(g2.iT h1).sq⟩)⟩
  ·have q:gG X.K ads H R (.ok (.ic ds) M1):=q;obtain⟨b,xs,rfl,h0,h1,n,rd⟩:=r1;exact⟨true,b,rfl,⟨xs,eG.of h1⟩,q _ H1 ar g1 m1 (jU λi aT H2 M2 g2 m2 o e=>⟨ds,xs,(eU e).symm,g2.mZ _ _ rd,eG.of (g2.kept b _ n h1)⟩)⟩
 | err _ _=>rw[hq]at q;exact q.elim
 | af=>rw[hq]at q;exact q.elim
theorem Hm {K : PySem.W.Frag} {ads : List Addr} {H : Hp} {M : aq} {w : W} {v : V} {z : Z1} (m : aO K ads H M) (r : RW K ads H w v) (hz : Hc M w = some z) : ∃ (l : Bool) (a : Addr), v = .ref a /\ (∃ xs, lX K H l a xs) /\
    ∀aT H2 M2,aE ads aT H H2->aO K aT H2 M2->∀ds,oR M2 z=some ds->∃xs,aJ K aT H2 ds xs/\lX K H2 l a xs:=by
  rcases w with⟨_|_|_|_ | ds | n | ds⟩ | ds<;>first | cases hz | skip
  · have r:RD K ads H (.tup ds) v:=r;unfold RD at r;obtain⟨b,xs,rfl,h1,rd⟩:=r;exact⟨false,b,rfl,⟨xs,fz.of h1⟩,λaT H2 M2 g2 m2 es e=>by cases e;exact⟨xs,g2.mZ _ _ rd,fz.of (g2.gx _ _ h1)⟩⟩
  · have hz:(if (bx M (.d (.ah n))).isSome then some (Z1.at n) else none)=some z:=hz;split at hz
    · rename_i hs
      cases hz;obtain⟨p,hp⟩:=Option.isSome_iff_exists.mp hs;obtain⟨b,ea,sq⟩:=qS m r hp;subst ea;refine⟨true,b,rfl,sq,λaT H2 M2 g2 m2 es e=>?_⟩;have r:RD K ads H (.ah n) (.ref b):=r;unfold RD at r;obtain⟨b',eb,ea⟩:=r;cases eb;have OO:=g2.get ea;simp only[oR]at e;split at e
      · rename_i ds q
        cases e;obtain⟨xs,h,rd⟩:=m2.obj n _ b q OO;exact⟨xs,rd,eG.of h⟩
      · rename_i ds q
        cases e;obtain⟨o,xs,h,rd⟩:=m2.obj n _ b q OO;exact⟨xs,rd,.inl (.inr ⟨o,h⟩)⟩
      · cases e
    · cases hz
  · have r:RD K ads H (.ls ds) v:=r;unfold RD at r;obtain⟨b,xs,rfl,h1,rd⟩:=r;exact⟨true,b,rfl,⟨xs,h1.sq⟩,λaT H2 M2 g2 m2 es e=>by cases e;exact⟨xs,g2.mZ _ _ rd,(g2.iT h1).sq⟩⟩
  · obtain⟨b,xs,rfl,h1,n,rd⟩:=r;exact⟨true,b,rfl,⟨xs,eG.of h1⟩,λaT H2 M2 g2 m2 es e=>by cases e;exact⟨xs,g2.mZ _ _ rd,eG.of (g2.kept b _ n h1)⟩⟩
theorem Fi (h1 : ∀ aT H2 M2, aE ads aT H H2 -> aO K aT H2 M2 -> ∀ ds, oR M2 z = some ds -> ∃ xs, aJ K aT H2 ds xs /\ lX K H2 l a xs)
    (h2:∀aT H2 M2,aE ads aT H H2->aO K aT H2 M2->∀ds,oR M2 y=some ds->∃xs,aJ K aT H2 ds xs/\lX K H2 m b xs):Ff K ads H (.zip z y) (T8 K l m a b):=by
  intro i ar H1 M1 g1 m1
  have fT:∀o,itemAt M1 i (.zip z y)=some o->∃ds es xs ys,o=tM ds es i/\aJ K ar H1 ds xs/\lX K H1 l a xs/\aJ K ar H1 es ys/\lX K H1 m b ys:=λo e=>by
    simp only[itemAt]at e;split at e
    · rename_i ds es q1 q2
      obtain⟨xs,r1,s1⟩:=h1 ar H1 M1 g1 m1 ds q1;obtain⟨ys,r2,s2⟩:=h2 ar H1 M1 g1 m1 es q2;exact⟨ds,es,xs,ys,(eU e).symm,r1,s1,r2,s2⟩
    · cases e
  refine⟨λe=>?_,λd e=>?_⟩
  · obtain⟨ds,es,xs,ys,e2,r1,s1,r2,s2⟩:=fT _ e;refine⟨xs,ys,s1,s2,?_⟩;rw[<- r1.len,<- r2.len];unfold tM at e2
    cases q1:ds[i]? with
    | none=>exact .inl (List.getElem?_eq_none_iff.mp q1)
    | some d1 =>
      cases q2:es[i]? with
      | none=>exact .inr (List.getElem?_eq_none_iff.mp q2)
      | some d2=>rw[q1,q2]at e2;cases e2
  · obtain⟨ds,es,xs,ys,e2,r1,s1,r2,s2⟩:=fT _ e;unfold tM at e2
    cases q1:ds[i]? with
    | none=>rw[q1]at e2;cases e2
    | some d1 =>
      cases q2:es[i]? with
      | none=>rw[q1,q2]at e2;cases e2
      | some d2 =>
        rw[q1,q2]at e2;cases e2;obtain⟨v1,Wg,Zj⟩:=r1.get q1;obtain⟨v2,Wh,Ux⟩:=r2.get q2;refine⟨⟨xs,ys,v1,v2,s1,s2,Wg,Wh⟩,λx H2 yy=>?_⟩;obtain⟨p,x1,x2,rfl,hp,rfl,a1,a2⟩:=yy;have t1:=a1 xs s1;have t2:=a2 ys s2;rw[Wg]at t1;rw[Wh]at t2;cases t1;cases t2;have g2:=aE.fZ (o:=.tup [v1,v2]) m1 hp;refine⟨g2,m1.fZ hp,?_⟩;unfold RD;refine⟨p,_,rfl,bj,?_⟩;unfold aJ;exact⟨v1,[v2],rfl,g2.rd _ _ Zj,.one (g2.rd _ _ Ux)⟩
theorem Fj {c d : C} {a b t : Expr} {x : Str} {p pos : Pos} (g : Good kk X cc G) (hx : x = "zip") (ht : fM t = true) (hg : glob cc x = true) (hs : aL a = true) (p_ : aL b = true) (he : PE X a (tE X.K (ev G c))) (hd : PE X b (tE X.K (ev G d))) :
    PI X t (.Call (.Name x p) [a,b] [] pos) (tI X.K (cK G .zip [c,d])):=by
  have qO:=g.gl hg;have hm:X.mg x=none:=g.blt x (by subst hx;show _∈cT;decide +kernel);subst hx;cases t<;>first | cases ht | skip
  refine OP (Jh qO hm (eh he (eh hd jf (bg p_ [] X.env)) (bg hs [b] X.env)) (bg hs [b] X.env) (bg p_ [] X.env)) λσ H R q=>?_;obtain⟨ads,M,ρ,s,q⟩:=q;simp only[cK,cY]at q;refine⟨ads,M,ρ,s,?_⟩
  cases hq:ev G c ρ M with
  | ok w M1 =>
    rw[hq]at q;intro v H1 ar g1 m1 r1;have s1:=s.grow g1 m1;refine⟨ar,M1,ρ,s1,?_⟩;simp only[cw.bind]at q
    cases BJ:ev G d ρ M1 with
    | ok w2 M2 =>
      rw[BJ]at q;have q:gG X.K ads H R (fC .zip [w,w2] M2):=q;intro v2 H2 aT g2 m2 r2
      have q:gG X.K ads H R (match Hc M2 w,Hc M2 w2 with
        | some a,some b=>.ok (.zip a b) M2
        | _,_=>.af):=q
      cases q1:Hc M2 w with
      | none=>rw[q1]at q;exact q.elim
      | some z1 =>
        cases q2:Hc M2 w2 with
        | none=>rw[q1,q2]at q;exact q.elim
        | some z2 =>
          rw[q1,q2]at q;obtain⟨l,a1,rfl,Zk,k1⟩:=Hm m2 (g2.rw r1.rw) q1;obtain⟨m,b1,rfl,Uz,k2⟩:=Hm m2 r2.rw q2;exact⟨l,m,a1,b1,rfl,Zk,Uz,q _ H2 aT (g1.trans g2) m2 (Fi k1 k2)⟩
    | err _ _=>rw[BJ]at q;exact q.elim
    | af=>rw[BJ]at q;exact q.elim
  | err _ _=>rw[hq]at q;exact q.elim
  | af=>rw[hq]at q;exact q.elim
end
def tG(K:PySem.W.Frag)(tg:List Nat):TG:=λv σ H Q=>∃ads M ρ d,SR K ads M ρ σ H/\RD K ads H d v/\∃dS,bR tg d ρ=some dS/\∀cI,SR K ads M dS cI H->Q cI H
theorem SR.set{K:PySem.W.Frag}{ads:List Addr}{M:aq}{ρ:En}{σ:L2.St}{H:Hp}(s:SR K ads M ρ σ H)(i:Nat){d:D}{v:V}(r:RD K ads H d v):SR K ads M (ρ.set i (some d)) (σ.set i (some v)) H :=
 ⟨s.mem,λj d' e=>by
  by_cases h:i=j
  ·subst h
   have hl:i<ρ.length:=by
    have:=(dU.mp e).1;simpa using this
   rw[List.getElem?_set_self hl]at e;cases e;exact⟨v,by rw[List.getElem?_set_self (by rw[<- s.ln];exact hl)],r⟩
  ·rw[List.getElem?_set_ne h]at e⊢;exact s.en j d' e,by simp[s.ln]⟩
def gN:List Nat->L7
 | []=>Nj
 | i::r=>GZ (GY i) (gN r)
section
variable {kk:Nat} {X:Cx} {cc:CC} {G:du}
theorem Good.nm(g:Good kk X cc G){x:Str}(h:(cc.names.lookup x==some .local||cc.names.lookup x==some .cell)=true):Loc X.env.scope x/\(X.fn x=true\/X.env.scope.names.lookup x=some .local):=by
 rw[Bool.or_eq_true]at h;rcases h with h | h
 ·have h:=eq_of_beq h;exact⟨.inl (g.kinds x _ h),.inr (g.kinds x _ h)⟩
 ·have h:=eq_of_beq h;exact⟨.inr (g.kinds x _ h),.inl (g.Y3 x h)⟩
theorem xH(g:Good kk X cc G):∀(tg:List Nat)(es:List Expr),jQ cc tg es=true->L8 X es (gN tg)/\es.length=tg.length/\(assignEach es X.env).length=tg.length/\(assignEach es X.env).findIdx? (·.1)=none
 | [],[],_=>⟨DY,rfl,rfl,rfl⟩
 | [],_::_,h=>by cases h
 | _::_,[],h=>by cases h
 | i::tg,e::es,h=>by
  obtain⟨h,h3⟩:=(cu _ _).mp h;obtain⟨ih,l1,l2,l3⟩:=xH g tg es h3;refine bT (P:=λe=>L8 X (e::es) (gN (i::tg))/\(e::es).length=(i::tg).length/\(assignEach (e::es) X.env).length=(i::tg).length/\(assignEach (e::es) X.env).findIdx? (·.1)=none) h λx p h=>?_;obtain⟨h1,h2⟩:=(cu _ _).mp h;obtain⟨n1,n2⟩:=g.nm h2;refine⟨Ai (p4 (by rw[g.N];exact g.nd) (by rw[g.N];exact eq_of_beq h1) n1 n2) ih,by simp[l1],?_,?_⟩
  ·show(assignEach es X.env).length+1=_;rw[l2];rfl
  ·show List.findIdx? _ ((false,_)::assignEach es X.env)=none;rw[List.findIdx?_cons];simp only[Bool.false_eq_true,if_false];rw[l3];rfl
theorem Hn{K:PySem.W.Frag}{ads:List Addr}{M:aq}{H:Hp}{Q:L2.St->Hp->Prop}{dS:En}(hQ:∀cI,SR K ads M dS cI H->Q cI H):∀(tg:List Nat)(ds:List D)(xs:List V)(ρ:En)(σ:L2.St),SR K ads M ρ σ H->aJ K ads H ds xs->dZ tg ds ρ=some dS->gN tg xs σ H Q
 | [],[],xs,ρ,σ,s,r,e=>by
  unfold aJ at r;subst r;cases e;exact⟨rfl,hQ σ s⟩
 | [],_::_,_,_,_,_,_,e=>by cases e
 | _::_,[],_,_,_,_,_,e=>by cases e
 | i::tg,d::ds,xs,ρ,σ,s,r,e=>by
  unfold aJ at r;obtain⟨x,r',rfl,h1,h2⟩:=r;exact⟨x,r',rfl,Hn hQ tg ds r' _ _ (s.set i h1) h2 e⟩
theorem nQ:∀(tg:List Nat)(ds:List D)(ρ dS:En),dZ tg ds ρ=some dS->ds.length=tg.length
 | [],[],_,_,_=>rfl
 | [],_::_,_,_,e=>by cases e
 | _::_,[],_,_,e=>by cases e
 | i::tg,d::ds,ρ,dS,e=>by simp[nQ tg ds _ dS e]
theorem jV(g:Good kk X cc G)(h:iZ cc tg t=true):PG X t (tG X.K tg):=by
 rcases tg with _|⟨i,_|⟨j,tl⟩⟩
 ·exact absurd h cH
 ·refine bT (P:=λt=>PG X t _) ((cu _ _).mp h).1 λx p h=>?_;obtain⟨h1,h2⟩:=(cu _ _).mp h;obtain⟨n1,n2⟩:=g.nm h2;intro aa s σ H v u Q I r q;refine p4 (by rw[g.N];exact g.nd) (by rw[g.N];exact eq_of_beq h1) n1 n2 aa s σ H v u Q I r ?_;obtain⟨ads,M,ρ,d,sr,rd,dS,e,hQ⟩:=q;cases e;exact hQ _ (sr.set i rd)
 ·refine jv (P:=λt=>PG X t _) h λes kq p h=>?_;obtain⟨a,l1,l2,l3⟩:=xH g (i::j::tl) es ((cu _ _).mp h).1;intro aa s σ H v u Q I r q;refine Il (pos:=p) (k:=kq) g.calm a l2 l3 aa s σ H v u Q I r ?_;obtain⟨ads,M,ρ,d,sr,rd,dS,e,hQ⟩:=q
  have e':∃ds,d=.tup ds/\dZ (i::j::tl) ds ρ=some dS:=by
   cases d<;>first | cases e | exact⟨_,rfl,e⟩
  obtain⟨ds,rfl,e2⟩:=e';unfold RD at rd;obtain⟨b,xs,rfl,hb,rd⟩:=rd;exact⟨b,xs,rfl,fz.of hb,by rw[<- rd.len,nQ _ ds ρ dS e2],Hn hQ _ ds xs ρ σ sr rd e2⟩
end
theorem jx : ∀ (names : List (Str × NameKind)) (acc : List (Str × Addr)), (∀ y ∈ names, y.2 = .free -> ∃ c, env.cells.lookup y.1 = some c) -> (∀ x c, acc.lookup x = some c -> env.cells.lookup x = some c) ->
    ∃cl,(forIn names acc λ(x:Str×NameKind) (r:List (Str×Addr))=>(match x with | (name,kind)=>if (kind==NameKind.free)=true then do let a <- cellOf env name;pure (ForInStep.yield ((name,a)::r)) else pure (ForInStep.yield r):Sem (ForInStep (List (Str×Addr)))))=pure cl /\
      (∀x c,cl.lookup x=some c->env.cells.lookup x=some c)/\(∀x,(acc.lookup x).isSome=true->(cl.lookup x).isSome=true)/\∀y∈names,y.2=.free->(cl.lookup y.1).isSome=true
  | [],acc,_,h=>⟨acc,rfl,h,λ_ q=>q,λy hy=>by cases hy⟩
  | (n,k)::r,acc,hn,h=>by
    by_cases hk:k=.free
    · subst hk;obtain⟨c,hc⟩:=hn (n,.free) List.mem_cons_self rfl
      have h2:∀x c',((n,c)::acc).lookup x=some c'->env.cells.lookup x=some c':=λx c' e=>by
        rw[List.lookup_cons]at e;by_cases hx:x=n
        · subst hx;simp at e;rw[<- e];exact hc
        · have:(x==n)=false:=beq_eq_false_iff_ne.mpr hx;rw[this]at e;exact h x c' e
      obtain⟨cl,e1,e2,e3,e4⟩:=jx r ((n,c)::acc) (λy hy=>hn y (ja _ hy)) h2;refine⟨cl,?_,e2,λx q=>e3 x ?_,λy hy hf=>?_⟩
      · rw[List.forIn_cons];have:cellOf env n=pure c:=by unfold cellOf;rw[hc]
        simp only[beq_self_eq_true,if_true,this];exact e1
      · rw[List.lookup_cons];by_cases hx:(x==n)=true
        · simp[hx]
        · simp only[hx];exact q
      · rcases List.mem_cons.mp hy with z | z
        · subst z;exact e3 _ (by simp[List.lookup_cons])
        · exact e4 y z hf
    · obtain⟨cl,e1,e2,e3,e4⟩:=jx r acc (λy hy=>hn y (ja _ hy)) h;refine⟨cl,?_,e2,e3,λy hy hf=>?_⟩
      · rw[List.forIn_cons];have:(k==NameKind.free)=false:=by simpa using hk
        simp only[this,Bool.false_eq_true,if_false];exact e1
      · rcases List.mem_cons.mp hy with z | z
        · subst z;exact absurd hf hk
        · exact e4 y z hf
theorem xI(h:∀y∈sc.names,y.2=.free->∃c,X.env.cells.lookup y.1=some c):∃cl,Ja X sc cl:=by
 obtain⟨cl,e1,e2,e3,e4⟩:=jx sc.names [] h (λx c e=>by cases e);refine⟨cl,?_,e2,λx hx=>Option.isSome_iff_exists.mp (e4 (x,.free) (PySem.mem_of_lookup hx) rfl)⟩;unfold closureFor;exact congrArg (λm=>m >>= λcs=>pure cs) e1
section
variable {kk:Nat} {X:Cx} {cc:CC} {G:du}
theorem mf (h : tV cc sc = true) : sc.kind = .function /\ (∀ y ∈ sc.names, y.2 = .cell -> sc.names.lookup y.1 = some .cell) /\ (∀ y ∈ sc.names, y.2 = .local -> sc.names.lookup y.1 = some .local) /\ (fx sc).Nodup /\
    ∀y∈sc.names,y.2=.free->sc.names.lookup y.1=some .free/\(cc.names.lookup y.1=some .cell\/cc.names.lookup y.1=some .free):=by
  unfold tV at h;simp only[cu,beq_iff_eq,List.all_eq_true,bne_iff_ne,ne_eq,decide_eq_true_eq,Bool.or_eq_true]at h;obtain⟨⟨⟨⟨h1,h2⟩,h3⟩,h4⟩,h5⟩:=h;refine⟨h1,λy hy hk=>?_,λy hy hk=>?_,h4,λy hy hk=>?_⟩
  · rcases h2 y hy with z | z
    · exact absurd hk z
    · exact z
  · rcases h3 y hy with z | z
    · exact absurd hk z
    · exact z
  · rcases h5 y hy with z | z
    · exact absurd hk z
    · exact z
theorem Good.block(g:Good kk X cc G)(h:tV cc sc=true){cl:List (Str×Addr)}(C:Addr)(s:Shared)(H:Hp)(fp:List Addr):Good kk (X.block sc cl C (fx sc) s H fp []) (qJ cc sc) G:=by
 obtain⟨h1,h2,h3,h4,h5⟩:=mf h;refine⟨g.calm,g.room,rfl,h4,λx k e=>?_,λx e=>?_,g.blt,g.Wb,g.fns⟩
 ·have e:sc.names.lookup x=some k:=e;have r:=dY (env:=X.env) e;have kd:(X.block sc cl C (fx sc) s H fp []).env.kindOf x=some (if (k==NameKind.free&&X.env.scope.kind == .function&&X.env.kindOf x==some .cell) then .cell else k):=r
  cases k with
  | «local»=>exact kd
  | cell=>exact kd
  | free =>
   show _\/_;rw[kd];split
   ·exact .inl rfl
   ·exact .inr rfl
  | globalExplicit=>exact True.intro
  | globalImplicit=>exact kd
 ·have e:sc.names.lookup x=some .cell:=e;show(sc.names.lookup x==some .cell)=true;rw[e];rfl
theorem BS(g:Good kk X cc G)(h:tV cc sc=true):AU X sc (fx sc) (nJ cc sc):=by
 obtain⟨h1,h2,h3,h4,h5⟩:=mf h;refine⟨by simp[nJ],λi j x e1 e2=>?_⟩;unfold nJ at e1;rw[dG,e2]at e1;simp only[Option.map_some,Option.some.injEq]at e1;split at e1
 ·rename_i hf
  have hf:sc.names.lookup x=some .free:=by simpa using hf
  obtain⟨_,ho⟩:=h5 (x,.free) (PySem.mem_of_lookup hf) rfl;refine⟨?_,hf,?_⟩
  ·rw[g.N];obtain⟨hj,hx,_⟩:=List.findIdx?_eq_some_iff_getElem.mp e1;rw[dM hj];have:cc.N[j]=x:=by simpa using hx
   rw[this]
  ·rcases ho with ho | ho
   ·exact .inl (g.kinds x _ ho)
   ·exact g.kinds x _ ho
 ·cases e1
theorem BU{K:PySem.W.Frag}{ads:List Addr}{M:aq}{ρ:En}{σ:L2.St}{H:Hp}(s:SR K ads M ρ σ H)(c_:List (Option Nat)):SR K ads M (eR c_ ρ) (jK c_ σ) H:=by
 refine⟨s.mem,λi d e=>?_,by simp[eR,jK]⟩;unfold eR at e;unfold jK;rw[dG]at e⊢
 cases q:c_[i]? with
 | none=>rw[q]at e;cases e
 | some o =>
  rw[q]at e
  cases o with
  | none=>cases e
  | some j =>
   have e:(ρ[j]?).join=some d:=eU e
   have e2:ρ[j]?=some (some d):=by
    cases r:ρ[j]? with
    | none=>rw[r]at e;cases e
    | some z=>rw[r]at e;cases z with
     | none=>cases e
     | some y=>cases e;rfl
   obtain⟨v,ev,rv⟩:=s.en j d e2;exact⟨v,by simp[ev],rv⟩
theorem aE.xJ{ads aB:List Addr}{H H':Hp}{D:Addr}{o:HO}(g:aE ads aB H H')(h:H D=none):aE ads aB H (upd H' D o) :=
 ⟨g.pre,g.new,λb x n e=>by rw[az (λz=>by subst z;rw[h]at e;cases e)];exact g.kept b x n e,λb x e=>by rw[az (λz=>by subst z;rw[h]at e;cases e)];exact g.gx b x e,
  λb x u e=>by rw[az (λz=>by subst z;rw[h]at e;cases e)];exact g.ef b x u e⟩
theorem t_ {K : PySem.W.Frag} {G : du} {it : Ev.It} {J : L2.It} {tg : List Nat} {cond : Option fB} {elt : C} {c_ : List (Option Nat)} {ads : List Addr} {M : aq} {ρ : En} {σ : L2.St} {H : Hp} {Q : VK} {f : Nat}
    (s:SR K ads M ρ σ H) (hJ:Ff K ads H it J) (q:cq K ads H Q (bc (λτ M=>bH G cond τ M) (λτ M=>(ev G elt τ M).bind own) it tg f 0 (eR c_ ρ) M [])) :
    vp c_ (tG K tg) (cond.map λt=>ny K (dH G t)) (tE K (ev G elt)) σ J H Q:=by
  intro D hD;have Zl:=s.mem.fresh hD
  refine⟨λi m τ H' ys=>∃aB M' nR acc,SR K aB M' nR τ H'/\aE ads aB H H'/\D∉aB/\H' D=some (.lst ys)/\aJ K aB H' acc ys/\cq K ads H Q (bc (λτ M=>bH G cond τ M) (λτ M=>(ev G elt τ M).bind own) it tg m i nR M' acc),
    ⟨f,ads,M,eR c_ ρ,[],?_,(aE.refl _ _).xJ hD,Zl,bj,(by unfold aJ;rfl),q⟩,?_⟩
  · have g0:aE ads ads H (upd H D (.lst [])):=aE.fZ s.mem hD;exact(BU s c_).grow g0 (s.mem.fZ hD)
  rintro i m τ H' ys ⟨aB,M',nR,acc,s',g',dn,hl,ra,q'⟩;refine⟨hl,?_⟩;obtain⟨r1,r2⟩:=hJ i aB H' M' g' s'.mem
  have stop:itemAt M' i it=some none->cq K ads H Q (.ok (.lv acc) M')->(J.stop i H'/\Q (.ref D) H'):=λhi q' =>
    ⟨r1 hi,q' (.ref D) H' aB g' s'.mem ⟨D,ys,rfl,hD,hl,dn,ra⟩⟩
  cases m with
  | zero =>
    unfold bc at q';split at q'
    · rename_i hi
      exact .inl (stop hi q')
    · exact q'.elim
  | succ m =>
    unfold bc at q';split at q'
    · rename_i hi
      exact .inl (stop hi q')
    · rename_i d hi
      obtain⟨go,yl⟩:=r2 d hi
      cases hb:bR tg d nR with
      | none=>rw[hb]at q';exact q'.elim
      | some uX =>
        rw[hb]at q';dsimp only at q';split at q'
        · rename_i hz
          refine .inr ⟨go,by rw[<- ra.len];exact hz,λx H2 y=>?_⟩;obtain⟨g2,m2,rd⟩:=yl x H2 y;have DD:H2 D=some (.lst ys):=g2.kept D _ dn hl;refine⟨aB,M',nR,d,s'.grow g2 m2,rd,uX,hb,λDE s2=>?_⟩
          have eV : ∀ b M3 H3 d5, aE aB d5 H2 H3 -> aO K d5 H3 M3 -> cq K ads H Q (if b = true then ((ev G elt uX M3).bind own).bind fun x M => bc (fun τ M => bH G cond τ M) (fun τ M => (ev G elt τ M).bind own) it tg m (i + 1) uX M (acc ++ [x]) else bc (fun τ M => bH G cond τ M) (fun τ M => (ev G elt τ M).bind own) it tg m (i + 1) uX M3 acc) ->
              (if b=true then tE K (ev G elt) DE H3 λv H4=>H4 D=some (.lst ys)/\∃m',m'<m+1/\∃aB M' nR acc,SR K aB M' nR DE (upd H4 D (.lst (ys++[v])))/\aE ads aB H (upd H4 D (.lst (ys++[v])))/\D∉aB/\(upd H4 D (.lst (ys++[v]))) D=some (.lst (ys++[v]))/\aJ K aB (upd H4 D (.lst (ys++[v]))) acc (ys++[v])/\cq K ads H Q (bc (λτ M=>bH G cond τ M) (λτ M=>(ev G elt τ M).bind own) it tg m' (i+1) nR M' acc)
               else ∃m',m'<m+1/\∃aB M' nR acc,SR K aB M' nR DE H3/\aE ads aB H H3/\D∉aB/\H3 D=some (.lst ys)/\aJ K aB H3 acc ys/\cq K ads H Q (bc (λτ M=>bH G cond τ M) (λτ M=>(ev G elt τ M).bind own) it tg m' (i+1) nR M' acc)):=by
            intro b M3 H3 d5 g3 m3 q3;have UA:D∉d5:=g3.d9 dn DD;have UB:H3 D=some (.lst ys):=g3.kept D _ dn DD;have s3:=s2.grow g3 m3;have gg:=(g'.trans g2).trans g3;have Wi:=(g2.trans g3).mZ _ _ ra
            cases b with
            | false =>
              rw[if_neg (by simp)]at q3⊢;exact⟨m,Nat.lt_succ_self _,d5,M3,uX,acc,s3,gg,UA,UB,Wi,q3⟩
            | true =>
              rw[if_pos rfl]at q3⊢;refine⟨d5,M3,uX,s3,?_⟩
              cases he:ev G elt uX M3 with
              | ok w M4 =>
                rw[he]at q3;intro v H4 zp g4 m4 r4;have q3:cq K ads H Q ((own w M4).bind λx M=>bc (λτ M=>bH G cond τ M) (λτ M=>(ev G elt τ M).bind own) it tg m (i+1) uX M (acc++[x])):=q3;have oI:H4 D=some (.lst ys):=g4.kept D _ UA UB;refine⟨oI,m,Nat.lt_succ_self _,?_⟩
                cases ho:own w M4 with
                | ok dd M5 =>
                  rw[ho]at q3;obtain⟨Fl,g5,m5,Zm⟩:=qL s3.mem g4 m4 r4 ho;have Wj:D∉Fl:=g5.d9 UA UB;have tk:TF H4 (upd H4 D (.lst (ys++[v]))):=⟨λb xs e=>by rw[az (λz=>by subst z;rw[oI]at e;cases e)];exact e,λb o u e=>by rw[az (λz=>by subst z;rw[oI]at e;cases e)];exact e⟩;have m6:aO K Fl (upd H4 D (.lst (ys++[v]))) M5:=m5.keep tk λa ha=>az (λz=>by subst z;exact Wj ha)
                  have Zn:Ob K Fl (upd H4 D (.lst (ys++[v]))) uX DE:=λj d e=>by
                    obtain⟨u,e1,r⟩:=g5.V_ s3.en j d e;exact⟨u,e1,RD.keep tk _ _ r⟩
                  exact⟨Fl,M5,uX,acc++[dd],⟨m6,Zn,s3.ln⟩,(gg.trans g5).xJ hD,Wj,bj,aJ.keep tk _ _ ((g5.mZ _ _ Wi).app (.one Zm)),q3⟩
                | err _ _=>cases w<;>cases ho
                | af=>cases w<;>cases ho
              | err _ _=>rw[he]at q3;exact q3
              | af=>rw[he]at q3;exact q3
          cases cond with
          | none =>
            exact eV true M' H2 aB (aE.refl _ _) m2 q'
          | some t =>
            show ny K (dH G t) DE H2 _;refine⟨aB,M',uX,s2,?_⟩;have q':cq K ads H Q ((dH G t uX M').bind λb M=>if b=true then ((ev G elt uX M).bind own).bind λx M=>bc (λτ M=>bH G (some t) τ M) (λτ M=>(ev G elt τ M).bind own) it tg m (i+1) uX M (acc++[x]) else bc (λτ M=>bH G (some t) τ M) (λτ M=>(ev G elt τ M).bind own) it tg m (i+1) uX M acc):=q'
            cases ht:dH G t uX M' with
            | ok b M3 =>
              rw[ht]at q';intro H3 d5 g3 m3;exact eV b M3 H3 d5 g3 m3 q'
            | err _ _=>rw[ht]at q';exact q'
            | af=>rw[ht]at q';exact q'
        · exact q'.elim
    · exact q'.elim
end
section
variable {kk:Nat} {G:du}
theorem qT(h:dw e=true)(env:Env):∀x,foldedSetIterable e env x=pure x:=by
 intro x;cases e<;>first | rfl | exact absurd (show false=true from h) cH
theorem J4 {dR : List C} {tg : List Nat} {cond : Option fB}  {ifs : List Expr}  (g : Good kk X cc G) (BV : tV cc sc = true) (AO : c_ = nJ cc sc) (kG : dw aK = true)
    (BW:PI X t aK (tI X.K (cK G k dR))) (UC:iZ (qJ cc sc) tg t=true) (jW:E_ (qJ cc sc) cond ifs=true)
    (Rh:∀t,cond=some t->∀X':Cx,X'.K=X.K->Good kk X' (qJ cc sc) G->∀e,jR (qJ cc sc) t e=true->PT X' e (ny X'.K (dH G t))) (Zo:∀X':Cx,X'.K=X.K->Good kk X' (qJ cc sc) G->PE X' el (tE X'.K (ev G elt))) :
    ∃(wi:TI) (cl:(X:Cx)->Prop),True/\PE X (.ListComp el [⟨t,aK,ifs,0⟩] sc pos) (tE X.K (ev G (.comp k dR tg cond elt c_))):=by
  refine⟨λ_ _ _=>True,λ_=>True,True.intro,?_⟩;intro aa s σ H Q I q;obtain⟨h1,h2,h3,h4,h5⟩:=mf BV
  obtain⟨cl,Rl⟩:=xI (X:=X) (sc:=sc) λy hy hf=>by
    obtain⟨_,ho⟩:=h5 y hy hf;refine I.ok.has y.1 ?_;rcases ho with ho | ho
    · exact .inl (g.kinds _ _ ho)
    · exact g.kinds _ _ ho
  have ck:kH X sc (fx sc) c_ cl t el ifs (tG X.K tg) (cond.map λt=>ny X.K (dH G t)) (tE X.K (ev G elt)):=by
    refine⟨h1,h2,h3,Rl,AO▸BS g BV,λC s H fp=>jV (g.block BV C s H fp) UC,?_,λC s H fp=>Zo _ rfl (g.block BV C s H fp)⟩
    cases cond with
    | none =>
      cases ifs with
      | nil=>rfl
      | cons _ _=>cases jW
    | some tt =>
      cases ifs with
      | nil=>cases jW
      | cons e es =>
        cases es with
        | cons _ _=>cases jW
        | nil=>exact⟨e,rfl,λC s H fp=>Rh tt rfl (X.block sc cl C (fx sc) s H fp []) rfl (g.block BV C s H fp) e jW⟩
  refine Ew g.calm BW ck (qT kG X.env) aa s σ H Q I ?_;obtain⟨ads,M,ρ,sr,q⟩:=q;refine⟨ads,M,ρ,sr,?_⟩
  have q:cq X.K ads H Q ((cK G k dR ρ M).bind λit M=>bc (λτ M=>bH G cond τ M) (λτ M=>(ev G elt τ M).bind own) it tg (cX M it) 0 (eR c_ ρ) M []):=by
    simp only[qA]at q;unfold cK
    cases hw:cY G dR ρ M with
    | ok ws M1=>rw[hw]at q;exact q
    | err _ _=>rw[hw]at q;exact q
    | af=>rw[hw]at q;exact q
  cases hs:cK G k dR ρ M with
  | ok it M1 =>
    rw[hs]at q;intro J H1 ar g1 m1 rj;exact t_ (sr.grow g1 m1) rj (cq.shift (o:=bc (λτ M=>bH G cond τ M) (λτ M=>(ev G elt τ M).bind own) it tg (cX M1 it) 0 (eR c_ ρ) M1 []) q g1 sr.mem m1)
  | err _ _=>rw[hs]at q;exact q
  | af=>rw[hs]at q;exact q
end
theorem fD(h:(iB e&&bI cc c e)=true)(k:bI cc c e=true->PE X e (tE X.K (ev G c))):PT X e (ny X.K (dH G (.val c))):=Fe ((cu _ _).mp h).1 (k ((cu _ _).mp h).2)
mutual
theorem aU:∀(c:C)(cc:CC)(X:Cx)(e:Expr),Good kk X cc G->bI cc c e=true->PE X e (tE X.K (ev G c))
 | .ae i,cc,X,e,g,h=>Ot g h
 | .ai d,cc,X,e,g,h=>Ou h
 | .bin op a b,cc,X,e,g,h=>Ov (λe h=>aU a cc X e g h) (λe h=>aU b cc X e g h) h
 | .cmp op a b,cc,X,e,g,h=>(Hg g (λe h=>aU a cc X e g h) (λe h=>aU b cc X e g h) h).1
 | .chain o1 o2 a b c,cc,X,e,g,h=>(xD g (λe h=>aU a cc X e g h) (λe h=>aU b cc X e g h) (λe h=>aU c cc X e g h) h).1
 | .dq cs,cc,X,e,g,h=>by
  refine fK (P:=λe=>PE X e _) h λop es pos h=>?_;simp only[cu,Bool.not_eq_true',List.isEmpty_eq_false_iff]at h
  cases op with
  | Or=>exact absurd h.1.1 cH
  | And=>exact eS (Hi (op:=.And) cs es pos (qU cs cc X g) h.1.2 h.2) λσ H Q q=>q
 | .gA cs,cc,X,e,g,h=>by
  refine fK (P:=λe=>PE X e _) h λop es pos h=>?_;simp only[cu,Bool.not_eq_true',List.isEmpty_eq_false_iff]at h
  cases op with
  | And=>exact absurd h.1.1.symm cH
  | Or=>exact eS (OB cs es pos (qU cs cc X g) h.1.2 h.2) λσ H Q q=>q
 | .neg a,cc,X,e,g,h=>Ow (λe h=>aU a cc X e g h) h
 | .ite t a b,cc,X,e,g,h=>vG (P:=λe=>PE X e _) h λc x y pos h=>by
  simp only[cu]at h;exact OE (vP t cc X c g h.1.1) (aU a cc X x g h.1.2) (aU b cc X y g h.2)
 | .tup cs,cc,X,e,g,h=>Ox (λes h=>ua cs cc X es g h) h
 | .lst cs,cc,X,e,g,h=>Oy (λes h=>ua cs cc X es g h) h
 | .sub a b,cc,X,e,g,h=>cy (P:=λe=>PE X e _) h λe i pos h=>by
  simp only[cu]at h;exact OF g h.1.1 (aU a cc X e g h.1.2) (aU b cc X i g h.2)
 | .nh a lo hi,cc,X,e,g,h=>cy (P:=λe=>PE X e _) h λe i pos h=>nI (P:=λi=>PE X (.Subscript e i pos) _) h λl u st p h=>by
  simp only[cu]at h
  cases st with
  | some _=>exact absurd h.1.1.1 cH
  | none=>exact OG (aU a cc X e g h.1.1.2) (OQ lo cc X l g h.1.2) (OQ hi cc X u g h.2)
 | .zU a k,cc,X,e,g,h=>cy (P:=λe=>PE X e _) h λe i pos h=>nI (P:=λi=>PE X (.Subscript e i pos) _) h λl u st p h=>by
  rcases l with _|_<;>first | exact absurd h cH | skip
  rcases u with _|_<;>first | exact absurd h cH | skip
  rcases st with _ | ke<;>first | exact absurd h cH | skip
  replace h:=(cu _ _).mp h
  refine OJ ?_ (aU a cc X e g h.2);rcases(Bool.or_eq_true _ _).mp h.1 with h | h
  ·refine cf (P:=λke=>PE X ke _) h λc j p2 h=>?_;cases c<;>first | exact absurd h cH | skip
   obtain rfl:=eq_of_beq h;exact p0
  ·refine e9 (P:=λke=>PE X ke _) h λop x p2 h=>?_
   replace h:=(cu _ _).mp h
   cases op<;>first | exact absurd h.1 cH | skip
   refine cf (P:=λx=>PE X (.UnaryOp .USub x p2) _) h.2 λc j p3 h=>?_;cases c<;>first | exact absurd h cH | skip
   rename_i jj
   obtain rfl:k=-jj:=by have:=eq_of_beq h;omega
   exact eS (G1 An p0) λσ H Q q=>⟨jj,rfl,q⟩
 | .call f cs,cc,X,e,g,h=>dc (P:=λe=>PE X e _) h λfe args fc pos h=>bT (P:=λfe=>PE X (.Call fe args fc pos) _) h λx p h=>by
  rcases args with _|⟨e,es⟩<;>first | exact absurd h cH | skip
  cases fc<;>first | exact absurd h cH | skip
  simp only[cu,beq_iff_eq]at h;exact JZ g h.1.1.1 h.1.1.2 h.1.2 h.2 (ua cs cc X (e::es) g h.2)
 | .bi b cs,cc,X,e,g,h=>dc (P:=λe=>PE X e _) h λfe args fc pos h0=>bT (P:=λfe=>PE X (.Call fe args fc pos) _) h0 λx p h=>by
  clear h0
  replace h:=(cu _ _).mp h
  have h1:=h.1
  replace h:=h.2
  simp only[cu,List.isEmpty_iff]at h1;obtain⟨⟨rfl,hx⟩,hg⟩:=h1
  cases hb:BD b with
  | none =>
   rw[hb]at h;rcases args with _|⟨e,es⟩<;>first | exact absurd h cH | skip
   replace h:=(cu _ _).mp h
   have eJ:aL e=true/\cE cc cs.tail es=true:=by
    cases cs with
    | nil=>exact absurd h.2 cH
    | cons c cs =>
     have h':(aL e&&bI cc c e&&cE cc cs es)=true:=h.2;simp only[cu]at h';exact⟨h'.1.1,h'.2⟩
   exact Uu g h.1 (eq_of_beq hx) hg eJ.1 eJ.2 (Ho cs cc X (e::es) g h.2)
  | some t =>
   rw[hb]at h;obtain rfl:=vM hb;rcases args with _|⟨e,_|⟨f,_|⟨f2,fs⟩⟩⟩<;>first | exact absurd h cH | skip
   replace h:=(cu _ _).mp h
   refine bT (P:=λf=>PE X (.Call (.Name x p) [e,f] [] pos) _) h.1 λy py hy=>?_;simp only[cu,decide_eq_true_eq]at hy;rcases cs with _|⟨c,_|⟨c2,cs⟩⟩
   ·exact absurd h.2 cH
   ·have h7:(aL e&&bI cc c e&&true)=true:=h.2;simp only[cu]at h7;exact OI g (eq_of_beq hx) hg (eq_of_beq hy.1.1) hy.1.2 hy.2 h7.1.1 (aU c cc X e g h7.1.2)
   ·have h7:(aL e&&bI cc c e&&cE cc (c2::cs) [])=true:=h.2;simp only[cu]at h7;exact absurd h7.2 cH
 | .me m o cs,cc,X,e,g,h=>dc (P:=λe=>PE X e _) h λfe args fc pos h=>fv (P:=λfe=>PE X (.Call fe args fc pos) _) h λe n ap h=>by
  simp only[cu,List.isEmpty_iff]at h;obtain⟨⟨⟨⟨⟨⟨⟨rfl,h1⟩,h2⟩,h3⟩,h4⟩,h5⟩,h6⟩,h7⟩:=h;exact Uw (eq_of_beq h1) h2 h3 h4 h6 (of_decide_eq_true h7) (aU o cc X e g h5) (ua cs cc X args g h6)
 | .tq ks cs,cc,X,e,g,h=>pE (P:=λe=>PE X e _) h λkeys vs pos h=>by
  simp only[Bool.or_eq_true,cu,Bool.not_eq_true',List.isEmpty_eq_false_iff,decide_eq_true_eq,List.isEmpty_iff]at h;rcases h with⟨⟨⟨⟨⟨h1,h2⟩,h3⟩,h4⟩,h5⟩,h6⟩|⟨⟨⟨rfl,rfl⟩,rfl⟩,rfl⟩
  ·exact ON h1 h2 h3 h4 h5 h6 (qU cs cc X g)
  ·exact J2
 | .ku tp cs,_,_,_,_,h=>absurd (show false=true from h) cH
 | .EI x v,cc,X,e,g,h=>bT (P:=λe=>PE X e _) h λy pos h=>by
  simp only[cu,beq_iff_eq]at h;obtain⟨⟨⟨rfl,h1⟩,h2⟩,h3⟩:=h;exact OK g h1 h2 h3
 | .kJ,cc,X,e,g,h=>pE (P:=λe=>PE X e _) h λkeys vs pos h=>by
  simp only[cu,List.isEmpty_iff]at h;obtain⟨rfl,rfl⟩:=h;exact J3
 | .jk a b,cc,X,e,g,h=>cy (P:=λe=>PE X e _) h λe i pos h=>by
  simp only[cu]at h;exact J1 g h.1.1 (aU a cc X e g h.1.2) (aU b cc X i g h.2)
 | .f_ ng a b,cc,X,e,g,h=>(Hh g (λe h=>aU a cc X e g h) (λe h=>aU b cc X e g h) h).1
 | .cnt a b,cc,X,e,g,h=>dc (P:=λe=>PE X e _) h λfe args fc pos h=>fv (P:=λfe=>PE X (.Call fe args fc pos) _) h λe n ap h=>by
  rcases args with _|⟨x,_|⟨x2,xs⟩⟩<;>first | exact absurd h cH | skip
  cases fc<;>first | exact absurd h cH | skip
  simp only[cu]at h;obtain⟨⟨⟨⟨⟨h1,h2⟩,h3⟩,h4⟩,h5⟩,h6⟩:=h;exact OM (eq_of_beq h1) h2 h3 h4 h6 (aU a cc X e g h5) (aU b cc X x g h6)
 | .gB ng a,cc,X,e,g,h=>(BG (λe h=>aU a cc X e g h) h).1
 | .comp k dR tg cond elt c_,cc,X,e,g,h=>iY (P:=λe=>PE X e _) h λel gens sc pos h=>by
  rcases gens with _|⟨⟨t,aK,ifs,as⟩,_|⟨_,_⟩⟩<;>first | exact absurd h cH | skip
  simp only[cu,beq_iff_eq,decide_eq_true_eq]at h;obtain⟨⟨⟨⟨⟨⟨rfl,h1⟩,h2⟩,h3⟩,h4⟩,h5⟩,h6⟩:=h;obtain⟨BW,kG⟩:=vQ dR k cc X t aK g h3;obtain⟨_,_,_,r⟩:=J4 (pos:=pos) g h1 h2 kG BW h4 h5 (λt ht X' _ g' e he=>Fo cond (qJ cc sc) X' g' t ht e he) (λX' _ g'=>aU elt (qJ cc sc) X' el g' h6);exact r
theorem vP:∀(t:fB)(cc:CC)(X:Cx)(e:Expr),Good kk X cc G->jR cc t e=true->PT X e (ny X.K (dH G t))
 | .val (.cmp op a b),cc,X,e,g,h=>qN JW (Hg g (λe h=>aU a cc X e g h) (λe h=>aU b cc X e g h) h).2
 | .val (.chain o1 o2 a b c),cc,X,e,g,h=>qN BI (xD g (λe h=>aU a cc X e g h) (λe h=>aU b cc X e g h) (λe h=>aU c cc X e g h) h).2
 | .val (.ae i),cc,X,e,g,h=>fD h (aU (.ae i) cc X e g)
 | .val (.ai d),cc,X,e,g,h=>fD h (aU (.ai d) cc X e g)
 | .val (.bin op a b),cc,X,e,g,h=>fD h (aU (.bin op a b) cc X e g)
 | .val (.dq cs),cc,X,e,g,h=>fD h (aU (.dq cs) cc X e g)
 | .val (.gA cs),cc,X,e,g,h=>fD h (aU (.gA cs) cc X e g)
 | .val (.neg a),cc,X,e,g,h=>fD h (aU (.neg a) cc X e g)
 | .val (.ite t a b),cc,X,e,g,h=>fD h (aU (.ite t a b) cc X e g)
 | .val (.tup cs),cc,X,e,g,h=>fD h (aU (.tup cs) cc X e g)
 | .val (.lst cs),cc,X,e,g,h=>fD h (aU (.lst cs) cc X e g)
 | .val (.sub a b),cc,X,e,g,h=>fD h (aU (.sub a b) cc X e g)
 | .val (.nh a lo hi),cc,X,e,g,h=>fD h (aU (.nh a lo hi) cc X e g)
 | .val (.zU a k),cc,X,e,g,h=>fD h (aU (.zU a k) cc X e g)
 | .val (.call f cs),cc,X,e,g,h=>fD h (aU (.call f cs) cc X e g)
 | .val (.bi b cs),cc,X,e,g,h=>fD h (aU (.bi b cs) cc X e g)
 | .val (.me m o cs),cc,X,e,g,h=>fD h (aU (.me m o cs) cc X e g)
 | .val (.tq ks cs),cc,X,e,g,h=>fD h (aU (.tq ks cs) cc X e g)
 | .val (.ku tp cs),cc,X,e,g,h=>fD h (aU (.ku tp cs) cc X e g)
 | .val (.gB ng a),cc,X,e,g,h=>qN Fc (BG (λe h=>aU a cc X e g h) h).2
 | .val (.f_ ng a b),cc,X,e,g,h=>qN JV (Hh g (λe h=>aU a cc X e g h) (λe h=>aU b cc X e g h) h).2
 | .val (.kJ),cc,X,e,g,h=>fD h (aU (.kJ) cc X e g)
 | .val (.jk a b),cc,X,e,g,h=>fD h (aU (.jk a b) cc X e g)
 | .val (.cnt a b),cc,X,e,g,h=>fD h (aU (.cnt a b) cc X e g)
 | .val (.EI x v),cc,X,e,g,h=>fD h (aU (.EI x v) cc X e g)
 | .val (.comp k dR tg cond elt c_),cc,X,e,g,h=>fD h (aU (.comp k dR tg cond elt c_) cc X e g)
 | .dq ts,cc,X,e,g,h=>by
  refine fK (P:=λe=>PT X e _) h λop es pos h=>?_;simp only[cu,Bool.not_eq_true',List.isEmpty_eq_false_iff]at h
  cases op with
  | Or=>exact absurd h.1.1 cH
  | And=>exact DH (Hj ts es pos (BX ts cc X g) h.1.2 h.2).pt λσ H Q q=>q
 | .gA ts,cc,X,e,g,h=>by
  refine fK (P:=λe=>PT X e _) h λop es pos h=>?_;simp only[cu,Bool.not_eq_true',List.isEmpty_eq_false_iff]at h
  cases op with
  | And=>exact absurd h.1.1.symm cH
  | Or=>exact DH (Hk ts es pos (BX ts cc X g) h.1.2 h.2).pt λσ H Q q=>q
 | .neg t,cc,X,e,g,h=>by
  refine e9 (P:=λe=>PT X e _) h λop x pos h=>?_
  replace h:=(cu _ _).mp h
  cases op<;>first | exact absurd h.1 cH | skip
  exact OD (vP t cc X x g h.2)
theorem ua:∀(cs:List C)(cc:CC)(X:Cx)(es:List Expr),Good kk X cc G->cE cc cs es=true->PA X es (ES X.K (bL G cs))
 | [],cc,X,[],g,h=>Oz
 | [],cc,X,_::_,g,h=>by cases h
 | _::_,cc,X,[],g,h=>by cases h
 | c::cs,cc,X,e::es,g,h=>by
  have h':(aL e&&bI cc c e&&cE cc cs es)=true:=h;simp only[cu]at h';exact JU h'.1.1 (aU c cc X e g h'.1.2) (ua cs cc X es g h'.2)
theorem Ho:∀(cs:List C)(cc:CC)(X:Cx)(es:List Expr),Good kk X cc G->cE cc cs es=true->PA X es (Mn X.K (cY G cs))
 | [],cc,X,[],g,h=>Hl
 | [],cc,X,_::_,g,h=>by cases h
 | _::_,cc,X,[],g,h=>by cases h
 | c::cs,cc,X,e::es,g,h=>by
  have h':(aL e&&bI cc c e&&cE cc cs es)=true:=h;simp only[cu]at h';exact BK h'.1.1 (aU c cc X e g h'.1.2) (Ho cs cc X es g h'.2)
theorem qU:∀(cs:List C)(cc:CC)(X:Cx),Good kk X cc G->∀c∈cs,∀e,bI cc c e=true->PE X e (tE X.K (ev G c))
 | [],cc,X,g,c,hc,e,h=>by cases hc
 | c::cs,cc,X,g,c',hc,e,h=>by
  rcases List.mem_cons.mp hc with z | z
  ·rw[z]at h⊢;exact aU c cc X e g h
  ·exact qU cs cc X g c' z e h
theorem BX:∀(ts:List fB)(cc:CC)(X:Cx),Good kk X cc G->∀t∈ts,∀e,jR cc t e=true->PT X e (ny X.K (dH G t))
 | [],cc,X,g,c,hc,e,h=>by cases hc
 | c::cs,cc,X,g,c',hc,e,h=>by
  rcases List.mem_cons.mp hc with z | z
  ·rw[z]at h⊢;exact vP c cc X e g h
  ·exact BX cs cc X g c' z e h
theorem OQ:∀(o:Option C)(cc:CC)(X:Cx)(e:Option Expr),Good kk X cc G->JS cc o e=true->PO X e (tO X.K (sh G o))
 | none,cc,X,none,g,h=>JX
 | none,cc,X,some _,g,h=>by cases h
 | some _,cc,X,none,g,h=>by cases h
 | some c,cc,X,some e,g,h=>JY (aU c cc X e g h)
theorem Fo:∀(o:Option fB)(cc:CC)(X:Cx),Good kk X cc G->∀t,o=some t->∀e,jR cc t e=true->PT X e (ny X.K (dH G t))
 | none,cc,X,g,t,ht,e,h=>by cases ht
 | some c,cc,X,g,t,ht,e,h=>by cases ht;exact vP c cc X e g h
theorem vQ:∀(dR:List C)(k:SK)(cc:CC)(X:Cx)(t aK:Expr),Good kk X cc G->qK cc k dR t aK=true->PI X t aK (tI X.K (cK G k dR))/\dw aK=true
 | [],k,cc,X,t,aK,g,h=>by cases k<;>cases h
 | [c],.seq,cc,X,t,aK,g,h=>by
  have h':(dw aK&&bI cc c aK)=true:=h;simp only[cu]at h';exact⟨Fh (aU c cc X aK g h'.2),h'.1⟩
 | [c],.vals,cc,X,t,aK,g,h=>dc (P:=λaK=>PI X t aK _/\dw aK=true) h λfe args fc pos h=>fv (P:=λfe=>PI X t (.Call fe args fc pos) _/\dw (.Call fe args fc pos)=true) h λe n ap h=>by
  rcases args with _|⟨e2,es⟩<;>first | exact absurd h cH | skip
  cases fc<;>first | exact absurd h cH | skip
  simp only[cu]at h;obtain⟨⟨⟨h1,h2⟩,h3⟩,h4⟩:=h;obtain rfl:=eq_of_beq h1;exact⟨BQ (aU c cc X e g h4) h3 h2,rfl⟩
 | [c],.keys,cc,X,t,aK,g,h=>by cases h
 | [c],.dm,cc,X,t,aK,g,h=>by
  refine dc (P:=λaK=>PI X t aK _/\dw aK=true) h λfe args fc pos h=>bT (P:=λfe=>PI X t (.Call fe args fc pos) _/\dw (.Call fe args fc pos)=true) h λx p h=>?_;rcases args with _|⟨a,_|⟨a2,as⟩⟩<;>first | exact absurd h cH | skip
  cases fc<;>first | exact absurd h cH | skip
  simp only[cu]at h;exact⟨BO g (eq_of_beq h.1.1.1) h.1.1.2 h.1.2 (aU c cc X a g h.2),rfl⟩
 | [c],.enum,cc,X,t,aK,g,h=>by
  refine dc (P:=λaK=>PI X t aK _/\dw aK=true) h λfe args fc pos h=>bT (P:=λfe=>PI X t (.Call fe args fc pos) _/\dw (.Call fe args fc pos)=true) h λx p h=>?_;rcases args with _|⟨a,_|⟨a2,as⟩⟩<;>first | exact absurd h cH | skip
  cases fc<;>first | exact absurd h cH | skip
  simp only[cu]at h;exact⟨BR g (eq_of_beq h.1.1.1.1) h.1.1.1.2 h.1.1.2 h.1.2 (aU c cc X a g h.2),rfl⟩
 | [c],.oO,cc,X,t,aK,g,h=>by cases h
 | [c],.zip,cc,X,t,aK,g,h=>by cases h
 | [c],.EH,cc,X,t,aK,g,h=>by cases h
 | [c,d],.oO,cc,X,t,aK,g,h=>by
  refine dc (P:=λaK=>PI X t aK _/\dw aK=true) h λfe args fc pos h=>bT (P:=λfe=>PI X t (.Call fe args fc pos) _/\dw (.Call fe args fc pos)=true) h λx p h=>?_;rcases args with _|⟨a,_|⟨b,_|⟨a2,as⟩⟩⟩<;>first | exact absurd h cH | skip
  cases fc<;>first | exact absurd h cH | skip
  simp only[cu]at h;exact⟨BP g (eq_of_beq h.1.1.1.1.1) h.1.1.1.1.2 h.1.1.1.2 h.1.1.2 (aU c cc X a g h.1.2) (aU d cc X b g h.2),rfl⟩
 | [c,d],.seq,cc,X,t,aK,g,h=>by cases h
 | [c,d],.EH,cc,X,t,aK,g,h=>by cases h
 | [c,d],.keys,cc,X,t,aK,g,h=>by cases h
 | [c,d],.vals,cc,X,t,aK,g,h=>by cases h
 | [c,d],.dm,cc,X,t,aK,g,h=>by cases h
 | [c,d],.enum,cc,X,t,aK,g,h=>by cases h
 | [c,d],.zip,cc,X,t,aK,g,h=>by
  refine dc (P:=λaK=>PI X t aK _/\dw aK=true) h λfe args fc pos h=>bT (P:=λfe=>PI X t (.Call fe args fc pos) _/\dw (.Call fe args fc pos)=true) h λx p h=>?_;rcases args with _|⟨a,_|⟨b,_|⟨a2,as⟩⟩⟩<;>first | exact absurd h cH | skip
  cases fc<;>first | exact absurd h cH | skip
  simp only[cu]at h;exact⟨Fj g (eq_of_beq h.1.1.1.1.1.1) h.1.1.1.1.1.2 h.1.1.1.1.2 h.1.1.1.2 h.1.1.2 (aU c cc X a g h.1.2) (aU d cc X b g h.2),rfl⟩
 | [c,d,m],.EH,cc,X,t,aK,g,h=>by cases h
 | [c,d,m],.seq,cc,X,t,aK,g,h=>by cases h
 | [c,d,m],.keys,cc,X,t,aK,g,h=>by cases h
 | [c,d,m],.vals,cc,X,t,aK,g,h=>by cases h
 | [c,d,m],.dm,cc,X,t,aK,g,h=>by cases h
 | [c,d,m],.oO,cc,X,t,aK,g,h=>by cases h
 | [c,d,m],.enum,cc,X,t,aK,g,h=>by cases h
 | [c,d,m],.zip,cc,X,t,aK,g,h=>by cases h
 | _::_::_::_::_,k,cc,X,t,aK,g,h=>by cases k<;>cases h
end
inductive S where
 | asg (tg:List Nat) (c:C)
 | eD (i:Nat) (c:C)
 | put (o i v:C)
 | dput (o i v:C)
 | par (i j:Nat) (a b:C)
 | expr (c:C)
 | ret (c:C)
 | BY
 | iff (t:fB) (a b:List S)
 | bq (tg:List Nat) (k:SK) (dR:List C) (b:List S)
 | DJ (n:Nat) (t:fB) (b:List S)
 | never | pass | brk | cont
inductive bh where
 | nx (ρ:En) (M:aq) | rt (w:W) (M:aq) | bk (ρ:En) (M:aq) | ct (ρ:En) (M:aq) | af
noncomputable def bh.gw{α:Type}(o:cw α)(f:α->aq->bh):bh:=match o with
 | .ok a M=>f a M
 | _=>.af
noncomputable def bh.seq(o:bh)(f:En->aq->bh):bh:=match o with
 | .nx ρ M=>f ρ M
 | o=>o
def dQ(body:En->aq->bh)(it:Ev.It)(tg:List Nat):Nat->Nat->En->aq->bh
 | 0,i,ρ,M=>match itemAt M i it with
  | some none=>.nx ρ M
  | _=>.af
 | f+1,i,ρ,M=>match itemAt M i it with
  | some none=>.nx ρ M
  | some (some d)=>match bR tg d ρ with
   | none=>.af
   | some ρ=>match body ρ M with
    | .nx ρ M=>dQ body it tg f (i+1) ρ M
    | .ct ρ M=>dQ body it tg f (i+1) ρ M
    | .bk ρ M=>.nx ρ M
    | .rt w M=>.rt w M
    | .af=>.af
  | none=>.af
noncomputable def nS(J5:En->aq->cw Bool)(body:En->aq->bh):Nat->En->aq->bh
  | 0,_,_=>.af
  | f+1,ρ,M=>match J5 ρ M with
    | .ok r M => if r then (match body ρ M with
        | .nx ρ M=>nS J5 body f ρ M
        | .ct ρ M=>nS J5 body f ρ M
        | .bk ρ M=>.nx ρ M
        | .rt w M=>.rt w M
        | .af=>.af) else .nx ρ M
    | _=>.af
mutual
noncomputable def jy(G:du):S->En->aq->bh
 | .asg tg c,ρ,M=>bh.gw ((ev G c ρ M).bind own) λd M=>match bR tg d ρ with
  | some ρ=>.nx ρ M
  | none=>.af
 | .eD i c,ρ,M=>bh.gw ((ev G c ρ M).bind own) λd M=>.nx (ρ.set i (some d)) M
 | .put o i v,ρ,M=>bh.gw ((ev G v ρ M).bind own) λd M=>bh.gw (ev G o ρ M) λx M=>bh.gw (ev G i ρ M) λy M=>bh.gw (gD x y d M) λ_ M=>.nx ρ M
 | .dput o i v,ρ,M=>bh.gw ((ev G v ρ M).bind own) λd M=>bh.gw (ev G o ρ M) λx M=>bh.gw (ev G i ρ M) λy M=>bh.gw (gR x y d M) λ_ M=>.nx ρ M
 | .par i j a b,ρ,M=>bh.gw (bL G [a,b] ρ M) λds M=>match ds with
  | [x,y]=>.nx ((ρ.set i (some x)).set j (some y)) M
  | _=>.af
 | .expr c,ρ,M=>bh.gw (ev G c ρ M) λ_ M=>.nx ρ M
 | .ret c,ρ,M=>bh.gw (ev G c ρ M) λw M=>.rt w M
 | .BY,_,M=>.rt (.d .aQ) M
 | .iff t a b,ρ,M=>bh.gw (dH G t ρ M) λr M=>if r then b_ G a ρ M else b_ G b ρ M
 | .bq tg k dR b,ρ,M=>bh.gw (cK G k dR ρ M) λit M=>dQ (λρ M=>b_ G b ρ M) it tg (cX M it) 0 ρ M
 | .DJ n t b,ρ,M=>nS (λρ M=>dH G t ρ M) (λρ M=>b_ G b ρ M) n ρ M
 | .never,_,_=>.af
 | .pass,ρ,M=>.nx ρ M
 | .brk,ρ,M=>.bk ρ M
 | .cont,ρ,M=>.ct ρ M
noncomputable def b_(G:du):List S->En->aq->bh
 | [],ρ,M=>.nx ρ M
 | s::ss,ρ,M=>(jy G s ρ M).seq λρ M=>b_ G ss ρ M
end
section
variable {G:du} {lo hi:Option C} {cond:Option fB}
theorem xM : jy G (.asg tg c) ρ M = (bh.gw ((ev G c ρ M).bind own) fun d M => match bR tg d ρ with
    | some ρ=>.nx ρ M
    | none=>.af):=rfl
theorem ub:jy G (.eD i c) ρ M=bh.gw ((ev G c ρ M).bind own) λd M=>.nx (ρ.set i (some d)) M:=rfl
theorem xN:jy G (.put o i v) ρ M=bh.gw ((ev G v ρ M).bind own) λd M=>bh.gw (ev G o ρ M) λx M=>bh.gw (ev G i ρ M) λy M=>bh.gw (gD x y d M) λ_ M=>.nx ρ M:=rfl
theorem uc:jy G (.dput o i v) ρ M=bh.gw ((ev G v ρ M).bind own) λd M=>bh.gw (ev G o ρ M) λx M=>bh.gw (ev G i ρ M) λy M=>bh.gw (gR x y d M) λ_ M=>.nx ρ M:=rfl
theorem Fp : jy G (.par i j a b) ρ M = (bh.gw (bL G [a, b] ρ M) fun ds M => match ds with
    | [x,y]=>.nx ((ρ.set i (some x)).set j (some y)) M
    | _=>.af):=rfl
theorem ud:jy G (.expr c) ρ M=bh.gw (ev G c ρ M) λ_ M=>.nx ρ M:=rfl
theorem xO:jy G (.ret c) ρ M=bh.gw (ev G c ρ M) λw M=>.rt w M:=rfl
theorem xP:jy G (.iff t a b) ρ M=bh.gw (dH G t ρ M) λr M=>if r then b_ G a ρ M else b_ G b ρ M:=rfl
theorem ue:jy G (.bq tg k dR b) ρ M=bh.gw (cK G k dR ρ M) λit M=>dQ (λρ M=>b_ G b ρ M) it tg (cX M it) 0 ρ M:=rfl
theorem xQ:jy G (.DJ n t b) ρ M=nS (λρ M=>dH G t ρ M) (λρ M=>b_ G b ρ M) n ρ M:=rfl
theorem uf:b_ G [] ρ M=.nx ρ M:=rfl
theorem pF:b_ G (s::ss) ρ M=(jy G s ρ M).seq λρ M=>b_ G ss ρ M:=rfl
end
noncomputable def fy(e:Expr):Bool:=Nat.beq e.ctorIdx 8||(Nat.beq e.ctorIdx 9||Nat.beq e.ctorIdx 10)
def Hq(cc:CC)(t v:Expr):Bool:=(!fy v && !(fM t&&fM v))||d4 t λx _=>cc.names.lookup x==some .cell
mutual
noncomputable def J6(cc:CC):S->Stmt->Bool
 | .asg tg c,s=>gk s λts v _=>match ts with
  | [t]=>iZ cc tg t&&Hq cc t v&&(!fy v||Nat.beq v.ctorIdx 8)&&bI cc c v
  | _=>false
 | .eD i c,s=>gk s λts v _=>match ts with
  | [t]=>d4 t λx p=>gE v λel gens sc q=>cc.N[i]? == some x&&cc.names.lookup x==some .local&&p.line==q.line && !(sc.names.any λ(n,k)=>n==x&&(k == .local||k == .cell))&&bI cc c (.ListComp el gens sc q)
  | _=>false
 | .put o i v,s=>gk s λts w _=>match ts with
  | [t]=>cJ t λe f _=>fb f&&bI cc o e&&bI cc i f&&bI cc v w
  | _=>false
 | .dput o i v,s=>gk s λts w _=>match ts with
  | [t]=>cJ t λe f _=>fb f&&bI cc o e&&bI cc i f&&bI cc v w
  | _=>false
 | .par i j a b,s=>false
 | .expr c,s=>vJ s λe _=>!fy e&&bI cc c e
 | .ret c,s=>jO s λo _=>match o with
  | some e=>bI cc c e
  | none=>false
 | .BY,s=>jO s λo _=>o.isNone
 | .iff t a b,s=>JP s λc x y _=>jR cc t c&&i4 cc a x&&i4 cc b y
 | .bq tg k dR b,s=>Bx s λt aK body OR _=>OR.isEmpty&&qK cc k dR t aK&&iZ cc tg t&&i4 cc b body
 | .DJ _ t b,s=>qG s λc body OR _=>OR.isEmpty&&jR cc t c&&i4 cc b body
 | .never,_=>true
 | .pass,s=>vK s λ_=>true
 | .brk,s=>qH s λ_=>true
 | .cont,s=>jw s λ_=>true
noncomputable def i4(cc:CC):List S->List Stmt->Bool
 | [],[]=>true
 | s::ss,t::ts=>J6 cc s t&&i4 cc ss ts
 | _,_=>false
end
def mh(K:PySem.W.Frag)(ads:List Addr)(H:Hp)(D:Ends):bh->Prop
 | .nx ρ M=>∀cI H' aB,aE ads aB H H'->SR K aB M ρ cI H'->D.nx cI H'
 | .bk ρ M=>∀cI H' aB,aE ads aB H H'->SR K aB M ρ cI H'->D.bk cI H'
 | .ct ρ M=>∀cI H' aB,aE ads aB H H'->SR K aB M ρ cI H'->D.ct cI H'
 | .rt w M=>jM K ads H w M D.rt
 | .af=>False
def pG(K:PySem.W.Frag)(o:En->aq->bh):TS:=λD σ H=>∃ads M ρ,SR K ads M ρ σ H/\mh K ads H D (o ρ M)
theorem mh.shift{K:PySem.W.Frag}{ads aB:List Addr}{H H':Hp}{M M2:aq}{D:Ends}{o:bh}(p:mh K ads H D o)(g:aE ads aB H H')(m:aO K ads H M)(m':aO K aB H' M2):mh K aB H' D o:=by
 cases o with
 | nx ρ M=>exact λσ H1 ar g1 s1=>p σ H1 ar (g.trans g1) s1
 | bk ρ M=>exact λσ H1 ar g1 s1=>p σ H1 ar (g.trans g1) s1
 | ct ρ M=>exact λσ H1 ar g1 s1=>p σ H1 ar (g.trans g1) s1
 | rt w M=>exact jM.shift p g m m'
 | af=>exact p
theorem xR{X:Cx}{st:Stmt}{t u:TS}(h:PS X st t)(f:∀D σ H,u D σ H->t D σ H):PS X st u:=λaa s σ H D I q=>h aa s σ H D I (f D σ H q)
theorem OS{st:List Stmt}(h:pZ X st t)(f:∀D σ H,u D σ H->t D σ H):pZ X st u:=λaa s σ H D I q=>h aa s σ H D I (f D σ H q)
section
variable {kk:Nat} {X:Cx} {cc:CC} {G:du}
theorem qV(h:fy e=false)(t:Option Expr)(l:Nat)(env:Env):swapsWith e t l env=pure false:=by
 cases e<;>first | rfl | exact absurd (show true=false from h).symm cH
theorem OT{K:PySem.W.Frag}{o:En->aq->bh}{k:En->aq->bh}{σ:L2.St}{H:Hp}{D:Ends}(h:pG K (λρ M=>(o ρ M).seq k) D σ H):Nd (pG K o) (pG K k) D σ H:=by
 obtain⟨ads,M,ρ,s,q⟩:=h;have q:mh K ads H D ((o ρ M).seq k):=q;refine⟨ads,M,ρ,s,?_⟩
 cases hq:o ρ M with
 | nx Mq M1 =>
  rw[hq]at q;intro Ik H1 ar g1 s1;exact⟨ar,M1,Mq,s1,mh.shift (o:=k Mq M1) q g1 s.mem s1.mem⟩
 | bk ρ M=>rw[hq]at q;exact q
 | ct ρ M=>rw[hq]at q;exact q
 | rt w M=>rw[hq]at q;exact q
 | af=>rw[hq]at q;exact q
theorem Fq {K : PySem.W.Frag} {body : En -> aq -> bh} {it : Ev.It} {J : L2.It} {tg : List Nat} {tb : TS} (hb : ∀ D σ H, pG K body D σ H -> tb D σ H) {ads : List Addr} {M : aq} {ρ : En} {σ : L2.St} {H : Hp} {D : Ends} {f : Nat}
    (s:SR K ads M ρ σ H) (hJ:Ff K ads H it J) (q:mh K ads H D (dQ body it tg f 0 ρ M)) :
    ∃W:Nat->Nat->L2.St->Hp->Prop,(∃m,W 0 m σ H)/\∀i m σ H,W i m σ H ->
      (J.stop i H/\D.nx σ H)\/(J.go i H/\∃N:L2.St->Hp->Prop,(∀cI H',N cI H'->∃m',m'<m/\W (i+1) m' cI H')/\∀x H',J.L9 i H x H'->tG K tg x σ H' λw6 H2=>tb { D with nx:=N,ct:=N,bk:=D.nx } w6 H2):=by
  refine⟨λi m cI H'=>∃aB M' dS,SR K aB M' dS cI H'/\aE ads aB H H'/\mh K ads H D (dQ body it tg m i dS M'),⟨f,ads,M,ρ,s,aE.refl _ _,q⟩,?_⟩;rintro i m cI H' ⟨aB,M',dS,s',g',q'⟩;obtain⟨r1,r2⟩:=hJ i aB H' M' g' s'.mem
  cases m with
  | zero =>
    unfold dQ at q';split at q'
    · rename_i hi
      exact .inl ⟨r1 hi,q' cI H' aB g' s'⟩
    · exact q'.elim
  | succ m =>
    unfold dQ at q';split at q'
    · rename_i hi
      exact .inl ⟨r1 hi,q' cI H' aB g' s'⟩
    · rename_i d hi
      obtain⟨go,yl⟩:=r2 d hi
      cases vq:bR tg d dS with
      | none=>rw[vq]at q';exact q'.elim
      | some Mq =>
        rw[vq]at q';dsimp only at q';refine .inr ⟨go,λw6 H2=>∃aT M2 pH,SR K aT M2 pH w6 H2/\aE ads aT H H2/\mh K ads H D (dQ body it tg m (i+1) pH M2),λw6 H2 h=>⟨m,Nat.lt_succ_self _,h⟩,λx H2 y=>?_⟩;obtain⟨g2,m2,rd⟩:=yl x H2 y;refine⟨aB,M',dS,d,s'.grow g2 m2,rd,Mq,vq,λw6 s2=>hb _ _ _ ⟨aB,M',Mq,s2,?_⟩⟩;have gg:=g'.trans g2
        cases hq:body Mq M' with
        | nx Rm M3=>rw[hq]at q';exact λu4 H3 d5 g3 s3=>⟨d5,M3,Rm,s3,gg.trans g3,q'⟩
        | ct Rm M3=>rw[hq]at q';exact λu4 H3 d5 g3 s3=>⟨d5,M3,Rm,s3,gg.trans g3,q'⟩
        | bk Rm M3=>rw[hq]at q';exact λu4 H3 d5 g3 s3=>q' u4 H3 d5 (gg.trans g3) s3
        | rt w M3=>rw[hq]at q';exact jM.shift (M:=M) (M2:=M') q' gg s.mem s2.mem
        | af=>rw[hq]at q';exact q'.elim
    · exact q'.elim
theorem UD {K : PySem.W.Frag} {ads : List Addr} {M : aq} {ρ : En} {σ : L2.St} {H : Hp} {D : Ends} {o : En -> aq -> cw W} {k : W -> aq -> bh} {R : V -> Hp -> Prop} (s : SR K ads M ρ σ H) (q : mh K ads H D (bh.gw (o ρ M) k))
    (hk:∀w M1 v H1 ar,SR K ar M1 ρ σ H1->RW K ar H1 w v->mh K ar H1 D (k w M1)->R v H1):tE K o σ H R:=by
  refine⟨ads,M,ρ,s,?_⟩
  cases hq:o ρ M with
  | ok w M1 =>
    rw[hq]at q;intro v H1 ar g1 m1 r1;exact hk w M1 v H1 ar (s.grow g1 m1) r1.rw (mh.shift (o:=k w M1) q g1 s.mem m1)
  | err _ _=>rw[hq]at q;exact q
  | af=>rw[hq]at q;exact q
theorem Ft {K : PySem.W.Frag} {ads : List Addr} {M : aq} {ρ : En} {σ : L2.St} {H : Hp} {D : Ends} {c : C} {k : Ev.D -> aq -> bh} {R : V -> Hp -> Prop} (s : SR K ads M ρ σ H) (q : mh K ads H D (bh.gw ((ev G c ρ M).bind own) k))
    (hk:∀(d:Ev.D) M1 v H1 ar,SR K ar M1 ρ σ H1->RD K ar H1 d v->mh K ar H1 D (k d M1)->R v H1):tE K (ev G c) σ H R:=by
  refine⟨ads,M,ρ,s,?_⟩
  cases hq:ev G c ρ M with
  | ok w M1 =>
    rw[hq]at q;intro v H1 ar g1 m1 r1;have q:mh K ads H D (bh.gw (own w M1) k):=q
    cases ho:own w M1 with
    | ok d M2 =>
      rw[ho]at q;obtain⟨aT,g2,m2,rd⟩:=qL s.mem g1 m1 r1 ho;exact hk d M2 v H1 aT (s.grow g2 m2) rd (mh.shift (o:=k d M2) q g2 s.mem m2)
    | err _ _=>cases w<;>cases ho
    | af=>cases w<;>cases ho
  | err _ _=>rw[hq]at q;exact q
  | af=>rw[hq]at q;exact q
theorem Fv(h:iZ cc tg t=true):(∃x p,t=.Name x p)\/∃es k p,t=.Tuple es k p:=by
 rcases tg with _|⟨i,_|⟨j,r⟩⟩
 ·exact absurd h cH
 ·exact .inl (bT (P:=λt=>∃x p,t=.Name x p) ((cu _ _).mp h).1 λx p _=>⟨x,p,rfl⟩)
 ·exact .inr (jv (P:=λt=>∃es k p,t=.Tuple es k p) h λes k p _=>⟨es,k,p,rfl⟩)
theorem pI {x : Str}  : swapsWith (.ListComp el gens sc q) (some (.Name x p)) l env =
    pure (env.blockKind == .function&&env.kindOf x==some .local&&p.line==q.line && !(sc.names.any λ(n,k)=>n==x&&(k == .local||k == .cell))):=rfl
theorem OU(g:Good kk X cc G)(ht:iZ cc tg t=true)(hv:Hq cc t v=true)(Zp:fy v=true->∃el gens sc q,v=.ListComp el gens sc q)(he:PE X v (tE X.K (ev G c))):PS X (.Assign [t] v pos) (pG X.K (jy G (.asg tg c))):=by
 have hg:=jV g ht
 have fT:∀D σ H,pG X.K (jy G (.asg tg c)) D σ H->Nk (tE X.K (ev G c)) (tG X.K tg) D σ H:=by
  intro D σ H q;obtain⟨ads,M,ρ,s,q⟩:=q;refine Ft s (by simp only[xM]at q;exact q) λd M1 v H1 ar s1 rd q1=>?_
  cases hb:bR tg d ρ with
  | none=>simp only[hb]at q1;exact q1.elim
  | some dS =>
   simp only[hb]at q1;exact⟨ar,M1,ρ,d,s1,rd,dS,hb,λcI s'=>q1 cI H1 ar (aE.refl _ _) s'⟩
 rcases Fv ht with⟨x,p,rfl⟩|⟨es,k,p,rfl⟩
 ·refine xR (p5 he hg ?_ (by unfold swappedStores;cases v<;>rfl) rfl) fT;show swapsWith v (some (.Name x p)) pos.line X.env=pure false
  cases hc:fy v with
  | false=>exact qV hc _ _ _
  | true =>
   have hv:((!fy v && !(false&&fM v))||(cc.names.lookup x==some .cell))=true:=hv;rw[hc]at hv;have hk:X.env.kindOf x=some .cell:=g.kinds x .cell (by simpa using hv);obtain⟨el,gens,sc,q,rfl⟩:=Zp hc;rw[pI,hk,show((some NameKind.cell:Option NameKind)==some NameKind.local)=false from rfl];simp
 ·have Ny:((!fy v && !(true&&fM v))||false)=true:=hv;simp only[Bool.or_false,Bool.true_and,cu,Bool.not_eq_true']at Ny;refine xR (p5 he hg (show swapsWithSole [.Tuple es k p] v pos.line X.env=pure false from qV Ny.1 (some (.Tuple es k p)) pos.line X.env) ?_ rfl) fT;unfold swappedStores;cases v<;>first | rfl | exact absurd (show true=false from Ny.2).symm cH
theorem J7 {i : Nat} {c : C} {x : Str} {p q pos : Pos} {el t aK : Expr} {ifs : List Expr} {sc : Scope} {N' : List Str} {c_ : List (Option Nat)} {wi : TI} {gt : TG} {tc : Option TT} {te : TE} (g : Good kk X cc G) (hk : X.env.blockKind = .function)
    (hx:cc.N[i]?=some x) (hl:cc.names.lookup x=some .local) (hp:p.line=q.line) (hn:(sc.names.any λ(n,k)=>n==x&&(k == .local||k == .cell))=false)
    (hw:∀(aa:List (Addr×Obj))(s:Shared)(σ:L2.St)(H:Hp),Inv X aa σ H s->∃cl,PI X t aK wi/\kH X sc N' c_ cl t el ifs gt tc te) (UE:∀x,foldedSetIterable aK X.env x=pure x)
    (fT:∀σ H Q,tE X.K (ev G c) σ H Q->xh c_ wi gt tc te σ H Q):PS X (.Assign [.Name x p] (.ListComp el [⟨t,aK,ifs,0⟩] sc q) pos) (pG X.K (jy G (.eD i c))):=by
  intro aa s σ H D I h;obtain⟨cl,hi,ck⟩:=hw aa s σ H I;refine Ey (i:=i) g.calm (by rw[g.N];exact g.nd) (by rw[g.N];exact hx) (g.kinds x _ hl) ?_ hi ck UE aa s σ H D I ?_
  · rw[pI,hk,show X.env.kindOf x=some .local from g.kinds x _ hl,hn,hp];simp
  · obtain⟨ads,M,ρ,sr,h⟩:=h;refine fT σ H _ (Ft sr (by simp only[ub]at h;exact h) λd M1 v H1 ar s1 rd q1=>?_);exact q1 _ H1 ar (aE.refl _ _) (s1.set i rd)
theorem OV(g:Good kk X cc G)(hf:fb f=true)(ho:PE X e (tE X.K (ev G o)))(hi:PE X f (tE X.K (ev G i)))(hv:PE X w (tE X.K (ev G v))):PS X (.Assign [.Subscript e f sp] w pos) (pG X.K (jy G (.put o i v))):=by
 have JJ:=g.room.un;refine xR (p5 hv (Aj ho hi (JO (∅)) (by intro _;cases f<;>first | rfl | exact absurd (show false=true from hf) cH)) (show swapsWithSole [.Subscript e f sp] w pos.line X.env=pure false from (by cases w<;>rfl)) (by unfold swappedStores;cases w<;>rfl) rfl) λD σ H q=>?_;obtain⟨ads,M,ρ,s,q⟩:=q;refine Ft s (by simp only[xN]at q;exact q) λd M1 v H1 ar s1 rd q1=>?_;refine⟨ar,M1,ρ,s1,?_⟩
 cases h2:ev G o ρ M1 with
 | ok wo M2 =>
  rw[h2]at q1;intro vo H2 aT g2 m2 ro;have s2:=s1.grow g2 m2;refine⟨aT,M2,ρ,s2,?_⟩;have q2:mh X.K ar H1 D (bh.gw (ev G i ρ M2) λy M=>bh.gw (gD wo y d M) λ_ M=>.nx ρ M):=q1
  cases h3:ev G i ρ M2 with
  | ok wi M3 =>
   rw[h3]at q2;intro vi H3 d5 g3 m3 ri;have s3:=s2.grow g3 m3;have q3:mh X.K ar H1 D (bh.gw (gD wo wi d M3) λ_ M=>.nx ρ M):=q2;refine⟨d5,M3,wo,wi,d,m3,g3.rw ro.rw,ri.rw,(g2.trans g3).rd _ _ rd,?_⟩
   cases h4:gD wo wi d M3 with
   | ok u M4 =>
    rw[h4]at q3;intro H4 zp g4 m4;exact q3 σ H4 zp ((g2.trans g3).trans g4) (s3.grow g4 m4)
   | err _ _=>rw[h4]at q3;exact q3
   | af=>rw[h4]at q3;exact q3
  | err _ _=>rw[h3]at q2;exact q2
  | af=>rw[h3]at q2;exact q2
 | err _ _=>rw[h2]at q1;exact q1
 | af=>rw[h2]at q1;exact q1
theorem J8(g:Good kk X cc G)(hf:fb f=true)(ho:PE X e (tE X.K (ev G o)))(hi:PE X f (tE X.K (ev G i)))(hv:PE X w (tE X.K (ev G v))):PS X (.Assign [.Subscript e f sp] w pos) (pG X.K (jy G (.dput o i v))):=by
 have JJ:=g.room.un;refine xR (p5 hv (Aj ho hi (E6 (∅)) (by intro _;cases f<;>first | rfl | exact absurd (show false=true from hf) cH)) (show swapsWithSole [.Subscript e f sp] w pos.line X.env=pure false from (by cases w<;>rfl)) (by unfold swappedStores;cases w<;>rfl) rfl) λD σ H q=>?_;obtain⟨ads,M,ρ,s,q⟩:=q;refine Ft s (by simp only[uc]at q;exact q) λd M1 v H1 ar s1 rd q1=>?_;refine⟨ar,M1,ρ,s1,?_⟩
 cases h2:ev G o ρ M1 with
 | ok wo M2 =>
  rw[h2]at q1;intro vo H2 aT g2 m2 ro;have s2:=s1.grow g2 m2;refine⟨aT,M2,ρ,s2,?_⟩;have q2:mh X.K ar H1 D (bh.gw (ev G i ρ M2) λy M=>bh.gw (gR wo y d M) λ_ M=>.nx ρ M):=q1
  cases h3:ev G i ρ M2 with
  | ok wi M3 =>
   rw[h3]at q2;intro vi H3 d5 g3 m3 ri;have s3:=s2.grow g3 m3;have q3:mh X.K ar H1 D (bh.gw (gR wo wi d M3) λ_ M=>.nx ρ M):=q2;refine⟨d5,M3,wo,wi,d,m3,g3.rw ro.rw,ri.rw,(g2.trans g3).rd _ _ rd,?_⟩
   cases h4:gR wo wi d M3 with
   | ok u M4 =>
    rw[h4]at q3;intro H4 zp g4 m4;exact q3 σ H4 zp ((g2.trans g3).trans g4) (s3.grow g4 m4)
   | err _ _=>rw[h4]at q3;exact q3
   | af=>rw[h4]at q3;exact q3
  | err _ _=>rw[h3]at q2;exact q2
  | af=>rw[h3]at q2;exact q2
 | err _ _=>rw[h2]at q1;exact q1
 | af=>rw[h2]at q1;exact q1
theorem J9(hc:fy e=false)(he:PE X e (tE X.K (ev G c))):PS X (.Expr e pos) (pG X.K (jy G (.expr c))):=by
 refine xR (DV he (qV hc _ _ _)) λD σ H q=>?_;obtain⟨ads,M,ρ,s,q⟩:=q;exact UD (k:=λ_ M=>.nx ρ M) s (by simp only[ud]at q;exact q) λw M1 v H1 ar s1 r1 q1=>q1 σ H1 ar (aE.refl _ _) s1
theorem OW(he:PE X e (tE X.K (ev G c))):PS X (.Return (some e) pos) (pG X.K (jy G (.ret c))):=by
 refine xR (Ih he) λD σ H q=>?_;obtain⟨ads,M,ρ,s,q⟩:=q;refine⟨ads,M,ρ,s,?_⟩;simp only[xO]at q
 cases hq:ev G c ρ M with
 | ok w M1=>rw[hq]at q;exact q
 | err _ _=>rw[hq]at q;exact q
 | af=>rw[hq]at q;exact q
theorem UG(ht:PT X c (ny X.K (dH G t)))(ha:pZ X x (pG X.K (b_ G a)))(hb:pZ X y (pG X.K (b_ G b))):PS X (.If c x y pos) (pG X.K (jy G (.iff t a b))):=by
 refine xR (Ni ht ha hb) λD σ H q=>?_;obtain⟨ads,M,ρ,s,q⟩:=q;refine⟨ads,M,ρ,s,?_⟩;simp only[xP]at q
 cases hq:dH G t ρ M with
 | ok r M1 =>
  rw[hq]at q;intro H1 ar g1 m1;have q:mh X.K ads H D (if r then b_ G a ρ M1 else b_ G b ρ M1):=q;have q:=q.shift g1 s.mem m1
  cases r with
  | true=>rw[if_pos rfl]at q⊢;exact⟨ar,M1,ρ,s.grow g1 m1,q⟩
  | false=>rw[if_neg (by simp)]at q⊢;exact⟨ar,M1,ρ,s.grow g1 m1,q⟩
 | err _ _=>rw[hq]at q;exact q
 | af=>rw[hq]at q;exact q
theorem OX(hx:X.xe=λ_ _=>False)(ht:PT X c (ny X.K (dH G t)))(hb:pZ X body (pG X.K (b_ G b))):PS X (.While c body [] pos) (pG X.K (jy G (.DJ n t b))):=by
 refine xR (Ak (by rw[hx];exact PassesOwn.never) ht hb) λD σ H q=>?_;obtain⟨ads,M,ρ,s,q⟩:=q;simp only[xQ]at q;refine⟨λm cI H'=>∃aB M' dS,SR X.K aB M' dS cI H'/\aE ads aB H H'/\mh X.K ads H D (nS (λρ M=>dH G t ρ M) (λρ M=>b_ G b ρ M) m dS M'),⟨n,ads,M,ρ,s,aE.refl _ _,q⟩,?_⟩;rintro m cI H' ⟨aB,M',dS,s',g',q'⟩
 cases m with
 | zero=>exact q'.elim
 | succ m =>
  unfold nS at q';refine⟨aB,M',dS,s',?_⟩
  cases hq:dH G t dS M' with
  | ok r M1 =>
   simp only[hq]at q';intro H1 ar g1 m1;have s1:=s'.grow g1 m1;have g2:=g'.trans g1
   cases r with
   | true =>
    rw[if_pos rfl]at q'⊢;refine⟨λw6 H2=>∃aT M2 pH,SR X.K aT M2 pH w6 H2/\aE ads aT H H2/\mh X.K ads H D (nS (λρ M=>dH G t ρ M) (λρ M=>b_ G b ρ M) m pH M2),λw6 H2 z=>⟨m,Nat.lt_succ_self m,z⟩,ar,M1,dS,s1,?_⟩
    cases y4:b_ G b dS M1 with
    | nx pH M2=>rw[y4]at q';exact λw6 H2 aT g3 s2=>⟨aT,M2,pH,s2,g2.trans g3,q'⟩
    | ct pH M2=>rw[y4]at q';exact λw6 H2 aT g3 s2=>⟨aT,M2,pH,s2,g2.trans g3,q'⟩
    | bk pH M2=>rw[y4]at q';exact λw6 H2 aT g3 s2=>q' w6 H2 aT (g2.trans g3) s2
    | rt w M2=>rw[y4]at q';exact jM.shift q' g2 s.mem m1
    | af=>rw[y4]at q';exact q'.elim
   | false =>
    rw[if_neg (by simp)]at q'⊢;exact q' cI H1 ar g2 s1
  | err _ _=>simp only[hq]at q';exact q'.elim
  | af=>simp only[hq]at q';exact q'.elim
theorem OY (g : Good kk X cc G) (hx : X.xe = fun _ _ => False) (hs : PI X t aK (tI X.K (cK G k dR))) (hn : dw aK = true) (ht : iZ cc tg t = true) (hb : pZ X body (pG X.K (b_ G b))) :
    PS X (.For t aK body [] pos) (pG X.K (jy G (.bq tg k dR b))):=by
  refine xR (Iq (by rw[hx];exact PassesOwn.never) g.calm hs (jV g ht) hb (qT hn X.env)) λD σ H q=>?_;obtain⟨ads,M,ρ,s,q⟩:=q;refine⟨ads,M,ρ,s,?_⟩;simp only[ue]at q
  cases hq:cK G k dR ρ M with
  | ok it M1 =>
    rw[hq]at q;intro J H1 ar g1 m1 rj;exact Fq (λD σ H h=>h) (s.grow g1 m1) rj (mh.shift (o:=dQ (λρ M=>b_ G b ρ M) it tg (cX M1 it) 0 ρ M1) q g1 s.mem m1)
  | err _ _=>rw[hq]at q;exact q
  | af=>rw[hq]at q;exact q
end
section
variable {kk:Nat} {G:du} {X:Cx} {cc:CC}
theorem Fw {tg : List Nat} {cond : Option fB}  {ifs : List Expr}  (g : Good kk X cc G) (BV : tV cc sc = true) (AO : c_ = nJ cc sc)
    (UC:iZ (qJ cc sc) tg t=true) (jW:E_ (qJ cc sc) cond ifs=true) (UH:bI (qJ cc sc) elt el=true) (aa:List (Addr×Obj)) (s:Shared) (σ:L2.St) (H:Hp) (I:Inv X aa σ H s) :
    ∃cl,kH X sc (fx sc) c_ cl t el ifs (tG X.K tg) (cond.map λt=>ny X.K (dH G t)) (tE X.K (ev G elt)):=by
  obtain⟨h1,h2,h3,h4,h5⟩:=mf BV
  obtain⟨cl,Rl⟩:=xI (X:=X) (sc:=sc) λy hy hf=>by
    obtain⟨_,ho⟩:=h5 y hy hf;refine I.ok.has y.1 ?_;rcases ho with ho | ho
    · exact .inl (g.kinds _ _ ho)
    · exact g.kinds _ _ ho
  refine⟨cl,h1,h2,h3,Rl,AO▸BS g BV,λC s H fp=>jV (g.block BV C s H fp) UC,?_,λC s H fp=>aU elt (qJ cc sc) _ el (g.block BV C s H fp) UH⟩
  cases cond with
  | none =>
    cases ifs with
    | nil=>rfl
    | cons _ _=>cases jW
  | some tt =>
    cases ifs with
    | nil=>cases jW
    | cons e es =>
      cases es with
      | cons _ _=>cases jW
      | nil=>exact⟨e,rfl,λC s H fp=>vP tt (qJ cc sc) (X.block sc cl C (fx sc) s H fp []) e (g.block BV C s H fp) jW⟩
theorem Fx {dR : List C} {tg : List Nat} {cond : Option fB}  (σ : L2.St) (H : Hp) (Q : VK) (q : tE X.K (ev G (.comp k dR tg cond elt c_)) σ H Q) :
    xh c_ (tI X.K (cK G k dR)) (tG X.K tg) (cond.map λt=>ny X.K (dH G t)) (tE X.K (ev G elt)) σ H Q:=by
  obtain⟨ads,M,ρ,sr,q⟩:=q;refine⟨ads,M,ρ,sr,?_⟩
  have q:cq X.K ads H Q ((cK G k dR ρ M).bind λit M=>bc (λτ M=>bH G cond τ M) (λτ M=>(ev G elt τ M).bind own) it tg (cX M it) 0 (eR c_ ρ) M []):=by
    simp only[qA]at q;unfold cK
    cases hw:cY G dR ρ M with
    | ok ws M1=>rw[hw]at q;exact q
    | err _ _=>rw[hw]at q;exact q
    | af=>rw[hw]at q;exact q
  cases hs:cK G k dR ρ M with
  | ok it M1 =>
    rw[hs]at q;intro J H1 ar g1 m1 rj;exact t_ (sr.grow g1 m1) rj (cq.shift (o:=bc (λτ M=>bH G cond τ M) (λτ M=>(ev G elt τ M).bind own) it tg (cX M1 it) 0 (eR c_ ρ) M1 []) q g1 sr.mem m1)
  | err _ _=>rw[hs]at q;exact q
  | af=>rw[hs]at q;exact q
structure BZ (kk:Nat) (X:Cx) (cc:CC) (G:du):Prop where
 g:Good kk X cc G
 bk:X.env.blockKind=.function
 nx:X.xe=λ_ _=>False
theorem zt(h:(!fy v||Nat.beq v.ctorIdx 8)=true)(hc:fy v=true):∃el gens sc q,v=.ListComp el gens sc q:=by
 rw[hc]at h;exact Expr.ListComp.elim (motive_1:=λv=>∃el gens sc q,v=.ListComp el gens sc q) v (Nat.eq_of_beq_eq_true h) λel gens sc q=>⟨el,gens,sc,q,rfl⟩
theorem J_(h:bI cc c (.ListComp el gens sc q)=true):∃k dR tg cond elt c_,c=.comp k dR tg cond elt c_:=by
 cases c<;>first | exact absurd (show false=true from h) cH | exact⟨_,_,_,_,_,_,rfl⟩
end
mutual
theorem UI:∀(s:S)(cc:CC)(X:Cx)(st:Stmt),BZ kk X cc G->J6 cc s st=true->PS X st (pG X.K (jy G s))
 | .asg tg c,cc,X,st,g,h=>fL (P:=λst=>PS X st _) h λts v pos h=>by
  rcases ts with _|⟨t,_|⟨_,_⟩⟩<;>first | exact absurd h cH | skip
  simp only[cu]at h;exact OU g.g h.1.1.1 h.1.1.2 (zt h.1.2) (aU c cc X v g.g h.2)
 | .eD i c,cc,X,st,g,h=>fL (P:=λst=>PS X st _) h λts v pos h=>by
  rcases ts with _|⟨t,_|⟨_,_⟩⟩<;>first | exact absurd h cH | skip
  refine bT (P:=λt=>PS X (.Assign [t] v pos) _) h λx p h=>iY (P:=λv=>PS X (.Assign [.Name x p] v pos) _) h λel gens sc q h=>?_;simp only[cu,Bool.not_eq_true']at h;obtain⟨⟨⟨⟨h1,h2⟩,h3⟩,h4⟩,h5⟩:=h;obtain⟨k,dR,tg,cond,elt,c_,rfl⟩:=J_ h5;rcases gens with _|⟨⟨t,aK,ifs,as⟩,_|⟨_,_⟩⟩<;>first | exact absurd (show false=true from h5) cH | skip
  have h6:(as==0&&tV cc sc&&decide (c_=nJ cc sc)&&qK cc k dR t aK&&iZ (qJ cc sc) tg t&&E_ (qJ cc sc) cond ifs&&bI (qJ cc sc) elt el)=true:=h5;simp only[cu,beq_iff_eq,decide_eq_true_eq]at h6;obtain⟨⟨⟨⟨⟨⟨rfl,k1⟩,k2⟩,k3⟩,k4⟩,k5⟩,k6⟩:=h6;obtain⟨BW,kG⟩:=vQ dR k cc X t aK g.g k3
  exact J7 g.g g.bk (eq_of_beq h1) (eq_of_beq h2) (eq_of_beq h3) h4 (λaa s σ H I=>by
   obtain⟨cl,ck⟩:=Fw g.g k1 k2 k4 k5 k6 aa s σ H I;exact⟨cl,BW,ck⟩) (qT kG X.env) Fx
 | .par i j a b,_,_,_,_,h=>absurd (show false=true from h) cH
 | .put o i v,cc,X,st,g,h=>fL (P:=λst=>PS X st _) h λts w pos h=>by
  rcases ts with _|⟨t,_|⟨_,_⟩⟩<;>first | exact absurd h cH | skip
  refine cy (P:=λt=>PS X (.Assign [t] w pos) _) h λe f sp h=>?_;simp only[cu]at h;obtain⟨⟨⟨h1,h3⟩,h4⟩,h5⟩:=h;exact OV g.g h1 (aU o cc X e g.g h3) (aU i cc X f g.g h4) (aU v cc X w g.g h5)
 | .dput o i v,cc,X,st,g,h=>fL (P:=λst=>PS X st _) h λts w pos h=>by
  rcases ts with _|⟨t,_|⟨_,_⟩⟩<;>first | exact absurd h cH | skip
  refine cy (P:=λt=>PS X (.Assign [t] w pos) _) h λe f sp h=>?_;simp only[cu]at h;obtain⟨⟨⟨h1,h3⟩,h4⟩,h5⟩:=h;exact J8 g.g h1 (aU o cc X e g.g h3) (aU i cc X f g.g h4) (aU v cc X w g.g h5)
 | .expr c,cc,X,st,g,h=>zm (P:=λst=>PS X st _) h λe pos h=>by
  simp only[cu,Bool.not_eq_true']at h;exact J9 h.1 (aU c cc X e g.g h.2)
 | .ret c,cc,X,st,g,h=>lE (P:=λst=>PS X st _) h λv pos h=>by
  cases v with
  | none=>exact absurd h cH
  | some e=>exact OW (aU c cc X e g.g h)
 | .BY,cc,X,st,g,h=>lE (P:=λst=>PS X st _) h λv pos h=>by
  cases v with
  | some e=>exact absurd h cH
  | none =>
   refine xR DW λD σ H q=>?_;obtain⟨ads,M,ρ,s,q⟩:=q;exact q .aQ H ads (aE.refl _ _) s.mem (show RD X.K ads H .aQ .aQ from jt)
 | .iff t a b,cc,X,st,g,h=>E7 (P:=λst=>PS X st _) h λc x y pos h=>by
  simp only[cu]at h;exact UG (vP t cc X c g.g h.1.1) (pJ a cc X x g h.1.2) (pJ b cc X y g h.2)
 | .bq tg k dR b,cc,X,st,g,h=>By (P:=λst=>PS X st _) h λt aK body OR pos h=>by
  simp only[cu,List.isEmpty_iff]at h;obtain⟨⟨⟨rfl,h1⟩,h2⟩,h3⟩:=h;obtain⟨hs,hn⟩:=vQ dR k cc X t aK g.g h1;exact OY g.g g.nx hs hn h2 (pJ b cc X body g h3)
 | .DJ n t b,cc,X,st,g,h=>vI (P:=λst=>PS X st _) h λc body OR pos h=>by
  simp only[cu,List.isEmpty_iff]at h;obtain⟨⟨rfl,h1⟩,h2⟩:=h;exact OX g.nx (vP t cc X c g.g h1) (pJ b cc X body g h2)
 | .never,cc,X,st,g,h=>xR Ah λD σ H q=>by
  obtain⟨ads,M,ρ,s,q⟩:=q;exact q
 | .pass,cc,X,st,g,h=>zo (P:=λst=>PS X st _) h λpos h=>xR DU λD σ H q=>by
  obtain⟨ads,M,ρ,s,q⟩:=q;exact q σ H ads (aE.refl _ _) s
 | .brk,cc,X,st,g,h=>vL (P:=λst=>PS X st _) h λpos h=>xR Ag λD σ H q=>by
  obtain⟨ads,M,ρ,s,q⟩:=q;exact q σ H ads (aE.refl _ _) s
 | .cont,cc,X,st,g,h=>oT (P:=λst=>PS X st _) h λpos h=>xR sF λD σ H q=>by
  obtain⟨ads,M,ρ,s,q⟩:=q;exact q σ H ads (aE.refl _ _) s
theorem pJ:∀(ss:List S)(cc:CC)(X:Cx)(st:List Stmt),BZ kk X cc G->i4 cc ss st=true->pZ X st (pG X.K (b_ G ss))
 | [],cc,X,[],g,h=>OS DT λD σ H q=>by
  obtain⟨ads,M,ρ,s,q⟩:=q;exact q σ H ads (aE.refl _ _) s
 | [],cc,X,_::_,g,h=>by cases h
 | _::_,cc,X,[],g,h=>by cases h
 | s::ss,cc,X,t::ts,g,h=>by
  have h':(J6 cc s t&&i4 cc ss ts)=true:=h;simp only[cu]at h';exact OS (Af (UI s cc X t g h'.1) (pJ ss cc X ts g h'.2)) λD σ H q=>OT q
end
noncomputable def gH(n:Nat)(ds:List D):En:=ds.map some++List.replicate (n-ds.length) none
def aw(G:du)(n:Nat)(body:List S)(ds:List D)(M:aq):cw W:=match b_ G body (gH n ds) M with
 | .rt w M=>.ok w M
 | .nx _ M=>.ok (.d .aQ) M
 | _=>.af
theorem B0{K:PySem.W.Frag}{ads:List Addr}{H:Hp}:∀{ds:List D}{vs:List V}(r:aJ K ads H ds vs)(k:Nat),Ob K ads H (ds.map some++List.replicate k none) (vs.map some++List.replicate k none)
 | ds,vs,r,k=>by
  intro i d e;by_cases hi:i<ds.length
  ·rw[uU (by simpa using hi),dG]at e
   cases q:ds[i]? with
   | none=>rw[q]at e;cases e
   | some d' =>
    rw[q]at e;cases e;obtain⟨v,ev,rv⟩:=r.get q;exact⟨v,by rw[uU (by rw[aX,<- r.len];exact hi),dG,ev];rfl,rv⟩
  ·rw[List.getElem?_append_right (by simpa using hi),List.getElem?_replicate]at e;split at e<;>cases e
theorem Ka {P : Program} {w : World} {K : PySem.W.Frag} {mg : Str -> Option Value} {base : Heap} {x qual : Str} {st : Stmt} {f : Addr} {fd : FuncData} {N ps : List Str} {k : Nat} {G : du} {fs : List (Str × Nat)} {gs : List (Str × Int)} {body : List S} {n : Nat}
    (F:QV K x qual st f fd) (Sc:jF N ps (bC st)) (hn:ps.length=n) (hb:i4 ⟨N,(bC st).names,fs,gs⟩ body (eY st)=true) (UJ:∀b∈cT,mg b=none) (Zq:∀(x:Str)(v:Int),gs.lookup x=some v->∃t,mg x=some (.int v t))
    (UE:∀(i:Nat)(x:Str)(n:Nat),fs[i]?=some (x,n)->∃f fd ps,hV P w K mg base yZ k f fd ps (Fb K n (G i))/\mg x=some (.ref f)/\PySem.W.keepIn K (.ref f)=true/\Binds K fd ps []) :
    hV P w K mg base yZ (k+1) f fd ps (Fb K n (aw G N.length body)):=by
  have qc:ps.length<=N.length:=by have:=congrArg List.length Sc.pre;rw[List.length_take]at this;omega
  refine F.ok Sc (λvs H Q E h=>?_) λoG A outer s H vs Q E hr DC=>?_
  · obtain⟨ads,M,ds,m,r,hl,_⟩:=h;rw[<- r.len,hl,hn]
  · have gs : BZ k (vd yZ P w K mg base N qual (bC st) f oG A outer s H E).Nc ⟨N, (bC st).names, fs, gs⟩ G := by
      refine⟨⟨rfl,hr,rfl,Sc.nd,λx k e=>?_,λ_ _=>rfl,UJ,Zq,UE⟩,?_,rfl⟩
      · have e:(bC st).names.lookup x=some k:=e
        cases k with
        | «local»=>exact e
        | cell=>exact e
        | free=>exact absurd rfl (Sc.Au _ (PySem.mem_of_lookup e))
        | globalExplicit=>exact True.intro
        | globalImplicit=>exact e
      · show(if (bC st).kind.isAnnotationScope then ScopeKind.function else (bC st).kind)=_;rw[Sc.kind];rfl
    refine⟨_,pJ body _ _ (eY st) gs hb,?_⟩;obtain⟨ads,M,ds,m,r,hl,q⟩:=DC
    have aR:(gH N.length ds).length=N.length:=by
      unfold gH;rw[gV,aX,List.length_replicate];omega
    refine⟨ads,M,gH N.length ds,⟨m,?_,?_⟩,?_⟩
    · unfold gH L2.start;rw[<- r.len];exact B0 r _
    · rw[aR];unfold L2.start;rw[gV,aX,List.length_replicate,<- r.len];omega
    · unfold aw at q
      cases hq:b_ G body (gH N.length ds) M with
      | nx ρ M1=>rw[hq]at q;exact λcI H' aB g s'=>q .aQ H' aB g s'.mem (show RD K aB H' .aQ .aQ from jt)
      | rt w M1=>rw[hq]at q;exact q
      | bk _ _=>rw[hq]at q;exact q.elim
      | ct _ _=>rw[hq]at q;exact q.elim
      | af=>rw[hq]at q;exact q.elim
noncomputable def cz(l:List (List D->aq->cw W)):du:=λi ds M=>match l[i]? with
 | some f=>f ds M
 | none=>.af
abbrev fq(x:Str)(s:Stmt)(m c:Value):FuncData:=PySem.W.fnOf x x (lW s) (eY s) (bC s) .none .none .none m none c .none
noncomputable def fo(f:FuncData):Obj:=⟨.type "function",none,.func f,#[]⟩
theorem Kb {K : PySem.W.Frag} {h : Heap} {mg : Str -> Option Value} {gs : List (Str × Int)} (X : K.In h) (G : h.Ns mainGlobals mg) (z : gs.all (fun p => match PySem.W.nsIn K mainGlobals p.1 with | some (some (.int v _)) => v == p.2 | _ => false) = true) :
    ∀(x:Str)(v:Int),gs.lookup x=some v->∃t,mg x=some (.int v t):=by
  intro x v e;have q:=List.all_eq_true.mp z (x,v) (PySem.mem_of_lookup e);dsimp only at q;split at q
  · rename_i w t e2
    obtain rfl:=eq_of_beq q;exact⟨t,PySem.W.mg_of X G e2⟩
  · exact absurd q cH
section
variable {P:Program} {w:World} {K:PySem.W.Frag} {mg:Str->Option Value} {base h:Heap} {k k2:Nat} {x:Str} {n:Nat} {fs:List (Str×Nat)} {Fs:List (List D->aq->cw W)} {F:List D->aq->cw W} {gs:List (Str×Int)}
structure Is (P:Program) (w:World) (K:PySem.W.Frag) (mg:Str->Option Value) (base:Heap) (k:Nat) (x:Str) (n:Nat) (F:List D->aq->cw W):Prop where
 is:∃f fd ps,hV P w K mg base yZ k f fd ps (Fb K n F)/\mg x=some (.ref f)/\PySem.W.keepIn K (.ref f)=true/\Binds K fd ps []
theorem Is.mono(h:Is P w K mg base k x n F)(hk:k<=k2):Is P w K mg base k2 x n F:=by
 obtain⟨f,fd,ps,a,b⟩:=h.is;exact⟨f,fd,ps,a.mono hk,b⟩
noncomputable def All(P:Program)(w:World)(K:PySem.W.Frag)(mg:Str->Option Value)(base:Heap)(k:Nat)(fs:List (Str×Nat))(Fs:List (List D->aq->cw W)):Prop:=fs.length=Fs.length/\∀(i:Nat)(x:Str)(n:Nat),fs[i]?=some (x,n)->∃F,Fs[i]?=some F/\Is P w K mg base k x n F
theorem All.nil:All P w K mg base k [] []:=⟨rfl,λi x n e=>by simp at e⟩
theorem All.snoc(h:All P w K mg base k fs Fs)(g:Is P w K mg base (k+1) x n F):All P w K mg base (k+1) (fs++[(x,n)]) (Fs++[F]):=by
 obtain⟨hl,h⟩:=h;refine⟨by rw[gV,gV,hl];rfl,λi y m e=>?_⟩;by_cases hi:i<fs.length
 ·rw[uU hi]at e;obtain⟨F,a,b⟩:=h i y m e;exact⟨F,by rw[uU (∅)];exact a,b.mono (Nat.le_succ _)⟩
 ·have:i=fs.length:=by
   have:=(dU.mp e).1;simp at this;omega
  subst this;simp at e;obtain⟨rfl,rfl⟩:=e;exact⟨F,by rw[hl];simp,g⟩
theorem All.fns(h:All P w K mg base k fs Fs):∀(i:Nat)(x:Str)(n:Nat),fs[i]?=some (x,n)->∃f fd ps,hV P w K mg base yZ k f fd ps (Fb K n (cz Fs i))/\mg x=some (.ref f)/\PySem.W.keepIn K (.ref f)=true/\Binds K fd ps []:=λi y m e=>by
 obtain⟨F,a,b⟩:=h.2 i y m e;have:cz Fs i=F:=by funext ds M;unfold cz;rw[a]
 rw[this];exact b.is
noncomputable def Rn(N ps:List Str)(sc:Scope):Bool:=(match sc.kind with | .function=>true | _=>false) && !sc.isCoroutine && !sc.isGenerator&&decide N.Nodup&&decide (N.take ps.length=ps)&&ps.all (λx=>match sc.names.lookup x with | some .local=>true | some .cell=>true | _=>false)&&sc.names.all λy=>match y.2 with | .free=>false | _=>true
theorem Kc{N ps:List Str}(h:Rn N ps sc=true):jF N ps sc:=by
 unfold Rn at h;simp only[cu,List.all_eq_true,decide_eq_true_eq,Bool.not_eq_true']at h;obtain⟨⟨⟨⟨⟨⟨h1,h2⟩,h3⟩,h4⟩,h5⟩,h6⟩,h7⟩:=h;refine⟨?_,h2,h3,h4,h5,λx hx=>?_,λy hy e=>?_⟩
 ·split at h1
  ·assumption
  ·cases h1
 ·have:=h6 x hx;split at this
  ·exact .inl (by assumption)
  ·exact .inr (by assumption)
  ·cases this
 ·have:=h7 y hy;rw[e]at this;cases this
noncomputable def UK:Nat->(List Value->Prop)->Prop
 | 0,P=>P []
 | k+1,P=>∀a,UK k λus=>P (a::us)
theorem OZ:∀{k:Nat}{P:List Value->Prop},UK k P->∀us,us.length=k->P us:=by
 intro k
 induction k with
 | zero=>intro P h us e;rw[List.length_eq_zero_iff.mp e];exact h
 | succ k ih =>
  intro P h us e
  cases us with
  | nil=>cases e
  | cons a us=>exact ih (P:=λus=>P (a::us)) (h a) us (Nat.succ.inj e)
structure Cw (K:PySem.W.Frag) (h:Heap) (mg:Str->Option Value) (gs:List (Str×Int)):Prop where
 X:K.In h
 G:h.Ns mainGlobals mg
 b:∀b∈cT,mg b=none
 g:∀(x:Str)(v:Int),gs.lookup x=some v->∃t,mg x=some (.int v t)
theorem B1 (x : Str) (a : Addr) (st : Stmt) (N ps : List Str) (b : List S) (m c : Value) (W : Cw K h mg gs) (A : All P w K mg base k fs Fs) (lk : K.lookup a = some (fo (fq x st m c))) (hc : PySem.W.codeIn K c x = true) (hk : PySem.W.keepIn K (.ref a) = true) (hb : (Rn N ps (bC st) && i4 ⟨N, (bC st).names, fs, gs⟩ b (eY st)) = true) :
    hV P w K mg base yZ (k+1) a (fq x st m c) ps (Fb K ps.length (aw (cz Fs) N.length b)) :=
  Ka (I_ lk hc hk) (Kc ((cu _ _).mp hb).1) rfl ((cu _ _).mp hb).2 W.b W.g A.fns
theorem nx (x : Str) (a : Addr) (st : Stmt) (N ps : List Str) (b : List S) (m c : Value) (W : Cw K h mg gs) (A : All P w K mg base k fs Fs) (ha : PySem.W.nsIn K mainGlobals x = some (some (.ref a))) (lk : K.lookup a = some (fo (fq x st m c))) (hc : PySem.W.codeIn K c x = true) (hk : PySem.W.keepIn K (.ref a) = true) (hb : (Rn N ps (bC st) && i4 ⟨N, (bC st).names, fs, gs⟩ b (eY st)) = true)
    (bd:UK ps.length λus=>bindArgs (fq x st m c) ⟨us,[]⟩=pure (ps.zip us)):All P w K mg base (k+1) (fs++[(x,ps.length)]) (Fs++[aw (cz Fs) N.length b]) :=
  A.snoc ⟨a,_,ps,B1 x a st N ps b m c W A lk hc hk hb,PySem.W.mg_of W.X W.G ha,hk,.all (OZ bd)⟩
end
@[irreducible] noncomputable def aP{α:Type}(o:cw α)(P:α->aq->Prop):Prop:=match o with
 | .ok a M=>P a M
 | _=>False
theorem aV{α:Type}{a:α}{M:aq}{P:α->aq->Prop}:aP (.ok a M) P=P a M:=by unfold aP;exact propext Iff.rfl
theorem aH{α:Type}{P:α->aq->Prop}:aP .af P=False:=by unfold aP;exact propext Iff.rfl
theorem iE{α:Type}{P:α->aq->Prop}{x:V9}{M:aq}:aP (.err x M) P=False:=by unfold aP;exact propext Iff.rfl
theorem aD{α β:Type}{o:cw α}{f:α->aq->cw β}{P:β->aq->Prop}:aP (o.bind f) P=aP o λa M=>aP (f a M) P:=by
 cases o with
 | ok a M=>rw[aV];rfl
 | err _ _=>rw[iE];exact iE
 | af=>rw[aH];exact aH
theorem aP.imp{α:Type}{o:cw α}{P Q:α->aq->Prop}(h:aP o P)(k:∀a M,P a M->Q a M):aP o Q:=by
 cases o with
 | ok a M=>rw[aV]at h⊢;exact k a M h
 | err _ _=>rw[iE]at h;exact h.elim
 | af=>rw[aH]at h;exact h.elim
theorem iF{α:Type}{c:Prop}[Decidable c]{o:cw α}{P:α->aq->Prop}:aP (if c then o else .af) P=(c/\aP o P):=by
 by_cases h:c
 ·rw[if_pos h];exact propext ⟨λq=>⟨h,q⟩,λq=>q.2⟩
 ·rw[if_neg h,aH];exact propext ⟨λq=>q.elim,λq=>absurd q.1 h⟩
theorem B2{α:Type}{o:cw α}{P:α->aq->Prop}(h:aP o P):∃a M,o=.ok a M/\P a M:=by
 cases o with
 | ok a M=>rw[aV]at h;exact⟨a,M,rfl,h⟩
 | err _ _=>rw[iE]at h;exact h.elim
 | af=>rw[aH]at h;exact h.elim
@[irreducible] noncomputable def fU(o:bh)(nx:En->aq->Prop)(rt:W->aq->Prop)(bk ct:En->aq->Prop):Prop:=match o with
 | .nx ρ M=>nx ρ M
 | .rt w M=>rt w M
 | .bk ρ M=>bk ρ M
 | .ct ρ M=>ct ρ M
 | .af=>False
section
variable {nx:En->aq->Prop} {rt:W->aq->Prop} {bk ct:En->aq->Prop}
theorem dy:fU (.nx ρ M) nx rt bk ct=nx ρ M:=by unfold fU;exact propext Iff.rfl
theorem gI:fU (.rt w M) nx rt bk ct=rt w M:=by unfold fU;exact propext Iff.rfl
theorem kW:fU (.bk ρ M) nx rt bk ct=bk ρ M:=by unfold fU;exact propext Iff.rfl
theorem kX:fU (.ct ρ M) nx rt bk ct=ct ρ M:=by unfold fU;exact propext Iff.rfl
theorem de:fU .af nx rt bk ct=False:=by unfold fU;exact propext Iff.rfl
theorem ff{α:Type}{o:cw α}{f:α->aq->bh}:fU (bh.gw o f) nx rt bk ct=aP o λa M=>fU (f a M) nx rt bk ct:=by
 cases o with
 | ok a M=>rw[aV];rfl
 | err _ _=>rw[iE];exact de
 | af=>rw[aH];exact de
theorem Fy:fU (o.seq f) nx rt bk ct=fU o (λρ M=>fU (f ρ M) nx rt bk ct) rt bk ct:=by
 cases o with
 | nx ρ M=>rw[dy];rfl
 | rt ρ M=>rw[gI];exact gI
 | bk ρ M=>rw[kW];exact kW
 | ct ρ M=>rw[kX];exact kX
 | af=>rw[de];exact de
end
theorem Fz:aP (aw G n b ds M) P=fU (b_ G b (gH n ds) M) (λ_ M=>P (.d .aQ) M) P (λ_ _=>False) (λ_ _=>False):=by
 unfold aw
 cases b_ G b (gH n ds) M with
 | nx ρ M=>rw[dy];exact aV
 | rt ρ M=>rw[gI];exact aV
 | bk ρ M=>rw[kW];exact aH
 | ct ρ M=>rw[kX];exact aH
 | af=>rw[de];exact aH
section
variable {G:du} {ρ:En} {M:aq} {P:W->aq->Prop}
theorem O0:aP (ev G (.ai d) ρ M) P=P (.d d) M:=by simp only[Jo,aV]
theorem O1:aP (ev G (.bin op a b) ρ M) P=aP (ev G a ρ M) λx M=>aP (ev G b ρ M) λy M=>aP (ni op x y M) P:=by simp only[Jp,aD]
theorem O2:aP (ev G (.cmp op a b) ρ M) P=aP (ev G a ρ M) λx M=>aP (ev G b ρ M) λy M=>aP (aY op x y M) λr M=>P (.d (.bl r)) M:=by simp only[Bf,aD,aV]
theorem O3:aP (ev G (.ite c a b) ρ M) P=aP (dH G c ρ M) λr M=>if r then aP (ev G a ρ M) P else aP (ev G b ρ M) P:=by
 simp only[Bg,aD]
 congr 1;funext r M
 cases r<;>rfl
theorem O4:aP (ev G (.tup cs) ρ M) P=aP (bL G cs ρ M) λds M=>ds.length<=sizeLine/\P (.d (.tup ds)) M:=by
 simp only[Bh,aD,iF,aV]
theorem O5:aP (ev G (.lst cs) ρ M) P=aP (bL G cs ρ M) λds M=>ds.length<=sizeLine/\P (.lv ds) M:=by
 simp only[Bj,aD,iF,aV]
theorem k_sub:aP (ev G (.sub a b) ρ M) P=aP (ev G a ρ M) λx M=>aP (ev G b ρ M) λy M=>aP (cU x y M) P:=by simp only[Jr,aD]
theorem O6{lo hi:Option C}:aP (ev G (.nh a lo hi) ρ M) P=aP (ev G a ρ M) λx M=>aP (sh G lo ρ M) λl M=>aP (sh G hi ρ M) λh M=>aP (kL x l h M) P:=by simp only[Js,aD]
theorem O7:aP (ev G (.zU a k) ρ M) P=aP (ev G a ρ M) λx M=>aP (kM x k M) P:=by simp only[Jt,aD]
theorem UL{P:Option Int->aq->Prop}:aP (sh G none ρ M) P=P none M:=by simp only[nq,nr,aV]
theorem Kd:aP (ev G (.call f cs) ρ M) P=aP (bL G cs ρ M) λds M=>aP (G f ds M) P:=by simp only[xp,aD]
theorem UM:aP (ev G (.bi b cs) ρ M) P=aP (cY G cs ρ M) λws M=>aP (jl b ws M) P:=by simp only[Bk,aD]
theorem UN:aP (ev G (.me m o cs) ρ M) P=aP (ev G o ρ M) λx M=>(dr M x).isSome=true/\aP (bL G cs ρ M) λds M=>aP (oQ m x ds M) P:=by
 simp only[Bl,aD,iF]
theorem O8{ks:List Str}  : aP (ev G (.tq ks cs) ρ M) P=aP (bL G cs ρ M) λds M=>ks.length=ds.length/\P (.d (.ah M.length)) (M++[.dK ((ks.map Sum.inr).zip ds)]):=by
 simp only[vC,aD,iF,aV]
theorem Ke{dR:List C}{tg:List Nat}{cond:Option fB}  : aP (ev G (.comp k dR tg cond elt c_) ρ M) P=aP (cY G dR ρ M) λws M=>aP (fC k ws M) λit M=>aP (bc (λτ M=>bH G cond τ M) (λτ M=>(ev G elt τ M).bind own) it tg (cX M it) 0 (eR c_ ρ) M []) P:=by simp only[qA,aD]
theorem UO{P:List D->aq->Prop}:aP (bL G [] ρ M) P=P [] M:=by simp only[gc,fh,aV]
theorem UP{c:C}{cs:List C}{P:List D->aq->Prop}:aP (bL G (c::cs) ρ M) P=aP (ev G c ρ M) λw M=>aP (own w M) λd M=>aP (bL G cs ρ M) λds M=>P (d::ds) M:=by simp only[gc,fh,aD,aV]
theorem UQ{P:List W->aq->Prop}:aP (cY G [] ρ M) P=P [] M:=by simp only[ie,gf,aV]
theorem UR{c:C}{cs:List C}{P:List W->aq->Prop}:aP (cY G (c::cs) ρ M) P=aP (ev G c ρ M) λw M=>aP (cY G cs ρ M) λds M=>P (w::ds) M:=by simp only[ie,gf,aD,aV]
theorem O9{c:C}{P:Bool->aq->Prop}:aP (dH G (.val c) ρ M) P=aP (ev G c ρ M) λw M=>∃r,oP M w=some r/\P r M:=by
 simp only[qB,aD]
 congr 1;funext w M
 cases h:oP M w with
 | none=>simp only[reduceCtorEq,false_and,exists_false,aH]
 | some r=>simp only[Option.some.injEq,exists_eq_left',aV]
theorem O_{a:fB}{P:Bool->aq->Prop}:aP (dH G (.neg a) ρ M) P=aP (dH G a ρ M) λr M=>P (!r) M:=by simp only[ER,aD,aV]
theorem Kg{a:fB}{P:Bool->aq->Prop}:aP (fH G [a] ρ M) P=aP (dH G a ρ M) P:=by simp only[kQ,jo,aD,aV]
theorem Kh{a:fB}{P:Bool->aq->Prop}:aP (fI G [a] ρ M) P=aP (dH G a ρ M) P:=by simp only[kR,jq,aD,aV]
theorem Ki{a b:fB}{cs:List fB}{P:Bool->aq->Prop}:aP (fH G (a::b::cs) ρ M) P=aP (dH G a ρ M) λr M=>if r then aP (fH G (b::cs) ρ M) P else P false M:=by
 rw[jo];simp only[aD]
 congr 1;funext r M
 cases r with
 | true=>rfl
 | false=>exact aV
theorem Kj{a b:fB}{cs:List fB}{P:Bool->aq->Prop}:aP (fI G (a::b::cs) ρ M) P=aP (dH G a ρ M) λr M=>if r then P true M else aP (fI G (b::cs) ρ M) P:=by
 rw[jq];simp only[aD]
 congr 1;funext r M
 cases r with
 | true=>exact aV
 | false=>rfl
theorem Kk{ts:List fB}{P:Bool->aq->Prop}:aP (dH G (.dq ts) ρ M) P=aP (fH G ts ρ M) P:=by simp only[Bn]
theorem Kl{ts:List fB}{P:Bool->aq->Prop}:aP (dH G (.gA ts) ρ M) P=aP (fI G ts ρ M) P:=by simp only[Bo]
end
section
variable {G:du} {ρ:En} {M:aq} {nx:En->aq->Prop} {rt:W->aq->Prop} {bk ct:En->aq->Prop}
theorem Km:fU (jy G (.eD i c) ρ M) nx rt bk ct=aP (ev G c ρ M) λw M=>aP (own w M) λd M=>nx (ρ.set i (some d)) M:=by simp only[ub,ff,aD,dy]
theorem Pa:fU (jy G (.put o i v) ρ M) nx rt bk ct=aP (ev G v ρ M) λw M=>aP (own w M) λd M=>aP (ev G o ρ M) λx M=>aP (ev G i ρ M) λy M=>aP (gD x y d M) λ_ M=>nx ρ M:=by simp only[xN,ff,aD,dy]
theorem Ko:fU (jy G (.expr c) ρ M) nx rt bk ct=aP (ev G c ρ M) λ_ M=>nx ρ M:=by simp only[ud,ff,dy]
theorem Pb:fU (jy G (.ret c) ρ M) nx rt bk ct=aP (ev G c ρ M) rt:=by simp only[xO,ff,gI]
theorem US:fU (jy G (.iff t a b) ρ M) nx rt bk ct=aP (dH G t ρ M) λr M=>if r then fU (b_ G a ρ M) nx rt bk ct else fU (b_ G b ρ M) nx rt bk ct:=by
 simp only[xP,ff]
 congr 1;funext r M
 cases r<;>rfl
theorem Pc:fU (jy G (.bq tg k dR b) ρ M) nx rt bk ct=aP (cY G dR ρ M) λws M=>aP (fC k ws M) λit M=>fU (dQ (λρ M=>b_ G b ρ M) it tg (cX M it) 0 ρ M) nx rt bk ct:=by
 simp only[ue,ff,cK,aD]
theorem Pd:fU (b_ G [] ρ M) nx rt bk ct=nx ρ M:=by simp only[uf,pF,dy]
theorem Kp:fU (b_ G (s::ss) ρ M) nx rt bk ct=fU (jy G s ρ M) (λρ M=>fU (b_ G ss ρ M) nx rt bk ct) rt bk ct:=by simp only[uf,pF,Fy]
end
theorem kY {body : En -> aq -> bh} {it : It} {tg : List Nat} {ds : List D} {nx : En -> aq -> Prop} {rt : W -> aq -> Prop} {bk ct : En -> aq -> Prop} (I : Nat -> En -> aq -> Prop) (hd : ∀ i ρ M, I i ρ M -> i <= ds.length -> itemAt M i it = some ds[i]?)
    (hs:∀i ρ M d,I i ρ M->ds[i]?=some d->∃dS,bR tg d ρ=some dS/\fU (body dS M) (I (i+1)) rt nx (I (i+1))) (he:∀ρ M,I ds.length ρ M->nx ρ M) :
    ∀(f i:Nat)(ρ:En)(M:aq),I i ρ M->i+f=ds.length->fU (dQ body it tg f i ρ M) nx rt bk ct
  | 0,i,ρ,M,h,e=>by
    unfold dQ;have:i=ds.length:=∅;subst this;rw[hd _ _ _ h (bJ _),List.getElem?_eq_none (bJ _)];dsimp only;rw[dy];exact he _ _ h
  | f+1,i,ρ,M,h,e=>by
    unfold dQ;have hi:i<ds.length:=∅;rw[hd _ _ _ h (Nat.le_of_lt hi),dM hi];obtain⟨dS,e1,e2⟩:=hs i ρ M ds[i] h (dM hi);dsimp only;rw[e1];dsimp only
    cases q:body dS M with
    | nx pH M2=>rw[q,dy]at e2;exact kY I hd hs he f (i+1) pH M2 e2 (∅)
    | ct pH M2=>rw[q,kX]at e2;exact kY I hd hs he f (i+1) pH M2 e2 (∅)
    | bk pH M2=>rw[q,kW]at e2;dsimp only;rw[dy];exact e2
    | rt w M2=>rw[q,gI]at e2;dsimp only;rw[gI];exact e2
    | af=>rw[q,de]at e2;exact e2.elim
theorem qW {cond : En -> aq -> cw Bool} {elt : En -> aq -> cw D} {it : It} {tg : List Nat} {ds : List D} {P : W -> aq -> Prop} (I : Nat -> En -> aq -> List D -> Prop) (hd : ∀ i ρ M acc, I i ρ M acc -> i <= ds.length -> itemAt M i it = some ds[i]?)
    (hs:∀i ρ M acc d,I i ρ M acc->ds[i]?=some d->acc.length<sizeLine/\∃dS,bR tg d ρ=some dS/\aP (cond dS M) λb M=>if b then aP (elt dS M) λx M=>I (i+1) dS M (acc++[x]) else I (i+1) dS M acc) (he:∀ρ M acc,I ds.length ρ M acc->P (.lv acc) M) :
    ∀(f i:Nat)(ρ:En)(M:aq)(acc:List D),I i ρ M acc->i+f=ds.length->aP (bc cond elt it tg f i ρ M acc) P
  | 0,i,ρ,M,acc,h,e=>by
    unfold bc;have:i=ds.length:=∅;subst this;rw[hd _ _ _ _ h (bJ _),List.getElem?_eq_none (bJ _)];dsimp only;rw[aV];exact he _ _ _ h
  | f+1,i,ρ,M,acc,h,e=>by
    unfold bc;have hi:i<ds.length:=∅;rw[hd _ _ _ _ h (Nat.le_of_lt hi),dM hi];obtain⟨hl,dS,e1,e2⟩:=hs i ρ M acc ds[i] h (dM hi);dsimp only;rw[e1];dsimp only;rw[if_pos hl,aD];refine e2.imp λb M2 q=>?_
    cases b with
    | true =>
      rw[if_pos rfl]at q⊢;rw[aD];exact q.imp λx M3 q=>qW I hd hs he f (i+1) dS M3 _ q (∅)
    | false =>
      rw[if_neg (by simp)]at q⊢;exact qW I hd hs he f (i+1) dS M2 _ q (∅)
noncomputable def d6{α:Type}(o:cw α)(P:α->aq->Prop):Prop:=match o with
 | .ok a M=>P a M
 | _=>False
theorem bB{α:Type}{o:cw α}{P:α->aq->Prop}:aP o P=d6 o P:=by
 cases o with
 | ok a M=>rw[aV];rfl
 | err _ _=>rw[iE];rfl
 | af=>rw[aH];rfl
noncomputable def zu(x:W)(A B:Prop):Prop:=match x with
 | .d (.bl true)=>A
 | .d (.bl false)=>B
 | _=>False
noncomputable def bK(b:Bool)(A B:Prop):Prop:=match b with
 | true=>A
 | false=>B
theorem xS:bK b A B=if b=true then A else B:=by cases b<;>simp[bK]
noncomputable def FA(o:Option Bool)(P:Bool->Prop):Prop:=match o with
 | some r=>P r
 | none=>False
noncomputable def FC(o:Option (Option D))(P:D->Prop):Prop:=match o with
 | some (some d)=>P d
 | _=>False
noncomputable def DK(o:Option En)(P:En->Prop):Prop:=match o with
 | some ρ=>P ρ
 | none=>False
noncomputable def Pe(w:W)(P:Int->Prop):Prop:=match w with
 | .d (.int i)=>P i
 | _=>False
noncomputable def Zr(w:W)(P:Str->Prop):Prop:=match w with
 | .d (.str i)=>P i
 | _=>False
def B3:D->Bool
 | .aQ=>true
 | _=>false
theorem gJ:SeqAt.shaped (.int i)=true:=by unfold SeqAt.shaped;rw[PyData.canLay0.eq_3,PyData.depth.eq_6];rfl
theorem Pf:aY .eq (.d (.int i)) (.d (.int j)) M=.ok (i==j) M:=by
 unfold aY;have h1:∀i,iw M (.d (.int i))=some (.int i):=λi=>by show cW M 30 (.int i)=_;unfold cW;rfl
 simp only[h1,gJ,and_self,if_true,PyData.eqv.eq_5]
theorem Pg:aY .ne (.d (.int i)) (.d (.int j)) M=.ok (!(i==j)) M:=by
 unfold aY;have h1:∀i,iw M (.d (.int i))=some (.int i):=λi=>by show cW M 30 (.int i)=_;unfold cW;rfl
 simp only[h1,gJ,and_self,if_true,PyData.eqv.eq_5]
def Kq(op:Jk)(x y:W)(M:aq)(P:W->aq->Prop):Prop:=match op,x,y with
 | .add,.d (.int i),.d (.int j)=>P (.d (.int (i+j))) M
 | .sub,.d (.int i),.d (.int j)=>P (.d (.int (i-j))) M
 | .mul,.d (.int i),.d (.int j)=>((-(2 ^ 64)<i/\i<2 ^ 64)\/(-(2 ^ 64)<j/\j<2 ^ 64))/\P (.d (.int (i*j))) M
 | .fdiv,.d (.int i),.d (.int j)=>(0<j/\j<1073741824)/\P (.d (.int (i / j))) M
 | .mod,.d (.int i),.d (.int j)=>0<j/\P (.d (.int (i % j))) M
 | .add,.d (.tup xs),.d (.tup ys)=>xs.length+ys.length<=sizeLine/\P (.d (.tup (xs++ys))) M
 | .add,.lv xs,.lv ys=>xs.length+ys.length<=sizeLine/\P (.lv (xs++ys)) M
 | op,x,y=>d6 (ni op x y M) P
theorem nT{α:Type}{c:Prop}[Decidable c]{a:α}{M:aq}{P:α->aq->Prop}:d6 (if c then .ok a M else .af) P=(c/\P a M):=by
 by_cases h:c
 ·rw[if_pos h];exact propext ⟨λq=>⟨h,q⟩,λq=>q.2⟩
 ·rw[if_neg h];exact propext ⟨λq=>q.elim,λq=>absurd q.1 h⟩
theorem FD:d6 (ni op x y M) P=Kq op x y M P:=by
 rcases x with⟨_|_ | i | _ | xs | _|_⟩ | xs
 all_goals (first | (cases op<;>rfl) | skip)
 ·rcases y with⟨_|_ | j | _|_|_|_⟩|_<;>cases op<;>first | rfl | exact nT
 ·rcases y with⟨_|_|_|_ | ys | _|_⟩|_<;>cases op<;>first | rfl | exact nT
 ·rcases y with⟨_|_|_|_|_|_|_⟩ | ys<;>cases op<;>first | rfl | exact nT
def vR(op:Jl)(x y:W)(M:aq)(P:Bool->aq->Prop):Prop:=match op,x,y with
 | .eq,.d (.int i),.d (.int j)=>P (i==j) M
 | .ne,.d (.int i),.d (.int j)=>P (!(i==j)) M
 | .sg,.d d,_=>P (B3 d) M
 | .eZ,.d d,_=>P (!B3 d) M
 | op,x,y=>d6 (aY op x y M) P
theorem qX:d6 (aY op x y M) P=vR op x y M P:=by
 cases op
 case eq=>rcases x with⟨_|_ | i | _|_|_|_⟩|_<;>first | rfl | (rcases y with⟨_|_ | j | _|_|_|_⟩|_<;>first | (rw[Pf];rfl) | rfl)
 case ne=>rcases x with⟨_|_ | i | _|_|_|_⟩|_<;>first | rfl | (rcases y with⟨_|_ | j | _|_|_|_⟩|_<;>first | (rw[Pg];rfl) | rfl)
 case sg=>rcases x with⟨_|_|_|_|_|_|_⟩|_<;>rfl
 case eZ=>rcases x with⟨_|_|_|_|_|_|_⟩|_<;>rfl
 all_goals (first | rfl | (rcases x with⟨_|_|_|_|_|_|_⟩|_<;>rfl))
def zv(k:SK)(ws:List W)(M:aq)(P:It->aq->Prop):Prop:=match k,ws with
 | .dm,[.d (.int j)]=>(-(2 ^ 62)<=j/\j<2 ^ 62)/\P (.ku 0 j.toNat) M
 | .oO,[.d (.int i),.d (.int j)]=>(-(2 ^ 62)<=i/\i<2 ^ 62/\-(2 ^ 62)<=j/\j<2 ^ 62)/\P (.ku i (j-i).toNat) M
 | k,ws=>d6 (fC k ws M) P
theorem xT:d6 (fC k ws M) P=zv k ws M P:=by
 unfold zv;split<;>first | rfl | exact nT
def FE(tp:Bool)(ws:List W)(M:aq)(P:W->aq->Prop):Prop:=match vA ws with
 | some (i,j)=>((-(2 ^ 62)<=i/\i<2 ^ 62/\-(2 ^ 62)<=j/\j<2 ^ 62)/\(j-i).toNat<=2 ^ 24)/\P (Bd tp (Od i (j-i).toNat)) M
 | none=>False
theorem FF:d6 (EK tp ws M) P=FE tp ws M P:=by
 unfold EK FE
 cases vA ws with
 | none=>rfl
 | some ij=>exact nT
mutual
noncomputable def wE(G:du):C->En->aq->(W->aq->Prop)->Prop
  | .ae i,ρ,M,P=>FC ρ[i]? λd=>P (.d d) M
  | .ai d,_,M,P=>P (.d d) M
  | .bin op a b,ρ,M,P=>wE G a ρ M λx M=>wE G b ρ M λy M=>Kq op x y M P
  | .cmp op a b,ρ,M,P=>wE G a ρ M λx M=>wE G b ρ M λy M=>vR op x y M λr M=>P (.d (.bl r)) M
  | .chain o1 o2 a b c, ρ, M, P => wE G a ρ M fun x M => wE G b ρ M fun y M => vR o1 x y M fun r M =>
      bK r (wE G c ρ M λz M=>vR o2 y z M λr M=>P (.d (.bl r)) M) (P (.d (.bl false)) M)
  | .dq cs,ρ,M,P=>zw G cs ρ M P
  | .gA cs,ρ,M,P=>Mr G cs ρ M P
  | .neg a,ρ,M,P=>wE G a ρ M λx M=>zu x (P (.d (.bl false)) M) (P (.d (.bl true)) M)
  | .ite c a b,ρ,M,P=>wT G c ρ M λr M=>bK r (wE G a ρ M P) (wE G b ρ M P)
  | .tup cs,ρ,M,P=>B4 G cs ρ M λds M=>ds.length<=sizeLine/\P (.d (.tup ds)) M
  | .lst cs,ρ,M,P=>B4 G cs ρ M λds M=>ds.length<=sizeLine/\P (.lv ds) M
  | .sub a b,ρ,M,P=>wE G a ρ M λx M=>wE G b ρ M λy M=>d6 (cU x y M) P
  | .nh a lo hi,ρ,M,P=>wE G a ρ M λx M=>wO G lo ρ M λl M=>wO G hi ρ M λh M=>d6 (kL x l h M) P
  | .zU a k,ρ,M,P=>wE G a ρ M λx M=>d6 (kM x k M) P
  | .call f cs,ρ,M,P=>B4 G cs ρ M λds M=>aP (G f ds M) P
  | .bi b cs,ρ,M,P=>zx G cs ρ M λws M=>d6 (jl b ws M) P
  | .me m o cs,ρ,M,P=>wE G o ρ M λx M=>(dr M x).isSome=true/\B4 G cs ρ M λds M=>d6 (oQ m x ds M) P
  | .tq ks cs,ρ,M,P=>B4 G cs ρ M λds M=>ks.length=ds.length/\P (.d (.ah M.length)) (M++[.dK ((ks.map Sum.inr).zip ds)])
  | .ku tp cs,ρ,M,P=>zx G cs ρ M λws M=>FE tp ws M P
  | .EI _ v,_,M,P=>P (.d (.int v)) M
  | .kJ,_,M,P=>P (.d (.ah M.length)) (M++[.dT []])
  | .jk a b,ρ,M,P=>wE G a ρ M λx M=>wE G b ρ M λy M=>d6 (lD x y M) P
  | .f_ ng a b,ρ,M,P=>wE G a ρ M λx M=>wE G b ρ M λy M=>d6 (iU ng x y M) P
  | .cnt a b,ρ,M,P=>wE G a ρ M λx M=>(dr M x).isSome=true/\wE G b ρ M λy M=>d6 (kN x y M) P
  | .gB ng a,ρ,M,P=>wE G a ρ M λx M=>d6 (xo ng x M) P
  | .comp k dR tg cond elt c_,ρ,M,P=>zx G dR ρ M λws M=>zv k ws M λit M=>aP (bc (λτ M=>bH G cond τ M) (λτ M=>(ev G elt τ M).bind own) it tg (cX M it) 0 (eR c_ ρ) M []) P
noncomputable def wT(G:du):fB->En->aq->(Bool->aq->Prop)->Prop
 | .dq ts,ρ,M,P=>Kr G ts ρ M P
 | .gA ts,ρ,M,P=>Ks G ts ρ M P
 | .neg a,ρ,M,P=>wT G a ρ M λr M=>P (!r) M
 | .val c,ρ,M,P=>wE G c ρ M λw M=>FA (oP M w) λr=>P r M
noncomputable def zw(G:du):List C->En->aq->(W->aq->Prop)->Prop
 | [],_,_,_=>False
 | c::cs,ρ,M,P=>match cs with
  | []=>wE G c ρ M P
  | _::_=>wE G c ρ M λx M=>zu x (zw G cs ρ M P) (P (.d (.bl false)) M)
noncomputable def Mr(G:du):List C->En->aq->(W->aq->Prop)->Prop
 | [],_,_,_=>False
 | c::cs,ρ,M,P=>match cs with
  | []=>wE G c ρ M P
  | _::_=>wE G c ρ M λx M=>zu x (P (.d (.bl true)) M) (Mr G cs ρ M P)
noncomputable def Kr(G:du):List fB->En->aq->(Bool->aq->Prop)->Prop
 | [],_,_,_=>False
 | c::cs,ρ,M,P=>match cs with
  | []=>wT G c ρ M P
  | _::_=>wT G c ρ M λr M=>bK r (Kr G cs ρ M P) (P false M)
noncomputable def Ks(G:du):List fB->En->aq->(Bool->aq->Prop)->Prop
 | [],_,_,_=>False
 | c::cs,ρ,M,P=>match cs with
  | []=>wT G c ρ M P
  | _::_=>wT G c ρ M λr M=>bK r (P true M) (Ks G cs ρ M P)
noncomputable def B4(G:du):List C->En->aq->(List D->aq->Prop)->Prop
 | [],_,M,P=>P [] M
 | c::cs,ρ,M,P=>wE G c ρ M λw M=>d6 (own w M) λd M=>B4 G cs ρ M λds M=>P (d::ds) M
noncomputable def zx(G:du):List C->En->aq->(List W->aq->Prop)->Prop
 | [],_,M,P=>P [] M
 | c::cs,ρ,M,P=>wE G c ρ M λw M=>zx G cs ρ M λws M=>P (w::ws) M
noncomputable def wO(G:du):Option C->En->aq->(Option Int->aq->Prop)->Prop
 | none,_,M,P=>P none M
 | some c,ρ,M,P=>wE G c ρ M λw M=>Pe w λi=>P (some i) M
end
section
variable {G:du} {lo hi:Option C} {cond:Option fB}
theorem Kt:wE G (.ae i) ρ M P=FC ρ[i]? λd=>P (.d d) M:=rfl
theorem Ku:wE G (.bin op a b) ρ M P=wE G a ρ M λx M=>wE G b ρ M λy M=>Kq op x y M P:=rfl
theorem Kw:wE G (.cmp op a b) ρ M P=wE G a ρ M λx M=>wE G b ρ M λy M=>vR op x y M λr M=>P (.d (.bl r)) M:=rfl
theorem B5 : wE G (.chain o1 o2 a b c) ρ M P = (wE G a ρ M fun x M => wE G b ρ M fun y M => vR o1 x y M fun r M =>
      bK r (wE G c ρ M λz M=>vR o2 y z M λr M=>P (.d (.bl r)) M) (P (.d (.bl false)) M)):=rfl
theorem Kx:wE G (.neg a) ρ M P=wE G a ρ M λx M=>zu x (P (.d (.bl false)) M) (P (.d (.bl true)) M):=rfl
theorem Ky:wE G (.ite c a b) ρ M P=wT G c ρ M λr M=>bK r (wE G a ρ M P) (wE G b ρ M P):=rfl
theorem Kz:wE G (.sub a b) ρ M P=wE G a ρ M λx M=>wE G b ρ M λy M=>d6 (cU x y M) P:=rfl
theorem KA:wE G (.nh a lo hi) ρ M P=wE G a ρ M λx M=>wO G lo ρ M λl M=>wO G hi ρ M λh M=>d6 (kL x l h M) P:=rfl
theorem KC:wE G (.zU a k) ρ M P=wE G a ρ M λx M=>d6 (kM x k M) P:=rfl
theorem Ph:wE G (.bi b cs) ρ M P=zx G cs ρ M λws M=>d6 (jl b ws M) P:=rfl
theorem Pj:wE G (.me m o cs) ρ M P=wE G o ρ M λx M=>(dr M x).isSome=true/\B4 G cs ρ M λds M=>d6 (oQ m x ds M) P:=rfl
theorem KD:wE G (.ku tp cs) ρ M P=zx G cs ρ M λws M=>FE tp ws M P:=rfl
theorem FG:wE G (.jk a b) ρ M P=wE G a ρ M λx M=>wE G b ρ M λy M=>d6 (lD x y M) P:=rfl
theorem FH:wE G (.f_ ng a b) ρ M P=wE G a ρ M λx M=>wE G b ρ M λy M=>d6 (iU ng x y M) P:=rfl
theorem KG:wE G (.cnt a b) ρ M P=wE G a ρ M λx M=>(dr M x).isSome=true/\wE G b ρ M λy M=>d6 (kN x y M) P:=rfl
theorem FI:wE G (.gB ng a) ρ M P=wE G a ρ M λx M=>d6 (xo ng x M) P:=rfl
theorem FJ:wE G (.comp k dR tg cond elt c_) ρ M P=zx G dR ρ M λws M=>zv k ws M λit M=>aP (bc (λτ M=>bH G cond τ M) (λτ M=>(ev G elt τ M).bind own) it tg (cX M it) 0 (eR c_ ρ) M []) P:=rfl
theorem KH:wT G (.val c) ρ M P=wE G c ρ M λw M=>FA (oP M w) λr=>P r M:=rfl
theorem B6:zw G [] u0 u1 u2=False:=rfl
theorem pK : zw G (c :: cs) ρ M P = (match cs with
    | []=>wE G c ρ M P
    | _::_=>wE G c ρ M λx M=>zu x (zw G cs ρ M P) (P (.d (.bl false)) M)):=rfl
theorem FK:Mr G [] u0 u1 u2=False:=rfl
theorem ug : Mr G (c :: cs) ρ M P = (match cs with
    | []=>wE G c ρ M P
    | _::_=>wE G c ρ M λx M=>zu x (P (.d (.bl true)) M) (Mr G cs ρ M P)):=rfl
theorem FL:B4 G [] u0 M P=P [] M:=rfl
theorem B7:B4 G (c::cs) ρ M P=wE G c ρ M λw M=>d6 (own w M) λd M=>B4 G cs ρ M λds M=>P (d::ds) M:=rfl
theorem FN:zx G [] u0 M P=P [] M:=rfl
theorem B8:zx G (c::cs) ρ M P=wE G c ρ M λw M=>zx G cs ρ M λws M=>P (w::ws) M:=rfl
theorem FO:wO G none u0 M P=P none M:=rfl
theorem FP:wO G (some c) ρ M P=wE G c ρ M λw M=>Pe w λi=>P (some i) M:=rfl
end
def jX(G:du)(o:Option fB)(ρ:En)(M:aq)(P:Bool->aq->Prop):Prop:=match o with
 | none=>P true M
 | some t=>wT G t ρ M P
mutual
theorem gK:∀(c:C)(ρ:En)(M:aq)(P:W->aq->Prop),aP (ev G c ρ M) P=wE G c ρ M P
 | .ae i,ρ,M,P=>by
  simp only[Be,Kt];rcases ρ[i]? with _|_ | d
  ·exact aH
  ·exact aH
  ·exact aV
 | .ai d,ρ,M,P=>by rw[O0];rfl
 | .bin op a b,ρ,M,P=>by rw[O1,gK a];simp only[gK b,bB,Ku,FD]
 | .cmp op a b,ρ,M,P=>by rw[O2,gK a];simp only[gK b,bB,Kw,qX]
 | .chain o1 o2 a b c,ρ,M,P=>by
  simp only[tN,aD,B5];rw[gK a]
  congr 1;funext x M
  rw[gK b]
  congr 1;funext y M
  rw[bB,qX]
  congr 1;funext r M
  cases r with
  | true=>simp only[aD,aV,if_true,gK c];simp only[bB,qX];rfl
  | false=>simp[aV,bK]
 | .dq cs,ρ,M,P=>by rw[EL,w_and cs];rfl
 | .gA cs,ρ,M,P=>by rw[EM,w_or cs];rfl
 | .neg a,ρ,M,P=>by
  simp only[Jq,aD,Kx];rw[gK a]
  congr 1;funext x M
  rcases x with⟨_ | b | _|_|_|_|_⟩|_
  ·exact aH
  ·cases b<;>exact aV
  all_goals exact aH
 | .ite c a b,ρ,M,P=>by rw[O3,FQ c];simp only[gK a,gK b,Ky,xS]
 | .tup cs,ρ,M,P=>by rw[O4,vS cs];rfl
 | .lst cs,ρ,M,P=>by rw[O5,vS cs];rfl
 | .sub a b,ρ,M,P=>by rw[k_sub,gK a];simp only[gK b,bB,Kz]
 | .nh a lo hi,ρ,M,P=>by rw[O6,gK a];simp only[Wk lo,Wk hi,bB,KA]
 | .zU a k,ρ,M,P=>by rw[O7,gK a];simp only[bB,KC]
 | .call f cs,ρ,M,P=>by rw[Kd,vS cs];rfl
 | .bi b cs,ρ,M,P=>by rw[UM,B9 cs];simp only[bB,Ph]
 | .me m o cs,ρ,M,P=>by rw[UN,gK o];simp only[vS cs,bB,Pj]
 | .tq ks cs,ρ,M,P=>by rw[O8,vS cs];rfl
 | .ku tp cs,ρ,M,P=>by simp only[Ju,aD,KD];rw[B9 cs];simp only[bB,FF]
 | .EI x v,ρ,M,P=>by rw[Jv];exact aV
 | .kJ,ρ,M,P=>by rw[EN];exact aV
 | .jk a b,ρ,M,P=>by simp only[EO,aD,FG];rw[gK a];simp only[gK b,bB]
 | .f_ ng a b,ρ,M,P=>by simp only[xq,aD,FH];rw[gK a];simp only[gK b,bB]
 | .cnt a b,ρ,M,P=>by
  simp only[Bm,aD,KG];rw[gK a]
  congr 1;funext x M
  by_cases z:(dr M x).isSome=true
  ·rw[if_pos z,aD,gK b];simp only[bB,z,true_and]
  ·rw[if_neg z,aH];exact propext ⟨λq=>q.elim,λq=>absurd q.1 z⟩
 | .gB ng a,ρ,M,P=>by simp only[xr,aD,FI];rw[gK a];simp only[bB]
 | .comp k dR tg cond elt c_,ρ,M,P=>by rw[Ke,B9 dR];simp only[bB,FJ,xT]
theorem FQ:∀(c:fB)(ρ:En)(M:aq)(P:Bool->aq->Prop),aP (dH G c ρ M) P=wT G c ρ M P
 | .dq cs,ρ,M,P=>by rw[Kk,w_all cs];rfl
 | .gA cs,ρ,M,P=>by rw[Kl,w_any cs];rfl
 | .neg a,ρ,M,P=>by rw[O_,FQ a];rfl
 | .val c,ρ,M,P=>by
  rw[O9,gK c];simp only[KH]
  congr 1;funext w M
  cases oP M w with
  | none=>simp[FA]
  | some r=>simp[FA]
theorem w_and:∀(cs:List C)(ρ:En)(M:aq)(P:W->aq->Prop),aP (iV G cs ρ M) P=zw G cs ρ M P
 | [],ρ,M,P=>by rw[kO];exact aH
 | [c],ρ,M,P=>by simp only[kO,jn,B6,pK,aD,aV,gK c]
 | c::b::cs,ρ,M,P=>by
  rw[jn,pK,aD,gK c]
  congr 1;funext x M
  rw[<- w_and (b::cs)];rcases x with⟨_ | b | _|_|_|_|_⟩|_
  ·exact aH
  ·cases b with
   | true=>rfl
   | false=>exact aV
  all_goals exact aH
theorem w_or:∀(cs:List C)(ρ:En)(M:aq)(P:W->aq->Prop),aP (oS G cs ρ M) P=Mr G cs ρ M P
 | [],ρ,M,P=>by rw[nk];exact aH
 | [c],ρ,M,P=>by simp only[nk,kP,FK,ug,aD,aV,gK c]
 | c::b::cs,ρ,M,P=>by
  rw[kP,ug,aD,gK c]
  congr 1;funext x M
  rw[<- w_or (b::cs)];rcases x with⟨_ | b | _|_|_|_|_⟩|_
  ·exact aH
  ·cases b with
   | true=>exact aV
   | false=>rfl
  all_goals exact aH
theorem w_all:∀(cs:List fB)(ρ:En)(M:aq)(P:Bool->aq->Prop),aP (fH G cs ρ M) P=Kr G cs ρ M P
 | [],ρ,M,P=>by rw[kQ];exact aH
 | [c],ρ,M,P=>by rw[Kg,FQ c];rfl
 | c::b::cs,ρ,M,P=>by rw[Ki,FQ c];simp only[w_all (b::cs),<- xS];rfl
theorem w_any:∀(cs:List fB)(ρ:En)(M:aq)(P:Bool->aq->Prop),aP (fI G cs ρ M) P=Ks G cs ρ M P
 | [],ρ,M,P=>by rw[kR];exact aH
 | [c],ρ,M,P=>by rw[Kh,FQ c];rfl
 | c::b::cs,ρ,M,P=>by rw[Kj,FQ c];simp only[w_any (b::cs),<- xS];rfl
theorem vS:∀(cs:List C)(ρ:En)(M:aq)(P:List D->aq->Prop),aP (bL G cs ρ M) P=B4 G cs ρ M P
 | [],ρ,M,P=>by rw[UO];rfl
 | c::cs,ρ,M,P=>by rw[UP,gK c];simp only[vS cs,bB,FL,B7]
theorem B9:∀(cs:List C)(ρ:En)(M:aq)(P:List W->aq->Prop),aP (cY G cs ρ M) P=zx G cs ρ M P
 | [],ρ,M,P=>by rw[UQ];rfl
 | c::cs,ρ,M,P=>by rw[UR,gK c];simp only[B9 cs,bB,FN,B8]
theorem Wk:∀(o:Option C)(ρ:En)(M:aq)(P:Option Int->aq->Prop),aP (sh G o ρ M) P=wO G o ρ M P
 | none,ρ,M,P=>by rw[UL];rfl
 | some c,ρ,M,P=>by
  simp only[nq,nr,aD,FO,FP];rw[gK c]
  congr 1;funext x M
  rcases x with⟨_|_ | z | _|_|_|_⟩|_
  ·exact aH
  ·exact aH
  ·exact aV
  all_goals exact aH
end
theorem w_cond:aP (bH G o ρ M) P=jX G o ρ M P:=by
 cases o with
 | none=>exact aV
 | some t=>exact FQ t ρ M P
theorem uh:aP ((ev G c ρ M).bind own) P=wE G c ρ M λw M=>d6 (own w M) P:=by
 rw[aD,gK];simp only[bB]
mutual
noncomputable def wS(G:du):S->En->aq->(En->aq->Prop)->(W->aq->Prop)->(En->aq->Prop)->(En->aq->Prop)->Prop
 | .asg tg c,ρ,M,nx,_,_,_=>wE G c ρ M λw M=>d6 (own w M) λd M=>DK (bR tg d ρ) λρ=>nx ρ M
 | .eD i c,ρ,M,nx,_,_,_=>wE G c ρ M λw M=>d6 (own w M) λd M=>nx (ρ.set i (some d)) M
 | .put o i v,ρ,M,nx,_,_,_=>wE G v ρ M λw M=>d6 (own w M) λd M=>wE G o ρ M λx M=>wE G i ρ M λy M=>d6 (gD x y d M) λ_ M=>nx ρ M
 | .dput o i v,ρ,M,nx,_,_,_=>wE G v ρ M λw M=>d6 (own w M) λd M=>wE G o ρ M λx M=>wE G i ρ M λy M=>d6 (gR x y d M) λ_ M=>nx ρ M
 | .par i j a b,ρ,M,nx,_,_,_=>wE G a ρ M λw M=>d6 (own w M) λx M=>wE G b ρ M λw M=>d6 (own w M) λy M=>nx ((ρ.set i (some x)).set j (some y)) M
 | .expr c,ρ,M,nx,_,_,_=>wE G c ρ M λ_ M=>nx ρ M
 | .ret c,ρ,M,_,rt,_,_=>wE G c ρ M rt
 | .BY,_,M,_,rt,_,_=>rt (.d .aQ) M
 | .iff t a b,ρ,M,nx,rt,bk,ct=>wT G t ρ M λr M=>bK r (dA G a ρ M nx rt bk ct) (dA G b ρ M nx rt bk ct)
 | .bq tg k dR b,ρ,M,nx,rt,bk,ct=>zx G dR ρ M λws M=>zv k ws M λit M=>fU (dQ (λρ M=>b_ G b ρ M) it tg (cX M it) 0 ρ M) nx rt bk ct
 | .DJ n t b,ρ,M,nx,rt,bk,ct=>fU (nS (λρ M=>dH G t ρ M) (λρ M=>b_ G b ρ M) n ρ M) nx rt bk ct
 | .never,_,_,_,_,_,_=>False
 | .pass,ρ,M,nx,_,_,_=>nx ρ M
 | .brk,ρ,M,_,_,bk,_=>bk ρ M
 | .cont,ρ,M,_,_,_,ct=>ct ρ M
noncomputable def dA(G:du):List S->En->aq->(En->aq->Prop)->(W->aq->Prop)->(En->aq->Prop)->(En->aq->Prop)->Prop
 | [],ρ,M,nx,_,_,_=>nx ρ M
 | s::ss,ρ,M,nx,rt,bk,ct=>wS G s ρ M (λρ M=>dA G ss ρ M nx rt bk ct) rt bk ct
end
section
variable {G:du} {lo hi:Option C} {cond:Option fB} {nx bk ct:En->aq->Prop} {rt:W->aq->Prop}
theorem KI:wS G (.asg tg c) ρ M nx u0 u1 u2=wE G c ρ M λw M=>d6 (own w M) λd M=>DK (bR tg d ρ) λρ=>nx ρ M:=rfl
theorem FR:wS G (.eD i c) ρ M nx u0 u1 u2=wE G c ρ M λw M=>d6 (own w M) λd M=>nx (ρ.set i (some d)) M:=rfl
theorem KJ:wS G (.put o i v) ρ M nx u0 u1 u2=wE G v ρ M λw M=>d6 (own w M) λd M=>wE G o ρ M λx M=>wE G i ρ M λy M=>d6 (gD x y d M) λ_ M=>nx ρ M:=rfl
theorem FT:wS G (.dput o i v) ρ M nx u0 u1 u2=wE G v ρ M λw M=>d6 (own w M) λd M=>wE G o ρ M λx M=>wE G i ρ M λy M=>d6 (gR x y d M) λ_ M=>nx ρ M:=rfl
theorem KL:wS G (.par i j a b) ρ M nx u0 u1 u2=wE G a ρ M λw M=>d6 (own w M) λx M=>wE G b ρ M λw M=>d6 (own w M) λy M=>nx ((ρ.set i (some x)).set j (some y)) M:=rfl
theorem KN:wS G (.iff t a b) ρ M nx rt bk ct=wT G t ρ M λr M=>bK r (dA G a ρ M nx rt bk ct) (dA G b ρ M nx rt bk ct):=rfl
theorem FU:wS G (.bq tg k dR b) ρ M nx rt bk ct=zx G dR ρ M λws M=>zv k ws M λit M=>fU (dQ (λρ M=>b_ G b ρ M) it tg (cX M it) 0 ρ M) nx rt bk ct:=rfl
theorem KO:wS G (.DJ n t b) ρ M nx rt bk ct=fU (nS (λρ M=>dH G t ρ M) (λρ M=>b_ G b ρ M) n ρ M) nx rt bk ct:=rfl
end
mutual
theorem Zs:∀(s:S)(ρ:En)(M:aq)(nx:En->aq->Prop)(rt:W->aq->Prop)(bk ct:En->aq->Prop),fU (jy G s ρ M) nx rt bk ct=wS G s ρ M nx rt bk ct
 | .asg tg c,ρ,M,nx,rt,bk,ct=>by
  simp only[xM,ff,KI];rw[uh]
  congr 1;funext w M
  congr 1;funext d M
  cases bR tg d ρ with
  | none=>exact de
  | some ρ=>exact dy
 | .eD i c,ρ,M,nx,rt,bk,ct=>by rw[Km,gK c];simp only[bB,FR]
 | .put o i v,ρ,M,nx,rt,bk,ct=>by rw[Pa,gK v];simp only[gK o,gK i,bB,KJ]
 | .dput o i v,ρ,M,nx,rt,bk,ct=>by
  simp only[uc,ff,FT];rw[uh];simp only[gK o,gK i,bB,dy]
 | .par i j a b,ρ,M,nx,rt,bk,ct=>by
  simp only[Fp,ff];rw[vS];show wE G a ρ M (λw M=>d6 (own w M) λx M=>wE G b ρ M λw M=>d6 (own w M) λy M=>fU (.nx ((ρ.set i (some x)).set j (some y)) M) nx rt bk ct)=_;simp only[dy,KL]
 | .expr c,ρ,M,nx,rt,bk,ct=>by rw[Ko,gK c];rfl
 | .ret c,ρ,M,nx,rt,bk,ct=>by rw[Pb,gK c];rfl
 | .BY,ρ,M,nx,rt,bk,ct=>gI
 | .iff t a b,ρ,M,nx,rt,bk,ct=>by rw[US,FQ t];simp only[qY a,qY b,KN,xS]
 | .bq tg k dR b,ρ,M,nx,rt,bk,ct=>by rw[Pc,B9 dR];simp only[bB,FU,xT]
 | .DJ n t b,ρ,M,nx,rt,bk,ct=>by simp only[xQ,KO]
 | .never,ρ,M,nx,rt,bk,ct=>de
 | .pass,ρ,M,nx,rt,bk,ct=>dy
 | .brk,ρ,M,nx,rt,bk,ct=>kW
 | .cont,ρ,M,nx,rt,bk,ct=>kX
theorem qY:∀(ss:List S)(ρ:En)(M:aq)(nx:En->aq->Prop)(rt:W->aq->Prop)(bk ct:En->aq->Prop),fU (b_ G ss ρ M) nx rt bk ct=dA G ss ρ M nx rt bk ct
 | [],ρ,M,nx,rt,bk,ct=>Pd
 | s::ss,ρ,M,nx,rt,bk,ct=>by rw[Kp,Zs s];simp only[qY ss];rfl
end
theorem bu:aP (aw G n b ds M) P=dA G b (gH n ds) M (λ_ M=>P (.d .aQ) M) P (λ_ _=>False) (λ_ _=>False):=by
 rw[Fz,qY]
abbrev Fn:=List D->aq->cw W
noncomputable def Fr(w:Nat)(M M':aq):Prop:=M.length<=M'.length/\∀n,n<M.length->n≠w->M'[n]?=M[n]?
abbrev Ex(M M':aq):Prop:=Fr M.length M M'
theorem aj{M:aq}{n:Nat}{o:MO}(h:M[n]?=some o):n<M.length:=(dU.mp h).1
theorem ay{M X:aq}{n:Nat}{o:MO}(h:M[n]?=some o):(M++X)[n]?=some o:=by rw[uU (aj h)];exact h
theorem ak:(M++[o])[M.length]?=some o:=by simp
theorem ao{M:aq}{n m:Nat}{o u:MO}(h:M[n]?=some o)(hn:n≠m):(M.set m u)[n]?=some o:=by rw[List.getElem?_set_ne (Ne.symm hn)];exact h
theorem aF{M:aq}{n:Nat}{o u:MO}(h:M[n]?=some o):(M.set n u)[n]?=some u:=List.getElem?_set_self (aj h)
theorem Fr.refl(w:Nat)(M:aq):Fr w M M:=⟨bJ _,λ_ _ _=>rfl⟩
theorem Fr.trans{w:Nat}{M M1 M2:aq}(a:Fr w M M1)(b:Fr w M1 M2):Fr w M M2:=⟨Nat.le_trans a.1 b.1,λn h k=>(b.2 n (Nat.lt_of_lt_of_le h a.1) k).trans (a.2 n h k)⟩
theorem Fr.app{w:Nat}{M M1 X:aq}(a:Fr w M M1):Fr w M (M1++X):=⟨by have:=a.1;simp only[gV];omega,λn h k=>by rw[uU (Nat.lt_of_lt_of_le h a.1)];exact a.2 n h k⟩
theorem Fr.set{w n:Nat}{M M1:aq}{o:MO}(a:Fr w M M1)(h:M.length<=n):Fr w M (M1.set n o):=⟨by rw[List.length_set];exact a.1,λm hm k=>by rw[List.getElem?_set_ne (∅)];exact a.2 m hm k⟩
theorem Fr.KP{w:Nat}{M M1:aq}{o:MO}(a:Fr w M M1):Fr w M (M1.set w o):=⟨by rw[List.length_set];exact a.1,λm hm k=>by rw[List.getElem?_set_ne (Ne.symm k)];exact a.2 m hm k⟩
theorem Fr.get{w n:Nat}{M M1:aq}{o:MO}(a:Fr w M M1)(h:M[n]?=some o)(k:n≠w):M1[n]?=some o:=(a.2 n (aj h) k).trans h
theorem Fr.back{w v:Nat}{M M1 M2:aq}(a:Fr w M M1)(b:Fr v M1 M2)(h:M.length<=v\/v=w):Fr w M M2:=⟨Nat.le_trans a.1 b.1,λn hn k=>(b.2 n (Nat.lt_of_lt_of_le hn a.1) (∅)).trans (a.2 n hn k)⟩
theorem Ex.refl(M:aq):Ex M M:=Fr.refl _ M
theorem Ex.get{n:Nat}{M M1:aq}{o:MO}(a:Ex M M1)(h:M[n]?=some o):M1[n]?=some o:=Fr.get a h (Nat.ne_of_lt (aj h))
theorem Ex.trans{M M1 M2:aq}(a:Ex M M1)(b:Ex M1 M2):Ex M M2:=Fr.back a b (.inl a.1)
section
variable {M:aq} {n:Nat} {ds:List D} {i:Int} {x:D}
theorem xU(hi:0<=i)(h:ds[i.toNat]?=some x):Ra ds i=some x:=by
 have hl:=(dU.mp h).1;unfold Ra xb AI;rw[if_pos hi,if_pos (∅)];exact h
theorem bO(hM:M[n]?=some (.lst ds))(hi:0<=i)(h:ds[i.toNat]?=some x):cU (.d (.ah n)) (.d (.int i)) M=.ok (.d x) M:=by
 unfold cU bx;simp only[hM,xU hi h]
theorem kZ(hi:0<=i)(h:ds[i.toNat]?=some x):cU (.lv ds) (.d (.int i)) M=.ok (.d x) M:=by
 unfold cU bx;simp only[xU hi h]
theorem mi(hi:0<=i)(h:ds[i.toNat]?=some x):cU (.d (.tup ds)) (.d (.int i)) M=.ok (.d x) M:=by
 unfold cU bx;simp only[xU hi h]
theorem jY{m:Nat}(h:ds[m]?=some x):cU (.d (.tup ds)) (.d (.int m)) M=.ok (.d x) M:=mi (Int.natCast_nonneg m) (by rw[Int.toNat_natCast];exact h)
theorem a_{m:Nat}(hM:M[n]?=some (.lst ds))(h:ds[m]?=some x):cU (.d (.ah n)) (.d (.int m)) M=.ok (.d x) M:=bO hM (Int.natCast_nonneg m) (by rw[Int.toNat_natCast];exact h)
theorem KQ(hi:0<=i)(h:ds[i.toNat]?=some x):cU (.d (.ls ds)) (.d (.int i)) M=.ok (.d x) M:=by
 unfold cU bx;simp only[xU hi h]
theorem bD(hM:M[n]?=some (.lst ds))(hl:ds.length<sizeLine):oQ .append (.d (.ah n)) [x] M=.ok (.d .aQ) (M.set n (.lst (ds++[x]))):=by
 unfold oQ;simp only[hM,if_pos hl]
theorem ui(hM:M[n]?=some (.lst ds))(hl:ds.length<sizeLine)(h0:0<=i)(h1:i<=ds.length):oQ .insert (.d (.ah n)) [.int i,x] M=.ok (.d .aQ) (M.set n (.lst (ds.take i.toNat++x::ds.drop i.toNat))):=by
 unfold oQ;simp only[hM];rw[if_pos ⟨hl,h0,h1⟩]
theorem aW(hM:M[n]?=some (.lst ds)):(dr M (.d (.ah n))).isSome=true:=by unfold dr;simp only[hM];rfl
theorem df(hM:M[n]?=some (.lst ds)):jl .len [.d (.ah n)] M=.ok (.d (.int ds.length)) M:=by unfold jl bx;simp only[hM]
theorem bU(hM:M[n]?=some (.lst ds)):jl .tuple1 [.d (.ah n)] M=.ok (.d (.tup ds)) M:=by unfold jl bx;simp only[hM]
theorem uj(hM:M[n]?=some (.lst ds)):jl .list1 [.d (.ah n)] M=.ok (.lv ds) M:=by unfold jl bx;simp only[hM]
theorem dJ(hM:M[n]?=some (.lst ds)):fC .seq [.d (.ah n)] M=.ok (.at n) M:=by
 unfold fC bx;simp only[hM];rfl
theorem nU(hM:M[n]?=some (.lst ds)):cX M (.at n)=ds.length:=by unfold cX;simp only[hM]
theorem gL(hM:M[n]?=some (.lst ds))(hm:m<ds.length):gD (.d (.ah n)) (.d (.int m)) x M=.ok () (M.set n (.lst (ds.set m x))):=by
 unfold gD;simp only[hM]
 have:AI ds.length (m:Int)=some m:=by
  unfold AI;rw[if_pos (∅),if_pos (∅)];simp
 simp only[this]
theorem nV(hM:M[n]?=some (.lst ds))(hi:0<=i)(hm:i.toNat<ds.length):gD (.d (.ah n)) (.d (.int i)) x M=.ok () (M.set n (.lst (ds.set i.toNat x))):=by
 have:=gL (x:=x) hM hm;rw[show((i.toNat:Nat):Int)=i by omega]at this;exact this
end
theorem dB(h:n<=1000):n<=sizeLine:=Nat.le_trans h (by decide)
theorem aG(h:n<=1000):n<sizeLine:=Nat.lt_of_le_of_lt h (by decide)
theorem bo{α:Type}{l:List α}{k:Nat}{x:α}(h:l[k]?=some x):l.take (k+1)=l.take k++[x]:=by
 rw[List.take_add_one,h];rfl
theorem qZ{x:Str}(h:PyData.strOk x=true):SeqAt.shaped (.str x)=true:=by
 unfold SeqAt.shaped;rw[PyData.canLay0.eq_4,h,PyData.depth.eq_7];rfl
theorem xV{x y:Str}:PyData.eqv (.str x) (.str y)=(x==y):=PyData.eqv.eq_6 x y
theorem B_{x:Str}:iw M (.d (.str x))=some (.str x):=by show cW M 30 (.str x)=_;unfold cW;rfl
theorem bz{x y:Str}(hx:PyData.strOk x=true)(hy:PyData.strOk y=true):aY .eq (.d (.str x)) (.d (.str y)) M=.ok (x==y) M:=by
 unfold aY;simp only[B_,qZ hx,qZ hy,and_self,if_true,xV]
theorem xW{x y:Str}(hx:PyData.strOk x=true)(hy:PyData.strOk y=true):aY .ne (.d (.str x)) (.d (.str y)) M=.ok (!(x==y)) M:=by
 unfold aY;simp only[B_,qZ hx,qZ hy,and_self,if_true,xV]
section
variable {G:du} {b:List S} {tg:List Nat} {ρ:En} {M:aq} {nx:En->aq->Prop} {rt:W->aq->Prop} {bk ct:En->aq->Prop}
theorem eE {lo : Int} {n : Nat} (I : Nat -> En -> aq -> Prop) (h0 : I 0 ρ M)
    (hs:∀i ρ M,i<n->I i ρ M->DK (bR tg (.int (lo+i)) ρ) λρ=>dA G b ρ M (I (i+1)) rt nx (I (i+1))) (he:∀ρ M,I n ρ M->nx ρ M):fU (dQ (λρ M=>b_ G b ρ M) (.ku lo n) tg n 0 ρ M) nx rt bk ct:=by
  have aR:((List.range n).map λi=>D.int (lo+(i:Nat))).length=n:=by simp
  refine kY (ds:=(List.range n).map λi=>D.int (lo+(i:Nat))) I (λi ρ M _ hi=>?_) (λi ρ M d h e=>?_) (λρ M h=>he ρ M (by rw[aR]at h;exact h)) n 0 ρ M h0 (by rw[aR];omega)
  · rw[aR]at hi;show some (if i<n then some (D.int (lo+i)) else none)=_;by_cases q:i<n
    · rw[if_pos q];simp[q]
    · rw[if_neg q,List.getElem?_eq_none (by rw[aR];omega)]
  · have hi:i<n:=by have:=(dU.mp e).1;rw[aR]at this;exact this
    have:d=.int (lo+i):=by rw[dG,List.getElem?_range hi]at e;exact(eU e).symm
    subst this;have q:=hs i ρ M hi h
    cases e2:bR tg (.int (lo+i)) ρ with
    | none=>rw[e2]at q;exact q.elim
    | some dS=>rw[e2]at q;exact⟨dS,rfl,by rw[qY];exact q⟩
theorem Ca(I:Nat->En->aq->Prop)(hs:∀f ρ M,I f ρ M->∃k,f=k+1/\wT G t ρ M λr M=>bK r (dA G b ρ M (I k) rt nx (I k)) (nx ρ M)):∀(f:Nat)(ρ:En)(M:aq),I f ρ M->fU (nS (λρ M=>dH G t ρ M) (λρ M=>b_ G b ρ M) f ρ M) nx rt bk ct
 | 0,ρ,M,h=>by
  obtain⟨k,e,_⟩:=hs 0 ρ M h;cases e
 | f+1,ρ,M,h=>by
  obtain⟨k,e,q⟩:=hs (f+1) ρ M h;cases e;rw[<- FQ]at q;unfold nS;obtain⟨r,M1,e1,q⟩:=B2 q;rw[e1];dsimp only
  cases r with
  | true =>
   rw[if_pos rfl];have q:dA G b ρ M1 (I f) rt nx (I f):=q;rw[<- qY]at q
   cases e2:b_ G b ρ M1 with
   | nx pH M2=>rw[e2,dy]at q;exact Ca I hs f pH M2 q
   | ct pH M2=>rw[e2,kX]at q;exact Ca I hs f pH M2 q
   | bk pH M2=>rw[e2,kW]at q;dsimp only;rw[dy];exact q
   | rt w M2=>rw[e2,gI]at q;dsimp only;rw[gI];exact q
   | af=>rw[e2,de]at q;exact q.elim
  | false =>
   rw[if_neg (by simp),dy];exact q
theorem fN (I : Nat -> En -> aq -> Prop) (h0 : I 0 ρ M)
    (hs:∀i ρ M d,ds[i]?=some d->I i ρ M->DK (bR tg d ρ) λρ=>dA G b ρ M (I (i+1)) rt nx (I (i+1))) (he:∀ρ M,I ds.length ρ M->nx ρ M):fU (dQ (λρ M=>b_ G b ρ M) (.items ds) tg ds.length 0 ρ M) nx rt bk ct :=
  kY (ds:=ds) I (λi ρ M _ _=>rfl) (λi ρ M d h e=>by
    have q:=hs i ρ M d e h
    cases e2:bR tg d ρ with
    | none=>rw[e2]at q;exact q.elim
    | some dS=>rw[e2]at q;exact⟨dS,rfl,by rw[qY];exact q⟩) he ds.length 0 ρ M h0 (∅)
theorem Cb (I : Nat -> En -> aq -> Prop) (hM : ∀ i ρ M, I i ρ M -> M[n]? = some (.lst ds)) (h0 : I 0 ρ M)
    (hs:∀i ρ M d,ds[i]?=some d->I i ρ M->DK (bR tg d ρ) λρ=>dA G b ρ M (I (i+1)) rt nx (I (i+1))) (he:∀ρ M,I ds.length ρ M->nx ρ M):fU (dQ (λρ M=>b_ G b ρ M) (.at n) tg (cX M (.at n)) 0 ρ M) nx rt bk ct:=by
  rw[nU (hM 0 ρ M h0)]
  exact kY (ds:=ds) I (λi ρ M h _=>by unfold itemAt;simp only[hM i ρ M h]) (λi ρ M d h e=>by
    have q:=hs i ρ M d e h
    cases e2:bR tg d ρ with
    | none=>rw[e2]at q;exact q.elim
    | some dS=>rw[e2]at q;exact⟨dS,rfl,by rw[qY];exact q⟩) he ds.length 0 ρ M h0 (∅)
end
theorem nW:∀(tg:List Nat)(ds:List D)(ρ:En)(i:Nat)(o:Option D),i∉tg->dZ tg ds (ρ.set i o)=(dZ tg ds ρ).map (·.set i o)
 | [],[],_,_,_,_=>rfl
 | [],_::_,_,_,_,_=>rfl
 | _::_,[],_,_,_,_=>rfl
 | j::tg,d::ds,ρ,i,o,h=>by
  have h1:i≠j:=λz=>h (by rw[z];exact List.mem_cons_self);show dZ tg ds ((ρ.set i o).set j (some d))=_;rw[List.set_comm _ _ h1,nW tg ds _ i o λz=>h (ja _ z)];rfl
theorem gM:∀(tg:List Nat)(ds es:List D)(ρ dS:En),tg.Nodup->dZ tg ds ρ=some dS->dZ tg es dS=dZ tg es ρ
 | [],[],[],_,_,_,e=>by cases e;rfl
 | [],[],_::_,_,_,_,e=>by cases e;rfl
 | [],_::_,_,_,_,_,e=>by cases e
 | _::_,[],_,_,_,_,e=>by cases e
 | j::tg,d::ds,[],ρ,dS,n,e=>rfl
 | j::tg,d::ds,f::es,ρ,dS,n,e=>by
  have n1:=List.nodup_cons.mp n;have e:dZ tg ds (ρ.set j (some d))=some dS:=e;show dZ tg es (dS.set j (some f))=dZ tg es (ρ.set j (some f));have e2:=nW tg ds (ρ.set j (some d)) j (some f) n1.1;rw[e,List.set_set]at e2;exact gM tg ds es _ _ n1.2 e2
theorem um(n:tg.Nodup)(h:bR tg d ρ=some dS):bR tg e dS=bR tg e ρ:=by
 match tg,n,h with
 | [i],_,h =>
  have h:some (ρ.set i (some d))=some dS:=h;cases h;show some ((ρ.set i (some d)).set i (some e))=some (ρ.set i (some e));rw[List.set_set]
 | [],_,h =>
  cases d<;>first | cases h | skip
  cases e<;>first | rfl | skip
  exact gM [] _ _ _ _ List.nodup_nil h
 | i::j::tg,n,h =>
  cases d<;>first | cases h | skip
  cases e<;>first | rfl | skip
  exact gM (i::j::tg) _ _ _ _ n h
section
variable {G:du} {cond:Option fB} {elt:C} {tg:List Nat} {ρ:En} {M:aq} {P:W->aq->Prop}
theorem ig {ds : List D} (I : Nat -> aq -> List D -> Prop) (n : tg.Nodup) (hit : ∀ i M acc, I i M acc -> i <= ds.length -> itemAt M i it = some ds[i]?) (h0 : I 0 M [])
    (hs:∀i M acc d,ds[i]?=some d->I i M acc->acc.length<sizeLine/\DK (bR tg d ρ) λτ=>jX G cond τ M λr M=>if r=true then wE G elt τ M λw M=>d6 (own w M) λx M=>I (i+1) M (acc++[x]) else I (i+1) M acc)
    (he:∀M acc,I ds.length M acc->P (.lv acc) M) {k:Nat} (hk:k=ds.length):aP (bc (λτ M=>bH G cond τ M) (λτ M=>(ev G elt τ M).bind own) it tg k 0 ρ M []) P:=by
  subst hk;refine qW (ds:=ds) (λi τ M acc=>I i M acc/\(τ=ρ\/∃d,bR tg d ρ=some τ)) (λi τ M acc h hi=>hit i M acc h.1 hi) (λi τ M acc d h e=>?_) (λτ M acc h=>he M acc h.1) ds.length 0 ρ M [] ⟨h0,.inl rfl⟩ (∅);obtain⟨q1,q2⟩:=hs i M acc d e h.1
  have hb:bR tg d τ=bR tg d ρ:=by
    rcases h.2 with z | ⟨d',z⟩
    · rw[z]
    · exact um n z
  refine⟨q1,?_⟩
  cases e2:bR tg d ρ with
  | none=>rw[e2]at q2;exact q2.elim
  | some Hr =>
    rw[e2]at q2;refine⟨Hr,by rw[hb,e2],?_⟩;have q2:jX G cond Hr M (λr M=>if r=true then wE G elt Hr M λw M=>d6 (own w M) λx M=>I (i+1) M (acc++[x]) else I (i+1) M acc):=q2;rw[<- w_cond]at q2;refine q2.imp λr M1 q3=>?_
    cases r with
    | true =>
      rw[if_pos rfl]at q3⊢;rw[uh];rw[<- uh]at q3⊢;exact q3.imp λx M2 q4=>⟨q4,.inr ⟨d,e2⟩⟩
    | false =>
      rw[if_neg (by simp)]at q3⊢;exact⟨q3,.inr ⟨d,e2⟩⟩
theorem jZ {it : It} {ds : List D} (f : D -> Option D) (n : tg.Nodup) (hit : ∀ M', Ex M M' -> ∀ i, i <= ds.length -> itemAt M' i it = some ds[i]?) (hl : ds.length <= sizeLine)
    (hs:∀(i:Nat) M' d,ds[i]?=some d->Ex M M'->DK (bR tg d ρ) λτ=>jX G cond τ M' λr M1=>if r=true then wE G elt τ M1 λw M1=>d6 (own w M1) λx M1=>f d=some x/\Ex M M1 else f d=none/\Ex M M1)
    (he:∀M',Ex M M'->P (.lv (ds.filterMap f)) M') {k:Nat} (hk:k=ds.length):aP (bc (λτ M=>bH G cond τ M) (λτ M=>(ev G elt τ M).bind own) it tg k 0 ρ M []) P:=by
  refine ig (ds:=ds) (λi M' acc=>Ex M M'/\acc=(ds.take i).filterMap f) n (λi M' acc h hi=>hit M' h.1 i hi) ⟨Ex.refl M,rfl⟩ ?_ (λM' acc h=>?_) hk
  · rintro i M' acc d hd ⟨h1,rfl⟩;have hi:=(dU.mp hd).1;refine⟨?_,?_⟩
    · have:=List.length_filterMap_le f (ds.take i);rw[List.length_take]at this;omega
    · have q:=hs i M' d hd h1
      have e:∀o,f d=o->(ds.take (i+1)).filterMap f=(ds.take i).filterMap f++o.toList:=λo ho=>by
        rw[bo hd,List.filterMap_append];cases o<;>simp[List.filterMap_cons,ho]
      cases e2:bR tg d ρ with
      | none=>rw[e2]at q;exact q.elim
      | some Hr =>
        rw[e2]at q;have q:jX G cond Hr M' (λr M1=>if r=true then wE G elt Hr M1 λw M1=>d6 (own w M1) λx M1=>f d=some x/\Ex M M1 else f d=none/\Ex M M1):=q;show jX G cond Hr M' (λr M1=>if r=true then wE G elt Hr M1 λw M1=>d6 (own w M1) λx M1=>Ex M M1/\(ds.take i).filterMap f++[x]=(ds.take (i+1)).filterMap f else Ex M M1/\(ds.take i).filterMap f=(ds.take (i+1)).filterMap f);rw[<- w_cond]at q⊢;refine q.imp λr M1 q3=>?_
        cases r with
        | true =>
          rw[if_pos rfl]at q3⊢;rw[<- uh]at q3⊢;exact q3.imp λx M2 q4=>⟨q4.2,by rw[e _ q4.1];rfl⟩
        | false =>
          rw[if_neg (by simp)]at q3⊢;exact⟨q3.2,by rw[e _ q3.1];simp⟩
  · obtain⟨h1,rfl⟩:=h;rw[List.take_length];exact he M' h1
theorem j2:∀M',Ex M M'->∀i,i<=ds.length->itemAt M' i (.items ds)=some ds[i]?:=λ_ _ _ _=>rfl
theorem lG{M:aq}{n:Nat}{ds:List D}(h:M[n]?=some (.lst ds)):∀M',Ex M M'->∀i,i<=ds.length->itemAt M' i (.at n)=some ds[i]?:=λM' e i _=>by unfold itemAt;simp only[Ex.get e h]
theorem KR{lo:Int}{n:Nat}:∀M',Ex M M'->∀i,i<=((List.range n).map λi=>D.int (lo+(i:Nat))).length->itemAt M' i (.ku lo n)=some ((List.range n).map λi=>D.int (lo+(i:Nat)))[i]?:=λM' e i hi=>by
 have aR:((List.range n).map λi=>D.int (lo+(i:Nat))).length=n:=by simp
 rw[aR]at hi;show some (if i<n then some (D.int (lo+i)) else none)=_;by_cases q:i<n
 ·rw[if_pos q];simp[q]
 ·rw[if_neg q,List.getElem?_eq_none (by rw[aR];omega)]
theorem Cc {lo : Int} {n : Nat} (I : Nat -> aq -> List D -> Prop) (nd : tg.Nodup) (h0 : I 0 M [])
    (hs:∀i M acc,i<n->I i M acc->acc.length<sizeLine/\DK (bR tg (.int (lo+i)) ρ) λτ=>jX G cond τ M λr M=>if r=true then wE G elt τ M λw M=>d6 (own w M) λx M=>I (i+1) M (acc++[x]) else I (i+1) M acc)
    (he:∀M acc,I n M acc->P (.lv acc) M):aP (bc (λτ M=>bH G cond τ M) (λτ M=>(ev G elt τ M).bind own) (.ku lo n) tg (cX M (.ku lo n)) 0 ρ M []) P:=by
  have aR:((List.range n).map λi=>D.int (lo+(i:Nat))).length=n:=by simp
  refine ig (ds:=(List.range n).map λi=>D.int (lo+(i:Nat))) I nd (λi M' acc _ hi=>KR M' (Ex.refl M') i hi) h0 (λi M' acc d e h=>?_) (λM' acc h=>he M' acc (by rw[aR]at h;exact h)) (by rw[aR];rfl);have hi:i<n:=by have:=(dU.mp e).1;rw[aR]at this;exact this
  have:d=.int (lo+i):=by rw[dG,List.getElem?_range hi]at e;exact(eU e).symm
  subst this;exact hs i M' acc hi h
end
end Ev
end
local macro_rules
  | `(tactic| nofun) => `(tactic| conv => whnf)
section
namespace Ev
open L2
open PySem PySem.Spec PyProof.Rows
def q_:List S:=[.bq [4] .seq [(.sub (.sub (.sub (.ae 0) (.ai (.int 0))) (.ae 1)) (.ai (.int 1)))] [.iff (.dq [(.val (.cmp .eq (.sub (.ae 4) (.ai (.int 0))) (.ae 2))),(.val (.cmp .eq (.sub (.ae 4) (.ai (.int 1))) (.ae 3)))]) [.ret (.tup [(.sub (.ae 4) (.ai (.int 2))),(.sub (.ae 4) (.ai (.int 3))),(.sub (.ae 4) (.ai (.int 4)))])] []],.iff (.val (.cmp .eq (.ae 3) (.ai (.str "own")))) [.ret (.ai .aQ)] [],.ret (.tup [(.ae 2),(.tup []),(.ai .aQ)])]
noncomputable def Cd:List S:=[.asg [2] (.bin .mul (.ai (.int 31)) (.ae 1)),.iff (.val (.cmp .gt (.bi .len [(.ae 0)]) (.ai (.int 0)))) [.asg [2] (.bin .add (.sub (.ae 0) (.bin .mod (.ae 1) (.bi .len [(.ae 0)]))) (.bin .mul (.ai (.int 7919)) (.bin .fdiv (.ae 1) (.bi .len [(.ae 0)]))))] [],.ret (.tq ["cell","left","turn"] [(.ae 2),(.bin .mul (.bi .max2 [(.ai (.int 0)),(.ae 2)]) (.bi .tK [(.cmp .ge (.ae 2) (.bin .pow (.ai (.int 10)) (.ai (.int 18))))])),(.ai (.int 0))])]
noncomputable def xX:List S:=[.asg [2] (.sub (.ae 0) (.ai (.str "turn"))),.put (.ae 0) (.ai (.str "turn")) (.bin .add (.ae 2) (.ai (.int 1))),.asg [3] (.sub (.ae 0) (.ai (.str "left"))),.iff (.val (.cmp .gt (.ae 3) (.ai (.int 0)))) [.put (.ae 0) (.ai (.str "left")) (.bin .fdiv (.ae 3) (.ae 1)),.ret (.bin .mod (.ae 3) (.ae 1))] [],.asg [4] (.bin .add (.bin .add (.bin .mod (.sub (.ae 0) (.ai (.str "cell"))) (.ai (.int 2147483647))) (.bin .mul (.bin .mul (.ai (.int 31)) (.ae 2)) (.ae 2))) (.ai (.int 1))),.asg [5] (.bin .mod (.bin .mul (.ae 4) (.bin .add (.ai (.int 48271)) (.bin .mul (.ai (.int 40)) (.ae 2)))) (.ai (.int 2147483629))),.ret (.bin .mod (.bin .fdiv (.bin .mod (.bin .add (.bin .mul (.bin .fdiv (.ae 5) (.ai (.int 11))) (.ai (.int 69621))) (.ae 2)) (.ai (.int 998244353))) (.ai (.int 7))) (.ae 1))]
noncomputable def vT(aA:Nat):List S:=[.asg [2] (.lst []),.iff (.val (.cmp .gt (.ae 1) (.ai (.int 1)))) [.asg [3] (.lst [(.call aA [(.ae 0),(.ai (.int 4))]),(.bin .add (.ai (.int 1)) (.call aA [(.ae 0),(.ai (.int 5))])),(.ai (.int 8))]),.bq [4] .dm [(.sub (.ae 3) (.bin .fdiv (.call aA [(.ae 0),(.ai (.int 9))]) (.ai (.int 4))))] [.asg [5] (.call aA [(.ae 0),(.ae 1)]),.asg [6] (.bin .mod (.bin .add (.bin .add (.ae 5) (.ai (.int 1))) (.call aA [(.ae 0),(.bin .sub (.ae 1) (.ai (.int 1)))])) (.ae 1)),.expr (.me .append (.ae 2) [(.tup [(.ae 5),(.ae 6),(.sub (.lst [(.ai (.str "row")),(.ai (.str "heap"))]) (.call aA [(.ae 0),(.ai (.int 2))]))])])]] [],.ret (.bi .tuple1 [(.ae 2)])]
noncomputable def rf(aA:Nat):List S:=[.asg [1] (.lst [(.call aA [(.ae 0),(.ai (.int 100))])]),.asg [2] (.lst [(.call aA [(.ae 0),(.ai (.int 3))]),(.ai (.int 6))]),.bq [3] .dm [(.sub (.ae 2) (.bin .fdiv (.call aA [(.ae 0),(.ai (.int 16))]) (.ai (.int 15))))] [.asg [4] (.sub (.lst [(.call aA [(.ae 0),(.ai (.int 100))]),(.ae 3)]) (.call aA [(.ae 0),(.ai (.int 2))])),.iff (.val (.cmp .d9 (.ae 4) (.ae 1))) [.expr (.me .append (.ae 1) [(.ae 4)])] []],.ret (.ae 1)]
noncomputable def vU(aA:Nat):List S:=[.asg [2] (.lst []),.bq [3] .dm [(.bin .mul (.sub (.lst [(.ai (.int 0)),(.ai (.int 0)),(.ai (.int 1)),(.ai (.int 1)),(.ai (.int 1)),(.ai (.int 2)),(.ai (.int 3))]) (.call aA [(.ae 0),(.ai (.int 7))])) (.bi .tK [(.cmp .gt (.bi .len [(.ae 1)]) (.ai (.int 0)))]))] [.asg [4] (.sub (.ae 1) (.call aA [(.ae 0),(.bi .len [(.ae 1)])])),.expr (.me .append (.ae 2) [(.tup [(.ae 4),(.sub (.ai (.str "abcz")) (.call aA [(.ae 0),(.ai (.int 4))]))])])],.ret (.bi .tuple1 [(.ae 2)])]
def vV(aA:Nat)(rg:Nat):List S:=[.asg [3] (.lst [(.ai .aQ),(.ai .aQ),(.ai .aQ),(.ai (.str "x")),(.ai (.str "yes")),(.ai (.str "abcdefgh")),(.ai (.str "own")),(.ai (.str "a"))]),.asg [4] (.lst []),.bq [5] .seq [(.ae 1)] [.bq [6] .seq [(.tup [(.ai (.str "own")),(.ai (.str "a")),(.ai (.str "b")),(.ai (.str "z"))])] [.iff (.val (.cmp .gt (.call aA [(.ae 0),(.ai (.int 4))]) (.ai (.int 0)))) [.asg [7] (.sub (.ae 1) (.call aA [(.ae 0),(.bi .len [(.ae 1)])])),.asg [8] (.call rg [(.ae 0),(.ae 2)]),.asg [9] (.sub (.ae 3) (.call aA [(.ae 0),(.ai (.int 8))])),.asg [10] (.call aA [(.ae 0),(.bin .add (.bi .len [(.ae 4)]) (.ai (.int 1)))]),.expr (.me .insert (.ae 4) [(.ae 10),(.tup [(.ae 5),(.ae 6),(.ae 7),(.ae 8),(.ae 9)])])] []]],.ret (.bi .tuple1 [(.ae 4)])]
noncomputable def xY(cL:Nat)(aA:Nat)(jA:Nat)(dE:Nat)(eN:Nat):List S:=[.asg [1] (.call cL [(.ae 0),(.ai (.int 0))]),.asg [2] (.sub (.lst [(.ai (.int 2)),(.ai (.int 1)),(.ai (.int 3)),(.ai (.int 2)),(.ai (.int 4)),(.ai (.int 3))]) (.call aA [(.ae 1),(.ai (.int 6))])),.asg [3] (.call jA [(.ae 1),(.ae 2)]),.asg [4] (.lst []),.bq [5] .dm [(.ae 2)] [.asg [1] (.call cL [(.ae 0),(.bin .add (.ai (.int 1)) (.ae 5))]),.asg [6] (.call dE [(.ae 1)]),.eD 7 (.comp .dm [(.bi .len [(.ae 3)])] [1] (some (.val (.cmp .eq (.sub (.sub (.ae 3) (.ae 1)) (.ai (.int 0))) (.ae 2)))) (.ae 1) [none,none,some 5,some 3]),.asg [8] (.sub (.ae 6) (.call aA [(.ae 1),(.bi .len [(.ae 6)])])),.expr (.me .append (.ae 4) [(.tup [(.ae 8),(.call eN [(.ae 1),(.ae 6),(.ae 7)])])])],.ret (.tup [(.bi .tuple1 [(.ae 4)]),(.ae 3)])]
def rh:List S:=[.eD 4 (.comp .seq [(.sub (.sub (.sub (.ae 0) (.ai (.int 0))) (.ae 1)) (.ai (.int 1)))] [1] (some (.val (.cmp .eq (.nh (.ae 1) none (some (.ai (.int 2)))) (.tup [(.ae 3),(.ae 2)])))) (.nh (.ae 1) (some (.ai (.int 2))) none) [none,none,some 3,some 2]),.iff (.val (.cmp .ne (.ae 4) (.lst []))) [.ret (.sub (.ae 4) (.ai (.int 0)))] [],.ret (.ite (.val (.cmp .eq (.ae 3) (.ai (.str "own")))) (.ai .aQ) (.tup [(.ae 2),(.tup []),(.ai .aQ)]))]
noncomputable def gS(c l t:Int):MO:=.dK [(Sum.inr ("cell" : Str),.int c),(Sum.inr ("left" : Str),.int l),(Sum.inr ("turn" : Str),.int t)]
section
variable {M:aq} {w:Nat} {c l t:Int}
theorem Ce(h:M[w]?=some (gS c l t)):cU (.d (.ah w)) (.d (.str "cell")) M=.ok (.d (.int c)) M:=by
 unfold cU;simp only[h];rfl
theorem Cf(h:M[w]?=some (gS c l t)):cU (.d (.ah w)) (.d (.str "left")) M=.ok (.d (.int l)) M:=by
 unfold cU;simp only[h];rfl
theorem Cg(h:M[w]?=some (gS c l t)):cU (.d (.ah w)) (.d (.str "turn")) M=.ok (.d (.int t)) M:=by
 unfold cU;simp only[h];rfl
theorem Ci(h:M[w]?=some (gS c l t))(i:Int):gD (.d (.ah w)) (.d (.str "left")) (.int i) M=.ok () (M.set w (gS c i t)):=by
 unfold gD;simp only[h];rfl
theorem Cj(h:M[w]?=some (gS c l t))(i:Int):gD (.d (.ah w)) (.d (.str "turn")) (.int i) M=.ok () (M.set w (gS c l i)):=by
 unfold gD;simp only[h];rfl
end
theorem FV (h : M[w]? = some (gS c l t)) (ht : 0 <= t /\ t < 2 ^ 40) (hl : 0 <= l) (hm : 0 < nX /\ nX < 1073741824) :
    aP (aw G 6 xX [.ah w,.int nX] M) λr M'=>∃i l',r=.d (.int i)/\0<=i/\i<nX/\0<=l'/\M'=M.set w (gS c l' (t+1)):=by
  have hw:w<M.length:=(dU.mp h).1;rw[bu];show dA G xX [some (.ah w),some (.int nX),none,none,none,none] M _ _ _ _;have h1:(M.set w (gS c l (t+1)))[w]?=some (gS c l (t+1)):=List.getElem?_set_self hw;nofun;rw[Cg h];nofun;rw[Cj h];nofun;rw[Cf h1];nofun;by_cases hp:0<l
  · rw[decide_eq_true hp];nofun;refine⟨hm,?_⟩;nofun;rw[Ci h1];nofun;refine⟨hm.1,_,l / nX,rfl,Int.emod_nonneg _ (∅),Int.emod_lt_of_pos _ hm.1,Int.ediv_nonneg hl (∅),?_⟩;rw[List.set_set]
  · rw[decide_eq_false hp];nofun;rw[Ce h1];nofun;refine⟨∅,?_⟩;nofun;refine⟨∅,?_⟩;nofun;refine⟨∅,?_⟩;nofun;refine⟨∅,?_⟩;nofun;refine⟨∅,?_⟩;nofun;refine⟨∅,?_⟩;nofun;refine⟨∅,?_⟩;nofun;refine⟨∅,?_⟩;nofun;refine⟨∅,?_⟩;nofun;refine⟨∅,?_⟩;nofun;exact⟨hm.1,_,l,rfl,Int.emod_nonneg _ (∅),Int.emod_lt_of_pos _ hm.1,hl,rfl⟩
def WA(M:aq)(w:Nat)(T:Int):Prop:=∃c l t,M[w]?=some (gS c l t)/\0<=l/\0<=t/\t<=T
theorem WA.lt(h:WA M w T):w<M.length:=by obtain⟨c,l,t,h,_⟩:=h;exact aj h
theorem WA.app(h:WA M w T):WA (M++X) w T:=by obtain⟨c,l,t,h,q⟩:=h;exact⟨c,l,t,ay h,q⟩
theorem WA.set(h:WA M w T)(k:w≠n):WA (M.set n o) w T:=by obtain⟨c,l,t,h,q⟩:=h;exact⟨c,l,t,ao h k,q⟩
theorem WA.mono(h:WA M w T)(k:T<=T2):WA M w T2:=by obtain⟨c,l,t,h,a,b,q⟩:=h;exact⟨c,l,t,h,a,b,Int.le_trans q k⟩
theorem WA.fr{M M1:aq}{w v:Nat}{T:Int}(h:WA M w T)(f:Fr v M M1)(k:w≠v):WA M1 w T:=by obtain⟨c,l,t,h,q⟩:=h;exact⟨c,l,t,f.get h k,q⟩
section
variable {M:aq} {n:Nat} {ds:List D} {i:Int} {x:D}
theorem zy(hM:M[n]?=some (.lst ds)):oQ .reverse (.d (.ah n)) [] M=.ok (.d .aQ) (M.set n (.lst ds.reverse)):=by
 unfold oQ;simp only[hM]
theorem lN{P:D->Prop}{k:Nat}(h:∀d∈ds,P d)(h0:0<=i)(h1:i<k)(hk:k=ds.length):∃d,ds[i.toNat]?=some d/\P d:=by
 have hl:i.toNat<ds.length:=∅;exact⟨ds[i.toNat],dM hl,h _ (List.getElem_mem hl)⟩
end
def eO(F:Fn):Prop:=∀(M:aq)(w:Nat)(T nX:Int),WA M w T->T<2 ^ 40->0<nX->nX<1073741824->aP (F [.ah w,.int nX] M) λr M'=>∃i,r=.d (.int i)/\0<=i/\i<nX/\WA M' w (T+1)/\Fr w M M'
theorem KS:eO (aw G 6 xX):=by
 intro M w T nX ⟨c,l,t,h,hl,h0,h1⟩ hT hm Zt;refine(FV h ⟨h0,∅⟩ hl ⟨hm,Zt⟩).imp ?_;rintro r M' ⟨i,l',e,a,b,Q5,rfl⟩;exact⟨i,e,a,b,⟨c,l',t+1,aF h,Q5,∅,∅⟩,(Fr.refl w M).KP⟩
def pL(F:Fn):Prop:=∀(M:aq)(ns:List Int)(k:Int),0<=k->k<2 ^ 40->ns.length<=63->aP (F [.ls (ns.map D.int),.int k] M) λr M'=>r=.d (.ah M.length)/\M'.length=M.length+1/\WA M' M.length 0/\Fr M.length M M'
theorem Pk:pL (aw G 3 Cd):=by
 intro M ns k hk Ms kG;rw[bu];show dA G Cd [some (.ls (ns.map D.int)),some (.int k),none] M _ _ _ _
 have fin:∀(c:Int)(b:Bool),WA (M++[MO.dK ((List.map Sum.inr [(("cell" : Str)),"left","turn"]).zip [D.int c,D.int ((if c>0 then c else 0)*if b=true then 1 else 0),D.int 0])]) M.length 0:=by
  intro c b;refine⟨c,_,0,ak,?_,DA _,DA _⟩;refine Int.mul_nonneg ?_ ?_<;>split<;>omega
 have hb:∀b:Bool,(-(2 ^ 64):Int)<(if b=true then 1 else 0)/\(if b=true then 1 else 0)<(2 ^ 64:Int):=λb=>by split<;>omega
 have aR:∀x:MO,(M++[x]).length=M.length+1:=λx=>by simp
 nofun;refine⟨∅,?_⟩;nofun;by_cases hp:(0:Int)<(ns.map D.int).length
 ·rw[decide_eq_true hp];have hl:(ns.map D.int).length=ns.length:=aX _;have hr:0<=k % ((ns.map D.int).length:Int):=Int.emod_nonneg _ (∅);have DG:k % ((ns.map D.int).length:Int)<((ns.map D.int).length:Int):=Int.emod_lt_of_pos _ hp;have ko:(k % ((ns.map D.int).length:Int)).toNat<ns.length:=∅
  have hg:(ns.map D.int)[(k % ((ns.map D.int).length:Int)).toNat]?=some (.int ns[(k % ((ns.map D.int).length:Int)).toNat]):=by
   rw[dG,dM ko];rfl
  nofun;refine⟨∅,?_⟩;nofun;rw[KQ hr hg];nofun;refine⟨⟨∅,∅⟩,?_⟩;nofun;refine⟨.inl (∅),?_⟩;nofun;refine⟨.inr (hb _),?_⟩;nofun;exact⟨rfl,rfl,aR _,fin _ _,(Fr.refl _ M).app⟩
 ·rw[decide_eq_false hp];nofun;refine⟨.inr (hb _),?_⟩;nofun;exact⟨rfl,rfl,aR _,fin _ _,(Fr.refl _ M).app⟩
noncomputable def pM(m:Int)(d:D):Prop:=∃a b k,d=.tup [.int a,.int b,.str k]/\0<=a/\a<m/\0<=b/\b<m/\a≠b/\(k = "row" \/ k = "heap")
def vW(F:Fn):Prop:=∀(M:aq)(w:Nat)(T m:Int),WA M w T->T<2 ^ 39->1<=m->m<=4->aP (F [.ah w,.int m] M) λr M'=>∃ds,r=.d (.tup ds)/\ds.length<=8/\(∀d∈ds,pM m d)/\WA M' w (T+100)/\Fr w M M'
theorem KU(hD:eO (G aA)):vW (aw G 7 (vT aA)):=by
 intro M w T m hw hT UT Hs;have Ej:=hw.lt;rw[bu];show dA G (vT aA) [some (.ah w),some (.int m),none,none,none,none,none] M _ _ _ _;nofun;refine⟨(show(0:Nat)<=sizeLine by decide),?_⟩;nofun;by_cases hm:1<m
 ·rw[decide_eq_true hm];have h0:(M++[MO.lst []])[M.length]?=some (.lst []):=ak;nofun;refine(hD _ w T 4 hw.app (∅) (∅) (∅)).imp ?_;rintro r M1 ⟨i1,rfl,Pl,Ro,zA,f1⟩;nofun;refine(hD _ w _ 5 zA (∅) (∅) (∅)).imp ?_;rintro r M2 ⟨i2,rfl,Rp,UU,uo,f2⟩;nofun;refine⟨(show(3:Nat)<=sizeLine by decide),?_⟩;have h2:M2[M.length]?=some (.lst []):=f2.get (f1.get h0 (∅)) (∅);have l2:=aj h2;nofun;refine(hD _ w _ 9 uo.app (∅) (∅) (∅)).imp ?_;rintro r M3 ⟨i3,rfl,Zu,Zv,xZ,f3⟩;nofun;refine⟨⟨∅,∅⟩,?_⟩;have h3:M3[M.length]?=some (.lst []):=f3.get (ay h2) (∅);have UW:M3[M2.length]?=some (.lst [.int i1,.int (1+i2),.int 8]):=f3.get ak (∅);have lJ:Fr w M M3:=(((Fr.refl w M).app.trans f1).trans f2).app.trans f3
  obtain⟨d,hd,j,e,Rq,Zw⟩:=lN (P:=λd=>∃j:Int,d=.int j/\0<=j/\j<=8) (ds:=[.int i1,.int (1+i2),.int 8]) (i:=i3 / 4) (k:=3) (by
   intro d hd;simp only[List.mem_cons,List.mem_nil_iff,or_false]at hd;rcases hd with rfl | rfl | rfl
   ·exact⟨_,rfl,∅,∅⟩
   ·exact⟨_,rfl,∅,∅⟩
   ·exact⟨_,rfl,∅,∅⟩) (∅) (∅) rfl
  subst e;nofun;rw[bO UW (show(0:Int)<=i3 / 4 by omega) hd];nofun;refine⟨⟨∅,∅⟩,?_⟩;refine eE (n:=j.toNat) (λi ρ M'=>∃ds o4 o5 o6,ρ=[some (.ah w),some (.int m),some (.ah M.length),some (.ah M2.length),o4,o5,o6]/\M'[M.length]?=some (.lst ds)/\ds.length=i/\(∀d∈ds,pM m d)/\WA M' w (T+3+3*i)/\Fr w M M') ⟨[],none,none,none,rfl,h3,rfl,(by intro d h;cases h),xZ.mono (∅),lJ⟩ ?_ ?_
  ·rintro i ρ M4 hi ⟨ds,o4,o5,o6,rfl,h4,oI,oU,k0,iM⟩;have Wl:(i:Int)<8:=∅;have Pm:=aj h4;nofun;refine(hD _ w _ m k0 (∅) (∅) (∅)).imp ?_;rintro r M5 ⟨i5,rfl,Pn,Rr,oJ,f5⟩;nofun;refine(hD _ w _ (m-1) oJ (∅) (∅) (∅)).imp ?_;rintro r M6 ⟨i6,rfl,Mt,Po,oV,f6⟩;nofun;have h6:M6[M.length]?=some (.lst ds):=f6.get (f5.get h4 (∅)) (∅);refine⟨∅,?_⟩;nofun;refine⟨aW h6,?_⟩;nofun;refine⟨(show(2:Nat)<=sizeLine by decide),?_⟩;nofun;refine(hD _ w _ 2 oV (∅) (∅) (∅)).imp ?_;rintro r M7 ⟨i7,rfl,Pp,UX,FW,f7⟩
   obtain⟨k,hk,k',e,Es⟩:=lN (P:=λd=>∃k:Str,d=.str k/\(k = "row" \/ k = "heap")) (ds:=[.str "row",.str "heap"]) (i:=i7) (k:=2) (by
    intro d hd;simp only[List.mem_cons,List.mem_nil_iff,or_false]at hd;rcases hd with rfl | rfl
    ·exact⟨_,rfl,.inl rfl⟩
    ·exact⟨_,rfl,.inr rfl⟩) Pp UX rfl
   subst e;nofun;rw[kZ Pp hk];nofun;refine⟨(show(3:Nat)<=sizeLine by decide),?_⟩;have h7:M7[M.length]?=some (.lst ds):=f7.get h6 (∅);nofun;rw[bD h7 (aG (∅))];refine⟨ds++[.tup [.int i5,.int ((i5+1+i6) % m),.str k']],_,_,_,rfl,aF h7,by simp[oI],?_,?_,?_⟩
   ·intro d hd;rcases fk.mp hd with q | q
    ·exact oU d q
    ·have:d=.tup [.int i5,.int ((i5+1+i6) % m),.str k']:=by simpa using q
     subst this;have Rt:m=2\/m=3\/m=4:=∅;refine⟨_,_,_,rfl,Pn,Rr,Int.emod_nonneg _ (∅),Int.emod_lt_of_pos _ (∅),?_,Es⟩;rcases Rt with rfl | rfl | rfl<;>omega
   ·exact(FW.set (∅)).mono (∅)
   ·exact(((iM.trans f5).trans f6).trans f7).set (bJ _)
  ·rintro ρ M4 ⟨ds,o4,o5,o6,rfl,h4,oI,oU,k0,iM⟩;nofun;rw[bU h4];exact⟨ds,rfl,∅,oU,k0.mono (∅),iM⟩
 ·rw[decide_eq_false hm];nofun;rw[bU ak];exact⟨[],rfl,by decide,(by intro d h;cases h),hw.app.mono (∅),(Fr.refl w M).app⟩
def vX(d:D):Prop:=∃i:Int,d=.int i/\0<=i/\i<100
theorem Ht:∀{ds:List D},(∀d∈ds,vX d)->∃qs,bG M 30 ds=some qs/\qs.all SeqAt.shaped=true
 | [],_=>⟨[],by unfold bG;rfl,rfl⟩
 | d::ds,h=>by
  obtain⟨i,rfl,_,_⟩:=h d (List.mem_cons_self ..);obtain⟨qs,e,k⟩:=Ht (M:=M) (ds:=ds) λd hd=>h d (ja _ hd);refine⟨.int i::qs,by unfold bG;rw[e];unfold cW;rfl,?_⟩;rw[List.all_cons,gJ,k];rfl
theorem Ck(hM:M[n]?=some (.lst ds))(h:∀d∈ds,vX d)(hd:vX d):∃b,aY .d9 (.d d) (.d (.ah n)) M=.ok b M:=by
 obtain⟨i,rfl,_,_⟩:=hd;obtain⟨qs,e,k⟩:=Ht (M:=M) h;refine⟨!kK (.int i) qs,?_⟩;unfold aY;have h1:iw M (.d (.int i))=some (.int i):=by show cW M 30 (.int i)=_;unfold cW;rfl
 have h2:bx M (.d (.ah n))=some (true,ds):=by unfold bx;simp only[hM]
 simp only[h1,h2,e,gJ,k,and_self,if_true]
def mj(F:Fn):Prop:=∀(M:aq)(w:Nat)(T:Int),WA M w T->T<2 ^ 39->aP (F [.ah w] M) λr M'=>∃n ds,r=.d (.ah n)/\M.length<=n/\M'[n]?=some (.lst ds)/\1<=ds.length/\ds.length<=7/\(∀d∈ds,vX d)/\WA M' w (T+100)/\Fr w M M'
theorem FX(hD:eO (G aA)):mj (aw G 5 (rf aA)):=by
 intro M w T hw hT;have Ej:=hw.lt;rw[bu];show dA G (rf aA) [some (.ah w),none,none,none,none] M _ _ _ _;nofun;refine(hD _ w T 100 hw (∅) (∅) (∅)).imp ?_;rintro r M1 ⟨i1,rfl,Pl,Ro,zA,f1⟩;nofun;refine⟨(show(1:Nat)<=sizeLine by decide),?_⟩;have l1:=f1.1;nofun;refine(hD _ w _ 3 zA.app (∅) (∅) (∅)).imp ?_;rintro r M2 ⟨i2,rfl,Rp,UU,uo,f2⟩;nofun;refine⟨(show(2:Nat)<=sizeLine by decide),?_⟩;have h2:M2[M1.length]?=some (.lst [.int i1]):=f2.get ak (∅);have l2:=aj h2;nofun;refine(hD _ w _ 16 uo.app (∅) (∅) (∅)).imp ?_;rintro r M3 ⟨i3,rfl,Zu,Zv,xZ,f3⟩;nofun;refine⟨⟨∅,∅⟩,?_⟩;have h3:M3[M1.length]?=some (.lst [.int i1]):=f3.get (ay h2) (∅);have UW:M3[M2.length]?=some (.lst [.int i2,.int 6]):=f3.get ak (∅);have lJ:Fr w M M3:=(f1.app.trans f2).app.trans f3
 obtain⟨d,hd,j,e,Rq,Zw⟩:=lN (P:=λd=>∃j:Int,d=.int j/\0<=j/\j<=6) (ds:=[.int i2,.int 6]) (i:=i3 / 15) (k:=2) (by
  intro d hd;simp only[List.mem_cons,List.mem_nil_iff,or_false]at hd;rcases hd with rfl | rfl
  ·exact⟨_,rfl,∅,∅⟩
  ·exact⟨_,rfl,∅,∅⟩) (∅) (∅) rfl
 subst e;nofun;rw[bO UW (show(0:Int)<=i3 / 15 by omega) hd];nofun;refine⟨⟨∅,∅⟩,?_⟩
 have UY:∀d∈[D.int i1],vX d:=by
  intro d h;have:d=.int i1:=by simpa using h
  subst this;exact⟨_,rfl,Pl,Ro⟩
 refine eE (n:=j.toNat) (λi ρ M'=>∃ds o3 o4,ρ=[some (.ah w),some (.ah M1.length),some (.ah M2.length),o3,o4]/\M'[M1.length]?=some (.lst ds)/\1<=ds.length/\ds.length<=i+1/\(∀d∈ds,vX d)/\WA M' w (T+3+2*i)/\Fr w M M') ⟨[.int i1],none,none,rfl,h3,bJ _,bJ _,UY,xZ.mono (∅),lJ⟩ ?_ ?_
 ·rintro i ρ M4 hi ⟨ds,o3,o4,rfl,h4,DL,oI,oU,k0,iM⟩;have Wl:(i:Int)<6:=∅;have Pm:=aj h4;nofun;refine(hD _ w _ 100 k0 (∅) (∅) (∅)).imp ?_;rintro r M5 ⟨i5,rfl,Pn,Rr,oJ,f5⟩;nofun;refine⟨(show(2:Nat)<=sizeLine by decide),?_⟩;nofun;refine(hD _ w _ 2 oJ (∅) (∅) (∅)).imp ?_;rintro r M6 ⟨i6,rfl,Mt,Po,oV,f6⟩
  obtain⟨d,hd,eJ⟩:=lN (P:=vX) (ds:=[.int i5,.int (0+i)]) (i:=i6) (k:=2) (by
   intro d hd;simp only[List.mem_cons,List.mem_nil_iff,or_false]at hd;rcases hd with rfl | rfl
   ·exact⟨_,rfl,∅,∅⟩
   ·exact⟨_,rfl,∅,∅⟩) Mt Po rfl
  nofun;rw[kZ Mt hd];have h6:M6[M1.length]?=some (.lst ds):=f6.get (f5.get h4 (∅)) (∅);nofun;obtain⟨b,hb⟩:=Ck h6 oU eJ;rw[hb]
  cases b with
  | false=>exact⟨ds,_,_,rfl,h6,DL,∅,oU,oV.mono (∅),(iM.trans f5).trans f6⟩
  | true =>
   nofun;refine⟨aW h6,?_⟩;nofun;rw[bD h6 (aG (∅))];refine⟨ds++[d],_,_,rfl,aF h6,by simp,by simp;omega,?_,(oV.set (∅)).mono (∅),((iM.trans f5).trans f6).set (∅)⟩;intro x hx;rcases fk.mp hx with q | q
   ·exact oU x q
   ·have:x=d:=by simpa using q
    subst this;exact eJ
 ·rintro ρ M4 ⟨ds,o3,o4,rfl,h4,DL,oI,oU,k0,iM⟩;exact⟨_,ds,rfl,l1,h4,DL,∅,oU,k0.mono (∅),iM⟩
noncomputable def x5(P:Int->Prop)(d:D):Prop:=∃r c,d=.tup [.int r,.str c]/\P r/\(c = "a" \/ c = "b" \/ c = "c" \/ c = "z")
theorem KW{M:aq}{i:Int}(h0:0<=i)(h1:i<4):∃c,cU (.d (.str "abcz")) (.d (.int i)) M=.ok (.d (.str c)) M/\(c = "a" \/ c = "b" \/ c = "c" \/ c = "z"):=by
 have:i=0\/i=1\/i=2\/i=3:=∅;rcases this with rfl | rfl | rfl | rfl
 ·exact⟨"a",rfl,.inl rfl⟩
 ·exact⟨"b",rfl,.inr (.inl rfl)⟩
 ·exact⟨"c",rfl,.inr (.inr (.inl rfl))⟩
 ·exact⟨"z",rfl,.inr (.inr (.inr rfl))⟩
def vY(F:Fn):Prop:=∀(P:Int->Prop)(M:aq)(w nw:Nat)(T:Int)(cZ:List D),WA M w T->T<2 ^ 39+10000->M[nw]?=some (.lst cZ)->nw≠w->(∀d∈cZ,∃r,d=.int r/\P r)->cZ.length<=100 ->
 aP (F [.ah w,.ah nw] M) λr M'=>∃ds,r=.d (.tup ds)/\ds.length<=3/\(∀d∈ds,x5 P d)/\WA M' w (T+20)/\Fr w M M'
theorem KY(hD:eO (G aA)):vY (aw G 5 (vU aA)):=by
 intro P M w nw T cZ hw hT hn lA hP Pq;have Ej:=hw.lt;have zV:=aj hn;rw[bu];show dA G (vU aA) [some (.ah w),some (.ah nw),none,none,none] M _ _ _ _;nofun;refine⟨(show(0:Nat)<=sizeLine by decide),?_⟩;nofun;refine⟨(show(7:Nat)<=sizeLine by decide),?_⟩;nofun;refine(hD _ w T 7 hw.app (∅) (∅) (∅)).imp ?_;rintro r M1 ⟨i1,rfl,Pl,Ro,zA,f1⟩
 obtain⟨d,hd,j,e,Rq,Wm⟩:=lN (P:=λd=>∃j:Int,d=.int j/\0<=j/\j<=3) (ds:=[.int 0,.int 0,.int 1,.int 1,.int 1,.int 2,.int 3]) (i:=i1) (k:=7) (by
  intro d hd;simp only[List.mem_cons,List.mem_nil_iff,or_false]at hd;rcases hd with rfl | rfl | rfl | rfl | rfl | rfl | rfl<;>exact⟨_,rfl,∅,∅⟩) Pl Ro rfl
 subst e;nofun;rw[kZ Pl hd];have h1:M1[nw]?=some (.lst cZ):=f1.get (ay hn) lA;have ho:M1[M.length]?=some (.lst []):=f1.get ak (∅);have Ru:Fr w M M1:=(Fr.refl w M).app.trans f1;nofun;rw[df h1];nofun;refine⟨.inl (∅),?_⟩
 have hj:0<=j*(if decide ((0:Int)<cZ.length)=true then 1 else 0)/\j*(if decide ((0:Int)<cZ.length)=true then 1 else 0)<=3/\(0<j*(if decide ((0:Int)<cZ.length)=true then 1 else 0)->(0:Int)<cZ.length):=by
  by_cases q:(0:Int)<cZ.length
  ·simp only[decide_eq_true q,if_true,Int.mul_one];exact⟨Rq,Wm,λ_=>q⟩
  ·simp only[decide_eq_false q];simp
 generalize UZ:j*(if decide ((0:Int)<cZ.length)=true then 1 else 0)=jj at hj;obtain⟨Rq,Wm,Zx⟩:=hj;have Pr:j*(if decide ((cZ.length:Int)>0)=true then 1 else 0)=jj:=UZ;nofun;refine⟨⟨by first | omega | (rw[Pr];omega) | (show _<=j*(if decide ((0:Int)<cZ.length)=true then 1 else 0);rw[UZ];omega),by first | omega | (rw[Pr];omega) | (show j*(if decide ((0:Int)<cZ.length)=true then 1 else 0)<_;rw[UZ];omega)⟩,?_⟩;refine eE (n:=jj.toNat) (λi ρ M'=>∃ds o3 o4,ρ=[some (.ah w),some (.ah nw),some (.ah M.length),o3,o4]/\M'[M.length]?=some (.lst ds)/\ds.length=i/\(∀d∈ds,x5 P d)/\WA M' w (T+1+2*i)/\Fr w M M') ⟨[],none,none,rfl,ho,rfl,(by intro d h;cases h),zA.mono (∅),Ru⟩ ?_ ?_
 ·rintro i ρ M4 hi ⟨ds,o3,o4,rfl,h4,oI,oU,k0,iM⟩;have Zy:(0:Int)<cZ.length:=Zx (∅);have FY:M4[nw]?=some (.lst cZ):=iM.get hn lA;nofun;rw[df FY];nofun;refine(hD _ w _ _ k0 (∅) Zy (∅)).imp ?_;rintro r M5 ⟨i5,rfl,Pn,Rr,oJ,f5⟩;have Zz:M5[nw]?=some (.lst cZ):=f5.get FY lA;obtain⟨d,hd,r,e,ZC⟩:=lN (ds:=cZ) (i:=i5) (k:=cZ.length) hP Pn Rr rfl;subst e;nofun;rw[bO Zz Pn hd];have h5:M5[M.length]?=some (.lst ds):=f5.get h4 (∅);nofun;refine⟨aW h5,?_⟩;nofun;refine(hD _ w _ 4 oJ (∅) (∅) (∅)).imp ?_;rintro r6 M6 ⟨i6,rfl,Mt,Po,oV,f6⟩;obtain⟨c,hc,lR⟩:=KW (M:=M6) Mt Po;nofun;rw[hc];nofun;refine⟨(show(2:Nat)<=sizeLine by decide),?_⟩;have h6:M6[M.length]?=some (.lst ds):=f6.get h5 (∅);nofun;rw[bD h6 (aG (∅))];refine⟨ds++[.tup [.int r,.str c]],_,_,rfl,aF h6,by simp[oI],?_,(oV.set (∅)).mono (∅),((iM.trans f5).trans f6).set (bJ _)⟩;intro x hx;rcases fk.mp hx with q | q
  ·exact oU x q
  ·have:x=.tup [.int r,.str c]:=by simpa using q
   subst this;exact⟨_,_,rfl,ZC,lR⟩
 ·rintro ρ M4 ⟨ds,o3,o4,rfl,h4,oI,oU,k0,iM⟩;nofun;rw[bU h4];exact⟨ds,rfl,∅,oU,k0.mono (∅),iM⟩
def x8(d:D):Prop:=d=.aQ\/∃x:Str,d=.str x/\(x = "x" \/ x = "yes" \/ x = "abcdefgh" \/ x = "own" \/ x = "a")
def Cm(d:D):Prop:=∃x:Str,d=.str x/\(x = "own" \/ x = "a" \/ x = "b" \/ x = "z")
def j3(P:Int->Prop)(d:D):Prop:=∃s c a sends wd,d=.tup [s,c,a,.tup sends,wd]/\vX s/\Cm c/\vX a/\sends.length<=3/\(∀x∈sends,x5 P x)/\x8 wd
def rl(F:Fn):Prop:=∀(P:Int->Prop)(M:aq)(w ns nw:Nat)(T:Int)(x9 cZ:List D),WA M w T->T<2 ^ 39->M[ns]?=some (.lst x9)->ns≠w->M[nw]?=some (.lst cZ)->nw≠w->(∀d∈x9,vX d)->1<=x9.length->x9.length<=7->(∀d∈cZ,∃r,d=.int r/\P r)->cZ.length<=100 ->
 aP (F [.ah w,.ah ns,.ah nw] M) λr M'=>∃ds,r=.d (.tup ds)/\ds.length<=28/\(∀d∈ds,j3 P d)/\WA M' w (T+1000)/\Fr w M M'
theorem KZ(hD:eO (G aA))(hS:vY (G rg)):rl (aw G 11 (vV aA rg)):=by
 intro P M w ns nw T sm cZ hw hT hs N3 hn lA eJ Uh FZ hP Pq;have Ej:=hw.lt;have zV:=aj hn;have vO:=aj hs;rw[bu];show dA G (vV aA rg) [some (.ah w),some (.ah ns),some (.ah nw),none,none,none,none,none,none,none,none] M _ _ _ _;nofun;refine⟨(show(8:Nat)<=sizeLine by decide),?_⟩;nofun;refine⟨(show(0:Nat)<=sizeLine by decide),?_⟩;have ZD:((M++[MO.lst [.aQ,.aQ,.aQ,.str "x",.str "yes",.str "abcdefgh",.str "own",.str "a"]])++[MO.lst []])[ns]?=some (.lst sm):=ay (ay hs)
 have ZE:∀d∈[D.aQ,.aQ,.aQ,.str "x",.str "yes",.str "abcdefgh",.str "own",.str "a"],x8 d:=by
  intro d hd;simp only[List.mem_cons,List.mem_nil_iff,or_false]at hd;rcases hd with rfl | rfl | rfl | rfl | rfl | rfl | rfl | rfl
  ·exact .inl rfl
  ·exact .inl rfl
  ·exact .inl rfl
  ·exact .inr ⟨_,rfl,.inl rfl⟩
  ·exact .inr ⟨_,rfl,.inr (.inl rfl)⟩
  ·exact .inr ⟨_,rfl,.inr (.inr (.inl rfl))⟩
  ·exact .inr ⟨_,rfl,.inr (.inr (.inr (.inl rfl)))⟩
  ·exact .inr ⟨_,rfl,.inr (.inr (.inr (.inr rfl)))⟩
 have ZF:((M++[MO.lst [.aQ,.aQ,.aQ,.str "x",.str "yes",.str "abcdefgh",.str "own",.str "a"]])++[MO.lst []])[M.length]?=some (.lst [.aQ,.aQ,.aQ,.str "x",.str "yes",.str "abcdefgh",.str "own",.str "a"]):=ay ak
 have Wn:((M++[MO.lst [.aQ,.aQ,.aQ,.str "x",.str "yes",.str "abcdefgh",.str "own",.str "a"]])++[MO.lst []])[M.length+1]?=some (.lst []):=by
  have:=ak (M:=M++[MO.lst [.aQ,.aQ,.aQ,.str "x",.str "yes",.str "abcdefgh",.str "own",.str "a"]]) (o:=MO.lst []);simpa using this
 have aR:(M++[MO.lst [.aQ,.aQ,.aQ,.str "x",.str "yes",.str "abcdefgh",.str "own",.str "a"]]).length=M.length+1:=by simp
 nofun;rw[aR];generalize ZG:([.aQ,.aQ,.aQ,.str "x",.str "yes",.str "abcdefgh",.str "own",.str "a"]:List D)=WW at *;have ZH:WW.length=8:=by rw[<- ZG];rfl
 rw[dJ ZD]
 refine Cb (n:=ns) (ds:=sm) (λi ρ M'=>∃ds o5 o6 o7 o8 o9 eF,ρ=[some (.ah w),some (.ah ns),some (.ah nw),some (.ah M.length),some (.ah (M.length+1)),o5,o6,o7,o8,o9,eF]/\M'[M.length]?=some (.lst WW)/\M'[M.length+1]?=some (.lst ds)/\ds.length<=4*i/\(∀d∈ds,j3 P d)/\WA M' w (T+100*i)/\Fr w M M')
  (by rintro i ρ M' ⟨ds,_,_,_,_,_,_,_,_,_,_,_,_,f⟩;exact f.get hs N3) ⟨[],none,none,none,none,none,none,rfl,ZF,Wn,Nat.zero_le _,(by intro d h;cases h),(hw.app.app).mono (∅),((Fr.refl w M).app).app⟩ ?_ ?_
 ·rintro i ρ M4 d hd ⟨ds,o5,o6,o7,o8,o9,eF,rfl,Wo,h4,oI,oU,k0,iM⟩;have hi:i<sm.length:=(dU.mp hd).1;have ZI:vX d:=eJ d (gU hd);nofun;refine⟨(show(4:Nat)<=sizeLine by decide),?_⟩
  refine fN (ds:=[.str "own",.str "a",.str "b",.str "z"]) (λj ρ M'=>∃ds o6 o7 o8 o9 eF,ρ=[some (.ah w),some (.ah ns),some (.ah nw),some (.ah M.length),some (.ah (M.length+1)),some d,o6,o7,o8,o9,eF]/\M'[M.length]?=some (.lst WW)/\M'[M.length+1]?=some (.lst ds)/\ds.length<=4*i+j/\(∀d∈ds,j3 P d)/\WA M' w (T+100*i+25*j)/\Fr w M M')
   ⟨ds,o6,o7,o8,o9,eF,rfl,Wo,h4,∅,oU,k0.mono (∅),iM⟩ ?_ ?_
  ·rintro j ρ M5 c hc ⟨ds,o6,o7,o8,o9,eF,rfl,Rv,h5,zT,Rw,oJ,lr⟩;have hj:j<4:=(dU.mp hc).1
   have ZJ:Cm c:=by
    have hm:=gU hc;simp only[List.mem_cons,List.mem_nil_iff,or_false]at hm;rcases hm with rfl | rfl | rfl | rfl
    ·exact⟨_,rfl,.inl rfl⟩
    ·exact⟨_,rfl,.inr (.inl rfl)⟩
    ·exact⟨_,rfl,.inr (.inr (.inl rfl))⟩
    ·exact⟨_,rfl,.inr (.inr (.inr rfl))⟩
   nofun;refine(hD _ w _ 4 oJ (∅) (∅) (∅)).imp ?_;rintro r6 M6 ⟨i6,rfl,Mt,Po,oV,f6⟩;nofun;by_cases hp:0<i6
   ·rw[decide_eq_true hp];have vZ:Fr w M M6:=lr.trans f6;have Rx:M6[ns]?=some (.lst sm):=vZ.get hs N3;nofun;rw[df Rx];nofun;refine(hD _ w _ _ oV (∅) (∅) (∅)).imp ?_;rintro r7 M7 ⟨i7,rfl,Pp,UX,FW,f7⟩;have Eu:Fr w M M7:=vZ.trans f7;obtain⟨a,ha,ZK⟩:=lN (P:=vX) (ds:=sm) (i:=i7) (k:=sm.length) eJ Pp UX rfl;nofun;rw[bO (Eu.get hs N3) Pp ha];nofun;refine(hS P M7 w nw _ cZ FW (∅) (Eu.get hn lA) lA hP Pq).imp ?_;rintro r8 M8 ⟨sd,rfl,U0,ml,Pt,f8⟩;have ZL:Fr w M M8:=Eu.trans f8;nofun;refine(hD _ w _ 8 Pt (∅) (∅) (∅)).imp ?_;rintro r9 M9 ⟨i9,rfl,Wq,ZM,Wr,f9⟩;have ZN:Fr w M M9:=ZL.trans f9;have Ws:M9[M.length]?=some (.lst WW):=f9.get (f8.get (f7.get (f6.get Rv (∅)) (∅)) (∅)) (∅);have h9:M9[M.length+1]?=some (.lst ds):=f9.get (f8.get (f7.get (f6.get h5 (∅)) (∅)) (∅)) (∅);obtain⟨wd,U1,U2⟩:=lN (P:=x8) (ds:=WW) (i:=i9) (k:=8) ZE Wq ZM ZH.symm;nofun;rw[bO Ws Wq U1];nofun;rw[df h9];nofun;refine(hD _ w _ _ Wr (∅) (∅) (∅)).imp ?_;rintro rA MA ⟨iA,rfl,ZO,iA1,ZP,fA⟩;have ZQ:Fr w M MA:=ZN.trans fA;have hA:MA[M.length+1]?=some (.lst ds):=fA.get h9 (∅);nofun;refine⟨aW hA,?_⟩;nofun;refine⟨(show(5:Nat)<=sizeLine by decide),?_⟩;nofun;rw[ui hA (aG (∅)) ZO (∅)];refine⟨ds.take iA.toNat++.tup [d,c,a,.tup sd,wd]::ds.drop iA.toNat,_,_,_,_,_,rfl,ao (fA.get Ws (∅)) (∅),aF hA,?_,?_,(ZP.set (∅)).mono (∅),ZQ.set (∅)⟩
    ·rw[gV,List.length_cons,List.length_take,List.length_drop];omega
    ·intro x hx
     have hx:x=.tup [d,c,a,.tup sd,wd]\/x∈ds:=by
      rcases fk.mp hx with q | q
      ·exact .inr (List.mem_of_mem_take q)
      ·rcases List.mem_cons.mp q with q | q
       ·exact .inl q
       ·exact .inr (List.mem_of_mem_drop q)
     rcases hx with rfl | hx
     ·exact⟨_,_,_,_,_,rfl,ZI,ZJ,ZK,U0,ml,U2⟩
     ·exact Rw x hx
   ·rw[decide_eq_false hp];exact⟨ds,_,_,_,_,_,rfl,f6.get Rv (∅),f6.get h5 (∅),∅,Rw,oV.mono (∅),lr.trans f6⟩
  ·rintro ρ M5 ⟨ds,o6,o7,o8,o9,eF,rfl,Rv,h5,zT,Rw,oJ,lr⟩;have e4:[D.str "own",D.str "a",D.str "b",D.str "z"].length=4:=rfl;rw[e4]at zT oJ;exact⟨ds,_,_,_,_,_,_,rfl,Rv,h5,∅,Rw,oJ.mono (∅),lr⟩
 ·rintro ρ M4 ⟨ds,o5,o6,o7,o8,o9,eF,rfl,Wo,h4,oI,oU,k0,iM⟩;nofun;rw[bU h4];exact⟨ds,rfl,∅,oU,k0.mono (∅),iM⟩
noncomputable def rm(aZ:List D)(m:Nat)(r:Int):Prop:=0<=r/\∃b k,aZ[r.toNat]?=some (.tup [.int m,b,k])
def Cn(aZ:List D)(m:Nat)(d:D):Prop:=∃st cM,d=.tup [st,.tup cM]/\vX st/\cM.length<=28/\∀y∈cM,j3 (rm aZ m) y
def Hu(d:D):Prop:=∃br aZ,d=.tup [.tup br,.tup aZ]/\1<=br.length/\br.length<=4/\aZ.length<=8/\(∀x∈aZ,pM br.length x)/\∀m x,br[m]?=some x->Cn aZ m x
def Co(F:Fn):Prop:=∀(M:aq)(ns:List Int),ns.length<=63->aP (F [.ls (ns.map D.int)] M) λr M'=>∃d,r=.d d/\Hu d/\Fr M.length M M'
theorem Fr.none{w:Nat}{M M1 M2:aq}(a:Fr M.length M M1)(b:Fr w M1 M2)(h:M.length<=w):Fr M.length M M2:=⟨Nat.le_trans a.1 b.1,λn hn k=>(b.2 n (Nat.lt_of_lt_of_le hn a.1) (∅)).trans (a.2 n hn k)⟩
theorem Cp{m:Int}{aZ:List D}{i:Nat}(h:∀x∈aZ,pM m x)(hi:i<aZ.length):∃a b k,aZ[i]?=some (.tup [.int a,.int b,.str k]):=by
 obtain⟨a,b,k,e,_⟩:=h aZ[i] (List.getElem_mem hi);exact⟨a,b,k,by rw[dM hi,e]⟩
noncomputable def x_:C:=.comp .dm [.bi .len [.ae 3]] [1] (some (.val (.cmp .eq (.sub (.sub (.ae 3) (.ae 1)) (.ai (.int 0))) (.ae 2)))) (.ae 1) [none,none,some 5,some 3]
theorem F0 {G : du} {ρ : En} {M : aq} {m : Int} {i : Nat} {aZ : List D} {P : W -> aq -> Prop} (h5 : ρ[5]? = some (some (.int i))) (h3 : ρ[3]? = some (some (.tup aZ))) (Pu : aZ.length <= 8) (Ek : ∀ x ∈ aZ, pM m x)
    (q:∀cZ,cZ.length<=8->(∀d∈cZ,∃r,d=.int r/\rm aZ i r)->P (.lv cZ) M):wE G x_ ρ M P:=by
  unfold x_;nofun;rw[h3];nofun;refine⟨⟨∅,∅⟩,?_⟩;rw[show eR [none,none,some 5,some 3] ρ=[none,none,some (.int i),some (.tup aZ)] by unfold eR;simp only[List.map_cons,List.map_nil,Option.bind_none,Option.bind_some,h5,h3,Option.join_some]];refine Cc (n:=(aZ.length:Int).toNat) (λk M' acc=>M=M'/\acc.length<=k/\∀d∈acc,∃r,d=.int r/\rm aZ i r) (by decide) ⟨rfl,bJ _,(by intro d h;cases h)⟩ ?_ ?_
  · rintro k M7 acc hk ⟨rfl,uV,Mu⟩;have Es:k<aZ.length:=∅;refine⟨aG (∅),?_⟩;obtain⟨a,b,kk,ZR⟩:=Cp Ek Es;have Pw:aZ[((0:Int)+(k:Nat)).toNat]?=some (.tup [.int a,.int b,.str kk]):=by rw[show((0:Int)+(k:Nat)).toNat=k by omega];exact ZR
    nofun;rw[mi (show(0:Int)<=0+(k:Nat) by omega) Pw];nofun
    cases q:(a==(i:Int))with
    | true =>
      have q:a=i:=by simpa using q
      subst q;refine⟨rfl,by simp;omega,?_⟩;intro d hd;rcases fk.mp hd with z | z
      · exact Mu d z
      · have:d=.int (0+k):=by simpa using z
        subst this;exact⟨_,rfl,∅,.int b,.str kk,Pw⟩
    | false=>exact⟨rfl,∅,Mu⟩
  · rintro M7 cZ ⟨rfl,uV,Mu⟩;exact q cZ (∅) Mu
def Hv(cL aA dE eN:Nat):List S:=[.asg [1] (.call cL [(.ae 0),(.bin .add (.ai (.int 1)) (.ae 5))]),.asg [6] (.call dE [(.ae 1)]),.eD 7 x_,.asg [8] (.sub (.ae 6) (.call aA [(.ae 1),(.bi .len [(.ae 6)])])),.expr (.me .append (.ae 4) [(.tup [(.ae 8),(.call eN [(.ae 1),(.ae 6),(.ae 7)])])])]
theorem zB {G : du} {cL aA dE eN : Nat} (hW : pL (G cL)) (hD : eO (G aA)) (Px : mj (G dE)) (U3 : rl (G eN)) {ns : List Int} (kG : ns.length <= 63) {m : Int} {i : Nat} {aZ br : List D} {M4 : aq} {n3 : Nat} {o1 d2 o6 o7 o8 : Option D} {nx : En -> aq -> Prop} {rt : W -> aq -> Prop} {bk ct : En -> aq -> Prop}
    (hi:i<4) (Pu:aZ.length<=8) (Ek:∀x∈aZ,pM m x) (h4:M4[n3]?=some (.lst br)) (oI:br.length=i)
    (q:∀o1 o6 o7 o8 M9 x,Cn aZ i x->Fr n3 M4 M9->M9[n3]?=some (.lst (br++[x]))->nx [some (.ls (ns.map D.int)),o1,d2,some (.tup aZ),some (.ah n3),some (.int i),o6,o7,o8] M9) :
    dA G (Hv cL aA dE eN) [some (.ls (ns.map D.int)),o1,d2,some (.tup aZ),some (.ah n3),some (.int i),o6,o7,o8] M4 nx rt bk ct:=by
  have l4:=aj h4;nofun;refine(hW M4 ns (1+i) (∅) (∅) kG).imp ?_;rintro r M5 ⟨rfl,zT,oJ,f5⟩;nofun;refine(Px M5 _ _ oJ (∅)).imp ?_;rintro r M6 ⟨n6,st,rfl,Ry,h6,Uh,FZ,eJ,oV,f6⟩;have l6:=aj h6;show wE G x_ [some (.ls (ns.map D.int)),some (.ah M4.length),d2,some (.tup aZ),some (.ah n3),some (.int i),some (.ah n6),o7,o8] M6 _;refine F0 (m:=m) (i:=i) (by rfl) (by rfl) Pu Ek λcZ hl Mu=>?_;nofun;have h7:(M6++[MO.lst cZ])[n6]?=some (.lst st):=ay h6;rw[df h7];nofun;refine(hD _ _ _ _ oV.app (∅) (∅) (∅)).imp ?_;rintro r8 M8 ⟨i8,rfl,Wt,ZS,Pt,f8⟩;have FY:n6≠M4.length:=∅;have h8:M8[n6]?=some (.lst st):=f8.get h7 FY;have ZT:M8[M6.length]?=some (.lst cZ):=f8.get ak (∅);obtain⟨s0,ZU,U4⟩:=lN (P:=vX) (ds:=st) (i:=i8) (k:=st.length) eJ Wt ZS rfl;nofun;rw[bO h8 Wt ZU];nofun;have ZV:M5[n3]?=some (.lst br):=f5.get h4 (∅);have ZW:M6[n3]?=some (.lst br):=f6.get ZV (∅);have Wu:M8[n3]?=some (.lst br):=f8.get (ay ZW) (∅);refine⟨aW Wu,?_⟩;nofun;refine(U3 (rm aZ i) M8 M4.length n6 M6.length _ st cZ Pt (∅) h8 FY ZT (∅) eJ Uh FZ Mu (∅)).imp ?_;rintro r9 M9 ⟨mv,rfl,Hw,U5,Wr,f9⟩;nofun;refine⟨(show(2:Nat)<=sizeLine by decide),?_⟩;have Wv:M9[n3]?=some (.lst br):=f9.get Wu (∅);nofun;rw[bD Wv (aG (∅))];refine q _ _ _ _ _ (.tup [s0,.tup mv]) ⟨_,_,rfl,U4,Hw,U5⟩ ?_ (aF Wv);have g5:Fr M4.length M4 M9:=(((f5.none f6 (bJ _)).app).none f8 (bJ _)).none f9 (bJ _);refine⟨by rw[List.length_set];exact g5.1,λn hn k=>?_⟩;rw[List.getElem?_set_ne (Ne.symm k)];exact g5.2 n hn (∅)
theorem Py{G:du}{cL aA jA dE eN:Nat}(hW:pL (G cL))(hD:eO (G aA))(hR:vW (G jA))(Px:mj (G dE))(U3:rl (G eN)):Co (aw G 9 (xY cL aA jA dE eN)):=by
 intro M ns kG;rw[bu];show dA G (xY cL aA jA dE eN) [some (.ls (ns.map D.int)),none,none,none,none,none,none,none,none] M _ _ _ _;have hb:xY cL aA jA dE eN=[.asg [1] (.call cL [(.ae 0),(.ai (.int 0))]),.asg [2] (.sub (.lst [(.ai (.int 2)),(.ai (.int 1)),(.ai (.int 3)),(.ai (.int 2)),(.ai (.int 4)),(.ai (.int 3))]) (.call aA [(.ae 1),(.ai (.int 6))])),.asg [3] (.call jA [(.ae 1),(.ae 2)]),.asg [4] (.lst []),.bq [5] .dm [(.ae 2)] (Hv cL aA dE eN),.ret (.tup [(.bi .tuple1 [(.ae 4)]),(.ae 3)])]:=rfl;rw[hb];nofun;refine(hW M ns 0 (∅) (∅) kG).imp ?_;rintro r M1 ⟨rfl,DL,zA,f1⟩;nofun;refine⟨(show(6:Nat)<=sizeLine by decide),?_⟩;nofun;refine(hD _ _ _ 6 zA (∅) (∅) (∅)).imp ?_;rintro r M2 ⟨i2,rfl,Rp,UU,uo,f2⟩
 obtain⟨d,hd,m,e,UT,Hs⟩:=lN (P:=λd=>∃j:Int,d=.int j/\1<=j/\j<=4) (ds:=[.int 2,.int 1,.int 3,.int 2,.int 4,.int 3]) (i:=i2) (k:=6) (by
  intro d hd;simp only[List.mem_cons,List.mem_nil_iff,or_false]at hd;rcases hd with rfl | rfl | rfl | rfl | rfl | rfl<;>exact⟨_,rfl,∅,∅⟩) Rp UU rfl
 subst e;nofun;rw[kZ Rp hd];nofun;refine(hR _ _ _ m uo (∅) UT Hs).imp ?_;rintro r M3 ⟨aZ,rfl,Pu,Ek,xZ,f3⟩;nofun;refine⟨(show(0:Nat)<=sizeLine by decide),?_⟩;nofun;refine⟨⟨∅,∅⟩,?_⟩;have lJ:Fr M.length M M3:=(f1.trans f2).trans f3;have l3:=lJ.1
 refine eE (n:=m.toNat) (λi ρ M'=>∃br o1 o5 o6 o7 o8,ρ=[some (.ls (ns.map D.int)),o1,some (.int m),some (.tup aZ),some (.ah M3.length),o5,o6,o7,o8]/\M'[M3.length]?=some (.lst br)/\br.length=i/\(∀k x,br[k]?=some x->Cn aZ k x)/\Fr M.length M M')
  ⟨[],_,none,none,none,none,rfl,ak,rfl,(by intro k x h;simp at h),lJ.app⟩ ?_ ?_
 ·rintro i ρ M4 hi ⟨br,o1,o5,o6,o7,o8,rfl,h4,oI,oU,iM⟩;rw[show(0:Int)+(i:Int)=i by omega];refine zB hW hD Px U3 kG (m:=m) (i:=i) (∅) Pu Ek h4 oI λp1 p6 p7 p8 M9 x hx f9 h9=>?_;refine⟨br++[x],_,_,_,_,_,rfl,h9,by simp[oI],?_,iM.none f9 l3⟩;intro k y hk;by_cases Es:k<br.length
  ·rw[uU Es]at hk;exact oU k y hk
  ·have ZX:k=br.length:=by have:=(dU.mp hk).1;simp at this;omega
   subst ZX;simp at hk;subst hk;rw[oI];exact hx
 ·rintro ρ M4 ⟨br,o1,o5,o6,o7,o8,rfl,h4,oI,oU,iM⟩;nofun;rw[bU h4];nofun;refine⟨(show(2:Nat)<=sizeLine by decide),_,rfl,⟨br,aZ,rfl,∅,∅,Pu,?_,oU⟩,iM⟩;have:(br.length:Int)=m:=∅;rw[this];exact Ek
theorem K0(a b:Str):PyData.strOk (a++b)=(PyData.strOk a&&PyData.strOk b):=by
 show(a.cps++b.cps).all _=_;rw[Array.all_append];rfl
noncomputable def Tx(b:Nat)(x:Str):Prop:=x.length<=b/\PyData.strOk x=true
theorem Tx.app{x y:Str}(h:Tx a x)(k:Tx b y):Tx (a+b) (x++y):=⟨by rw[strLen_append];have:=h.1;have:=k.1;omega,by rw[K0,h.2,k.2];rfl⟩
theorem Tx.mono{x:Str}(h:Tx a x)(k:a<=b):Tx b x:=⟨Nat.le_trans h.1 k,h.2⟩
theorem ya{b:Nat}:∀{l:List Str},(∀x∈l,Tx b x)->Tx (l.length*(b+2)) ((Str.ofString ", ").join l)
 | [],_=>by rw[Str.join.eq_1];exact⟨Nat.zero_le _,⋯⟩
 | [x],h=>by rw[Str.join.eq_2];exact(h x (List.mem_cons_self ..)).mono (by simp)
 | x::y::r,h=>by
  rw[Str.join.eq_3 _ _ _ (λq=>by cases q)];have h1:=h x (List.mem_cons_self ..);have h2:=ya (l:=y::r) λz hz=>h z (ja _ hz);have h3:Tx 2 (Str.ofString ", "):=⟨⋯,⋯⟩;refine((h1.app h3).app h2).mono ?_;rw[List.length_cons (a:=x),Nat.add_mul];omega
theorem Cq{l:List Str}(h:∀x∈l,Tx b x):Tx (l.length*(b+2)+3) (tupleText l):=by
 unfold tupleText;have h1:Tx 1 (Str.ofString "("):=⟨⋯,⋯⟩
 have h2:Tx 2 (Str.ofString (if (l.length==1)=true then ",)" else ")")):=by
  split<;>exact⟨⋯,⋯⟩
 exact((h1.app (ya h)).app h2).mono (∅)
theorem yb:∀{l:List Str}{n a:Nat}{x:Str},Tx a x->(∀x∈l,Tx b x)->Tx (a+l.length*(b+2)) (textFrom n x l)
 | [],_,_,_,h,_=>by rw[textFrom.eq_1];exact h.mono (by simp)
 | t::ts,n,a,x,h,k=>by
  rw[textFrom.eq_2];have h2:Tx 2 (Str.ofString (if n>0 then ", " else "")):=by split<;>exact⟨⋯,⋯⟩
  refine(yb (l:=ts) (n:=n+1) ((h.app h2).app (k t (List.mem_cons_self ..))) λz hz=>k z (ja _ hz)).mono ?_;rw[List.length_cons,Nat.add_mul];omega
theorem F1{l:List Str}(h:∀x∈l,Tx b x):Tx (l.length*(b+2)+2) (listText l):=by
 unfold listText;have h1:Tx 1 (Str.ofString "["):=⟨⋯,⋯⟩;have h2:Tx 1 (Str.ofString "]"):=⟨⋯,⋯⟩;exact((yb h1 h).app h2).mono (∅)
def si(b h:Nat)(p:PyData):Prop:=p.canLay0=true/\p.showable=true/\p.depth<=h/\Tx b p.shown
def Sm(b h:Nat)(d:D):Prop:=∃p:PyData,(∀M n,h<=n->cW M n d=some p)/\si b h p
theorem Sm.mono(x:Sm b h d)(hb:b<=c)(hk:h<=k):Sm c k d:=by
 obtain⟨p,e,q1,q2,q3,q4⟩:=x;exact⟨p,λM n hn=>e M n (∅),q1,q2,∅,q4.mono hb⟩
theorem Sm.aQ:Sm 4 0 .aQ:=⟨.none,λM n _=>by cases n<;>(unfold cW;rfl),PyData.canLay0.eq_1,PyData.showable.eq_1,Nat.le_of_eq PyData.depth.eq_4,by rw[PyData.shown.eq_1];exact⟨⋯,⋯⟩⟩
theorem v3:∀i:Fin 100,(Str.ofString (toString ((i.val:Nat):Int))).length<=2/\PyData.strOk (Str.ofString (toString ((i.val:Nat):Int)))=true/\(PyData.int ((i.val:Nat):Int)).showable=true:=⋯
theorem Sm.int(h0:0<=i)(h1:i<100):Sm 2 0 (.int i):=by
 have q:=v3 ⟨i.toNat,∅⟩;have e:((i.toNat:Nat):Int)=i:=∅;simp only[e]at q;exact⟨.int i,λM n _=>by cases n<;>(unfold cW;rfl),PyData.canLay0.eq_3 i,q.2.2,Nat.le_of_eq (PyData.depth.eq_6 i),by rw[PyData.shown.eq_3];exact⟨q.1,q.2.1⟩⟩
theorem Sm.str{x:Str}(h:PyData.strOk x=true)(k:Tx b (reprText x)):Sm b 0 (.str x) :=
 ⟨.str x,λM n _=>by cases n<;>(unfold cW;rfl),(PyData.canLay0.eq_4 x).trans h,PyData.showable.eq_3 x,Nat.le_of_eq (PyData.depth.eq_7 x),by rw[PyData.shown.eq_4];exact k⟩
theorem si.all:∀{ps:List PyData},(∀p∈ps,si b h p)->PyData.canLayAll0 ps=true/\PyData.showableAll ps=true/\PyData.depthAll ps<=h/\(∀x∈PyData.shownAll ps,Tx b x)/\(PyData.shownAll ps).length=ps.length
 | [],_=>⟨PyData.canLayAll0.eq_1,PyData.showableAll.eq_1,by rw[PyData.depthAll.eq_1];omega,by rw[PyData.shownAll.eq_1];intro x h;(cases h),by rw[PyData.shownAll.eq_1];rfl⟩
 | p::ps,q=>by
  obtain⟨a1,a2,a3,a4,a5⟩:=si.all (ps:=ps) λp hp=>q p (ja _ hp);obtain⟨b1,b2,b3,b4⟩:=q p (List.mem_cons_self ..);refine⟨by rw[PyData.canLayAll0.eq_2,a1,b1];rfl,by rw[PyData.showableAll.eq_2,a2,b2];rfl,by rw[PyData.depthAll.eq_2];omega,?_,by rw[PyData.shownAll.eq_2,List.length_cons,a5,List.length_cons]⟩;rw[PyData.shownAll.eq_2];intro x hx;rcases List.mem_cons.mp hx with rfl | hx
  ·exact b4
  ·exact a4 x hx
theorem si.tup(q:∀p∈ps,si b h p)(hk:ps.length<=k):si (k*(b+2)+3) (h+1) (.tuple ps):=by
 obtain⟨a1,a2,a3,a4,a5⟩:=si.all q;refine⟨(PyData.canLay0.eq_6 ps).trans a1,(PyData.showable.eq_6 ps).trans a2,by rw[PyData.depth.eq_2];omega,?_⟩;rw[PyData.shown.eq_6];refine(Cq a4).mono ?_;rw[a5];exact Nat.add_le_add_right (Nat.mul_le_mul_right _ hk) _
theorem si.list(q:∀p∈ps,si b h p)(hk:ps.length<=k):si (k*(b+2)+2) (h+1) (.list ps):=by
 obtain⟨a1,a2,a3,a4,a5⟩:=si.all q;refine⟨(PyData.canLay0.eq_5 ps).trans a1,(PyData.showable.eq_5 ps).trans a2,by rw[PyData.depth.eq_1];omega,?_⟩;rw[PyData.shown.eq_5];refine(F1 a4).mono ?_;rw[a5];exact Nat.add_le_add_right (Nat.mul_le_mul_right _ hk) _
theorem Sm.ds:∀{ds:List D},(∀d∈ds,Sm b h d)->∃ps,(∀M n,h<=n->bG M n ds=some ps)/\(∀p∈ps,si b h p)/\ps.length=ds.length
 | [],_=>⟨[],λM n _=>by unfold bG;rfl,(by intro p h;cases h),rfl⟩
 | d::ds,q=>by
  obtain⟨ps,e,a,l⟩:=Sm.ds (ds:=ds) λd hd=>q d (ja _ hd);obtain⟨p,ep,ap⟩:=q d (List.mem_cons_self ..);refine⟨p::ps,λM n hn=>by unfold bG;rw[ep M n hn,e M n hn],?_,by simp[l]⟩;intro x hx;rcases List.mem_cons.mp hx with rfl | hx
  ·exact ap
  ·exact a x hx
theorem Sm.tup{b h k:Nat}{ds:List D}(q:∀d∈ds,Sm b h d)(hk:ds.length<=k):Sm (k*(b+2)+3) (h+1) (.tup ds):=by
 obtain⟨ps,e,a,l⟩:=Sm.ds q;refine⟨.tuple ps,λM n hn=>?_,si.tup a (∅)⟩;obtain⟨n,rfl⟩:∃m,n=m+1:=⟨n-1,∅⟩;unfold cW;rw[e M n (∅)];rfl
theorem si.shaped(q:si b h p)(hh:h<=40):SeqAt.shaped p=true:=by
 unfold SeqAt.shaped;rw[q.1,Bool.true_and];exact decide_eq_true (by have:=q.2.2.1;omega)
theorem Cr(q:∀d∈ds,Sm b h d)(hl:ds.length<=1000)(hb:b<=1000)(hh:h<=20):∃x,PyData.strOk x=true/\∀M n,M[n]?=some (.lst ds)->jl .m8 [.d (.ah n)] M=.ok (.d (.str x)) M:=by
 obtain⟨ps,e,a,l⟩:=Sm.ds q;obtain⟨q1,q2,q3,q4,q5⟩:=si.list (k:=1000) a (∅);refine⟨(PyData.list ps).shown,q5,λM n hM=>?_⟩;unfold jl
 have:iw M (.d (.ah n))=some (.list ps):=by
  show cW M 30 (.ah n)=_;unfold cW
  try simp only[hM]
  rw[e M 29 (∅)];rfl
 try simp only[this]
 have Er:1000*(b+2)+2<=sizeLine:=Nat.le_trans (show 1000*(b+2)+2<=1002002 by omega) (by decide);rw[if_pos ⟨q2,∅,Nat.le_trans q4 Er⟩]
noncomputable def nY(s:Int)(c:Str):D->Bool
 | .tup (.int s'::.str c'::_)=>s'==s&&c'==c
 | _=>false
def Cs:D->D
 | .tup (_::_::r)=>.tup r
 | d=>d
def DM(cM:List D)(s:Int)(c:Str):D:=match cM.find? (nY s c)with
 | some d=>Cs d
 | none=>if c == "own" then .aQ else .tup [.int s,.tup [],.aQ]
theorem bV:PyData.strOk "own" = true:=⋯
theorem uq{x:Str} (h:x = "own" \/ x = "a" \/ x = "b" \/ x = "z"):PyData.strOk x=true:=by
 rcases h with rfl | rfl | rfl | rfl<;>decide +kernel
theorem K1{c c':Str}(hc:PyData.strOk c=true)(lR:PyData.strOk c'=true):aY .eq (.d (.tup [.int s',.str c'])) (.d (.tup [.int s,.str c])) M=.ok (s'==s&&c'==c) M:=by
 have h1:∀(s:Int)(c:Str),iw M (.d (.tup [.int s,.str c]))=some (.tuple [.int s,.str c]):=λs c=>by
  show cW M 30 (.tup [.int s,.str c])=_
  try simp only[cW,bG,Option.map_some]
 have h2:∀(s:Int){c:Str},PyData.strOk c=true->SeqAt.shaped (.tuple [.int s,.str c])=true:=λs c h=>by
  unfold SeqAt.shaped
  try simp only[PyData.canLay0.eq_6,PyData.canLayAll0.eq_2,PyData.canLayAll0.eq_1,PyData.canLay0.eq_3,PyData.canLay0.eq_4,h,PyData.depth.eq_2,PyData.depthAll.eq_2,PyData.depthAll.eq_1,PyData.depth.eq_6,PyData.depth.eq_7]
  rfl
 unfold aY
 try simp only[h1,h2 _ hc,h2 _ lR,and_self,if_true,PyData.eqv.eq_8,PyData.eqvAll.eq_2,PyData.eqvAll.eq_1,PyData.eqv.eq_5,PyData.eqv.eq_6,Bool.and_true]
theorem zC{α:Type}{p:α->Bool}{l:List α}{k:Nat}{x:α}(h:l[k]?=some x)(hn:(l.take k).find? p=none)(hp:p x=true):l.find? p=some x:=by
 have hk:=(dU.mp h).1
 have e:l=l.take k++(x::l.drop (k+1)):=by
  have:l.drop k=x::l.drop (k+1):=by
   rw[List.drop_eq_getElem_cons hk]
   congr 1
   rw[dM hk]at h;exact eU h
  rw[<- this,List.take_append_drop]
 rw[e,List.find?_append,hn];simp[hp]
def j4(F:Fn):Prop:=∀(P:Int->Prop)(M:aq)(br aZ cM:List D)(st:D)(m:Nat)(s:Int)(c:Str),br[m]?=some (.tup [st,.tup cM])->(∀y∈cM,j3 P y)->PyData.strOk c=true ->
 aP (F [.tup [.tup br,.tup aZ],.int m,.int s,.str c] M) λr M'=>M=M'/\r=.d (DM cM s c)
theorem Ct{ds:List D}{m:Nat}{x:D}(h:ds[m]?=some x):ds[((m:Nat):Int).toNat]?=some x:=by rw[Int.toNat_natCast];exact h
theorem F2{G:du}:j4 (aw G 5 q_):=by
 intro P M br aZ cM st m s c hm Hw hc;rw[bu];show dA G q_ [some (.tup [.tup br,.tup aZ]),some (.int m),some (.int s),some (.str c),none] M _ _ _ _;nofun;rw[mi (M:=M) (ds:=br) (i:=(m:Nat)) (∅) (Ct hm)];nofun;refine fN (ds:=cM) (λk ρ M'=>∃o4,M=M'/\ρ=[some (.tup [.tup br,.tup aZ]),some (.int m),some (.int s),some (.str c),o4]/\(cM.take k).find? (nY s c)=none) ⟨none,rfl,rfl,by simp⟩ ?_ ?_
 ·rintro k ρ M' d hd ⟨o4,rfl,rfl,pN⟩;obtain⟨s',c',a,sd,wd,rfl,⟨i,rfl,_,_⟩,⟨cx,rfl,U6⟩,_⟩:=Hw d (gU hd)
  have Mb:(i==s&&cx==c)=false->(cM.take (k+1)).find? (nY s c)=none:=λq=>by
   rw[bo hd,List.find?_append,pN]
   try simp only[List.find?_cons,nY,q]
   rfl
  nofun
  cases q:(i==s)with
  | true =>
   nofun;rw[bz (uq U6) hc]
   cases q2:(cx==c)with
   | true =>
    nofun;refine⟨(show(3:Nat)<=sizeLine by decide),rfl,?_⟩;unfold DM;rw[zC hd pN (by simp[nY,q,q2])];rfl
   | false=>exact⟨_,rfl,rfl,Mb (by simp[q2])⟩
  | false=>exact⟨_,rfl,rfl,Mb (by simp[q])⟩
 ·rintro ρ M' ⟨o4,rfl,rfl,pN⟩;rw[List.take_length]at pN;nofun;rw[bz hc bV]
  cases q:(c == "own")with
  | true =>
   refine⟨rfl,?_⟩;unfold DM;rw[pN];show _=W.d (if (c == "own")=true then _ else _);rw[q];rfl
  | false =>
   nofun;refine⟨(show(0:Nat)<=sizeLine by decide),?_⟩;nofun;refine⟨(show(3:Nat)<=sizeLine by decide),rfl,?_⟩;unfold DM;rw[pN];show _=W.d (if (c == "own")=true then _ else _);rw[q];rfl
theorem F3(h:x8 d):Sm 12 0 d:=by
 rcases h with rfl | ⟨x,rfl,h⟩
 ·exact Sm.aQ.mono (by decide) (by decide)
 ·rcases h with rfl | rfl | rfl | rfl | rfl<;>exact Sm.str (⋯) ⟨⋯,⋯⟩
theorem Pz(h:vX d):Sm 2 0 d:=by
 obtain⟨i,rfl,h0,h1⟩:=h;exact Sm.int h0 h1
theorem F4(hP:∀r,P r->0<=r/\r<100)(h:x5 P d):Sm 20 1 d:=by
 obtain⟨r,c,rfl,h1,h2⟩:=h;have hc:Sm 3 0 (.str c):=by rcases h2 with rfl | rfl | rfl | rfl<;>exact Sm.str (⋯) ⟨⋯,⋯⟩
 refine(Sm.tup (b:=3) (h:=0) (k:=2) (ds:=[.int r,.str c]) ?_ (bJ 2)).mono (by decide) (by decide);intro d hd;simp only[List.mem_cons,List.mem_nil_iff,or_false]at hd;rcases hd with rfl | rfl
 ·exact(Sm.int (hP r h1).1 (hP r h1).2).mono (by decide) (by decide)
 ·exact hc
theorem K2(hP:∀r,P r->0<=r/\r<100)(h:j3 P d):Sm 300 3 (Cs d):=by
 obtain⟨s,c,a,sd,wd,rfl,_,_,ha,hl,ml,hw⟩:=h;show Sm 300 3 (.tup [a,.tup sd,wd]);have h1:Sm 69 2 (.tup sd):=Sm.tup (b:=20) (h:=1) (k:=3) (λx hx=>F4 hP (ml x hx)) hl;refine(Sm.tup (b:=69) (h:=2) (k:=3) (ds:=[a,.tup sd,wd]) ?_ (bJ 3)).mono (by decide) (by decide);intro d hd;simp only[List.mem_cons,List.mem_nil_iff,or_false]at hd;rcases hd with rfl | rfl | rfl
 ·exact(Pz ha).mono (by decide) (by decide)
 ·exact h1
 ·exact(F3 hw).mono (by decide) (by decide)
theorem Cu(hM:M[n]?=some (.lst ds))(q:∀d∈ds,Sm b h d)(hl:ds.length<=1000)(hh:h<=20):aY .ne (.d (.ah n)) (.lv []) M=.ok (!ds.isEmpty) M:=by
 obtain⟨ps,e,a,l⟩:=Sm.ds q
 have h1:iw M (.d (.ah n))=some (.list ps):=by
  show cW M 30 (.ah n)=_;unfold cW
  try simp only[hM]
  rw[e M 29 (∅)];rfl
 have h2:iw M (.lv [])=some (.list []):=by show(bG M 30 []).map _=_;unfold bG;rfl
 have h3:=(si.list (k:=1000) a (∅)).shaped (∅);have h4:SeqAt.shaped (.list [])=true:=⋯;unfold aY
 try simp only[h1,h2,h3,h4,and_self,if_true,PyData.eqv.eq_7]
 cases ds with
 | nil =>
  have:ps=[]:=List.eq_nil_of_length_eq_zero l;subst this;rw[PyData.eqvAll.eq_1];rfl
 | cons d ds =>
  cases ps with
  | nil=>simp at l
  | cons p ps =>
   have:PyData.eqvAll (p::ps) []=false:=by simp only[PyData.eqvAll]
   rw[this];rfl
def mq(F:Fn):Prop:=∀(P:Int->Prop)(M:aq)(br aZ cM:List D)(st:D)(m:Nat)(s:Int)(c:Str),(∀r,P r->0<=r/\r<100)->br[m]?=some (.tup [st,.tup cM])->(∀y∈cM,j3 P y)->cM.length<=28->PyData.strOk c=true ->
 aP (F [.tup [.tup br,.tup aZ],.int m,.int s,.str c] M) λr M'=>Fr M.length M M'/\r=.d (DM cM s c)
theorem ur{α:Type}{p:α->Bool}{l:List α}{k:Nat}{x:α}(h:l[k]?=some x):(l.take (k+1)).filter p=(l.take k).filter p++(if p x then [x] else []):=by
 rw[bo h,List.filter_append];cases q:p x<;>simp[q]
theorem uu{α:Type}{p:α->Bool}{l:List α}:l.find? p=(l.filter p).head?:=by
 induction l with
 | nil=>rfl
 | cons x l ih =>
  cases q:p x
  ·rw[List.find?_cons_of_neg (by simp[q]),List.filter_cons_of_neg (by simp[q])];exact ih
  ·rw[List.find?_cons_of_pos q,List.filter_cons_of_pos q];rfl
theorem F5{G:du}:mq (aw G 5 rh):=by
 intro P M br aZ cM st m s c hP hm Hw U7 hc;rw[bu];show dA G rh [some (.tup [.tup br,.tup aZ]),some (.int m),some (.int s),some (.str c),none] M _ _ _ _;nofun;rw[mi (M:=M) (ds:=br) (i:=(m:Nat)) (∅) (Ct hm)];nofun;refine ig (ds:=cM) (λk M' acc=>M=M'/\acc=((cM.take k).filter (nY s c)).map Cs/\acc.length<=k) (by decide) (λi M' acc _ _=>rfl) ⟨rfl,by simp,bJ _⟩ ?_ ?_ rfl
 ·rintro k M' acc d hd ⟨rfl,zD,uV⟩;have hk:=(dU.mp hd).1;refine⟨aG (∅),?_⟩;obtain⟨s',c',a,sd,wd,rfl,⟨i,rfl,_,_⟩,⟨cx,rfl,U6⟩,_⟩:=Hw d (gU hd);have hn:=ur (p:=nY s c) hd;nofun;refine⟨(show(2:Nat)<=sizeLine by decide),?_⟩;show d6 (aY .eq (.d (.tup [.int i,.str cx])) (.d (.tup [.int s,.str c])) M) _;rw[K1 hc (uq U6)]
  cases q:(i==s&&cx==c)with
  | true =>
   nofun;refine⟨rfl,?_,by simp;omega⟩;rw[hn,if_pos (show nY s c (.tup [.int i,.str cx,a,.tup sd,wd])=true from q),iN,zD];rfl
  | false =>
   refine⟨rfl,?_,∅⟩;rw[hn,if_neg (show ¬nY s c (.tup [.int i,.str cx,a,.tup sd,wd])=true from λz=>by rw[show nY s c (.tup [.int i,.str cx,a,.tup sd,wd])=false from q]at z;cases z),List.append_nil,zD]
 ·rintro M' told ⟨rfl,zD,uV⟩;rw[List.take_length]at zD;have hM:(M++[MO.lst told])[M.length]?=some (.lst told):=ak
  have ZY:∀d∈told,Sm 300 3 d:=by
   intro d hd;rw[zD]at hd;obtain⟨y,hy,rfl⟩:=gZ.mp hd;exact K2 hP (Hw y (List.mem_filter.mp hy |>.1))
  nofun;refine⟨(show(0:Nat)<=sizeLine by decide),?_⟩;nofun;rw[Cu hM ZY (∅) (by decide)]
  have v5:DM cM s c=told.head?.getD (if c == "own" then .aQ else .tup [.int s,.tup [],.aQ]):=by
   unfold DM;rw[uu,zD,List.head?_map];cases (cM.filter (nY s c)).head? <;> rfl
  cases told with
  | cons d r =>
   nofun;rw[bO hM (i:=0) (x:=d) (DA 0) rfl];exact⟨(Fr.refl _ M).app,by rw[v5];rfl⟩
  | nil =>
   nofun;rw[bz hc bV];have v5:DM cM s c=if (c == "own")=true then .aQ else .tup [.int s,.tup [],.aQ]:=v5
   cases q:(c == "own")with
   | true =>
    rw[q]at v5;exact⟨(Fr.refl _ M).app,by rw[v5];rfl⟩
   | false =>
    rw[q]at v5;nofun;refine⟨(show(0:Nat)<=sizeLine by decide),?_⟩;nofun;refine⟨(show(3:Nat)<=sizeLine by decide),(Fr.refl _ M).app,?_⟩;rw[v5];rfl
section
variable {M:aq} {n:Nat} {ds:List D} {i:Int} {x:D}
abbrev iD(ks:List Int):List D:=ks.map D.int
theorem j5:∀(ks:List Int),bG M k (iD ks)=some (ks.map PyData.int)
 | []=>by show bG M k []=_;unfold bG;rfl
 | i::ks=>by
  show bG M k (.int i::iD ks)=_;unfold bG;have:cW M k (.int i)=some (.int i):=by cases k<;>(unfold cW;rfl)
  rw[this,j5 ks];rfl
theorem j6:∀(ks:List Int),(ks.map PyData.int).all SeqAt.shaped=true
 | []=>rfl
 | i::ks=>by
  show(SeqAt.shaped (.int i)&&(ks.map PyData.int).all SeqAt.shaped)=true;rw[gJ,j6 ks];rfl
theorem j7:∀(ks:List Int),kK (.int i) (ks.map PyData.int)=decide (i∈ks)
 | []=>by simp[kK]
 | k::ks=>by
  show(PyData.eqv (.int k) (.int i)||kK (.int i) (ks.map PyData.int))=_;rw[j7 ks,PyData.eqv.eq_5];by_cases h:k=i
  ·subst h;simp
  ·have h2:(k==i)=false:=beq_eq_false_iff_ne.mpr h;rw[h2,Bool.false_or];by_cases h3:i∈ks
   ·rw[decide_eq_true h3,decide_eq_true (ja _ h3)]
   ·rw[decide_eq_false h3,decide_eq_false (λz=>by
     rcases List.mem_cons.mp z with z | z
     ·exact h z.symm
     ·exact h3 z)]
theorem rn:iw M (.d (.int i))=some (.int i):=by show cW M 30 (.int i)=_;unfold cW;rfl
theorem K3(h:M[n]?=some (.lst (iD ks))):aY .isin (.d (.int i)) (.d (.ah n)) M=.ok (decide (i∈ks)) M:=by
 unfold aY;simp only[rn,bx,h,j5,gJ,j6,and_self,if_true,j7]
theorem Cv:aY .d9 (.d (.int i)) (.d (.tup (iD ks))) M=.ok (!decide (i∈ks)) M:=by
 unfold aY;simp only[rn,bx,j5,gJ,j6,and_self,if_true,j7]
theorem K4(h:M[n]?=some (.lst (iD ks))):aY .d9 (.d (.int i)) (.d (.ah n)) M=.ok (!decide (i∈ks)) M:=by
 unfold aY;simp only[rn,bx,h,j5,gJ,j6,and_self,if_true,j7]
end
end Ev
end
section
namespace Ev
open PySem
noncomputable def v7:List S:=[.ret (.dq [(.bi (.uW .int) [(.ae 0)]),(.neg (.bi (.uW .bool) [(.ae 0)]))])]
noncomputable def v8(gO:Nat):List S:=[.ret (.dq [(.call gO [(.ae 0)]),(.chain .le .lt (.ai (.int 0)) (.ae 0) (.ae 1))])]
noncomputable def Cy:List S:=[.ret (.dq [(.bi (.uW .str) [(.ae 0)]),(.cmp .eq (.bi .len [(.ae 0)]) (.ai (.int 1))),(.chain .le .le (.ai (.str "a")) (.ae 0) (.ai (.str "z")))])]
noncomputable def v9:List S:=[.ret (.bi .list1 [(.sub (.sub (.sub (.ae 0) (.ai (.int 1))) (.ae 1)) (.ai (.int 1)))])]
def v_(k8:Nat)(yc:Nat)(gO:Nat):List S:=[.iff (.gA [(.neg (.val (.bi (.uW .tuple) [(.ae 1)]))),(.val (.cmp .d9 (.bi .len [(.ae 1)]) (.tup [(.ai (.int 2)),(.ai (.int 3))])))]) [.ret (.ai (.bl false))] [],.iff (.val (.cmp .eq (.bi .len [(.ae 1)]) (.ai (.int 2)))) [.ret (.dq [(.cmp .eq (.sub (.ae 1) (.ai (.int 0))) (.ai (.str "own"))),(.call k8 [(.sub (.ae 1) (.ai (.int 1))),(.bi .len [(.sub (.ae 0) (.ai (.int 0)))])])])] [],.iff (.val (.cmp .eq (.sub (.ae 1) (.ai (.int 0))) (.ai (.str "hear")))) [.ret (.dq [(.call k8 [(.sub (.ae 1) (.ai (.int 1))),(.bi .len [(.sub (.ae 0) (.ai (.int 0)))])]),(.call yc [(.sub (.ae 1) (.ai (.int 2)))])])] [],.ret (.dq [(.cmp .eq (.sub (.ae 1) (.ai (.int 0))) (.ai (.str "come"))),(.call k8 [(.sub (.ae 1) (.ai (.int 1))),(.bi .len [(.sub (.ae 0) (.ai (.int 1)))])]),(.call gO [(.sub (.ae 1) (.ai (.int 2)))])])]
noncomputable def Cz:List S:=[.iff (.val (.cmp .eq (.sub (.ae 1) (.ai (.int 0))) (.ai (.str "come")))) [.ret (.sub (.sub (.sub (.ae 0) (.ai (.int 1))) (.sub (.ae 1) (.ai (.int 1)))) (.ai (.int 1)))] [],.ret (.sub (.ae 1) (.ai (.int 1)))]
def K5(dz:Nat):List S:=[.asg [3] (.call dz [(.ae 1),(.ae 2)]),.iff (.val (.cmp .eq (.sub (.sub (.sub (.ae 0) (.ai (.int 1))) (.ae 2)) (.ai (.int 2))) (.ai (.str "row")))) [.asg [3] (.nh (.ae 3) none (some (.ai (.int 1))))] [],.ret (.comp .seq [(.ae 3)] [1,2] none (.ae 1) [none,none,none])]
def K6(rq:Nat)(kAnswer:Nat)(F6:Nat):List S:=[.iff (.neg (.val (.call rq [(.ae 0),(.ae 2)]))) [.ret (.ai (.bl false))] [],.iff (.val (.cmp .eq (.sub (.ae 2) (.ai (.int 0))) (.ai (.str "own")))) [.ret (.cmp .eZ (.call kAnswer [(.ae 0),(.sub (.ae 2) (.ai (.int 1))),(.sub (.sub (.ae 1) (.ai (.int 0))) (.sub (.ae 2) (.ai (.int 1)))),(.ai (.str "own"))]) (.ai .aQ))] [],.iff (.val (.cmp .eq (.sub (.ae 2) (.ai (.int 0))) (.ai (.str "come")))) [.ret (.cmp .isin (.sub (.ae 2) (.ai (.int 2))) (.call F6 [(.ae 0),(.ae 1),(.sub (.ae 2) (.ai (.int 1)))]))] [],.ret (.ai (.bl true))]
def wa(dz:Nat):List S:=[.iff (.val (.cmp .eq (.sub (.ae 1) (.ai (.int 0))) (.ai (.str "own")))) [.ret (.ai (.str "own"))] [],.iff (.val (.cmp .eq (.sub (.ae 1) (.ai (.int 0))) (.ai (.str "hear")))) [.ret (.sub (.ae 1) (.ai (.int 2)))] [],.ret (.sub (.bi .pA [(.call dz [(.ae 0),(.sub (.ae 1) (.ai (.int 1)))])]) (.sub (.ae 1) (.ai (.int 2))))]
def CA:List S:=[.ret (.tup [(.sub (.ae 0) (.ai (.int 0))),(.bi .tuple1 [(.comp .seq [(.sub (.ae 0) (.ai (.int 1)))] [1] (some (.val (.cmp .ne (.sub (.ae 1) (.ai (.int 0))) (.ae 2)))) (.ae 1) [none,none,some 1])])])]
noncomputable def CB:List S:=[.ret (.tup [(.bin .add (.sub (.ae 0) (.ai (.int 0))) (.ai (.int 1))),(.bin .add (.sub (.ae 0) (.ai (.int 1))) (.tup [(.tup [(.sub (.ae 0) (.ai (.int 0))),(.ae 1)])]))])]
def CD(gm:Nat)(kAnswer:Nat)(nZ:Nat)(uw:Nat)(i_:Nat):List S:=[.asg [3] (.call gm [(.ae 0),(.ae 2)]),.asg [4] (.call kAnswer [(.ae 0),(.ae 3),(.sub (.sub (.ae 1) (.ai (.int 0))) (.ae 3)),(.call nZ [(.ae 1),(.ae 2)])]),.asg [5] (.bi .list1 [(.sub (.ae 1) (.ai (.int 0)))]),.put (.ae 5) (.ae 3) (.sub (.ae 4) (.ai (.int 0))),.asg [6] (.bi .list1 [(.sub (.ae 1) (.ai (.int 1)))]),.iff (.val (.cmp .eq (.sub (.ae 2) (.ai (.int 0))) (.ai (.str "come")))) [.put (.ae 6) (.sub (.ae 2) (.ai (.int 1))) (.call uw [(.sub (.ae 6) (.sub (.ae 2) (.ai (.int 1)))),(.sub (.ae 2) (.ai (.int 2)))])] [],.bq [7,8] .seq [(.sub (.ae 4) (.ai (.int 1)))] [.put (.ae 6) (.ae 7) (.call i_ [(.sub (.ae 6) (.ae 7)),(.ae 8)])],.asg [9] (.ai .aQ),.iff (.val (.cmp .eZ (.sub (.ae 4) (.ai (.int 2))) (.ai .aQ))) [.asg [9] (.tup [(.ae 3),(.sub (.ae 4) (.ai (.int 2)))])] [],.ret (.tup [(.tup [(.bi .tuple1 [(.ae 5)]),(.bi .tuple1 [(.ae 6)])]),(.ae 9)])]
def rB:List S:=[.asg [2] (.lst []),.bq [3] .dm [(.bi .len [(.sub (.ae 0) (.ai (.int 1)))])] [.asg [4] (.bi .list1 [(.sub (.sub (.sub (.ae 1) (.ai (.int 1))) (.ae 3)) (.ai (.int 1)))]),.iff (.val (.cmp .eq (.sub (.sub (.sub (.ae 0) (.ai (.int 1))) (.ae 3)) (.ai (.int 2))) (.ai (.str "row")))) [.asg [4] (.nh (.ae 4) none (some (.ai (.int 1))))] [],.asg [2] (.bin .add (.ae 2) (.comp .seq [(.ae 4)] [1,2] none (.tup [(.ae 3),(.ae 1),(.ae 2)]) [none,none,none,some 3]))],.ret (.ae 2)]
def wb(ux:Nat)(eB:Nat):List S:=[.iff (.val (.cmp .ne (.sub (.ae 2) (.ai (.int 0))) (.ai (.str "come")))) [.asg [3] (.sub (.ae 2) (.ai (.int 1))),.ret (.call ux [(.ae 0),(.ae 3),(.sub (.sub (.ae 1) (.ai (.int 0))) (.ae 3)),(.sub (.zU (.ae 2) 2) (.ai (.int (-1))))])] [],.bq [4,5,6] .seq [(.call eB [(.ae 0),(.ae 1)])] [.iff (.val (.cmp .eq (.tup [(.ae 4),(.ae 5)]) (.nh (.ae 2) (some (.ai (.int 1))) none))) [.asg [3] (.sub (.sub (.sub (.ae 0) (.ai (.int 1))) (.ae 4)) (.ai (.int 1))),.ret (.call ux [(.ae 0),(.ae 3),(.sub (.sub (.ae 1) (.ai (.int 0))) (.ae 3)),(.ae 6)])] []],.ret (.ai .aQ)]
noncomputable def wc:List S:=[.ret (.ite (.val (.cmp .eq (.sub (.ae 1) (.ai (.int 0))) (.ai (.str "come")))) (.sub (.sub (.sub (.ae 0) (.ai (.int 1))) (.sub (.ae 1) (.ai (.int 1)))) (.ai (.int 1))) (.sub (.ae 1) (.ai (.int 1))))]
def we(bw:Nat)(fV:Nat):List S:=[.asg [3,4,5] (.call bw [(.ae 0),(.ae 1),(.ae 2)]),.asg [6] (.call fV [(.ae 0),(.ae 2)]),.asg [7] (.bi .list1 [(.sub (.ae 1) (.ai (.int 0)))]),.put (.ae 7) (.ae 6) (.ae 3),.eD 9 (.comp .seq [(.sub (.ae 1) (.ai (.int 1)))] [1] none (.lst [(.sub (.ae 1) (.ai (.int 0))),(.bi .list1 [(.sub (.ae 1) (.ai (.int 1)))])]) [none,none]),.iff (.val (.cmp .eq (.sub (.ae 2) (.ai (.int 0))) (.ai (.str "come")))) [.asg [8] (.sub (.ae 9) (.sub (.ae 2) (.ai (.int 1)))),.put (.ae 8) (.ai (.int 1)) (.comp .seq [(.sub (.ae 8) (.ai (.int 1)))] [1] (some (.val (.cmp .ne (.sub (.ae 1) (.ai (.int 0))) (.sub (.ae 2) (.ai (.int 2)))))) (.ae 1) [none,none,some 2])] [],.bq [10,11] .seq [(.ae 4)] [.expr (.me .append (.sub (.sub (.ae 9) (.ae 10)) (.ai (.int 1))) [(.tup [(.sub (.sub (.ae 9) (.ae 10)) (.ai (.int 0))),(.ae 11)])]),.put (.sub (.ae 9) (.ae 10)) (.ai (.int 0)) (.bin .add (.sub (.sub (.ae 9) (.ae 10)) (.ai (.int 0))) (.ai (.int 1)))],.asg [12] (.bi .tuple1 [(.comp .seq [(.ae 9)] [1] none (.tup [(.sub (.ae 1) (.ai (.int 0))),(.bi .tuple1 [(.sub (.ae 1) (.ai (.int 1)))])]) [none,none])]),.ret (.tup [(.tup [(.bi .tuple1 [(.ae 7)]),(.ae 12)]),(.ite (.val (.cmp .sg (.ae 5) (.ai .aQ))) (.ai .aQ) (.tup [(.ae 6),(.ae 5)]))])]
noncomputable def wg(aA:Nat):List S:=[.asg [2] (.lst [(.ai (.int 0)),(.call aA [(.ae 0),(.ai (.int 6))]),(.call aA [(.ae 0),(.bin .sub (.bin .pow (.ai (.int 10)) (.ai (.int 9))) (.ai (.int 1000)))])]),.asg [3] (.sub (.ae 2) (.bin .fdiv (.call aA [(.ae 0),(.ai (.int 5))]) (.ai (.int 2)))),.asg [4] (.lst []),.asg [5] (.ae 3),.bq [6] .dm [(.bi .min2 [(.ae 3),(.call aA [(.ae 0),(.ai (.int 4))])])] [.asg [5] (.bin .sub (.bin .sub (.ae 5) (.ai (.int 1))) (.bin .mul (.bi .tK [(.cmp .eq (.ae 1) (.ai (.str "heap")))]) (.call aA [(.ae 0),(.ai (.int 3))]))),.iff (.val (.cmp .ge (.ae 5) (.ai (.int 0)))) [.expr (.me .insert (.ae 4) [(.ai (.int 0)),(.tup [(.ae 5),(.sub (.ai (.str "abcz")) (.call aA [(.ae 0),(.ai (.int 4))]))])])] []],.ret (.tup [(.ae 3),(.bi .tuple1 [(.ae 4)])])]
def rC(cL:Nat)(aA:Nat)(n_:Nat):List S:=[.asg [2] (.call cL [(.ae 0),(.ai (.int 5))]),.asg [3] (.bi .tuple1 [(.comp .seq [(.sub (.ae 1) (.ai (.int 1)))] [1] none (.tup [(.ai (.int 0)),(.tup [])]) [none,none])]),.asg [4] (.bi .tuple1 [(.comp .seq [(.sub (.ae 1) (.ai (.int 0)))] [1] none (.sub (.ae 1) (.ai (.int 0))) [none,none])]),.iff (.val (.cmp .gt (.call aA [(.ae 2),(.ai (.int 3))]) (.ai (.int 0)))) [.asg [3] (.bi .tuple1 [(.comp .seq [(.sub (.ae 1) (.ai (.int 1)))] [1] none (.call n_ [(.ae 2),(.sub (.ae 1) (.ai (.int 2)))]) [none,none,some 2])]),.iff (.val (.cmp .eq (.call aA [(.ae 2),(.ai (.int 4))]) (.ai (.int 0)))) [.asg [4] (.bi .tuple1 [(.comp .seq [(.sub (.ae 1) (.ai (.int 0)))] [1] none (.call aA [(.ae 2),(.ai (.int 100))]) [none,none,some 2])])] []] [],.ret (.tup [(.ae 4),(.ae 3)])]
def wj(eB:Nat)(bw:Nat)(aA:Nat):List S:=[.eD 3 (.comp .seq [(.call eB [(.ae 1),(.ae 2)])] [1,2,3] none (.tup [(.ai (.str "come")),(.ae 1),(.ae 2)]) [none,none,none,none]),.asg [4] (.lst []),.bq [5] .dm [(.bi .len [(.sub (.ae 1) (.ai (.int 0)))])] [.iff (.val (.cmp .eZ (.call bw [(.ae 1),(.ae 2),(.tup [(.ai (.str "own")),(.ae 5)])]) (.ai .aQ))) [.expr (.me .append (.ae 4) [(.tup [(.ai (.str "own")),(.ae 5)])])] []],.asg [6] (.call aA [(.ae 0),(.ai (.int 8))]),.iff (.dq [(.val (.cmp .ne (.ae 3) (.lst []))),(.val (.cmp .lt (.ae 6) (.ai (.int 4))))]) [.ret (.sub (.ae 3) (.call aA [(.ae 0),(.bi .len [(.ae 3)])]))] [],.iff (.dq [(.val (.cmp .ne (.ae 4) (.lst []))),(.val (.cmp .lt (.ae 6) (.ai (.int 7))))]) [.ret (.sub (.ae 4) (.call aA [(.ae 0),(.bi .len [(.ae 4)])]))] [],.ret (.tup [(.ai (.str "hear")),(.call aA [(.ae 0),(.bi .len [(.sub (.ae 1) (.ai (.int 0)))])]),(.sub (.ai (.str "abcz")) (.call aA [(.ae 0),(.ai (.int 4))]))])]
end Ev
end
section
namespace Ev
open L2
open PySem PySem.Spec PyProof.Rows
structure Mv where
 s:Int
 c:Str
 a:Int
 sd:List (Int×Str)
 w:Option Str
structure Fm where
 ru:List (Int×List Mv)
 ro:List (Int×Int×Str)
structure Sd where
 st:List Int
 ld:List (Int×List (Int×Str))
def pD(p:Int×Str):D:=.tup [.int p.1,.str p.2]
def K7:Option Str->D
 | none=>.aQ
 | some x=>.str x
noncomputable def Hx(m:Mv):D:=.tup [.int m.s,.str m.c,.int m.a,.tup (m.sd.map pD),K7 m.w]
def pO(r:Int×List Mv):D:=.tup [.int r.1,.tup (r.2.map Hx)]
noncomputable def sj(r:Int×Int×Str):D:=.tup [.int r.1,.int r.2.1,.str r.2.2]
def dk(f:Fm):D:=.tup [.tup (f.ru.map pO),.tup (f.ro.map sj)]
noncomputable def ik(l:Int×List (Int×Str)):D:=.tup [.int l.1,.tup (l.2.map pD)]
def cV(s:Sd):D:=.tup [.tup (s.st.map D.int),.tup (s.ld.map ik)]
inductive Dn where
 | own (m:Nat) | dg (m:Nat) (c:Str) | bp (r:Nat) (k:Int)
def cF:Dn->D
 | .own m=>.tup [.str "own",.int m]
 | .dg m c=>.tup [.str "hear",.int m,.str c]
 | .bp r k=>.tup [.str "come",.int r,.int k]
noncomputable def d_(s:Str):Prop:=s = "a" \/ s = "b" \/ s = "c" \/ s = "z"
theorem d_.ok{s:Str}(h:d_ s):PyData.strOk s=true/\(s == "own")=false:=by
 rcases h with rfl | rfl | rfl | rfl<;>exact⟨⋯,⋯⟩
def K8(w:Option Str):Prop:=∀x,w=some x->x = "x" \/ x = "yes" \/ x = "abcdefgh" \/ x = "own" \/ x = "a"
structure zE (ro:List (Int×Int×Str)) (m:Nat) (y:Mv):Prop where
 s:0<=y.s/\y.s<100
 c:y.c = "own" \/ y.c = "a" \/ y.c = "b" \/ y.c = "z"
 a:0<=y.a/\y.a<100
 l:y.sd.length<=3
 sd:∀p∈y.sd,d_ p.2/\0<=p.1/\∃r,ro[p.1.toNat]?=some r/\r.1=m
 w:K8 y.w
structure CF (n:Nat) (r:Int×Int×Str):Prop where
 a:0<=r.1/\r.1<n
 b:0<=r.2.1/\r.2.1<n
 ab:r.1≠r.2.1
 k:r.2.2 = "row" \/ r.2.2 = "heap"
structure cg (f:Fm):Prop where
 l1:1<=f.ru.length
 l4:f.ru.length<=4
 l8:f.ro.length<=8
 ro:∀r∈f.ro,CF f.ru.length r
 ru:∀m x,f.ru[m]?=some x->(0<=x.1/\x.1<100)/\x.2.length<=28/\∀y∈x.2,zE f.ro m y
structure gn (N:Nat) (l:Int×List (Int×Str)):Prop where
 s:0<=l.1/\l.1<=1000000000+N
 n:l.2.length<=N
 p:∀p∈l.2,d_ p.2/\0<=p.1/\p.1<l.1
 r:l.2.Pairwise λp q=>p.1<q.1
structure bE (f:Fm) (N:Nat) (s:Sd):Prop where
 ls:s.st.length=f.ru.length
 st:∀x∈s.st,0<=x/\x<100
 ll:s.ld.length=f.ro.length
 ld:∀l∈s.ld,gn N l
def dh(f:Fm):Dn->Prop
 | .own m=>m<f.ru.length
 | .dg m c=>m<f.ru.length/\d_ c
 | .bp r _=>r<f.ro.length
theorem typed{α:Type}{toD:α->D}:∀{ds:List D}{Q:Nat->α->Prop},(∀m x,ds[m]?=some x->∃a,x=toD a/\Q m a)->∃as:List α,ds=as.map toD/\∀m a,as[m]?=some a->Q m a
  | [],Q,_=>⟨[],rfl,λm a h=>by simp at h⟩
  | d::ds,Q,h=>by
    obtain⟨as,e,q⟩:=typed (toD:=toD) (ds:=ds) (Q:=λm a=>Q (m+1) a) λm x hx=>h (m+1) x (by simpa using hx);obtain⟨a,e0,q0⟩:=h 0 d (by simp);refine⟨a::as,by rw[List.map_cons,<- e,e0],λm b hb=>?_⟩
    cases m with
    | zero => have : a = b := by simpa using hb
              subst this;exact q0
    | succ m=>exact q m b (by simpa using hb)
theorem rD{α:Type}{toD:α->D}{ds:List D}{Q:α->Prop}(h:∀x∈ds,∃a,x=toD a/\Q a):∃as:List α,ds=as.map toD/\∀a∈as,Q a:=by
 obtain⟨as,e,q⟩:=typed (toD:=toD) (ds:=ds) (Q:=λ_ a=>Q a) λm x hx=>h x (gU hx);exact⟨as,e,λa ha=>by obtain⟨i,hi,rfl⟩:=List.mem_iff_getElem.mp ha;exact q i _ (dM hi)⟩
theorem wk{d:D}(h:Hu d):∃f,d=dk f/\cg f:=by
 obtain⟨br,aZ,rfl,h1,h4,h8,Ek,ZZ⟩:=h
 obtain⟨ro,rfl,Z0⟩:=rD (toD:=sj) (ds:=aZ) (Q:=CF br.length) λx hx=>by
  obtain⟨a,b,k,rfl,a0,a1,b0,b1,ab,hk⟩:=Ek x hx;exact⟨(a,b,k),rfl,⟨a0,a1⟩,⟨b0,b1⟩,ab,hk⟩
 obtain⟨ru,e,hr⟩:=typed (toD:=pO) (ds:=br) (Q:=λm x=>(0<=x.1/\x.1<100)/\x.2.length<=28/\∀y∈x.2,zE ro m y) λm x hx=>by
  obtain⟨st,cM,rfl,⟨i,rfl,i0,i1⟩,hl,hm⟩:=ZZ m x hx
  obtain⟨mv,rfl,Hw⟩:=rD (toD:=Hx) (ds:=cM) (Q:=zE ro m) λy hy=>by
   obtain⟨s,c,a,sd,wd,rfl,⟨s',rfl,s0,s1⟩,⟨c',rfl,hc⟩,⟨a',rfl,a0,a1⟩,hl,ml,hw⟩:=hm y hy
   obtain⟨Z2,rfl,hs⟩:=rD (toD:=pD) (ds:=sd) (Q:=λp=>d_ p.2/\0<=p.1/\∃r,ro[p.1.toNat]?=some r/\r.1=(m:Int)) λz hz=>by
    obtain⟨r,c,rfl,⟨r0,b,k,hr⟩,hc⟩:=ml z hz;rw[dG]at hr
    cases e:ro[r.toNat]? with
    | none=>rw[e]at hr;cases hr
    | some q =>
     rw[e]at hr;have hr:sj q=.tup [.int m,b,k]:=eU hr;refine⟨(r,c),rfl,hc,r0,q,e,?_⟩;unfold sj at hr;simp only[D.tup.injEq,List.cons.injEq,D.int.injEq]at hr;exact hr.1
   have PB:∃w,wd=K7 w/\K8 w:=by
    rcases hw with rfl | ⟨x,rfl,hx⟩
    ·exact⟨none,rfl,λx h=>by cases h⟩
    ·exact⟨some x,rfl,λy h=>by cases h;exact hx⟩
   obtain⟨w,rfl,uo⟩:=PB;exact⟨⟨s',c',a',Z2,w⟩,rfl,⟨s0,s1⟩,hc,⟨a0,a1⟩,by simpa using hl,hs,uo⟩
  exact⟨(i,mv),rfl,⟨i0,i1⟩,by simpa using hl,Hw⟩
 subst e;rw[aX]at h1 h4;exact⟨⟨ru,ro⟩,rfl,h1,h4,by simpa using h8,by simpa using Z0,hr⟩
def an(mv:List Mv)(s:Int)(c:Str):Option (Int×List (Int×Str)×Option Str):=match mv.find? λm=>m.s==s&&m.c==c with
 | some m=>some (m.a,m.sd,m.w)
 | none=>if c == "own" then none else some (s,[],none)
noncomputable def PC:Option (Int×List (Int×Str)×Option Str)->D
 | none=>.aQ
 | some (a,sd,w)=>.tup [.int a,.tup (sd.map pD),K7 w]
noncomputable def il(o:Str)(ps:List (Int×Str)):List (Int×Str):=if (o == "row")=true then ps.take 1 else ps
def pP(f:Fm)(m:Nat):List Mv:=(f.ru.getD m (0,[])).2
def cB(f:Fm)(r:Nat):Int×Int×Str:=f.ro.getD r (0,0,"")
noncomputable def load(s:Sd)(r:Nat):Int×List (Int×Str):=s.ld.getD r (0,[])
def mc(f:Fm):Dn->Nat
 | .own m=>m
 | .dg m _=>m
 | .bp r _=>(cB f r).2.1.toNat
def cs(f:Fm)(s:Sd):Dn->Option Str
 | .own _=>some "own"
 | .dg _ c=>some c
 | .bp r k=>((il (cB f r).2.2 (load s r).2).find? λp=>p.1==k).map (·.2)
def rp(f:Fm)(s:Sd)(d:Dn):Option (Int×List (Int×Str)×Option Str):=(cs f s d).bind λc=>an (pP f (mc f d)) (s.st.getD (mc f d) 0) c
def cn(f:Fm)(s:Sd)(d:Dn):Bool:=(rp f s d).isSome
noncomputable def less(l:Int×List (Int×Str))(k:Int):Int×List (Int×Str):=(l.1,l.2.filter λp=>!(p.1==k))
noncomputable def more(l:Int×List (Int×Str))(c:Str):Int×List (Int×Str):=(l.1+1,l.2++[(l.1,c)])
def cN(ld:List (Int×List (Int×Str))):Dn->List (Int×List (Int×Str))
 | .bp r k=>ld.set r (less (ld.getD r (0,[])) k)
 | _=>ld
def cC(ld:List (Int×List (Int×Str)))(sd:List (Int×Str)):List (Int×List (Int×Str)):=sd.foldl (λld p=>ld.set p.1.toNat (more (ld.getD p.1.toNat (0,[])) p.2)) ld
def PD(f:Fm)(s:Sd)(d:Dn)(x:Int×List (Int×Str)×Option Str):Sd:=⟨s.st.set (mc f d) x.1,cC (cN s.ld d) x.2.1⟩
def PF(f:Fm)(d:Dn)(x:Int×List (Int×Str)×Option Str):D:=match x.2.2 with
 | none=>.aQ
 | some w=>.tup [.int (mc f d),.str w]
theorem og{α β:Type}{g:α->β}{p:β->Bool}{q:α->Bool}(h:∀a,p (g a)=q a):∀l:List α,(l.map g).find? p=(l.find? q).map g
 | []=>rfl
 | a::l=>by
  have:=og h l;rw[List.map_cons,List.find?_cons,List.find?_cons,h a,this];cases q a<;>rfl
theorem CG{mv:List Mv}{s:Int}{c:Str}:DM (mv.map Hx) s c=PC (an mv s c):=by
 unfold DM an;rw[og (q:=λm=>m.s==s&&m.c==c) (λa=>rfl)]
 cases mv.find? (λm=>m.s==s&&m.c==c)with
 | none =>
  show(if (c == "own")=true then D.aQ else .tup [.int s,.tup [],.aQ])=_;cases hc:(c == "own")<;>rfl
 | some m=>rfl
theorem zE.md{ro:List (Int×Int×Str)}(h:zE ro m y):j3 (λr=>0<=r/\r<ro.length) (Hx y):=by
 refine⟨_,_,_,_,_,rfl,⟨_,rfl,h.s⟩,⟨_,rfl,h.c⟩,⟨_,rfl,h.a⟩,by simpa using h.l,?_,?_⟩
 ·intro d hd;obtain⟨p,hp,rfl⟩:=gZ.mp hd;obtain⟨h1,h2,r,h3,_⟩:=h.sd p hp;refine⟨_,_,rfl,⟨h2,?_⟩,h1⟩;have:=(dU.mp h3).1;omega
 ·cases hw:y.w with
  | none=>exact .inl rfl
  | some x=>exact .inr ⟨x,rfl,h.w x hw⟩
theorem cg.at(h:cg f)(hm:m<f.ru.length):(f.ru.map pO)[m]?=some (.tup [.int (f.ru.getD m (0,[])).1,.tup ((pP f m).map Hx)]):=by
 unfold pP;rw[dG,sk,dM hm];rfl
theorem cg.mv(h:cg f)(hm:m<f.ru.length):(pP f m).length<=28/\∀y∈pP f m,zE f.ro m y:=by
 unfold pP;rw[sk,dM hm];exact(h.ru m _ (dM hm)).2
theorem cg.Ww(h:cg f)(hm:m<f.ru.length):∀y∈(pP f m).map Hx,j3 (λr=>0<=r/\r<f.ro.length) y:=by
 intro y hy;obtain⟨z,hz,rfl⟩:=gZ.mp hy;exact((h.mv hm).2 z hz).md
theorem cg.rd(h:cg f)(hr:r<f.ro.length):(f.ro.map sj)[r]?=some (.tup [.int (cB f r).1,.int (cB f r).2.1,.str (cB f r).2.2])/\CF f.ru.length (cB f r):=by
 unfold cB;rw[dG,sk,dM hr];exact⟨rfl,h.ro _ (List.getElem_mem hr)⟩
theorem bE.zF(h:bE f N s)(hr:r<f.ro.length):(s.ld.map ik)[r]?=some (.tup [.int (load s r).1,.tup ((load s r).2.map pD)])/\gn N (load s r):=by
 have PH:r<s.ld.length:=by rw[h.ll];exact hr
 unfold load;rw[dG,sk,dM PH];exact⟨rfl,h.ld _ (List.getElem_mem PH)⟩
theorem bE.Mx(h:bE f N s)(hm:m<f.ru.length):(s.st.map D.int)[m]?=some (.int (s.st.getD m 0))/\0<=s.st.getD m 0/\s.st.getD m 0<100:=by
 have Rt:m<s.st.length:=by rw[h.ls];exact hm
 rw[dG,sk,dM Rt];exact⟨rfl,h.st _ (List.getElem_mem Rt)⟩
theorem CF.ok{r:Int×Int×Str}(h:CF n r):PyData.strOk r.2.2=true:=by
 rcases h.k with e | e<;>rw[e]<;>decide +kernel
theorem dh.mc(h:cg f)(k:dh f d):mc f d<f.ru.length:=by
 cases d with
 | own m=>exact k
 | dg m c=>exact k.1
 | bp r i =>
  have:=(h.rd k).2.b;show(cB f r).2.1.toNat<_;omega
theorem rE{c:Str}(h:d_ c):∃x,an mv s c=some x:=by
 unfold an
 cases mv.find? (λm=>m.s==s&&m.c==c)with
 | some m=>exact⟨_,rfl⟩
 | none=>rw[h.ok.2];exact⟨_,rfl⟩
structure CH (f:Fm) (m:Nat) (x:Int×List (Int×Str)×Option Str):Prop where
 a:0<=x.1/\x.1<100
 l:x.2.1.length<=3
 sd:∀p∈x.2.1,d_ p.2/\0<=p.1/\∃r,f.ro[p.1.toNat]?=some r/\r.1=m
 w:K8 x.2.2
theorem PJ(h:cg f)(hm:m<f.ru.length)(hs:0<=s/\s<100){c:Str}{x:Int×List (Int×Str)×Option Str}(e:an (pP f m) s c=some x):CH f m x:=by
 unfold an at e
 cases q:(pP f m).find? (λm=>m.s==s&&m.c==c)with
 | some y =>
  rw[q]at e;cases e;have:=(h.mv hm).2 y (List.mem_of_find?_eq_some q);exact⟨this.a,this.l,this.sd,this.w⟩
 | none =>
  rw[q]at e;dsimp only at e;split at e
  ·cases e
  ·cases e;exact⟨hs,by simp,(by intro p hp;cases hp),(by intro x h;cases h)⟩
theorem uy(h:cg f)(k:bE f N s)(hd:dh f d){x:Int×List (Int×Str)×Option Str}(e:rp f s d=some x):CH f (mc f d) x:=by
 unfold rp at e
 cases q:cs f s d with
 | none=>rw[q]at e;cases e
 | some c=>rw[q]at e;exact PJ h (hd.mc h) (k.Mx (hd.mc h)).2 e
theorem cb:PyData.strOk "hear" = true:=⋯
theorem aI:PyData.strOk "come" = true:=⋯
theorem CI:PyData.strOk "row" = true:=⋯
theorem F7:PyData.strOk "heap" = true:=⋯
theorem wm:(("own" : Str) == "come")=false:=⋯
theorem uA:(("hear" : Str) == "come")=false:=⋯
theorem rF:(("come" : Str) == "come")=true:=⋯
theorem K9:(("own" : Str) == "own")=true:=⋯
theorem PK:(("hear" : Str) == "own")=false:=⋯
theorem PL:(("come" : Str) == "own")=false:=⋯
theorem PM:(("hear" : Str) == "hear")=true:=⋯
theorem PN:(("come" : Str) == "hear")=false:=⋯
theorem s1:(1:Nat)<=sizeLine:=by decide
theorem s2:(2:Nat)<=sizeLine:=by decide
theorem s3:(3:Nat)<=sizeLine:=by decide
theorem s0:(0:Nat)<=sizeLine:=by decide
theorem eP{ds:List D}{m:Nat}{x:D}(h:ds[m]?=some x):cU (.d (.tup ds)) (.d (.int m)) M=.ok (.d x) M:=jY h
def j8(F:Fn):Prop:=∀(M:aq)(f:Fm)(d:Dn),cg f->dh f d->aP (F [dk f,cF d] M) λr M'=>M=M'/\r=.d (.int (mc f d))
theorem PQ:j8 (aw G 2 Cz):=by
 intro M f d hf hd;rw[bu];show dA G Cz [some (dk f),some (cF d)] M _ _ _ _
 cases d with
 | own m=>nofun;rw[bz bV aI,wm];exact⟨rfl,rfl⟩
 | dg m c=>nofun;rw[bz cb aI,uA];exact⟨rfl,rfl⟩
 | bp r k =>
  obtain⟨h1,h2⟩:=hf.rd hd;nofun;rw[bz aI aI,rF];nofun;rw[eP h1];refine⟨rfl,?_⟩;show W.d (D.int _)=_;have:=h2.b
  congr 2
  show(cB f r).2.1=(((cB f r).2.1.toNat:Nat):Int);omega
theorem K_:j8 (aw G 2 wc):=by
 intro M f d hf hd;rw[bu];show dA G wc [some (dk f),some (cF d)] M _ _ _ _
 cases d with
 | own m=>nofun;rw[bz bV aI,wm];exact⟨rfl,rfl⟩
 | dg m c=>nofun;rw[bz cb aI,uA];exact⟨rfl,rfl⟩
 | bp r k =>
  obtain⟨h1,h2⟩:=hf.rd hd;nofun;rw[bz aI aI,rF];nofun;rw[eP h1];refine⟨rfl,?_⟩;show W.d (D.int _)=_;have:=h2.b
  congr 2
  show(cB f r).2.1=(((cB f r).2.1.toNat:Nat):Int);omega
def rG(F:Fn):Prop:=∀(M:aq)(i:Int),aP (F [.int i] M) λr M'=>M=M'/\r=.d (.bl true)
theorem La:rG (aw G 1 v7):=by
 intro M i;rw[bu];show dA G v7 [some (.int i)] M _ _ _ _;nofun;exact⟨rfl,rfl⟩
def wq(F:Fn):Prop:=∀(M:aq)(i n:Nat),i<n->aP (F [.int i,.int n] M) λr M'=>M=M'/\r=.d (.bl true)
theorem Lc(hW:rG (G gO)):wq (aw G 2 (v8 gO)):=by
 intro M i n h;rw[bu];show dA G (v8 gO) [some (.int i),some (.int n)] M _ _ _ _;nofun;refine(hW M i).imp ?_;rintro r M1 ⟨rfl,rfl⟩;nofun;rw[decide_eq_true (show(i:Int)<n by omega)];exact⟨rfl,rfl⟩
def CJ(F:Fn):Prop:=∀(M:aq)(c:Str),d_ c->aP (F [.str c] M) λr M'=>M=M'/\r=.d (.bl true)
theorem PR:CJ (aw G 1 Cy):=by
 intro M c h;rw[bu];show dA G Cy [some (.str c)] M _ _ _ _;rcases h with rfl | rfl | rfl | rfl<;>(nofun;exact⟨rfl,rfl⟩)
theorem Z3:aY .d9 (.d (.int 2)) (.d (.tup [.int 2,.int 3])) M=.ok false M:=Cv (ks:=[2,3])
theorem Wx:aY .d9 (.d (.int 3)) (.d (.tup [.int 2,.int 3])) M=.ok false M:=Cv (ks:=[2,3])
def wt(F:Fn):Prop:=∀(M:aq)(f:Fm)(d:Dn),cg f->dh f d->aP (F [dk f,cF d] M) λr M'=>M=M'/\r=.d (.bl true)
theorem Ld(hB:wq (G k8))(hS:CJ (G yc))(hW:rG (G gO)):wt (aw G 2 (v_ k8 yc gO)):=by
 intro M f d hf hd;rw[bu];show dA G (v_ k8 yc gO) [some (dk f),some (cF d)] M _ _ _ _
 cases d with
 | own m =>
  nofun;refine⟨s2,?_⟩;nofun;rw[show(([D.str "own",D.int m].length:Nat):Int)=2 from rfl,Z3];nofun;rw[bz bV bV,K9];nofun;exact hB M m _ (by rw[aX];exact hd)
 | dg m c =>
  nofun;refine⟨s2,?_⟩;nofun;rw[show(([D.str "hear",D.int m,D.str c].length:Nat):Int)=3 from rfl,Wx];nofun;rw[bz cb cb,PM];nofun;refine(hB M m _ (by rw[aX];exact hd.1)).imp ?_;rintro r M1 ⟨rfl,rfl⟩;nofun;exact hS M c hd.2
 | bp r k =>
  nofun;refine⟨s2,?_⟩;nofun;rw[show(([D.str "come",D.int r,D.int k].length:Nat):Int)=3 from rfl,Wx];nofun;rw[bz aI cb,PN];nofun;rw[bz aI aI,rF];nofun;refine(hB M r _ (by rw[aX];exact hd)).imp ?_;rintro r M1 ⟨rfl,rfl⟩;nofun;exact hW M k
theorem PU(hA:j4 F)(hf:cg f)(hm:m<f.ru.length){c:Str}(hc:PyData.strOk c=true):aP (F [dk f,.int m,.int s,.str c] M) λr M'=>M=M'/\r=.d (PC (an (pP f m) s c)):=by
 refine(hA _ M (f.ru.map pO) (f.ro.map sj) ((pP f m).map Hx) _ m s c (hf.at hm) (hf.Ww hm) hc).imp λr M' ⟨e1,e2⟩=>⟨e1,?_⟩;rw[e2,CG]
theorem CK(hA:mq F)(hf:cg f)(hm:m<f.ru.length){c:Str}(hc:PyData.strOk c=true):aP (F [dk f,.int m,.int s,.str c] M) λr M'=>Ex M M'/\r=.d (PC (an (pP f m) s c)):=by
 refine(hA _ M (f.ru.map pO) (f.ro.map sj) ((pP f m).map Hx) _ m s c ?_ (hf.at hm) (hf.Ww hm) (by rw[aX];exact(hf.mv hm).1) hc).imp λr M' ⟨e1,e2⟩=>⟨e1,?_⟩
 ·intro r h;have:=hf.l8;exact⟨h.1,∅⟩
 ·rw[e2,CG]
def oh(F:Fn):Prop:=∀(M:aq)(f:Fm)(N:Nat)(s:Sd)(r:Nat),bE f N s->r<f.ro.length->aP (F [cV s,.int r] M) λo M'=>M=M'/\o=.lv ((load s r).2.map pD)
theorem Le:oh (aw G 2 v9):=by
 intro M f N s r hs hr;rw[bu];show dA G v9 [some (cV s),some (.int r)] M _ _ _ _;nofun;rw[eP (hs.zF hr).1];exact⟨rfl,rfl⟩
theorem U8:cutD ds none (some 1)=ds.take 1:=by
 unfold cutD;have e1:HT.dW ds.length 0 none=0:=rfl
 have e2:HT.dW ds.length ds.length (some 1)=min 1 ds.length:=by
  show(if (1:Int)<0 then ((1:Int)+(ds.length:Int)).toNat else min (1:Int).toNat ds.length)=min 1 ds.length;rw[if_neg (by decide)];rfl
 rw[e1,e2];cases ds<;>simp
theorem PV(h:M[n]?=some (.lst ds)):kL (.d (.ah n)) none (some 1) M=.ok (.lv (ds.take 1)) M:=by
 unfold kL;simp only[bx,h,U8]
theorem F8{o:Str}{ps:List (Int×Str)}(h:ps.length<=N):(il o ps).length<=N:=by
 unfold il;split
 ·rw[List.length_take];omega
 ·exact h
theorem yd{o:Str}{ps:List (Int×Str)}{p:Int×Str}(h:p∈il o ps):p∈ps:=by
 unfold il at h;split at h
 ·exact List.mem_of_mem_take h
 ·exact h
noncomputable def PX:D->Option D
 | .tup [.int i,_]=>some (.int i)
 | _=>none
theorem ye:∀qs:List (Int×Str),(qs.map pD).filterMap PX=(qs.map (·.1)).map D.int
 | []=>rfl
 | q::qs=>by
  have:=ye qs;rw[List.map_cons,List.filterMap_cons,this];rfl
def Lf(F:Fn):Prop:=∀(M:aq)(f:Fm)(N:Nat)(s:Sd)(r:Nat),cg f->bE f N s->N<=900->r<f.ro.length->aP (F [dk f,cV s,.int r] M) λo M'=>o=.lv (((il (cB f r).2.2 (load s r).2).map (·.1)).map D.int)/\Ex M M'
theorem uB {G : du} {M M0 : aq} {n : Nat} {ρ : En} {qs : List (Int × Str)} (hM : M[n]? = some (.lst (qs.map pD))) (hl : qs.length <= 900) {P : W -> aq -> Prop} (q : ∀ M', Ex M M' -> P (.lv ((qs.map (·.1)).map D.int)) M') (U9 : ρ.length = 3) {k : Nat} (hk : k = (qs.map pD).length) :
    aP (bc (λτ M=>bH G none τ M) (λτ M=>(ev G (.ae 1) τ M).bind own) (.at n) [1,2] k 0 ρ M []) P:=by
  refine jZ (ds:=qs.map pD) PX (by decide) (lG hM) (by rw[aX];exact dB (∅)) ?_ ?_ hk
  · intro i M' d hd f;rw[dG]at hd
    cases e:qs[i]? with
    | none=>rw[e]at hd;cases hd
    | some p =>
      rw[e]at hd;cases hd;rcases ρ with _|⟨a,_|⟨b,_|⟨c,_|_⟩⟩⟩<;>simp at U9;show _/\_;exact⟨rfl,f⟩
  · intro M' f;rw[ye];exact q M' f
theorem U_{G:du}{dz:Nat}(hW:oh (G dz)):Lf (aw G 4 (K5 dz)):=by
 intro M f N s r hf hs hN hr;obtain⟨h1,h2⟩:=hf.rd hr;obtain⟨h3,h4⟩:=hs.zF hr;have h5:=h4.n;rw[bu];show dA G (K5 dz) [some (dk f),some (cV s),some (.int r),none] M _ _ _ _;nofun;refine(hW M f N s r hs hr).imp ?_;rintro o M2 ⟨rfl,rfl⟩;nofun;have hM:(M++[MO.lst ((load s r).2.map pD)])[M.length]?=some (.lst ((load s r).2.map pD)):=ak;rw[eP h1];nofun;rw[bz h2.ok CI]
 cases hq:((cB f r).2.2 == "row")with
 | true =>
  nofun;rw[PV hM];nofun;have Lg:((M++[MO.lst ((load s r).2.map pD)])++[MO.lst (((load s r).2.map pD).take 1)])[(M++[MO.lst ((load s r).2.map pD)]).length]?=some (.lst (((load s r).2.take 1).map pD)):=by rw[List.map_take];exact ak
  rw[dJ Lg];refine uB (M0:=M) Lg (by rw[List.length_take];omega) (λM' fr=>?_) rfl (nU Lg);refine⟨?_,Ex.trans (Fr.app (Fr.app (Ex.refl M))) fr⟩;unfold il;rw[hq,if_pos rfl]
 | false =>
  nofun;rw[dJ hM];refine uB (M0:=M) hM (∅) (λM' fr=>?_) rfl (nU hM);refine⟨?_,Ex.trans (Fr.app (Ex.refl M)) fr⟩;unfold il;rw[hq,if_neg (by simp)]
theorem gn.mono{l:Int×List (Int×Str)}(h:gn N l)(k:N<=N2):gn N2 l:=⟨⟨h.s.1,by have:=h.s.2;omega⟩,by have:=h.n;omega,h.p,h.r⟩
theorem gn.less{l:Int×List (Int×Str)}(h:gn N l)(k:Int):gn N (less l k) :=
 ⟨h.s,Nat.le_trans (List.length_filter_le _ _) h.n,λp hp=>h.p p (List.mem_filter.mp hp).1,h.r.filter _⟩
theorem gn.more{l:Int×List (Int×Str)}(h:gn N l){c:Str}(hc:d_ c):gn (N+1) (more l c):=by
 refine⟨⟨by show 0<=l.1+1;have:=h.s;omega,by show l.1+1<=_;have:=h.s;omega⟩,by show(l.2++_).length<=_;rw[gV];have:=h.n;simp;omega,?_,?_⟩
 ·intro p hp;rcases fk.mp hp with q | q
  ·obtain⟨a,b,c⟩:=h.p p q;exact⟨a,b,by show p.1<l.1+1;omega⟩
  ·have:p=(l.1,c):=by simpa using q
   subst this;exact⟨hc,h.s.1,by show l.1<l.1+1;omega⟩
 ·show(l.2++[(l.1,c)]).Pairwise _;rw[List.pairwise_append];refine⟨h.r,List.pairwise_singleton _ _,λp hp q hq=>?_⟩;have:q=(l.1,c):=by simpa using hq
  subst this;exact(h.p p hp).2.2
theorem rH{α:Type}{P:α->Prop}{l:List α}{i:Nat}{x:α}(h:∀y∈l,P y)(hx:P x):∀y∈l.set i x,P y:=λy hy=>by
 rcases List.mem_or_eq_of_mem_set hy with z | z
 ·exact h y z
 ·rw[z];exact hx
theorem gp{α:Type}{P:α->Prop}{l:List α}{i:Nat}{d:α}(h:∀y∈l,P y)(hi:i<l.length):P (l.getD i d):=by
 rw[sk,dM hi];exact h _ (List.getElem_mem hi)
theorem pQ{ld:List (Int×List (Int×Str))}{d:Dn}:(cN ld d).length=ld.length:=by
 cases d<;>simp[cN]
theorem om{N:Nat}{ld:List (Int×List (Int×Str))}{d:Dn}(h:∀l∈ld,gn N l)(hd:∀r k,d=.bp r k->r<ld.length):∀l∈cN ld d,gn N l:=by
 cases d with
 | own m=>exact h
 | dg m c=>exact h
 | bp r k=>exact rH h ((gp h (hd r k rfl)).less k)
theorem j9{sd:List (Int×Str)}:∀{ld:List (Int×List (Int×Str))},(cC ld sd).length=ld.length:=by
 induction sd with
 | nil=>intro ld;rfl
 | cons p sd ih =>
  intro ld;show(cC (ld.set p.1.toNat (more (ld.getD p.1.toNat (0,[])) p.2)) sd).length=_;rw[ih,List.length_set]
theorem k_{ld:List (Int×List (Int×Str))}{sd:List (Int×Str)}{p:Int×Str}:cC ld (sd++[p])=(cC ld sd).set p.1.toNat (more ((cC ld sd).getD p.1.toNat (0,[])) p.2):=by
 unfold cC;rw[List.foldl_append];rfl
theorem mr{N:Nat}{sd:List (Int×Str)}:∀{ld:List (Int×List (Int×Str))}{n:Nat},(∀l∈ld,gn N l)->(∀p∈sd,d_ p.2/\p.1.toNat<ld.length)->sd.length<=n->∀l∈cC ld sd,gn (N+n) l:=by
 induction sd generalizing N with
 | nil=>intro ld n h _ _ l hl;exact(h l hl).mono (∅)
 | cons p sd ih =>
  intro ld n h hp hn;obtain⟨n,rfl⟩:∃m,n=m+1:=⟨n-1,by simp at hn;omega⟩;have h0:=hp p List.mem_cons_self;rw[show N+(n+1)=N+1+n by omega];refine ih (N:=N+1) (ld:=ld.set p.1.toNat (more (ld.getD p.1.toNat (0,[])) p.2)) (n:=n) (rH (λy hy=>(h y hy).mono (∅)) ((gp h h0.2).more h0.1)) (λq hq=>?_) (by simp at hn;omega);rw[List.length_set];exact hp q (ja _ hq)
theorem CH.in{x:Int×List (Int×Str)×Option Str}(h:CH f m x):∀p∈x.2.1,d_ p.2/\p.1.toNat<f.ro.length:=λp hp=>by
 obtain⟨a,b,r,c,_⟩:=h.sd p hp;exact⟨a,(dU.mp c).1⟩
theorem bE.PD{f:Fm}{N:Nat}{s:Sd}{d:Dn}(h:bE f N s)(hd:dh f d){x:Int×List (Int×Str)×Option Str}(hx:CH f (mc f d) x):bE f (N+3) (PD f s d x):=by
 have hl:(cN s.ld d).length=f.ro.length:=by rw[pQ,h.ll]
 refine⟨by show(s.st.set _ _).length=_;rw[List.length_set];exact h.ls,rH h.st hx.a,by show(cC _ _).length=_;rw[j9];exact hl,?_⟩;refine mr (om h.ld λr k e=>?_) (λp hp=>by rw[hl];exact hx.in p hp) hx.l;subst e;rw[h.ll];exact hd
theorem PY{o:Option (Int×List (Int×Str)×Option Str)}:(!B3 (PC o))=o.isSome:=by
 cases o with
 | none=>rfl
 | some x=>obtain⟨a,b,c⟩:=x;rfl
theorem CL{ps:List (Int×Str)}{k:Int}:(ps.find? λp=>p.1==k).isSome=decide (k∈ps.map (·.1)):=by
 rw[Bool.eq_iff_iff,List.find?_isSome,decide_eq_true_eq,gZ];constructor
 ·rintro⟨p,hp,e⟩;exact⟨p,hp,by simpa using e⟩
 ·rintro⟨p,hp,e⟩;exact⟨p,hp,by simpa using e⟩
theorem iG:cs f s (.bp r k)=((il (cB f r).2.2 (load s r).2).find? λp=>p.1==k).map (·.2):=rfl
theorem CM(hs:bE f N s)(hr:r<f.ro.length){c:Str}(h:cs f s (.bp r k)=some c):d_ c:=by
 rw[iG]at h
 cases q:(il (cB f r).2.2 (load s r).2).find? (λp=>p.1==k)with
 | none=>rw[q]at h;cases h
 | some p =>
  rw[q]at h;cases h;exact((hs.zF hr).2.p p (yd (List.mem_of_find?_eq_some q))).1
theorem yf{N:Nat}(hs:bE f N s){r:Nat}(hr:r<f.ro.length){k:Int}:cn f s (.bp r k)=decide (k∈(il (cB f r).2.2 (load s r).2).map (·.1)):=by
 rw[<- CL];unfold cn rp
 cases q:cs f s (.bp r k)with
 | none =>
  rw[iG]at q
  cases z:(il (cB f r).2.2 (load s r).2).find? (λp=>p.1==k)with
  | none=>rfl
  | some p=>rw[z]at q;cases q
 | some c =>
  obtain⟨x,hx⟩:=rE (mv:=pP f (mc f (.bp r k))) (s:=s.st.getD (mc f (.bp r k)) 0) (CM hs hr q);rw[show((some c).bind λc=>an (pP f (mc f (.bp r k))) (s.st.getD (mc f (.bp r k)) 0) c)=some x from hx];rw[iG]at q
  cases z:(il (cB f r).2.2 (load s r).2).find? (λp=>p.1==k)with
  | none=>rw[z]at q;cases q
  | some p=>rfl
theorem Lh:aY .isin (.d (.int i)) (.lv (iD ks)) M=.ok (decide (i∈ks)) M:=by
 unfold aY;simp only[rn,bx,j5,gJ,j6,and_self,if_true,j7]
def Li(F:Fn):Prop:=∀(M:aq)(f:Fm)(N:Nat)(s:Sd)(d:Dn),cg f->bE f N s->N<=900->dh f d->aP (F [dk f,cV s,cF d] M) λr M'=>Ex M M'/\r=.d (.bl (cn f s d))
theorem Va(hP:wt (G rq))(hA:j4 (G kAnswer))(hM:Lf (G F6)):Li (aw G 3 (K6 rq kAnswer F6)):=by
 intro M f N s d hf hs hN hd;rw[bu];show dA G (K6 rq kAnswer F6) [some (dk f),some (cV s),some (cF d)] M _ _ _ _;nofun;refine(hP M f d hf hd).imp ?_;rintro r M1 ⟨rfl,rfl⟩
 cases d with
 | own m =>
  nofun;rw[bz bV bV,K9];nofun;rw[eP (hs.Mx hd).1];nofun;refine(PU hA hf hd bV).imp ?_;rintro r M2 ⟨rfl,rfl⟩;nofun;refine⟨Ex.refl _,?_⟩;rw[PY];rfl
 | dg m c =>
  nofun;rw[bz cb bV,PK];nofun;rw[bz cb aI,uA];nofun;refine⟨Ex.refl _,?_⟩;obtain⟨x,hx⟩:=rE (mv:=pP f m) (s:=s.st.getD m 0) hd.2;show W.d (.bl true)=.d (.bl (an (pP f m) (s.st.getD m 0) c).isSome);rw[hx];rfl
 | bp r k =>
  nofun;rw[bz aI bV,PL];nofun;rw[bz aI aI,rF];nofun;refine(hM M f N s r hf hs hN hd).imp ?_;rintro o M2 ⟨rfl,f2⟩;nofun;rw[show((il (cB f r).2.2 (load s r).2).map (·.1)).map D.int=iD ((il (cB f r).2.2 (load s r).2).map (·.1)) from rfl,Lh];exact⟨f2,by rw[yf hs hd]⟩
def Rz(p:Int×Str):bA×D:=(Sum.inl p.1,.str p.2)
theorem F9{acc:List (bA×D)}{k:bA}{d:D}(h:∀a∈acc,a.1≠k):cD acc k d=acc++[(k,d)]:=by
 unfold cD;rw[if_neg];intro z;rw[List.any_eq_true]at z;obtain⟨a,ha,e⟩:=z;exact h a ha (of_decide_eq_true e)
theorem uC:∀{ps:List (Int×Str)}{acc:List (bA×D)},(∀p∈ps,∀a∈acc,a.1≠(Sum.inl p.1:bA))->(ps.Pairwise λp q=>p.1<q.1)->zg acc (ps.map pD)=some (acc++ps.map Rz)
 | [],acc,_,_=>by rw[List.map_nil,List.map_nil,List.append_nil];rfl
 | p::ps,acc,h,hr=>by
  obtain⟨r1,r2⟩:=List.pairwise_cons.mp hr;show zg (cD acc (Sum.inl p.1) (.str p.2)) (ps.map pD)=_;rw[F9 (h p List.mem_cons_self),uC (ps:=ps) ?_ r2,List.append_assoc]
  ·rfl
  ·intro q hq a ha;rcases fk.mp ha with z | z
   ·exact h q (ja _ hq) a z
   ·have:a=(Sum.inl p.1,.str p.2):=by simpa using z
    subst this;intro e;have e:=Sum.inl.inj e;have:=r1 q hq;omega
theorem zG{M:aq}{ps:List (Int×Str)}(h:ps.Pairwise λp q=>p.1<q.1):jl .pA [.lv (ps.map pD)] M=.ok (.d (.ah M.length)) (M++[.dK (ps.map Rz)]):=by
 unfold jl;simp only[gY,bx];rw[uC (acc:=[]) (λp _ a ha=>by cases ha) h];rfl
theorem Lj{M:aq}{n:Nat}{ps:List (Int×Str)}{k:Int}{p:Int×Str}(hM:M[n]?=some (.dK (ps.map Rz)))(h:(ps.find? λp=>p.1==k)=some p):cU (.d (.ah n)) (.d (.int k)) M=.ok (.d (.str p.2)) M:=by
 have e:cS (ps.map Rz) (Sum.inl k:bA)=some (.str p.2):=by
  unfold cS;rw[og (q:=λp=>p.1==k) (λa=>by show decide ((Sum.inl a.1:bA)=Sum.inl k)=_;rw[zZ]),h];rfl
 unfold cU;simp only[hM,bx,e]
theorem CN{o:Str}{ps:List (Int×Str)}{p:Int×Str}(h:((il o ps).find? λp=>p.1==k)=some p):(ps.find? λp=>p.1==k)=some p:=by
 unfold il at h;split at h
 ·cases ps with
  | nil=>cases h
  | cons q ps =>
   rw[show(q::ps).take 1=[q] from rfl]at h;rw[List.find?_cons]at h⊢
   cases z:(q.1==k)with
   | true=>rw[z]at h;exact h
   | false=>rw[z]at h;cases h
 ·exact h
def wu(F:Fn):Prop:=∀(M:aq)(f:Fm)(N:Nat)(s:Sd)(d:Dn)(c:Str),cg f->bE f N s->dh f d->cs f s d=some c->aP (F [cV s,cF d] M) λr M'=>Ex M M'/\r=.d (.str c)
theorem Lk(hW:oh (G dz)):wu (aw G 2 (wa dz)):=by
 intro M f N s d c hf hs hd hc;rw[bu];show dA G (wa dz) [some (cV s),some (cF d)] M _ _ _ _
 cases d with
 | own m =>
  cases hc;nofun;rw[bz bV bV,K9];exact⟨Ex.refl _,rfl⟩
 | dg m c' =>
  cases hc;nofun;rw[bz cb bV,PK];nofun;rw[bz cb cb,PM];exact⟨Ex.refl _,rfl⟩
 | bp r k =>
  nofun;rw[bz aI bV,PL];nofun;rw[bz aI cb,PN];nofun;refine(hW M f N s r hs hd).imp ?_;rintro o M1 ⟨rfl,rfl⟩;nofun;rw[zG (hs.zF hd).2.r];nofun;rw[iG]at hc
  cases q:(il (cB f r).2.2 (load s r).2).find? (λp=>p.1==k)with
  | none=>rw[q]at hc;cases hc
  | some p =>
   rw[q]at hc;cases hc;rw[Lj ak (CN q)];exact⟨(Ex.refl M).app,rfl⟩
noncomputable def Ll(k:Int):D->Option D
 | .tup [.int i,x]=>if (i==k)=true then none else some (.tup [.int i,x])
 | _=>none
theorem uD:∀ps:List (Int×Str),(ps.map pD).filterMap (Ll k)=(ps.filter λp=>!(p.1==k)).map pD
 | []=>rfl
 | p::ps=>by
  have:=uD (k:=k) ps;rw[List.map_cons,List.filterMap_cons,List.filter_cons,this];rw[show Ll k (pD p)=if (p.1==k)=true then none else some (pD p) from rfl];cases p.1==k<;>rfl
theorem uE {G : du} {M : aq} {it : It} {ρ : En} {ps : List (Int × Str)} {k : Int} {cond : fB} (hit : ∀ M', Ex M M' -> ∀ i, i <= (ps.map pD).length -> itemAt M' i it = some (ps.map pD)[i]?) (hl : ps.length <= 1000) {P : W -> aq -> Prop}
    (hc:∀(M':aq)(p:Int×Str)(Q:Bool->aq->Prop),p∈ps->Q (!(p.1==k)) M'->jX G (some cond) (ρ.set 1 (some (pD p))) M' Q) (U9:1<ρ.length)
    (q:∀M',Ex M M'->P (.lv ((ps.filter λp=>!(p.1==k)).map pD)) M') {n:Nat} (hn:n=(ps.map pD).length) :
    aP (bc (λτ M=>bH G (some cond) τ M) (λτ M=>(ev G (.ae 1) τ M).bind own) it [1] n 0 ρ M []) P:=by
  refine jZ (ds:=ps.map pD) (Ll k) (by decide) hit (by rw[aX];exact dB hl) ?_ ?_ hn
  · intro i M' d hd f;rw[dG]at hd
    cases e:ps[i]? with
    | none=>rw[e]at hd;cases hd
    | some p =>
      rw[e]at hd;cases hd;show jX G (some cond) (ρ.set 1 (some (pD p))) M' _;refine hc M' p _ (gU e) ?_
      have hv:∀Q:D->Prop,Q (pD p)->FC (ρ.set 1 (some (pD p)))[1]? Q:=λQ h=>by
        rw[List.getElem?_set_self U9];exact h
      cases z:(p.1==k)with
      | true =>
        show _/\_;refine⟨?_,f⟩;show(if (p.1==k)=true then none else _)=_;rw[z];rfl
      | false =>
        show FC (ρ.set 1 (some (pD p)))[1]? _;refine hv _ ?_;refine⟨?_,f⟩;show(if (p.1==k)=true then none else _)=_;rw[z];rfl
  · intro M' f;rw[uD];exact q M' f
def CO(F:Fn):Prop:=∀(M:aq)(l:Int×List (Int×Str))(k:Int),l.2.length<=1000->aP (F [ik l,.int k] M) λr M'=>Ex M M'/\r=.d (ik (less l k))
theorem PZ{G:du}:CO (aw G 2 CA):=by
 intro M l k hl;rw[bu];show dA G CA [some (ik l),some (.int k)] M _ _ _ _;nofun;refine uE (ps:=l.2) (k:=k) (it:=.items (l.2.map pD)) j2 hl ?_ ?_ (λM' f=>?_) rfl
 ·intro M' p Q _ h;exact h
 ·show 1<3;decide
 nofun;exact⟨s2,f,rfl⟩
def yg(F:Fn):Prop:=∀(M:aq)(l:Int×List (Int×Str))(c:Str),l.2.length<=1000->aP (F [ik l,.str c] M) λr M'=>M=M'/\r=.d (ik (more l c))
theorem P0:yg (aw G 2 CB):=by
 intro M l c hl;rw[bu];show dA G CB [some (ik l),some (.str c)] M _ _ _ _;nofun;refine⟨s2,s1,?_⟩;nofun;refine⟨Nat.le_trans (show(l.2.map pD).length+1<=1001 by rw[aX];omega) (by decide),?_⟩;nofun;refine⟨s2,rfl,?_⟩;show W.d (.tup [.int (l.1+1),.tup (l.2.map pD++[pD (l.1,c)])])=_;unfold more ik;rw[iN];rfl
theorem P1{ld:List (Int×List (Int×Str))}{r:Nat}(h:r<ld.length):(ld.map ik)[r]?=some (ik (ld.getD r (0,[]))):=by
 rw[dG,sk,dM h];rfl
def lH(F:Fn):Prop:=∀(M:aq)(f:Fm)(N:Nat)(s:Sd)(d:Dn)(x:Int×List (Int×Str)×Option Str),cg f->bE f N s->N<=900->dh f d->rp f s d=some x->aP (F [dk f,cV s,cF d] M) λr M'=>Ex M M'/\r=.d (.tup [cV (PD f s d x),PF f d x])
def P2(i_:Nat):List S:=[.bq [7,8] .seq [(.sub (.ae 4) (.ai (.int 1)))] [.put (.ae 6) (.ae 7) (.call i_ [(.sub (.ae 6) (.ae 7)),(.ae 8)])],.asg [9] (.ai .aQ),.iff (.val (.cmp .eZ (.sub (.ae 4) (.ai (.int 2))) (.ai .aQ))) [.asg [9] (.tup [(.ae 3),(.sub (.ae 4) (.ai (.int 2)))])] [],.ret (.tup [(.tup [(.bi .tuple1 [(.ae 5)]),(.bi .tuple1 [(.ae 6)])]),(.ae 9)])]
noncomputable def Ln(m:Nat):Option Str->D
 | none=>.aQ
 | some w=>.tup [.int m,.str w]
theorem la {G : du} {i_ : Nat} (P4 : yg (G i_)) {M0 M : aq} {n5 n6 m N : Nat} {o0 o1 o2 o7 o8 o9 : Option D} {a : Int} {sd : List (Int × Str)} {w : Option Str} {st : List Int} {ld : List (Int × List (Int × Str))} {nx : En -> aq -> Prop} {rt : W -> aq -> Prop} {bk ct : En -> aq -> Prop}
    (h5:M[n5]?=some (.lst (st.map D.int))) (h6:M[n6]?=some (.lst (ld.map ik))) (lA:n5≠n6) (P5:M0.length<=n6) (fr:Ex M0 M) (Mo:∀l∈ld,gn N l) (hN:N<=900) (ml:∀p∈sd,d_ p.2/\0<=p.1/\p.1.toNat<ld.length) (h3:sd.length<=3)
    (q:∀M',Ex M0 M'->rt (.d (.tup [.tup [.tup (st.map D.int),.tup ((cC ld sd).map ik)],Ln m w])) M') :
    dA G (P2 i_) [o0,o1,o2,some (.int m),some (.tup [.int a,.tup (sd.map pD),K7 w]),some (.ah n5),some (.ah n6),o7,o8,o9] M nx rt bk ct:=by
  nofun;refine fN (ds:=sd.map pD) (λi ρ M'=>∃o7 o8,ρ=[o0,o1,o2,some (.int m),some (.tup [.int a,.tup (sd.map pD),K7 w]),some (.ah n5),some (.ah n6),o7,o8,o9]/\M'[n5]?=some (.lst (st.map D.int))/\M'[n6]?=some (.lst ((cC ld (sd.take i)).map ik))/\Ex M0 M') ⟨_,_,rfl,h5,h6,fr⟩ ?_ ?_
  · rintro i ρ M' dd bP ⟨o7,o8,rfl,g5,g6,F_⟩;rw[dG]at bP
    cases e:sd[i]? with
    | none=>rw[e]at bP;cases bP
    | some p =>
      rw[e]at bP;cases bP;obtain⟨p1,p2,p3⟩:=ml p (gU e);have hi:=(dU.mp e).1;have zW:p.1.toNat<(cC ld (sd.take i)).length:=by rw[j9];exact p3
      have bF:=mr (n:=i) Mo (λq hq=>⟨(ml q (List.mem_of_mem_take hq)).1,(ml q (List.mem_of_mem_take hq)).2.2⟩) (by rw[List.length_take];omega:(sd.take i).length<=i);have El:=gp (d:=((0:Int),([]:List (Int×Str)))) bF zW;have RA:=El.n;nofun;rw[bO g6 p2 (P1 zW)];nofun;refine(P4 M' _ p.2 (∅)).imp ?_;rintro r M2 ⟨rfl,rfl⟩;nofun;rw[nV g6 p2 (by rw[aX];exact zW)];refine⟨_,_,rfl,ao g5 lA,?_,F_.set P5⟩;rw[aF g6,bo e,k_,<- List.map_set]
  · rintro ρ M' ⟨o7,o8,rfl,g5,g6,F_⟩;rw[aX,List.take_length]at g6
    cases w with
    | none =>
      nofun;rw[bU g5];nofun;rw[bU g6];nofun;exact⟨s2,s2,q M' F_⟩
    | some x =>
      nofun;refine⟨s2,?_⟩;nofun;rw[bU g5];nofun;rw[bU g6];nofun;exact⟨s2,s2,q M' F_⟩
theorem P6{G:du}{gm kAnswer nZ uw i_:Nat}(Lo:j8 (G gm))(hA:j4 (G kAnswer))(hC:wu (G nZ))(hL:CO (G uw))(P4:yg (G i_)):lH (aw G 10 (CD gm kAnswer nZ uw i_)):=by
 intro M f N s d x hf hs hN hd hx;have hm:=hd.mc hf;have Ga:=uy hf hs hd hx
 obtain⟨c,hc,Vb⟩:∃c,cs f s d=some c/\an (pP f (mc f d)) (s.st.getD (mc f d) 0) c=some x:=by
  unfold rp at hx
  cases q:cs f s d with
  | none=>rw[q]at hx;cases hx
  | some c=>rw[q]at hx;exact⟨c,rfl,hx⟩
 have Z4:PyData.strOk c=true:=by
  cases d with
  | own m=>cases hc;exact bV
  | dg m c'=>cases hc;exact hd.2.ok.1
  | bp r k=>exact(CM hs hd hc).ok.1
 obtain⟨a,sd,w⟩:=x;rw[bu];show dA G (CD gm kAnswer nZ uw i_) [some (dk f),some (cV s),some (cF d),none,none,none,none,none,none,none] M _ _ _ _;nofun;refine(Lo M f d hf hd).imp ?_;rintro r M1 ⟨rfl,rfl⟩;nofun;rw[eP (hs.Mx hm).1];nofun;refine(hC M f N s d c hf hs hd hc).imp ?_;rintro r M1 ⟨f1,rfl⟩;nofun;refine(PU hA hf hm Z4).imp ?_;rintro r M2 ⟨rfl,rfl⟩;rw[Vb];nofun;have eJ:mc f d<(s.st.map D.int).length:=by rw[aX,hs.ls];exact hm
 rw[gL ak eJ];nofun;have g5:((M1++[MO.lst (s.st.map D.int)]).set M1.length (.lst ((s.st.map D.int).set (mc f d) (.int a))))[M1.length]?=some (.lst ((s.st.set (mc f d) a).map D.int)):=by rw[aF ak,List.map_set]
 have lr:Ex M ((M1++[MO.lst (s.st.map D.int)]).set M1.length (.lst ((s.st.map D.int).set (mc f d) (.int a)))):=Fr.set (Fr.app f1) f1.1;have DL:=f1.1;generalize (M1++[MO.lst (s.st.map D.int)]).set M1.length (.lst ((s.st.map D.int).set (mc f d) (.int a)))=M5 at g5 lr⊢;have g6:(M5++[MO.lst (s.ld.map ik)])[M5.length]?=some (.lst (s.ld.map ik)):=ak;have Vc:(M5++[MO.lst (s.ld.map ik)])[M1.length]?=some (.lst ((s.st.set (mc f d) a).map D.int)):=ay g5;have ko:=aj g5;have zT:=lr.1
 have ml:∀(ld:List (Int×List (Int×Str))),ld.length=f.ro.length->∀p∈sd,d_ p.2/\0<=p.1/\p.1.toNat<ld.length:=λld hl p hp=>by
  obtain⟨a,b,r,c,_⟩:=Ga.sd p hp;exact⟨a,b,by rw[hl];exact(dU.mp c).1⟩
 have zX:PF f d (a,sd,w)=Ln (mc f d) w:=by cases w<;>rfl
 rw[zX]
 cases d with
 | own m =>
  nofun;rw[bz bV aI,wm];refine la P4 (M0:=M) (ld:=s.ld) (N:=N) Vc g6 (∅) zT (Fr.app lr) hs.ld hN (ml _ hs.ll) Ga.l λM' fr=>⟨fr,rfl⟩
 | dg m c' =>
  nofun;rw[bz cb aI,uA];refine la P4 (M0:=M) (ld:=s.ld) (N:=N) Vc g6 (∅) zT (Fr.app lr) hs.ld hN (ml _ hs.ll) Ga.l λM' fr=>⟨fr,rfl⟩
 | bp r k =>
  have hr:r<s.ld.length:=by rw[hs.ll];exact hd
  have El:=gp (d:=((0:Int),([]:List (Int×Str)))) hs.ld hr;have RA:=El.n;nofun;rw[bz aI aI,rF];nofun;rw[a_ g6 (P1 hr)];nofun;refine(hL _ _ k (∅)).imp ?_;rintro o M7 ⟨f7,rfl⟩;nofun;have Wy:=Ex.get f7 g6;rw[gL Wy (by rw[aX];exact hr)];refine la P4 (M0:=M) (ld:=cN s.ld (.bp r k)) (N:=N) (ao (Ex.get f7 Vc) (∅)) ?_ (∅) zT ?_ (om hs.ld λr' k' e=>by cases e;exact hr) hN (ml _ (by rw[pQ];exact hs.ll)) Ga.l λM' fr=>⟨fr,rfl⟩
  ·rw[aF Wy,<- List.map_set];rfl
  ·exact Fr.set (Ex.trans (Fr.app lr) f7) zT
noncomputable def tD(x:Nat×Int×Str):D:=.tup [.int x.1,.int x.2.1,.str x.2.2]
def fl(f:Fm)(s:Sd):Nat->List (Nat×Int×Str)
 | 0=>[]
 | n+1=>fl f s n++(il (cB f n).2.2 (load s n).2).map λp=>(n,p.1,p.2)
theorem rJ{x:Nat×Int×Str}:∀n,x∈fl f s n↔x.1<n/\(x.2.1,x.2.2)∈il (cB f x.1).2.2 (load s x.1).2
 | 0=>by simp[fl]
 | n+1=>by
  obtain⟨r,k,c⟩:=x;show(r,k,c)∈fl f s n++_↔_;rw[fk,rJ n,gZ];constructor
  ·rintro(⟨h1,h2⟩|⟨p,hp,e⟩)
   ·exact⟨by show r<n+1;have:r<n:=h1;omega,h2⟩
   ·cases e;exact⟨by show n<n+1;omega,hp⟩
  ·rintro⟨h1,h2⟩;by_cases q:r=n
   ·subst q;exact .inr ⟨(k,c),h2,rfl⟩
   ·exact .inl ⟨by show r<n;have:r<n+1:=h1;omega,h2⟩
theorem wz(hs:bE f N s):∀n,n<=f.ro.length->(fl f s n).length<=N*n
 | 0,_=>by simp[fl]
 | n+1,h=>by
  have h1:=wz hs n (∅);have h2:=F8 (o:=(cB f n).2.2) (hs.zF (r:=n) (∅)).2.n;show(fl f s n++_).length<=_;rw[gV,aX,Nat.mul_succ];omega
theorem yh(h:M[n]?=some (.lst xs))(hl:xs.length+ys.length<=sizeLine):ni .add (.d (.ah n)) (.lv ys) M=.ok (.lv (xs++ys)) M:=by
 unfold ni;simp only[dr,h];rw[if_pos hl]
noncomputable def P7(r:Nat):D->Option D
 | .tup [.int i,x]=>some (.tup [.int r,.int i,x])
 | _=>none
theorem yj:∀qs:List (Int×Str),(qs.map pD).filterMap (P7 r)=(qs.map λp=>(r,p.1,p.2)).map tD
 | []=>rfl
 | q::qs=>by
  have:=yj (r:=r) qs;rw[List.map_cons,List.filterMap_cons,this];rfl
theorem uF {G : du} {M : aq} {n r : Nat} {qs : List (Int × Str)} (hM : M[n]? = some (.lst (qs.map pD))) (hl : qs.length <= 900) {P : W -> aq -> Prop} (q : ∀ M', Ex M M' -> P (.lv ((qs.map fun p => (r, p.1, p.2)).map tD)) M') {k : Nat} (hk : k = (qs.map pD).length) :
    aP (bc (λτ M=>bH G none τ M) (λτ M=>(ev G (.tup [(.ae 3),(.ae 1),(.ae 2)]) τ M).bind own) (.at n) [1,2] k 0 [none,none,none,some (.int r)] M []) P:=by
  refine jZ (ds:=qs.map pD) (P7 r) (by decide) (lG hM) (by rw[aX];exact dB (∅)) ?_ ?_ hk
  · intro i M' d hd f;rw[dG]at hd
    cases e:qs[i]? with
    | none=>rw[e]at hd;cases hd
    | some p =>
      rw[e]at hd;cases hd;nofun;exact⟨s3,rfl,f⟩
  · intro M' f;rw[yj];exact q M' f
def mw(F:Fn):Prop:=∀(M:aq)(f:Fm)(N:Nat)(s:Sd),cg f->bE f N s->N<=900->aP (F [dk f,cV s] M) λr M'=>∃n,r=.d (.ah n)/\M.length<=n/\M'[n]?=some (.lst ((fl f s f.ro.length).map tD))/\Ex M M'
theorem Gb:mw (aw G 5 rB):=by
 intro M f N s hf hs hN;have h8:=hf.l8;rw[bu];show dA G rB [some (dk f),some (cV s),none,none,none] M _ _ _ _;nofun;refine⟨s0,?_⟩;nofun;refine⟨⟨by rw[aX];omega,by rw[aX];omega⟩,?_⟩;refine eE (n:=((f.ro.map sj).length:Int).toNat) (λi ρ M'=>∃o3 o4 n,ρ=[some (dk f),some (cV s),some (.ah n),o3,o4]/\M.length<=n/\M'[n]?=some (.lst ((fl f s i).map tD))/\Ex M M') ⟨_,_,M.length,rfl,bJ _,ak,(Ex.refl M).app⟩ ?_ ?_
 ·rintro i ρ M1 hi ⟨o3,o4,n,rfl,zV,hn,f1⟩;have hi:i<f.ro.length:=by rw[aX]at hi;omega
  obtain⟨h1,h2⟩:=hf.rd hi;obtain⟨h3,h4⟩:=hs.zF hi;have h5:=h4.n;have hfl:=wz hs i (∅);rw[show(0:Int)+(i:Int)=((i:Nat):Int) by omega];nofun;rw[eP h3];nofun;have hM:(M1++[MO.lst ((load s i).2.map pD)])[M1.length]?=some (.lst ((load s i).2.map pD)):=ak;rw[eP h1];nofun;rw[bz h2.ok CI];have P8:M.length<=M1.length:=f1.1;have hNi:N*i<=900*8:=Nat.mul_le_mul hN (∅)
  cases hq:((cB f i).2.2 == "row")with
  | true =>
   nofun;rw[PV hM];nofun;have Lg:((M1++[MO.lst ((load s i).2.map pD)])++[MO.lst (((load s i).2.map pD).take 1)])[(M1++[MO.lst ((load s i).2.map pD)]).length]?=some (.lst (((load s i).2.take 1).map pD)):=by rw[List.map_take];exact ak
   have sW:((M1++[MO.lst ((load s i).2.map pD)])++[MO.lst (((load s i).2.map pD).take 1)])[n]?=some (.lst ((fl f s i).map tD)):=ay (ay hn);have f2:Ex M ((M1++[MO.lst ((load s i).2.map pD)])++[MO.lst (((load s i).2.map pD).take 1)]):=Fr.app (Fr.app f1);have Vd:il (cB f i).2.2 (load s i).2=(load s i).2.take 1:=by unfold il;rw[hq,if_pos rfl]
   rw[dJ Lg];refine uF (r:=i) Lg (by rw[List.length_take];omega) (λM' fr=>?_) (nU Lg);nofun;rw[yh (Ex.get fr sW) (Nat.le_trans (show _<=900*8+1000 by simp only[aX,List.length_take];omega) (by decide))];have f3:=Ex.trans f2 fr;refine⟨_,_,M'.length,rfl,f3.1,?_,Fr.app f3⟩;rw[<- iN,<- Vd];exact ak
  | false =>
   nofun;have sW:(M1++[MO.lst ((load s i).2.map pD)])[n]?=some (.lst ((fl f s i).map tD)):=ay hn;have Vd:il (cB f i).2.2 (load s i).2=(load s i).2:=by unfold il;rw[hq,if_neg (by simp)]
   rw[dJ hM];refine uF (r:=i) hM (∅) (λM' fr=>?_) (nU hM);nofun;rw[yh (Ex.get fr sW) (Nat.le_trans (show _<=900*8+1000 by simp only[aX];omega) (by decide))];have f3:Ex M M':=Ex.trans (Fr.app f1) fr;refine⟨_,_,M'.length,rfl,f3.1,?_,Fr.app f3⟩;rw[<- iN];show _=some (MO.lst ((fl f s i++(il (cB f i).2.2 (load s i).2).map λp=>(i,p.1,p.2)).map tD));rw[Vd];exact ak
 ·rintro ρ M1 ⟨o3,o4,n,rfl,zV,hn,f1⟩;nofun;rw[show((f.ro.map sj).length:Int).toNat=f.ro.length by rw[aX];omega]at hn;exact⟨n,rfl,zV,hn,f1⟩
theorem Gd:aY .eq (.d (.tup [.int a,.int b])) (.d (.tup [.int c,.int d])) M=.ok (a==c&&b==d) M:=by
 have h1:∀(s c:Int),iw M (.d (.tup [.int s,.int c]))=some (.tuple [.int s,.int c]):=λs c=>by
  show cW M 30 (.tup [.int s,.int c])=_
  try simp only[cW,bG,Option.map_some]
 have h2:∀(s c:Int),SeqAt.shaped (.tuple [.int s,.int c])=true:=λs c=>by
  unfold SeqAt.shaped
  try simp only[PyData.canLay0.eq_6,PyData.canLayAll0.eq_2,PyData.canLayAll0.eq_1,PyData.canLay0.eq_3,PyData.depth.eq_2,PyData.depthAll.eq_2,PyData.depthAll.eq_1,PyData.depth.eq_6]
  rfl
 unfold aY
 try simp only[h1,h2,and_self,if_true,PyData.eqv.eq_8,PyData.eqvAll.eq_2,PyData.eqvAll.eq_1,PyData.eqv.eq_5,Bool.and_true]
theorem P9:kM (.d (.tup [a,b])) 2 M=.ok (.d (.tup [a])) M:=by
 unfold kM;have e:dO [a,b] 2=[a]:=by simp[dO,Builtin.Slice.sliceAdjust,Builtin.Slice.slicePlaces]
 try simp only[e]
 rw[if_pos ⟨.inl trivial,(show(1:Nat)<=sizeLine by decide)⟩]
theorem P_:kM (.d (.tup [a,b,c])) 2 M=.ok (.d (.tup [a,c])) M:=by
 unfold kM;have e:dO [a,b,c] 2=[a,c]:=by simp[dO,Builtin.Slice.sliceAdjust,Builtin.Slice.slicePlaces,List.range_succ]
 try simp only[e]
 rw[if_pos ⟨.inl trivial,(show(2:Nat)<=sizeLine by decide)⟩]
theorem pR{c:Str}:∀{ps:List (Int×Str)},(ps.Pairwise λp q=>p.1<q.1)->(k,c)∈ps->(ps.find? λp=>p.1==k)=some (k,c)
 | [],_,h=>by cases h
 | p::ps,hr,h=>by
  obtain⟨r1,r2⟩:=List.pairwise_cons.mp hr;rw[List.find?_cons];rcases List.mem_cons.mp h with z | z
  ·rw[<- z];simp
  ·have:=r1 _ z
   have lA:(p.1==k)=false:=by
    have:p.1<k:=this;simp;omega
   rw[lA];exact pR r2 z
theorem CP{o:Str}{ps:List (Int×Str)}(h:ps.Pairwise λp q=>p.1<q.1):(il o ps).Pairwise λp q=>p.1<q.1:=by
 unfold il;split
 ·exact h.take
 ·exact h
theorem Qa(hs:bE f N s)(hr:r<f.ro.length){c:Str}(h:(k,c)∈il (cB f r).2.2 (load s r).2):cs f s (.bp r k)=some c:=by
 rw[iG,pR (CP (hs.zF hr).2.r) h];rfl
theorem Lp(h:∀c,(k,c)∉il (cB f r).2.2 (load s r).2):cs f s (.bp r k)=none:=by
 rw[iG]
 cases q:(il (cB f r).2.2 (load s r).2).find? (λp=>p.1==k)with
 | none=>rfl
 | some p =>
  have h1:=List.mem_of_find?_eq_some q;have h2:p.1=k:=by simpa using List.find?_some q
  obtain⟨k',c⟩:=p;cases h2;exact absurd h1 (h c)
def lb(F:Fn):Prop:=∀(M:aq)(f:Fm)(N:Nat)(s:Sd)(d:Dn),cg f->bE f N s->N<=900->dh f d->aP (F [dk f,cV s,cF d] M) λr M'=>Ex M M'/\r=.d (PC (rp f s d))
theorem Lq(hL:mq (G ux))(hC:mw (G eB)):lb (aw G 7 (wb ux eB)):=by
 intro M f N s d hf hs hN hd;rw[bu];show dA G (wb ux eB) [some (dk f),some (cV s),some (cF d),none,none,none,none] M _ _ _ _
 cases d with
 | own m =>
  nofun;rw[xW bV aI,wm];nofun;rw[eP (hs.Mx hd).1];nofun;rw[show kM (.d (cF (.own m))) 2 M=.ok (.d (.tup [.str "own"])) M from P9];nofun;exact CK hL hf hd bV
 | dg m c =>
  nofun;rw[xW cb aI,uA];nofun;rw[eP (hs.Mx hd.1).1];nofun;rw[show kM (.d (cF (.dg m c))) 2 M=.ok (.d (.tup [.str "hear",.str c])) M from P_];nofun;exact CK hL hf hd.1 hd.2.ok.1
 | bp r k =>
  have hd:r<f.ro.length:=hd;nofun;rw[xW aI aI,rF];nofun;refine(hC M f N s hf hs hN).imp ?_;rintro o M1 ⟨n,rfl,zV,hn,f1⟩;nofun;rw[dJ hn];refine Cb (n:=n) (ds:=(fl f s f.ro.length).map tD) (λj ρ M'=>∃o3 o4 o5 o6,M1=M'/\ρ=[some (dk f),some (cV s),some (.tup [.str "come",.int r,.int k]),o3,o4,o5,o6]/\∀c,(r,k,c)∉(fl f s f.ro.length).take j) (by rintro j ρ M' ⟨_,_,_,_,e,_⟩;rw[<- e];exact hn) ⟨_,_,_,_,rfl,rfl,(by intro s h;cases h)⟩ ?_ ?_
  ·rintro j ρ M' dd bP ⟨o3,o4,o5,o6,rfl,rfl,Ge⟩;rw[dG]at bP
   cases e:(fl f s f.ro.length)[j]? with
   | none=>rw[e]at bP;cases bP
   | some x =>
    rw[e]at bP;cases bP;obtain⟨r',k',c⟩:=x;obtain⟨g1,g2⟩:=(rJ f.ro.length).mp (gU e);have g1:r'<f.ro.length:=g1;have g2:(k',c)∈il (cB f r').2.2 (load s r').2:=g2;nofun;refine⟨s2,?_⟩;show d6 (aY .eq (.d (.tup [.int (r':Nat),.int k'])) (.d (.tup [.int (r:Nat),.int k])) M1) _;rw[Gd]
    cases hq:(((r':Int)==(r:Int))&&(k'==k))with
    | true =>
     rw[cu,beq_iff_eq,beq_iff_eq]at hq;have er:r'=r:=∅;subst er;obtain⟨_,rfl⟩:=hq;obtain⟨h1,h2⟩:=hf.rd g1;have hb:=h2.b;have hm:=dh.mc hf (d:=.bp r' k') g1;have em:(cB f r').2.1=((mc f (.bp r' k'):Nat):Int):=by show _=(((cB f r').2.1.toNat:Nat):Int);omega
     nofun;rw[eP h1];nofun;rw[em,eP (hs.Mx hm).1];nofun;refine(CK hL hf hm ((hs.zF g1).2.p _ (yd g2)).1.ok.1).imp λo M2 ⟨f2,e2⟩=>⟨Ex.trans f1 f2,?_⟩;rw[e2];unfold rp;rw[Qa hs g1 g2];rfl
    | false =>
     refine⟨_,_,_,_,rfl,rfl,λc' lR=>?_⟩;rw[bo e]at lR;rcases fk.mp lR with z | z
     ·exact Ge c' z
     ·have z:(r,k,c')=(r',k',c):=by simpa using z
      cases z;simp at hq
  ·rintro ρ M' ⟨o3,o4,o5,o6,rfl,rfl,Ge⟩;rw[aX,List.take_length]at Ge;refine⟨f1,?_⟩;show W.d .aQ=_;unfold rp;rw[Lp λc hc=>Ge c ((rJ _).mpr ⟨hd,hc⟩)];rfl
noncomputable def fE(a b:Int):List Int:=(List.range (b-a).toNat).map λk=>a+((k:Nat):Int)
theorem j_(h:b<=a):fE a b=[]:=by
 unfold fE;rw[show(b-a).toNat=0 by omega];rfl
theorem iH(h:a<b):fE a b=a::fE (a+1) b:=by
 unfold fE;obtain⟨n,hn⟩:∃n,(b-a).toNat=n+1:=⟨(b-a).toNat-1,∅⟩;rw[hn,show(b-(a+1)).toNat=n by omega,List.range_succ_eq_map,List.map_cons,List.map_map];refine congr (congrArg List.cons (by simp)) (List.map_congr_left λk _=>?_);show a+((k+1:Nat):Int)=a+1+(k:Int);omega
def cG(l:Int×List (Int×Str)):List Int:=l.2.map (·.1)
def CQ(l:Int×List (Int×Str)):Prop:=cG l=fE (l.1-(l.2.length:Int)) l.1
def wA(F:Fn):Prop:=∀(M:aq)(w:Nat)(T:Int)(o:Str),WA M w T->T<10000->PyData.strOk o=true->aP (F [.ah w,.str o] M) λr M'=>∃l,r=.d (ik l)/\gn 4 l/\((o == "heap")=false->CQ l)/\WA M' w (T+20)/\Fr w M M'
theorem Lr(hD:eO (G aA)):wA (aw G 7 (wg aA)):=by
 intro M w T o hw hT ho;rw[bu];show dA G (wg aA) [some (.ah w),some (.str o),none,none,none,none,none] M _ _ _ _;nofun;refine(hD M w T 6 hw (∅) (∅) (∅)).imp ?_;rintro r M1 ⟨a,rfl,a0,a1,zA,f1⟩;nofun;refine(hD M1 w _ (10 ^ 9-1000) zA (∅) (∅) (∅)).imp ?_;rintro r M2 ⟨b,rfl,b0,b1,uo,f2⟩;nofun;refine⟨s3,?_⟩;nofun;have hA:(M2++[MO.lst [.int 0,.int a,.int b]])[M2.length]?=some (.lst [.int 0,.int a,.int b]):=ak;have xZ:WA (M2++[MO.lst [.int 0,.int a,.int b]]) w (T+1+1):=uo.app;have f3:Fr w M (M2++[MO.lst [.int 0,.int a,.int b]]):=(f1.trans f2).app;have P8:M.length<=M2.length:=(f1.trans f2).1;have Ej:=uo.lt;generalize M2++[MO.lst [.int 0,.int a,.int b]]=M3 at hA xZ f3⊢;refine(hD M3 w _ 5 xZ (∅) (∅) (∅)).imp ?_;rintro r M4 ⟨c,rfl,c0,c1,k0,f4⟩;nofun;refine⟨⟨∅,∅⟩,?_⟩;have Z5:=f4.get hA (∅)
 obtain⟨d,hd,s,rfl,Z6,s1'⟩:∃d,[D.int 0,.int a,.int b][(c / 2).toNat]?=some d/\∃s:Int,d=.int s/\0<=s/\s<1000000000:=lN (ds:=[D.int 0,.int a,.int b]) (k:=3) (λd hd=>by
  simp only[List.mem_cons,List.mem_nil_iff,or_false]at hd;rcases hd with rfl | rfl | rfl
  ·exact⟨0,rfl,∅,∅⟩
  ·exact⟨a,rfl,∅,∅⟩
  ·exact⟨b,rfl,∅,∅⟩) (∅) (∅) rfl
 nofun;rw[bO Z5 (i:=c / 2) (∅) hd];nofun;refine⟨s0,?_⟩;nofun;have f5:=f3.trans f4;refine(hD (M4++[MO.lst []]) w _ 4 k0.app (∅) (∅) (∅)).imp ?_;rintro r M5 ⟨g,rfl,g0,g1,oJ,f6⟩;nofun;have Z7:0<=(if g<s then g else s)/\(if g<s then g else s)<=3/\(if g<s then g else s)<=s:=by split<;>omega
 generalize (if g<s then g else s)=mn at Z7;refine⟨⟨∅,∅⟩,?_⟩;have Hs:M.length<=M4.length:=f5.1;have Pm:=k0.lt;refine eE (n:=mn.toNat) (λi ρ M'=>∃o2 x6 ls,∃ps:List (Int×Str),ρ=[some (.ah w),some (.str o),o2,some (.int s),some (.ah M4.length),some (.int ls),x6]/\M'[M4.length]?=some (.lst (ps.map pD))/\ps.length<=i/\(∀p∈ps,d_ p.2/\0<=p.1/\p.1<s/\ls<=p.1)/\(ps.Pairwise λp q=>p.1<q.1)/\ls<=s/\WA M' w (T+5+2*i)/\Fr w M M'/\((o == "heap")=false->ls=s-(i:Int)/\ps.length=i/\ps.map (·.1)=fE ls s)) ⟨_,_,_,[],rfl,f6.get ak (∅),bJ _,(by intro p h;cases h),.nil,DA _,oJ.mono (∅),f5.app.trans f6,λ_=>⟨∅,rfl,(j_ (DA _)).symm⟩⟩ ?_ ?_
 ·rintro i ρ M6 hi ⟨o2,x6,ls,ps,rfl,hn,qc,Qb,RB,Wz,oV,f7,ht⟩;nofun;rw[bz ho F7];nofun;refine(hD M6 w _ 3 oV (∅) (∅) (∅)).imp ?_;rintro r M7 ⟨h,rfl,h0,h1,FW,f8⟩;have Ve:=f8.get hn (∅);nofun;have G7:0<=(if (o == "heap")=true then (1:Int) else 0)/\(if (o == "heap")=true then (1:Int) else 0)<=1:=by split<;>omega
  refine⟨.inr ⟨∅,∅⟩,?_⟩;have hmul:0<=(if (o == "heap")=true then (1:Int) else 0)*h:=Int.mul_nonneg G7.1 h0;have hz:(o == "heap")=false->(if (o == "heap")=true then (1:Int) else 0)*h=0:=λq=>by rw[q];simp
  generalize (if (o == "heap")=true then (1:Int) else 0)*h=mm at hmul hz;nofun;by_cases Vf:0<=ls-1-mm
  ·rw[decide_eq_true Vf];nofun;refine⟨aW Ve,?_⟩;nofun;refine(hD M7 w _ 4 FW (∅) (∅) (∅)).imp ?_;rintro r M8 ⟨q,rfl,q0,q1,Pt,f9⟩;have WB:=f9.get Ve (∅);obtain⟨ch,zR,Gf⟩:=KW (M:=M8) q0 q1;nofun;rw[zR];nofun;refine⟨s2,?_⟩;nofun;rw[ui (x:=.tup [.int (ls-1-mm),.str ch]) (i:=0) WB (aG (by rw[aX];omega)) (∅) (∅)];refine⟨_,_,_,(ls-1-mm,ch)::ps,rfl,?_,by simp;omega,?_,?_,∅,(Pt.set (∅)).mono (∅),((f7.trans f8).trans f9).set (∅),λq=>?_⟩
   ·rw[aF WB];simp[pD]
   ·intro p hp;rcases List.mem_cons.mp hp with rfl | hp
    ·exact⟨Gf,Vf,by show ls-1-mm<s;omega,DA _⟩
    ·obtain⟨a1,a2,a3,a4⟩:=Qb p hp;exact⟨a1,a2,a3,∅⟩
   ·refine List.pairwise_cons.mpr ⟨λp hp=>?_,RB⟩;obtain⟨a1,a2,a3,a4⟩:=Qb p hp;show ls-1-mm<p.1;omega
   ·have z:=hz q;obtain⟨t1,t2,t3⟩:=ht q;refine⟨∅,by simp[t2],?_⟩;show(ls-1-mm)::ps.map (·.1)=_;rw[t3,z,Int.sub_zero,iH (a:=ls-1) (∅),show ls-1+1=ls by omega]
  ·rw[decide_eq_false Vf]
   refine⟨_,_,_,ps,rfl,Ve,∅,λp hp=>?_,RB,∅,FW.mono (∅),f7.trans f8,λq=>by
    have z:=hz q;obtain⟨t1,t2,t3⟩:=ht q;omega⟩
   obtain⟨a1,a2,a3,a4⟩:=Qb p hp;exact⟨a1,a2,a3,∅⟩
 ·rintro ρ M6 ⟨o2,x6,ls,ps,rfl,hn,qc,Qb,RB,Wz,oV,f7,ht⟩;nofun;rw[bU hn];nofun;refine⟨s2,(s,ps),rfl,⟨⟨Z6,by show s<=_;omega⟩,by show ps.length<=4;omega,λp hp=>?_,RB⟩,λq=>?_,oV.mono (∅),f7⟩
  ·obtain⟨a1,a2,a3,a4⟩:=Qb p hp;exact⟨a1,a2,a3⟩
  ·obtain⟨t1,t2,t3⟩:=ht q;show ps.map (·.1)=fE (s-(ps.length:Int)) s;rw[t3,t2,<- t1]
theorem ip{α:Type}{P:α->Prop}{acc:List α}{x:α}(h:∀y∈acc,P y)(hx:P x):∀y∈acc++[x],P y:=by
 intro y hy;rcases fk.mp hy with z | z
 ·exact h y z
 ·have:y=x:=by simpa using z
  subst this;exact hx
theorem uG:itemAt M i (.items ds)=some ds[i]?:=rfl
def Tl(f:Fm)(s:Sd):Prop:=∀r,r<f.ro.length->((cB f r).2.2 == "heap")=false->CQ (load s r)
def Lu(f:Fm)(ls:List (Int×List (Int×Str))):Prop:=∀(j:Nat) l,ls[j]?=some l->((cB f j).2.2 == "heap")=false->CQ l
theorem Lu.snoc{f:Fm}{ls:List (Int×List (Int×Str))}{l:Int×List (Int×Str)}(h:Lu f ls) (k:((cB f ls.length).2.2 == "heap")=false->CQ l):Lu f (ls++[l]):=λj x e q=>by
 rcases Nat.lt_or_ge j ls.length with z | z
 ·rw[uU z]at e;exact h j x e q
 ·rw[List.getElem?_append_right z]at e
  have hj:j=ls.length:=by
   have:=(dU.mp e).1;simp only[List.length_cons,List.length_nil]at this;omega
  subst hj;simp at e;subst e;exact k q
theorem Lu.tl{st:List Int}{ls:List (Int×List (Int×Str))}(h:Lu f ls)(hl:ls.length=f.ro.length):Tl f ⟨st,ls⟩:=λr hr q=>h r _ (by
 show ls[r]?=some (ls.getD r (0,[]));rw[sk,dM (∅)];rfl) q
theorem Qc:CQ (0,[]):=rfl
def rK(F:Fn):Prop:=∀(M:aq)(ns:List Int)(f:Fm),ns.length<=63->cg f->aP (F [.ls (ns.map D.int),dk f] M) λr M'=>∃s,r=.d (cV s)/\bE f 4 s/\Tl f s/\Ex M M'
theorem Gg{G:du}{cL aA n_:Nat}(hW:pL (G cL))(hD:eO (G aA))(hL:wA (G n_)):rK (aw G 5 (rC cL aA n_)):=by
 intro M ns f kG hf;have h8:=hf.l8;have h4:=hf.l4;rw[bu];show dA G (rC cL aA n_) [some (.ls (ns.map D.int)),some (dk f),none,none,none] M _ _ _ _;nofun;refine(hW M ns 5 (∅) (∅) kG).imp ?_;rintro r M1 ⟨rfl,DL,zA,f1⟩;nofun;refine ig (ds:=f.ro.map sj) (λi M' acc=>M1=M'/\∃ls:List (Int×List (Int×Str)),acc=ls.map ik/\ls.length=i/\(∀l∈ls,gn 4 l)/\Lu f ls) (by decide) (λi M' acc _ _=>uG) ⟨rfl,[],rfl,rfl,(by intro l h;cases h),(by intro j l h;simp at h)⟩ ?_ ?_ rfl
 ·rintro i M' acc d hd ⟨rfl,ls,rfl,pS,Hy,zX⟩;have hi:=(dU.mp hd).1;rw[aX]at hi;refine⟨aG (by rw[aX];omega),?_⟩;nofun;refine⟨s0,s2,rfl,ls++[(0,[])],by simp[ik],by simp[pS],ip Hy ⟨⟨DA _,by show(0:Int)<=_;omega⟩,by simp,(by intro p h;cases h),.nil⟩,zX.snoc λ_=>Qc⟩
 rintro M' acc ⟨rfl,ls,rfl,pS,Hy,zX⟩;rw[aX]at pS;nofun;refine ig (ds:=f.ru.map pO) (λi M' acc=>M1=M'/\∃st:List Int,acc=st.map D.int/\st.length=i/\∀l∈st,0<=l/\l<100) (by decide) (λi M' acc _ _=>uG) ⟨rfl,[],rfl,rfl,(by intro l h;cases h)⟩ ?_ ?_ rfl
 ·rintro i M' acc d hd ⟨rfl,st,rfl,vO,Hz⟩;have hi:=(dU.mp hd).1;rw[aX]at hi;refine⟨aG (by rw[aX];omega),?_⟩;rw[dG,dM hi]at hd;cases hd;have hr:=(hf.ru i _ (dM hi)).1;nofun;refine⟨rfl,st++[f.ru[i].1],by simp,by simp[vO],ip Hz hr⟩
 rintro M' acc ⟨rfl,st,rfl,vO,Hz⟩;rw[aX]at vO;nofun;refine(hD M1 M.length 0 3 zA (∅) (∅) (∅)).imp ?_;rintro r M2 ⟨a,rfl,a0,a1,uo,f2⟩;nofun;by_cases ha:0<a
 ·rw[decide_eq_true ha];nofun;refine ig (ds:=f.ro.map sj) (λi M' acc=>(WA M' M.length (1+20*i)/\Fr M.length M M')/\∃ls:List (Int×List (Int×Str)),acc=ls.map ik/\ls.length=i/\(∀l∈ls,gn 4 l)/\Lu f ls) (by decide) (λi M' acc _ _=>uG) ⟨⟨uo.mono (∅),f1.trans f2⟩,[],rfl,rfl,(by intro l h;cases h),(by intro j l h;simp at h)⟩ ?_ ?_ rfl
  ·rintro i M' acc d hd ⟨⟨xZ,f3⟩,ls,rfl,pS,Hy,zX⟩;have hi:=(dU.mp hd).1;rw[aX]at hi;refine⟨aG (by rw[aX];omega),?_⟩;rw[(hf.rd hi).1]at hd;cases hd;nofun;refine(hL M' M.length _ _ xZ (∅) (hf.rd hi).2.ok).imp ?_;rintro r M4 ⟨l,rfl,hl,ht,k0,f4⟩;nofun;refine⟨⟨k0.mono (∅),f3.trans f4⟩,ls++[l],by simp,by simp[pS],ip Hy hl,zX.snoc (by rw[pS];exact ht)⟩
  rintro M3 acc ⟨⟨xZ,f3⟩,ls,rfl,pS,Hy,zX⟩;rw[aX]at pS xZ;nofun;refine(hD M3 M.length _ 4 xZ (∅) (∅) (∅)).imp ?_;rintro r M4 ⟨b,rfl,b0,b1,k0,f4⟩;nofun
  cases hb:(b==(0:Int))with
  | true =>
   nofun;refine ig (ds:=f.ru.map pO) (λi M' acc=>(WA M' M.length (300+i)/\Fr M.length M M')/\∃st:List Int,acc=st.map D.int/\st.length=i/\∀l∈st,0<=l/\l<100) (by decide) (λi M' acc _ _=>uG) ⟨⟨k0.mono (∅),f3.trans f4⟩,[],rfl,rfl,(by intro l h;cases h)⟩ ?_ ?_ rfl
   ·rintro i M' acc d hd ⟨⟨oJ,f5⟩,st,rfl,vO,Hz⟩;have hi:=(dU.mp hd).1;rw[aX]at hi;refine⟨aG (by rw[aX];omega),?_⟩;nofun;refine(hD M' M.length _ 100 oJ (∅) (∅) (∅)).imp ?_;rintro r M6 ⟨c,rfl,c0,c1,oV,f6⟩;nofun;refine⟨⟨oV.mono (∅),f5.trans f6⟩,st++[c],by simp,by simp[vO],ip Hz ⟨c0,c1⟩⟩
   rintro M5 acc ⟨⟨oJ,f5⟩,st,rfl,vO,Hz⟩;rw[aX]at vO;nofun;exact⟨s2,⟨st,ls⟩,rfl,⟨vO,Hz,pS,Hy⟩,zX.tl pS,f5⟩
  | false =>
   nofun;exact⟨s2,⟨st,ls⟩,rfl,⟨vO,Hz,pS,Hy⟩,zX.tl pS,f3.trans f4⟩
 ·rw[decide_eq_false ha];nofun;exact⟨s2,⟨st,ls⟩,rfl,⟨vO,Hz,pS,Hy⟩,zX.tl pS,f1.trans f2⟩
abbrev RC:=List (Int×List (Int×Str))
structure LA (M0 M:aq) (n7 n9:Nat) (as b:Nat->Nat) (st:List Int) (ld:RC):Prop where
 h7:M[n7]?=some (.lst (st.map D.int))
 h9:M[n9]?=some (.lst ((List.range ld.length).map λi=>D.ah (as i)))
 hl:∀i l,ld[i]?=some l->M[as i]?=some (.lst [.int l.1,.ah (b i)])/\M[b i]?=some (.lst (l.2.map pD))
 d1:∀i j,i<ld.length->j<ld.length->as i≠b j
 d2:∀i j,i<ld.length->j<ld.length->i≠j->as i≠as j/\b i≠b j
 d3:∀i,i<ld.length->as i≠n7/\b i≠n7/\as i≠n9/\b i≠n9
 ge:∀i,i<ld.length->M0.length<=as i/\M0.length<=b i
 fr:Ex M0 M
section
variable {M0 M:aq} {n7 n9:Nat} {as b:Nat->Nat} {st:List Int} {ld:RC}
theorem LA.WC(h:LA M0 M n7 n9 as b st ld)(hr:r<ld.length):cU (.d (.ah n9)) (.d (.int r)) M=.ok (.d (.ah (as r))) M :=
 a_ h.h9 (by rw[dG,List.getElem?_range hr];rfl)
theorem LA.Qd(h:LA M0 M n7 n9 as b st ld)(h0:0<=i)(hr:i.toNat<ld.length):cU (.d (.ah n9)) (.d (.int i)) M=.ok (.d (.ah (as i.toNat))) M:=by
 have:=h.WC hr;rw[Int.toNat_of_nonneg h0]at this;exact this
theorem LA.ex(h:LA M0 M n7 n9 as b st ld)(f:Ex M M'):LA M0 M' n7 n9 as b st ld :=
 ⟨Ex.get f h.h7,Ex.get f h.h9,λi l hi=>⟨Ex.get f (h.hl i l hi).1,Ex.get f (h.hl i l hi).2⟩,h.d1,h.d2,h.d3,h.ge,Ex.trans h.fr f⟩
theorem LA.app (h : LA M0 M n7 n9 as b st ld)  {l : Int × List (Int × Str)} (hr : ld[r]? = some l) (c : Str) :
    LA M0 ((M.set (b r) (.lst (l.2.map pD++[pD (l.1,c)]))).set (as r) (.lst [.int (l.1+1),.ah (b r)])) n7 n9 as b st (ld.set r (more l c)):=by
  have ko:=(dU.mp hr).1;obtain⟨g1,g2⟩:=h.hl r l hr;obtain⟨a7,b7,a9,b9⟩:=h.d3 r ko;have Mp:=h.d1 r r ko ko;obtain⟨ga,gb⟩:=h.ge r ko;have aR:(ld.set r (more l c)).length=ld.length:=List.length_set;refine⟨ao (ao h.h7 (Ne.symm b7)) (Ne.symm a7),?_,λi l' hi=>?_,by rw[aR];exact h.d1,by rw[aR];exact h.d2,by rw[aR];exact h.d3,by rw[aR];exact h.ge,Fr.set (Fr.set h.fr gb) ga⟩
  · rw[aR];exact ao (ao h.h9 (Ne.symm b9)) (Ne.symm a9)
  · have My:i<ld.length:=by rw[<- aR];exact(dU.mp hi).1
    by_cases e:i=r
    · subst e;rw[List.getElem?_set_self ko]at hi;cases hi;refine⟨aF (ao g1 Mp),?_⟩;refine ao (u:=.lst [.int (l.1+1),.ah (b i)]) (m:=as i) ?_ (Ne.symm Mp);rw[aF g2];unfold more;rw[iN];rfl
    · rw[List.getElem?_set_ne (Ne.symm e)]at hi;obtain⟨k1,k2⟩:=h.hl i l' hi;obtain⟨x1,x2⟩:=h.d2 i r My ko e;exact⟨ao (ao k1 (h.d1 i r My ko)) x1,ao (ao k2 x2) (Ne.symm (h.d1 r i ko My))⟩
theorem LA.cut (h : LA M0 M n7 n9 as b st ld)  {l : Int × List (Int × Str)} (hr : ld[r]? = some l) (k : Int) :
    LA M0 ((M++[MO.lst ((less l k).2.map pD)]).set (as r) (.lst [.int l.1,.ah M.length])) n7 n9 as (λi=>if i=r then M.length else b i) st (ld.set r (less l k)):=by
  have ko:=(dU.mp hr).1;obtain⟨g1,g2⟩:=h.hl r l hr;obtain⟨a7,b7,a9,b9⟩:=h.d3 r ko;obtain⟨ga,gb⟩:=h.ge r ko;have aR:(ld.set r (less l k)).length=ld.length:=List.length_set;have aM:∀i,i<ld.length->as i<M.length:=λi hi=>aj (h.hl i _ (dM hi)).1;have bM:∀i,i<ld.length->b i<M.length:=λi hi=>aj (h.hl i _ (dM hi)).2;have m7:=aj h.h7;have m9:=aj h.h9;have hmr:=aM r ko;refine⟨ao (ay h.h7) (Ne.symm a7),?_,λi l' hi=>?_,?_,?_,?_,?_,Fr.set (Fr.app h.fr) ga⟩
  · rw[aR];exact ao (ay h.h9) (Ne.symm a9)
  · have My:i<ld.length:=by rw[<- aR];exact(dU.mp hi).1
    by_cases e:i=r
    · subst e;rw[List.getElem?_set_self ko]at hi;cases hi;simp only[if_true];exact⟨aF (ay g1),ao ak (∅)⟩
    · rw[List.getElem?_set_ne (Ne.symm e)]at hi;obtain⟨k1,k2⟩:=h.hl i l' hi;obtain⟨x1,x2⟩:=h.d2 i r My ko e;simp only[if_neg e];exact⟨ao (ay k1) x1,ao (ay k2) (Ne.symm (h.d1 r i ko My))⟩
  · rw[aR];intro i j hi hj;have:=aM i hi;split
    · omega
    · exact h.d1 i j hi hj
  · rw[aR];intro i j hi hj Oa;have:=bM i hi;have:=bM j hj;obtain⟨x1,x2⟩:=h.d2 i j hi hj Oa;refine⟨x1,?_⟩;split<;>split<;>first | omega | exact x2
  · rw[aR];intro i hi;obtain⟨x1,x2,x3,x4⟩:=h.d3 i hi;refine⟨x1,?_,x3,?_⟩
    · split
      · omega
      · exact x2
    · split
      · omega
      · exact x4
  · rw[aR];intro i hi;obtain⟨x1,x2⟩:=h.ge i hi;refine⟨x1,?_⟩;have:=h.fr.1;split
    · exact this
    · exact x2
end
def Qe:List S:=[.bq [10,11] .seq [(.ae 4)] [.expr (.me .append (.sub (.sub (.ae 9) (.ae 10)) (.ai (.int 1))) [(.tup [(.sub (.sub (.ae 9) (.ae 10)) (.ai (.int 0))),(.ae 11)])]),.put (.sub (.ae 9) (.ae 10)) (.ai (.int 0)) (.bin .add (.sub (.sub (.ae 9) (.ae 10)) (.ai (.int 0))) (.ai (.int 1)))],.asg [12] (.bi .tuple1 [(.comp .seq [(.ae 9)] [1] none (.tup [(.sub (.ae 1) (.ai (.int 0))),(.bi .tuple1 [(.sub (.ae 1) (.ai (.int 1)))])]) [none,none])]),.ret (.tup [(.tup [(.bi .tuple1 [(.ae 7)]),(.ae 12)]),(.ite (.val (.cmp .sg (.ae 5) (.ai .aQ))) (.ai .aQ) (.tup [(.ae 6),(.ae 5)]))])]
theorem oo {G : du} {M0 M : aq} {n7 n9 m N : Nat} {as b : Nat -> Nat} {o0 o1 o2 o3 o8 eF eT jC : Option D} {sd : List (Int × Str)} {w : Option Str} {st : List Int} {ld : RC} {nx : En -> aq -> Prop} {rt : W -> aq -> Prop} {bk ct : En -> aq -> Prop}
    (hA:LA M0 M n7 n9 as b st ld) (Mo:∀l∈ld,gn N l) (hN:N<=900) (ml:∀p∈sd,d_ p.2/\0<=p.1/\p.1.toNat<ld.length) (h3:sd.length<=3) (h8:ld.length<=8)
    (q:∀M',Ex M0 M'->rt (.d (.tup [.tup [.tup (st.map D.int),.tup ((cC ld sd).map ik)],Ln m w])) M') :
    dA G Qe [o0,o1,o2,o3,some (.tup (sd.map pD)),some (K7 w),some (.int m),some (.ah n7),o8,some (.ah n9),eF,eT,jC] M nx rt bk ct:=by
  nofun;refine fN (ds:=sd.map pD) (λi ρ M'=>∃eF eT,ρ=[o0,o1,o2,o3,some (.tup (sd.map pD)),some (K7 w),some (.int m),some (.ah n7),o8,some (.ah n9),eF,eT,jC]/\LA M0 M' n7 n9 as b st (cC ld (sd.take i))) ⟨_,_,rfl,hA⟩ ?_ ?_
  · rintro i ρ M' dd bP ⟨eF,eT,rfl,hA⟩;rw[dG]at bP
    cases e:sd[i]? with
    | none=>rw[e]at bP;cases bP
    | some p =>
      rw[e]at bP;cases bP;obtain⟨p1,p2,p3⟩:=ml p (gU e);have hi:=(dU.mp e).1;have zW:p.1.toNat<(cC ld (sd.take i)).length:=by rw[j9];exact p3
      have bF:=mr (n:=i) Mo (λq hq=>⟨(ml q (List.mem_of_mem_take hq)).1,(ml q (List.mem_of_mem_take hq)).2.2⟩) (by rw[List.length_take];omega:(sd.take i).length<=i);have El:=gp (d:=((0:Int),([]:List (Int×Str)))) bF zW;have RA:=El.n;have wB:(cC ld (sd.take i))[p.1.toNat]?=some ((cC ld (sd.take i)).getD p.1.toNat (0,[])):=by rw[sk,dM zW];rfl
      have RE:cC ld (sd.take (i+1))=(cC ld (sd.take i)).set p.1.toNat (more ((cC ld (sd.take i)).getD p.1.toNat (0,[])) p.2):=by rw[bo e,k_]
      rw[RE];generalize (cC ld (sd.take i)).getD p.1.toNat (0,[])=l at El RA wB⊢;obtain⟨g1,g2⟩:=hA.hl _ _ wB;have Mp:=hA.d1 _ _ zW zW;nofun;rw[hA.Qd p2 zW];nofun;rw[bO g1 (i:=1) (x:=.ah (b p.1.toNat)) (by decide) rfl];nofun;refine⟨aW g2,?_⟩;nofun;rw[hA.Qd p2 zW];nofun;rw[bO g1 (i:=0) (x:=.int l.1) (by decide) rfl];nofun;refine⟨s2,?_⟩;nofun;rw[bD g2 (aG (by rw[aX];omega))];nofun;have k9:(M'.set (b p.1.toNat) (.lst (l.2.map pD++[.tup [.int l.1,.str p.2]])))[n9]?=some (.lst ((List.range (cC ld (sd.take i)).length).map λi=>D.ah (as i))):=ao hA.h9 (Ne.symm (hA.d3 _ zW).2.2.2);have ka:(M'.set (b p.1.toNat) (.lst (l.2.map pD++[.tup [.int l.1,.str p.2]])))[as p.1.toNat]?=some (.lst [.int l.1,.ah (b p.1.toNat)]):=ao g1 Mp;have WD:cU (.d (.ah n9)) (.d (.int p.1)) (M'.set (b p.1.toNat) (.lst (l.2.map pD++[.tup [.int l.1,.str p.2]])))=.ok (.d (.ah (as p.1.toNat))) (M'.set (b p.1.toNat) (.lst (l.2.map pD++[.tup [.int l.1,.str p.2]]))):=bO k9 p2 (by rw[dG,List.getElem?_range zW];rfl);rw[WD];nofun;rw[bO ka (i:=0) (x:=.int l.1) (by decide) rfl];nofun;rw[WD];nofun;rw[nV (i:=0) ka (by decide) (show 0<2 by decide)];exact⟨_,_,rfl,hA.app wB p.2⟩
  · rintro ρ M' ⟨eF,eT,rfl,hA⟩;rw[aX,List.take_length]at hA;have bF:=mr (n:=3) Mo (λq hq=>⟨(ml q hq).1,(ml q hq).2.2⟩) h3;have aR:(cC ld sd).length=ld.length:=j9;nofun;rw[dJ hA.h9];refine ig (ds:=(List.range (cC ld sd).length).map λi=>D.ah (as i)) (λi M2 acc=>M'=M2/\acc=((cC ld sd).take i).map ik) (by decide) (λi M2 acc h hi=>lG hA.h9 M2 (by rw[<- h.1];exact Ex.refl _) i hi) ⟨rfl,rfl⟩ ?_ ?_ (nU hA.h9)
    · rintro i M2 acc dd bP ⟨rfl,rfl⟩;have hi:=(dU.mp bP).1;rw[aX,List.length_range]at hi;rw[dG,List.getElem?_range hi]at bP;cases bP;obtain⟨g1,g2⟩:=hA.hl i _ (dM hi);refine⟨aG (by rw[aX,List.length_take];omega),?_⟩;nofun;rw[bO g1 (i:=0) (x:=.int (cC ld sd)[i].1) (by decide) rfl];nofun;rw[bO g1 (i:=1) (x:=.ah (b i)) (by decide) rfl];nofun;rw[bU g2];nofun;refine⟨s2,rfl,?_⟩;rw[bo (dM hi),iN];rfl
    rintro M2 acc ⟨rfl,rfl⟩;rw[aX,List.length_range,List.take_length];nofun;rw[bU hA.h7]
    cases w with
    | none =>
      nofun;exact⟨s2,s2,q M' hA.fr⟩
    | some x =>
      nofun;refine⟨s2,s2,s2,q M' hA.fr⟩
theorem Lv{G:du}{bw fV:Nat}(hA:lb (G bw))(Lo:j8 (G fV)):lH (aw G 13 (we bw fV)):=by
 intro M f N s d x hf hs hN hd hx;have hm:=hd.mc hf;have Ga:=uy hf hs hd hx;have h8:=hf.l8;have pS:=hs.ll;obtain⟨a,sd,w⟩:=x;rw[bu];show dA G (we bw fV) [some (dk f),some (cV s),some (cF d),none,none,none,none,none,none,none,none,none,none] M _ _ _ _;nofun;refine(hA M f N s d hf hs hN hd).imp ?_;rintro r M1 ⟨f1,e⟩;rw[hx]at e;subst e;nofun;refine(Lo M1 f d hf hd).imp ?_;rintro r M2 ⟨rfl,rfl⟩;nofun;have eJ:mc f d<(s.st.map D.int).length:=by rw[aX,hs.ls];exact hm
 rw[gL ak eJ];nofun;have g7:((M1++[MO.lst (s.st.map D.int)]).set M1.length (.lst ((s.st.map D.int).set (mc f d) (.int a))))[M1.length]?=some (.lst ((s.st.set (mc f d) a).map D.int)):=by rw[aF ak,List.map_set]
 have Eu:Ex M ((M1++[MO.lst (s.st.map D.int)]).set M1.length (.lst ((s.st.map D.int).set (mc f d) (.int a)))):=Fr.set (Fr.app f1) f1.1;have DL:=f1.1;have RF:=aj g7;generalize (M1++[MO.lst (s.st.map D.int)]).set M1.length (.lst ((s.st.map D.int).set (mc f d) (.int a)))=M5 at g7 Eu RF⊢;have Qf:=Eu.1
 have ml:∀(ld:RC),ld.length=f.ro.length->∀p∈sd,d_ p.2/\0<=p.1/\p.1.toNat<ld.length:=λld hl p hp=>by
  obtain⟨a,b,r,c,_⟩:=Ga.sd p hp;exact⟨a,b,by rw[hl];exact(dU.mp c).1⟩
 have zX:PF f d (a,sd,w)=Ln (mc f d) w:=by cases w<;>rfl
 rw[zX];refine ig (ds:=s.ld.map ik) (λi M' acc=>acc=(List.range i).map (λj=>D.ah (M5.length+2*j+1))/\M'.length=M5.length+2*i/\(∀j l,j<i->s.ld[j]?=some l->M'[M5.length+2*j+1]?=some (.lst [.int l.1,.ah (M5.length+2*j)])/\M'[M5.length+2*j]?=some (.lst (l.2.map pD)))/\Ex M5 M') (by decide) (λi M' acc _ _=>uG) ⟨rfl,rfl,(by intro j l h;omega),Ex.refl _⟩ ?_ ?_ rfl
 ·rintro i M' acc dd bP ⟨rfl,hl,hj,fr⟩;have hi:=(dU.mp bP).1;rw[aX]at hi;rw[dG,dM hi]at bP;cases bP;refine⟨aG (by rw[aX,List.length_range];omega),?_⟩;nofun;refine⟨s2,?_⟩;nofun;have DD:(M'++[MO.lst (s.ld[i].2.map pD)]).length=M5.length+2*i+1:=by rw[gV,hl];rfl
  refine⟨?_,by rw[gV,DD];simp;omega,?_,Fr.app (Fr.app fr)⟩
  ·rw[List.range_succ,iN,DD];rfl
  ·intro j l hji Qg;by_cases e:j=i
   ·subst e;rw[dM hi]at Qg;cases Qg;rw[<- DD,<- hl];exact⟨ak,ay ak⟩
   ·obtain⟨k1,k2⟩:=hj j l (∅) Qg;exact⟨ay (ay k1),ay (ay k2)⟩
 rintro M6 acc ⟨rfl,hl,hj,fr⟩;rw[aX]at hl hj⊢
 have HA:LA M (M6++[MO.lst ((List.range s.ld.length).map λj=>D.ah (M5.length+2*j+1))]) M1.length M6.length (λj=>M5.length+2*j+1) (λj=>M5.length+2*j) (s.st.set (mc f d) a) s.ld:=by
  refine⟨ay (Ex.get fr g7),ak,λi l hi=>?_,λi j hi hj=>?_,λi j hi hj Oa=>⟨?_,?_⟩,λi hi=>⟨?_,?_,?_,?_⟩,λi hi=>⟨?_,?_⟩,Fr.app (Ex.trans Eu fr)⟩
  ·obtain⟨k1,k2⟩:=hj i l (dU.mp hi).1 hi;exact⟨ay k1,ay k2⟩
  all_goals (try dsimp only)
  all_goals omega
 cases d with
 | own m =>
  nofun;rw[bz bV aI,wm];exact oo HA hs.ld hN (ml _ pS) Ga.l (∅) λM2 f2=>⟨f2,rfl⟩
 | dg m c' =>
  nofun;rw[bz cb aI,uA];exact oo HA hs.ld hN (ml _ pS) Ga.l (∅) λM2 f2=>⟨f2,rfl⟩
 | bp r k =>
  have hr:r<s.ld.length:=by rw[hs.ll];exact hd
  have El:=gp (d:=((0:Int),([]:List (Int×Str)))) hs.ld hr;have RA:=El.n;have wB:s.ld[r]?=some (s.ld.getD r (0,[])):=by rw[sk,dM hr];rfl
  have hle:cN s.ld (.bp r k)=s.ld.set r (less (s.ld.getD r (0,[])) k):=rfl;nofun;rw[bz aI aI,rF];generalize M6++[MO.lst ((List.range s.ld.length).map λj=>D.ah (M5.length+2*j+1))]=M7 at HA⊢;obtain⟨as,b,HA⟩:∃as b,LA M M7 M1.length M6.length as b (s.st.set (mc f (.bp r k)) a) s.ld:=⟨_,_,HA⟩;nofun;rw[HA.WC hr];obtain⟨g1,g2⟩:=HA.hl _ _ wB;nofun;rw[bO g1 (i:=1) (x:=.ah (b r)) (by decide) rfl];nofun;rw[dJ g2];refine uE (ps:=(s.ld.getD r (0,[])).2) (k:=k) (it:=.at (b r)) (lG g2) (∅) ?_ ?_ (λM8 f8=>?_) (nU g2)
  ·intro M' p Q _ h;exact h
  ·show 1<3;decide
  have WE:=HA.ex f8;have Z8:=(WE.hl _ _ wB).1;nofun;rw[nV (i:=1) (ay Z8) (by decide) (show 1<2 by decide)];have Z9:=WE.cut wB k;refine oo Z9 (om (d:=.bp r k) hs.ld λr' k' e=>by cases e;exact hr) hN (ml _ (by rw[List.length_set];exact pS)) Ga.l (by rw[List.length_set];omega) λM2 f2=>⟨f2,rfl⟩
def yk:Dn->PyData
 | .own m=>.tuple [.str "own",.int m]
 | .dg m c=>.tuple [.str "hear",.int m,.str c]
 | .bp r k=>.tuple [.str "come",.int r,.int k]
theorem Qh(h:1<=n):cW M n (cF d)=some (yk d):=by
 obtain⟨n,rfl⟩:∃m,n=m+1:=⟨n-1,∅⟩;cases d<;>(show cW M (n+1) (.tup _)=_;try simp only[cW,bG,Option.map_some];try rfl)
theorem wC(h:1<=n):∀ds:List Dn,bG M n (ds.map cF)=some (ds.map yk)
 | []=>by rw[List.map_nil];unfold bG;rfl
 | d::ds=>by
  rw[List.map_cons];unfold bG;rw[Qh h,wC h ds];rfl
def Qi:Dn->Prop
 | .dg _ c=>PyData.strOk c=true
 | _=>True
theorem dh.s(h:dh f d):Qi d:=by
 cases d with
 | own m=>trivial
 | dg m c=>exact h.2.ok.1
 | bp r k=>trivial
theorem Lw(h:Qi d):PyData.canLay0 (yk d)=true/\PyData.depth (yk d)<=1:=by
 cases d with
 | own m =>
  unfold yk;simp only[PyData.canLay0.eq_6,PyData.canLayAll0.eq_2,PyData.canLayAll0.eq_1,PyData.canLay0.eq_3,PyData.canLay0.eq_4,bV,PyData.depth.eq_2,PyData.depthAll.eq_2,PyData.depthAll.eq_1,PyData.depth.eq_6,PyData.depth.eq_7];decide
 | dg m c =>
  have h:PyData.strOk c=true:=h;unfold yk;simp only[PyData.canLay0.eq_6,PyData.canLayAll0.eq_2,PyData.canLayAll0.eq_1,PyData.canLay0.eq_3,PyData.canLay0.eq_4,cb,h,PyData.depth.eq_2,PyData.depthAll.eq_2,PyData.depthAll.eq_1,PyData.depth.eq_6,PyData.depth.eq_7];decide
 | bp r k =>
  unfold yk;simp only[PyData.canLay0.eq_6,PyData.canLayAll0.eq_2,PyData.canLayAll0.eq_1,PyData.canLay0.eq_3,PyData.canLay0.eq_4,aI,PyData.depth.eq_2,PyData.depthAll.eq_2,PyData.depthAll.eq_1,PyData.depth.eq_6,PyData.depth.eq_7];decide
theorem ym:∀{ds:List Dn},(∀d∈ds,Qi d)->PyData.canLayAll0 (ds.map yk)=true/\PyData.depthAll (ds.map yk)<=1
 | [],_=>by rw[List.map_nil,PyData.canLayAll0.eq_1,PyData.depthAll.eq_1];decide
 | d::ds,h=>by
  obtain⟨a1,a2⟩:=Lw (h d List.mem_cons_self);obtain⟨b1,b2⟩:=ym (ds:=ds) λx hx=>h x (ja _ hx);rw[List.map_cons,PyData.canLayAll0.eq_2,PyData.depthAll.eq_2,a1,b1];exact⟨rfl,∅⟩
theorem CS{ds:List Dn}(h:∀d∈ds,Qi d):SeqAt.shaped (.list (ds.map yk))=true:=by
 obtain⟨a,b⟩:=ym h;unfold SeqAt.shaped;rw[PyData.canLay0.eq_5,a,PyData.depth.eq_1,Bool.true_and];exact decide_eq_true (∅)
theorem CT{n:Nat}{ds:List Dn}(hM:M[n]?=some (.lst (ds.map cF)))(h:∀d∈ds,Qi d):aY .ne (.d (.ah n)) (.lv []) M=.ok (!ds.isEmpty) M:=by
 have h1:iw M (.d (.ah n))=some (.list (ds.map yk)):=by
  show cW M 30 (.ah n)=_;unfold cW
  try simp only[hM]
  rw[wC (by decide) ds];rfl
 have h2:iw M (.lv [])=some (.list []):=by show(bG M 30 []).map _=_;unfold bG;rfl
 have h3:=CS h;have h4:SeqAt.shaped (.list [])=true:=⋯;unfold aY
 try simp only[h1,h2,h3,h4,and_self,if_true,PyData.eqv.eq_7]
 cases ds with
 | nil=>rw[List.map_nil,PyData.eqvAll.eq_1];rfl
 | cons d ds =>
  have:PyData.eqvAll (yk d::ds.map yk) []=false:=by simp only[PyData.eqvAll]
  rw[List.map_cons,this];rfl
noncomputable def WG:D->Option D
 | .tup [a,b,_]=>some (.tup [.str "come",a,b])
 | _=>none
def cm(f:Fm)(s:Sd):List Dn:=(fl f s f.ro.length).map λx=>.bp x.1 x.2.1
theorem CU:∀l:List (Nat×Int×Str),(l.map tD).filterMap WG=(l.map λx=>Dn.bp x.1 x.2.1).map cF
 | []=>rfl
 | x::l=>by
  have:=CU l;rw[List.map_cons,List.filterMap_cons,this];rfl
theorem CV(hs:bE f N s)(h:d∈cm f s):dh f d/\cn f s d=true:=by
 obtain⟨⟨r,k,c⟩,hx,rfl⟩:=gZ.mp h;obtain⟨h1,h2⟩:=(rJ _).mp hx;refine⟨h1,?_⟩;rw[yf hs h1];exact decide_eq_true (gZ.mpr ⟨_,h2,rfl⟩)
theorem CW(hf:cg f)(hs:bE f N s)(hN:N<=900):(cm f s).length<=7200:=by
 unfold cm;rw[aX];exact Nat.le_trans (wz hs _ (bJ _)) (Nat.mul_le_mul hN hf.l8)
theorem Gh (hM : M[n]? = some (.lst ((fl f s f.ro.length).map tD))) (hl : (fl f s f.ro.length).length <= 7200)  (q : ∀ M', Ex M M' -> P (.lv ((cm f s).map cF)) M')  (hk : k = ((fl f s f.ro.length).map tD).length) :
    aP (bc (λτ M=>bH G none τ M) (λτ M=>(ev G (.tup [(.ai (.str "come")),(.ae 1),(.ae 2)]) τ M).bind own) (.at n) [1,2,3] k 0 [none,none,none,none] M []) P:=by
  refine jZ (ds:=(fl f s f.ro.length).map tD) WG (by decide) (lG hM) (by rw[aX];exact Nat.le_trans hl (by decide)) ?_ ?_ hk
  · intro i M' d hd fr;rw[dG]at hd
    cases e:(fl f s f.ro.length)[i]? with
    | none=>rw[e]at hd;cases hd
    | some p =>
      rw[e]at hd;cases hd;nofun;exact⟨s3,rfl,fr⟩
  · intro M' fr;rw[CU];exact q M' fr
theorem WA.ex(h:WA M w T)(f:Ex M M'):WA M' w T:=h.fr f (by have:=h.lt;omega)
theorem HB{ds:List Dn}{i:Int}(h0:0<=i)(h1:i<ds.length):∃d,d∈ds/\(ds.map cF)[i.toNat]?=some (cF d):=by
 have hl:i.toNat<ds.length:=∅;exact⟨ds[i.toNat],List.getElem_mem hl,by rw[dG,dM hl];rfl⟩
def wD(F:Fn):Prop:=∀(M:aq)(w:Nat)(T:Int)(f:Fm)(N:Nat)(s:Sd),WA M w T->T<10000->cg f->bE f N s->N<=900->aP (F [.ah w,dk f,cV s] M) λr M'=>∃d,r=.d (cF d)/\dh f d/\cn f s d=true/\Fr w M M'
theorem Lx{eB bw aA:Nat}(hC:mw (G eB))(hA:lb (G bw))(hD:eO (G aA)):wD (aw G 7 (wj eB bw aA)):=by
  intro M w T f N s hw hT hf hs hN;have h4:=hf.l4;have h1:=hf.l1;have Ej:=hw.lt;rw[bu];show dA G (wj eB bw aA) [some (.ah w),some (dk f),some (cV s),none,none,none,none] M _ _ _ _;nofun;refine(hC M f N s hf hs hN).imp ?_;rintro o M1 ⟨n,rfl,zV,hn,f1⟩;nofun;rw[dJ hn];refine Gh hn (by have:=CW hf hs hN;unfold cm at this;rw[aX]at this;exact this) (λM2 f2=>?_) (nU hn);have Qj:=Ex.trans f1 f2;nofun;refine⟨s0,?_⟩;nofun;refine⟨⟨by rw[aX];omega,by rw[aX];omega⟩,?_⟩;have zS:(M2++[MO.lst ((cm f s).map cF)])[M2.length]?=some (.lst ((cm f s).map cF)):=ak;have DD:=Qj.1;have kr:Fr w M (M2++[MO.lst ((cm f s).map cF)]):=Fr.app ((Fr.refl w M).back Qj (.inl (bJ _)));have uo:WA (M2++[MO.lst ((cm f s).map cF)]) w T:=(hw.ex Qj).app;have aR:(M2++[MO.lst ((cm f s).map cF)]).length=M2.length+1:=by simp
  generalize (M2++[MO.lst ((cm f s).map cF)])=M3 at zS kr uo aR⊢;generalize M2.length=n3 at zS DD aR⊢;refine eE (n:=((f.ru.map pO).length:Int).toNat) (λi ρ M'=>∃o5,∃ms:List Dn,ρ=[some (.ah w),some (dk f),some (cV s),some (.ah n3),some (.ah M3.length),o5,none]/\M'[n3]?=some (.lst ((cm f s).map cF))/\M'[M3.length]?=some (.lst (ms.map cF))/\ms.length<=i/\(∀d∈ms,dh f d/\cn f s d=true)/\WA M' w T/\Fr w M M') ⟨_,[],rfl,ay zS,ak,bJ _,(by intro d h;cases h),uo.app,kr.app⟩ ?_ ?_
  · rintro i ρ M' hi ⟨o5,ms,rfl,hc,hm,P8,zH,PB,F_⟩;have hi:i<f.ru.length:=by rw[aX]at hi;omega
    have bF:dh f (.own i):=hi;rw[show(0:Int)+(i:Int)=((i:Nat):Int) by omega];nofun;refine⟨s2,?_⟩;nofun;refine(hA M' f N s (.own i) hf hs hN bF).imp ?_;rintro r M4 ⟨f4,rfl⟩;have WH:=Ex.get f4 hc;have Hs:=Ex.get f4 hm;have iM:=F_.back f4 (.inl F_.1);have k0:=PB.ex f4;nofun;rw[PY]
    cases Z_:(rp f s (.own i)).isSome with
    | true =>
      nofun;refine⟨aW Hs,?_⟩;nofun;refine⟨s2,?_⟩;nofun;rw[bD Hs (aG (by rw[aX];omega))];refine⟨_,ms++[.own i],rfl,ao WH (∅),?_,by simp;omega,ip (x:=Dn.own i) zH ⟨bF,Z_⟩,k0.set (by have:=kr.1;omega),iM.set (by have:=kr.1;omega)⟩;rw[aF Hs,iN];rfl
    | false =>
      exact⟨_,ms,rfl,WH,Hs,∅,zH,k0,iM⟩
  rintro ρ M' ⟨o5,ms,rfl,hc,hm,P8,zH,PB,F_⟩;have P8:ms.length<=4:=by rw[aX]at P8;omega
  have Rl:=CW hf hs hN;have hM3:=kr.1;nofun;refine(hD M' w T 8 PB (∅) (∅) (∅)).imp ?_;rintro r M5 ⟨wy,rfl,y0,y1,oJ,f5⟩;have Vg:=f5.get hc (∅);have Vh:=f5.get hm (∅);have lr:=F_.trans f5;nofun;refine⟨s0,?_⟩;nofun;rw[CT Vg λd hd=>(CV hs hd).1.s]
  have second : dA G [.iff (.dq [(.val (.cmp .ne (.ae 4) (.lst []))), (.val (.cmp .lt (.ae 6) (.ai (.int 7))))]) [.ret (.sub (.ae 4) (.call aA [(.ae 0), (.bi .len [(.ae 4)])]))] [], .ret (.tup [(.ai (.str "hear")), (.call aA [(.ae 0), (.bi .len [(.sub (.ae 1) (.ai (.int 0)))])]), (.sub (.ai (.str "abcz")) (.call aA [(.ae 0), (.ai (.int 4))]))])]
      [some (.ah w),some (dk f),some (cV s),some (.ah n3),some (.ah M3.length),o5,some (.int wy)] M5 (λρ M'=>∃d,W.d D.aQ=.d (cF d)/\dh f d/\cn f s d=true/\Fr w M M') (λr M'=>∃d,r=.d (cF d)/\dh f d/\cn f s d=true/\Fr w M M') (λ_ _=>False) (λ_ _=>False):=by
    have HC : dA G [.ret (.tup [(.ai (.str "hear")), (.call aA [(.ae 0), (.bi .len [(.sub (.ae 1) (.ai (.int 0)))])]), (.sub (.ai (.str "abcz")) (.call aA [(.ae 0), (.ai (.int 4))]))])]
        [some (.ah w),some (dk f),some (cV s),some (.ah n3),some (.ah M3.length),o5,some (.int wy)] M5 (λρ M'=>∃d,W.d D.aQ=.d (cF d)/\dh f d/\cn f s d=true/\Fr w M M') (λr M'=>∃d,r=.d (cF d)/\dh f d/\cn f s d=true/\Fr w M M') (λ_ _=>False) (λ_ _=>False):=by
      nofun;refine(hD M5 w _ ((f.ru.map pO).length:Int) oJ (∅) (by rw[aX];omega) (by rw[aX];omega)).imp ?_;rintro r M6 ⟨i,rfl,i0,i1,oV,f6⟩;nofun;refine(hD M6 w _ 4 oV (∅) (∅) (∅)).imp ?_;rintro r M7 ⟨j,rfl,j0,j1,FW,f7⟩;obtain⟨c,hc,Gf⟩:=KW (M:=M7) j0 j1;nofun;rw[hc];nofun;rw[aX]at i1;refine⟨s3,.dg i.toNat c,?_,⟨∅,Gf⟩,?_,(lr.trans f6).trans f7⟩
      · show W.d (.tup [.str "hear",.int i,.str c])=.d (.tup [.str "hear",.int (i.toNat:Nat),.str c]);rw[Int.toNat_of_nonneg i0]
      · obtain⟨x,hx⟩:=rE (mv:=pP f i.toNat) (s:=s.st.getD i.toNat 0) Gf;show(an (pP f i.toNat) (s.st.getD i.toNat 0) c).isSome=true;rw[hx];rfl
    nofun;refine⟨s0,?_⟩;nofun;rw[CT Vh λd hd=>(zH d hd).1.s]
    cases ms with
    | nil=>exact HC
    | cons d0 ms =>
      nofun;by_cases hy:wy<7
      · rw[decide_eq_true hy];nofun;rw[df Vh];nofun;refine(hD M5 w _ (((d0::ms).map cF).length:Int) oJ (∅) (by rw[aX,List.length_cons];omega) (by rw[aX];omega)).imp ?_;rintro r M6 ⟨i,rfl,i0,i1,oV,f6⟩;rw[aX]at i1;obtain⟨d,hd,hg⟩:=HB i0 i1;nofun;rw[bO (f6.get Vh (∅)) i0 hg];exact⟨d,rfl,(zH d hd).1,(zH d hd).2,lr.trans f6⟩
      · rw[decide_eq_false hy];exact HC
  cases WI:(cm f s).isEmpty with
  | true=>exact second
  | false =>
    nofun;by_cases hy:wy<4
    · rw[decide_eq_true hy];nofun;rw[df Vg];nofun
      have aaa:0<(cm f s).length:=by
        cases hz:cm f s with
        | nil=>rw[hz]at WI;cases WI
        | cons a b=>simp
      refine(hD M5 w _ (((cm f s).map cF).length:Int) oJ (∅) (by rw[aX];omega) (by rw[aX];omega)).imp ?_;rintro r M6 ⟨i,rfl,i0,i1,oV,f6⟩;rw[aX]at i1;obtain⟨d,hd,hg⟩:=HB i0 i1;nofun;rw[bO (f6.get Vg (∅)) i0 hg];exact⟨d,rfl,(CV hs hd).1,(CV hs hd).2,lr.trans f6⟩
    · rw[decide_eq_false hy];exact second
end Ev
end
section
namespace Ev
open PySem
noncomputable def wF(Gi:Nat)(yn:Nat):List S:=[.asg [3] (.lst []),.asg [4] (.ae 1),.bq [5,6] .enum [(.ae 2)] [.iff (.neg (.val (.call Gi [(.ae 0),(.ae 4),(.ae 6)]))) [.never] [],.asg [7] (.call yn [(.ae 0),(.ae 4),(.ae 6)]),.asg [4] (.sub (.ae 7) (.ai (.int 0))),.expr (.me .append (.ae 3) [(.ae 7)])],.ret (.ae 3)]
noncomputable def rL(cL:Nat)(aA:Nat)(rM:Nat)(bX:Nat):List S:=[.asg [4] (.call cL [(.ae 0),(.ai (.int 6))]),.asg [5] (.lst []),.asg [6] (.lst [(.call aA [(.ae 4),(.ai (.int 13))]),(.bin .add (.ai (.int 6)) (.call aA [(.ae 4),(.ai (.int 13))])),(.bin .sub (.ae 3) (.call aA [(.ae 4),(.ai (.int 4))]))]),.bq [7] .dm [(.sub (.ae 6) (.bin .fdiv (.call aA [(.ae 4),(.ai (.int 9))]) (.ai (.int 4))))] [.asg [8] (.call rM [(.call cL [(.ae 0),(.bin .add (.ai (.int 7)) (.ae 7))]),(.ae 1),(.ae 2)]),.expr (.me .append (.ae 5) [(.ae 8)]),.asg [2] (.sub (.call bX [(.ae 1),(.ae 2),(.ae 8)]) (.ai (.int 0)))],.ret (.ae 5)]
end Ev
end
section
namespace Ev
open L2
open PySem PySem.Spec PyProof.Rows
def wG(f:Fm)(s:Sd)(d:Dn):Int×List (Int×Str)×Option Str:=(rp f s d).getD (0,[],none)
def bW(f:Fm)(s:Sd)(d:Dn):Sd:=PD f s d (wG f s d)
def fin(f:Fm)(s:Sd)(ds:List Dn):Sd:=ds.foldl (bW f) s
def tr(f:Fm):Sd->List Dn->List (Sd×Nat×Option Str)
 | _,[]=>[]
 | s,d::ds=>(bW f s d,mc f d,(wG f s d).2.2)::tr f (bW f s d) ds
def dC(f:Fm):Sd->List Dn->Prop
 | _,[]=>True
 | s,d::ds=>(dh f d/\cn f s d=true)/\dC f (bW f s d) ds
theorem rN:fin f s (a++b)=fin f (fin f s a) b:=by unfold fin;rw[List.foldl_append]
theorem mx:∀{a b:List Dn}{s:Sd},dC f s (a++b)↔dC f s a/\dC f (fin f s a) b
 | [],b,s=>⟨λh=>⟨trivial,h⟩,λh=>h.2⟩
 | d::a,b,s=>by
  show _/\dC f (bW f s d) (a++b)↔(_/\dC f (bW f s d) a)/\dC f (fin f (bW f s d) a) b;rw[mx (a:=a)];constructor
  ·rintro⟨h1,h2,h3⟩;exact⟨⟨h1,h2⟩,h3⟩
  ·rintro⟨⟨h1,h2⟩,h3⟩;exact⟨h1,h2,h3⟩
theorem CY:∀{a b:List Dn}{s:Sd},tr f s (a++b)=tr f s a++tr f (fin f s a) b
 | [],b,s=>rfl
 | d::a,b,s=>by
  show _::tr f (bW f s d) (a++b)=_;rw[CY (a:=a)];rfl
theorem rO:∀{a:List Dn}{s:Sd},(tr f s a).length=a.length
 | [],s=>rfl
 | d::a,s=>by show(tr f (bW f s d) a).length+1=_;rw[rO];rfl
theorem CZ{α:Type}{l:List α}{i:Nat}{x:α}(h:l[i]?=some x):l=l.take i++x::l.drop (i+1):=by
 obtain⟨hi,rfl⟩:=dU.mp h;rw[<- List.drop_eq_getElem_cons hi,List.take_append_drop]
theorem gP(h:dC f s ds)(hi:ds[i]?=some d):dh f d/\cn f (fin f s (ds.take i)) d=true:=by
 rw[CZ hi,mx]at h;exact h.2.1
theorem gq(h:dC f s ds):dC f s (ds.take i):=by
 rw[<- List.take_append_drop i ds,mx]at h;exact h.1
theorem oq(h:cn f s d=true):rp f s d=some (wG f s d):=by
 unfold cn at h;obtain⟨x,e⟩:=Option.isSome_iff_exists.mp h;unfold wG;rw[e];rfl
theorem bE.bW(hf:cg f)(h:bE f N s)(hd:dh f d)(hc:cn f s d=true):bE f (N+3) (bW f s d):=h.PD hd (uy hf h hd (oq hc))
theorem bE.fin(hf:cg f):∀{ds:List Dn}{N:Nat}{s:Sd},bE f N s->dC f s ds->bE f (N+3*ds.length) (fin f s ds)
 | [],N,s,h,_=>h
 | d::ds,N,s,h,k=>by
  have:=bE.fin hf (h.bW hf k.1.1 k.1.2) k.2;rw[show N+3*(d::ds).length=N+3+3*ds.length by rw[List.length_cons];omega];exact this
def Mz(x:Sd×Nat×Option Str):D:=.tup [cV x.1,Ln x.2.1 x.2.2]
section
variable {G:du} {b:List S} {tg:List Nat} {ρ:En} {M:aq} {nx:En->aq->Prop} {rt:W->aq->Prop} {bk ct:En->aq->Prop}
theorem kc (I : Nat -> En -> aq -> Prop) (hM : ∀ i ρ M, I i ρ M -> M[n]? = some (.lst ds)) (h0 : I 0 ρ M)
    (hs:∀i ρ M d,ds[i]?=some d->I i ρ M->DK (bR tg (.tup [.int i,d]) ρ) λρ=>dA G b ρ M (I (i+1)) rt nx (I (i+1))) (he:∀ρ M,I ds.length ρ M->nx ρ M) {k:Nat} (hk:k=ds.length):fU (dQ (λρ M=>b_ G b ρ M) (.jm n) tg k 0 ρ M) nx rt bk ct:=by
  subst hk;have aR:(ds.mapIdx λi d=>D.tup [.int (i:Nat),d]).length=ds.length:=by simp
  refine kY (ds:=ds.mapIdx λi d=>D.tup [.int (i:Nat),d]) I (λi ρ M h _=>?_) (λi ρ M d h e=>?_) (λρ M h=>he ρ M (by rw[aR]at h;exact h)) ds.length 0 ρ M h0 (by rw[aR];omega)
  · unfold itemAt;simp only[hM i ρ M h];rw[List.getElem?_mapIdx]
  · rw[List.getElem?_mapIdx]at e
    cases e3:ds[i]? with
    | none=>rw[e3]at e;cases e
    | some d' =>
      rw[e3]at e;cases e;have q:=hs i ρ M d' e3 h
      cases e2:bR tg (.tup [.int i,d']) ρ with
      | none=>rw[e2]at q;exact q.elim
      | some dS=>rw[e2]at q;exact⟨dS,rfl,by rw[qY];exact q⟩
end
theorem rP(hM:M[n]?=some (.lst ds)):fC .enum [.d (.ah n)] M=.ok (.jm n) M:=by
 unfold fC bx;simp only[hM];rfl
theorem kg(hM:M[n]?=some (.lst ds)):cX M (.jm n)=ds.length:=by unfold cX;simp only[hM]
theorem Vi{x:Int×List (Int×Str)×Option Str}:PF f d x=Ln (mc f d) x.2.2:=by
 obtain⟨a,sd,w⟩:=x;cases w<;>rfl
def wH(F:Fn):Prop:=∀(M:aq)(f:Fm)(N:Nat)(s:Sd)(ds:List Dn)(n:Nat),cg f->bE f N s->N+3*ds.length<=890->dC f s ds->M[n]?=some (.lst (ds.map cF))->aP (F [dk f,cV s,.ah n] M) λr M'=>∃n',r=.d (.ah n')/\M.length<=n'/\M'[n']?=some (.lst ((tr f s ds).map Mz))/\Ex M M'
theorem Ly(hC:Li (G Gi))(hO:lH (G yn)):wH (aw G 8 (wF Gi yn)):=by
 intro M f N s ds n hf hs hN hr hn;rw[bu];show dA G (wF Gi yn) [some (dk f),some (cV s),some (.ah n),none,none,none,none,none] M _ _ _ _;nofun;refine⟨s0,?_⟩;nofun;have wI:(M++[MO.lst []])[n]?=some (.lst (ds.map cF)):=ay hn;rw[rP wI];refine kc (n:=n) (ds:=ds.map cF) (λi ρ M'=>∃o5 o6 o7,ρ=[some (dk f),some (cV s),some (.ah n),some (.ah M.length),some (cV (fin f s (ds.take i))),o5,o6,o7]/\M'[M.length]?=some (.lst ((tr f s (ds.take i)).map Mz))/\Ex M M') (by rintro i ρ M' ⟨_,_,_,_,_,fr⟩;exact Ex.get fr hn) ⟨_,_,_,rfl,ak,(Ex.refl M).app⟩ ?_ ?_ (kg wI)
 ·rintro i ρ M' dd bP ⟨o5,o6,o7,rfl,hL,fr⟩;rw[dG]at bP
  cases e:ds[i]? with
  | none=>rw[e]at bP;cases bP
  | some d =>
   rw[e]at bP;cases bP;have hi:=(dU.mp e).1;obtain⟨k1,k2⟩:=gP hr e;have DN:=bE.fin hf hs (gq (i:=i) hr);have MB:(ds.take i).length=i:=by rw[List.length_take];omega
   rw[MB]at DN;have hx:=oq k2;nofun;refine(hC M' f _ _ d hf DN (∅) k1).imp ?_;rintro r M2 ⟨f2,e2⟩;rw[k2]at e2;subst e2;nofun;refine(hO M2 f _ _ d _ hf DN (∅) k1 hx).imp ?_;rintro r M3 ⟨f3,rfl⟩;have yp:=Ex.get f3 (Ex.get f2 hL);nofun;refine⟨aW yp,?_⟩;nofun;rw[bD yp (aG (by rw[aX,rO,MB];omega))];have RE:ds.take (i+1)=ds.take i++[d]:=bo e;refine⟨some (.int i),some (cF d),some (.tup [cV (bW f (fin f s (ds.take i)) d),PF f d (wG f (fin f s (ds.take i)) d)]),?_,?_,Fr.set (Ex.trans (Ex.trans fr f2) f3) (bJ _)⟩
   ·rw[RE,rN];rfl
   ·rw[aF yp,RE,CY,iN,Vi];rfl
 ·rintro ρ M' ⟨o5,o6,o7,rfl,hL,fr⟩;rw[aX,List.take_length]at hL;nofun;exact⟨_,rfl,bJ _,hL,fr⟩
theorem HD:∀{ds:List Dn}{s:Sd}{i:Nat}{x:Sd×Nat×Option Str},(tr f s ds)[i]?=some x->x.1=fin f s (ds.take (i+1))
 | [],s,i,x,h=>by simp[tr]at h
 | d::ds,s,0,x,h=>by
  have h:(bW f s d,mc f d,(wG f s d).2.2)=x:=by simpa[tr]using h
  rw[<- h];rfl
 | d::ds,s,i+1,x,h=>by
  have h:(tr f (bW f s d) ds)[i]?=some x:=by simpa[tr]using h
  have q:=HD (ds:=ds) (s:=bW f s d) (i:=i) h;rw[q];rfl
def rQ(F:Fn):Prop:=∀(M:aq)(ns:List Int)(f:Fm)(s:Sd)(most:Int),ns.length<=63->cg f->bE f 4 s->18<=most->most<=60->aP (F [.ls (ns.map D.int),dk f,cV s,.int most] M) λr M'=>∃n,∃ds:List Dn,r=.d (.ah n)/\M.length<=n/\M'[n]?=some (.lst (ds.map cF))/\dC f s ds/\(ds.length:Int)<=most/\Ex M M'
theorem Gj(hW:pL (G cL))(hD:eO (G aA))(hNx:wD (G rM))(hDo:lH (G bX)):rQ (aw G 9 (rL cL aA rM bX)):=by
 intro M ns f s most kG hf hs hm0 UT;rw[bu];show dA G (rL cL aA rM bX) [some (.ls (ns.map D.int)),some (dk f),some (cV s),some (.int most),none,none,none,none,none] M _ _ _ _;nofun;refine(hW M ns 6 (∅) (∅) kG).imp ?_;rintro r M1 ⟨rfl,DL,zA,f1⟩;nofun;refine⟨s0,?_⟩;nofun;have Gk:(M1++[MO.lst []])[M1.length]?=some (.lst []):=ak;refine(hD _ M.length 0 13 zA.app (∅) (∅) (∅)).imp ?_;rintro r M2 ⟨a,rfl,a0,a1,uo,f2⟩;nofun;refine(hD M2 M.length _ 13 uo (∅) (∅) (∅)).imp ?_;rintro r M3 ⟨b,rfl,b0,b1,xZ,f3⟩;nofun;refine(hD M3 M.length _ 4 xZ (∅) (∅) (∅)).imp ?_;rintro r M4 ⟨c,rfl,c0,c1,k0,f4⟩;nofun;refine⟨s3,?_⟩;nofun;have HE:M4[M1.length]?=some (.lst []):=f4.get (f3.get (f2.get Gk (∅)) (∅)) (∅);have l4:=aj HE;refine(hD _ M.length _ 9 k0.app (∅) (∅) (∅)).imp ?_;rintro r M5 ⟨g,rfl,g0,g1,oJ,f5⟩;have hA5:M5[M4.length]?=some (.lst [.int a,.int (6+b),.int (most-c)]):=f5.get ak (∅);have HF:M5[M1.length]?=some (.lst []):=f5.get (ay HE) (∅);have lr:Ex M M5:=((((f1.app).trans f2).trans f3).trans f4).app.trans f5;nofun;refine⟨⟨∅,∅⟩,?_⟩
 obtain⟨d,hd,j,rfl,j0,j1⟩:∃d,[D.int a,.int (6+b),.int (most-c)][(g / 4).toNat]?=some d/\∃j:Int,d=.int j/\0<=j/\j<=most:=lN (ds:=[D.int a,.int (6+b),.int (most-c)]) (k:=3) (λd hd=>by
  simp only[List.mem_cons,List.mem_nil_iff,or_false]at hd;rcases hd with rfl | rfl | rfl
  ·exact⟨_,rfl,∅,∅⟩
  ·exact⟨_,rfl,∅,∅⟩
  ·exact⟨_,rfl,∅,∅⟩) (∅) (∅) rfl
 nofun;rw[bO hA5 (i:=g / 4) (∅) hd];nofun;refine⟨⟨∅,∅⟩,?_⟩;have hm:M.length<=M1.length:=f1.1;refine eE (n:=j.toNat) (λi ρ M'=>∃o7 o8,∃ds:List Dn,ρ=[some (.ls (ns.map D.int)),some (dk f),some (cV (fin f s ds)),some (.int most),some (.ah M.length),some (.ah M1.length),some (.ah M4.length),o7,o8]/\M'[M1.length]?=some (.lst (ds.map cF))/\ds.length=i/\dC f s ds/\Ex M M') ⟨_,_,[],rfl,HF,rfl,trivial,lr⟩ ?_ ?_
 ·rintro i ρ M6 hi ⟨o7,o8,ds,rfl,RG,WJ,RH,vZ⟩;have Rx:=bE.fin hf hs RH;have hi60:(i:Int)<60:=∅;nofun;refine(hW M6 ns (7+(0+(i:Int))) (∅) (∅) kG).imp ?_;rintro r M7 ⟨rfl,Qf,FW,f7⟩;have l6:=aj RG;nofun;refine(hNx M7 M6.length 0 f _ _ FW (∅) hf Rx (∅)).imp ?_;rintro r M8 ⟨d,rfl,WK,hd2,f8⟩;have WL:Ex M6 M8:=f7.trans f8;have Vj:=Ex.get WL RG;nofun;refine⟨aW Vj,?_⟩;nofun;rw[bD Vj (aG (by rw[aX];omega))];nofun;have hx:=oq hd2;refine(hDo _ f _ _ d _ hf Rx (∅) WK hx).imp ?_;rintro r M9 ⟨f9,rfl⟩;refine⟨some (.int (0+(i:Int))),some (cF d),ds++[d],?_,?_,by simp[WJ],?_,?_⟩
  ·rw[rN];rfl
  ·refine Ex.get f9 ?_;rw[aF Vj,iN];rfl
  ·rw[mx];exact⟨RH,⟨WK,hd2⟩,trivial⟩
  ·exact Ex.trans (Fr.set (Ex.trans vZ WL) hm) f9
 ·rintro ρ M6 ⟨o7,o8,ds,rfl,RG,WJ,RH,vZ⟩;exact⟨_,ds,rfl,hm,RG,RH,∅,vZ⟩
end Ev
end
section
namespace Ev
open PySem
end Ev
end
section
namespace Ev
open L2
open PySem PySem.Spec PyProof.Rows
theorem C0(h1:a<=b)(h2:b<=c):fE a b++fE b c=fE a c:=by
 obtain⟨n,hn⟩:∃n:Nat,b=a+n:=⟨(b-a).toNat,∅⟩;subst hn;clear h1
 induction n generalizing a with
 | zero=>rw[show a+((0:Nat):Int)=a by omega,j_ (DA _)];rfl
 | succ n ih =>
  have e:a+((n+1:Nat):Int)=a+1+(n:Int):=∅;rw[e]at h2⊢;rw[iH (a:=a) (b:=a+1+n) (∅),iH (a:=a) (b:=c) (∅),List.cons_append,ih h2]
theorem C1:fE a (a+1)=[a]:=by rw[iH (∅),j_ (∅)]
theorem ou{α:Type}{l:List α}{i j:Nat}{x d:α}(h:i<l.length):(l.set i x).getD j d=if i=j then x else l.getD j d:=by
 rw[sk,sk,List.getElem?_set];by_cases q:i=j
 ·rw[if_pos q,if_pos q,if_pos (∅)];rfl
 ·rw[if_neg q,if_neg q]
theorem lg:∀(sd:List (Int×Str))(ld:List (Int×List (Int×Str)))(r:Nat),(∀p∈sd,0<=p.1/\p.1.toNat<ld.length)->(ld.getD r (0,[])).1<=((cC ld sd).getD r (0,[])).1/\cG ((cC ld sd).getD r (0,[]))=cG (ld.getD r (0,[]))++fE (ld.getD r (0,[])).1 ((cC ld sd).getD r (0,[])).1/\(cC ld sd).length=ld.length
 | [],ld,r,_=>⟨DA _,by rw[show cC ld []=ld from rfl,j_ (DA _),List.append_nil],rfl⟩
 | p::sd,ld,r,h=>by
  have hp:=h p (List.mem_cons_self ..);have hl:(ld.set p.1.toNat (more (ld.getD p.1.toNat (0,[])) p.2)).length=ld.length:=List.length_set;obtain⟨i1,i2,i3⟩:=lg sd (ld.set p.1.toNat (more (ld.getD p.1.toNat (0,[])) p.2)) r λq hq=>by rw[hl];exact h q (ja _ hq)
  have e:cC ld (p::sd)=cC (ld.set p.1.toNat (more (ld.getD p.1.toNat (0,[])) p.2)) sd:=rfl;rw[e,i2,i3];rw[ou hp.2]at i1⊢;by_cases q:p.1.toNat=r
  ·rw[if_pos q]at i1⊢;subst q;have hm:(more (ld.getD p.1.toNat (0,[])) p.2).1=(ld.getD p.1.toNat (0,[])).1+1:=rfl;have hn:cG (more (ld.getD p.1.toNat (0,[])) p.2)=cG (ld.getD p.1.toNat (0,[]))++[(ld.getD p.1.toNat (0,[])).1]:=by unfold cG more;rw[iN];rfl
   rw[hm]at i1⊢;rw[hn];refine⟨∅,?_,hl⟩;have e2:=C0 (a:=(ld.getD p.1.toNat (0,[])).1) (b:=(ld.getD p.1.toNat (0,[])).1+1) (∅) i1;rw[C1]at e2;rw[List.append_assoc,e2]
  ·rw[if_neg q]at i1⊢;exact⟨i1,rfl,hl⟩
def RI(s:Sd)(d:Dn)(r:Nat):Int×List (Int×Str):=match d with
 | .bp q k=>if q=r then less (load s r) k else load s r
 | _=>load s r
theorem wJ{f:Fm}{N:Nat}{s:Sd}{d:Dn}(hs:bE f N s)(hd:dh f d)(r:Nat):(cN s.ld d).getD r (0,[])=RI s d r/\(cN s.ld d).length=s.ld.length:=by
 cases d with
 | own m=>exact⟨rfl,rfl⟩
 | dg m c=>exact⟨rfl,rfl⟩
 | bp q k =>
  have hq:q<s.ld.length:=by rw[hs.ll];exact hd
  refine⟨?_,List.length_set⟩;show(s.ld.set q (less (s.ld.getD q (0,[])) k)).getD r (0,[])=_;rw[ou hq];show _=if q=r then less (load s r) k else load s r
  by_cases z:q=r
  ·subst z;rw[if_pos rfl,if_pos rfl];rfl
  ·rw[if_neg z,if_neg z];rfl
theorem ow (hf : cg f)  (hs : bE f N s) (hd : dh f d) (hc : cn f s d = true) (r : Nat) :
    (load s r).1<=(load (bW f s d) r).1/\cG (load (bW f s d) r)=cG (RI s d r)++fE (load s r).1 (load (bW f s d) r).1:=by
  have ax:=uy hf hs hd (oq hc);obtain⟨e1,e2⟩:=wJ hs hd r
  have hb:∀p∈(wG f s d).2.1,0<=p.1/\p.1.toNat<(cN s.ld d).length:=λp hp=>by
    obtain⟨_,h2,x,h3,_⟩:=ax.sd p hp;refine⟨h2,?_⟩;rw[e2,hs.ll];exact(dU.mp h3).1
  obtain⟨i1,i2,_⟩:=lg (wG f s d).2.1 (cN s.ld d) r hb
  have h1:(RI s d r).1=(load s r).1:=by
    cases d with
    | own m=>rfl
    | dg m c=>rfl
    | bp q k =>
      show(if q=r then less (load s r) k else load s r).1=_;split<;>rfl
  rw[e1,h1]at i1 i2;exact⟨i1,i2⟩
theorem kh{f:Fm}{s:Sd}{r:Nat}{k:Int}(hc:cn f s (.bp r k)=true):k∈cG (load s r)/\(((cB f r).2.2 == "row")=true->(load s r).2.head?.map (·.1)=some k):=by
 unfold cn rp at hc
 cases q:cs f s (.bp r k)with
 | none=>rw[q]at hc;exact absurd hc cH
 | some c =>
  have q:((il (cB f r).2.2 (load s r).2).find? λp=>p.1==k).map (·.2)=some c:=q
  cases z:(il (cB f r).2.2 (load s r).2).find? λp=>p.1==k with
  | none=>rw[z]at q;cases q
  | some p =>
   have hm:=List.mem_of_find?_eq_some z;have hk:p.1=k:=eq_of_beq (show(p.1==k)=true from List.find?_some (p:=λp:Int×Str=>p.1==k) z);refine⟨?_,λho=>?_⟩
   ·unfold il at hm;refine gZ.mpr ⟨p,?_,hk⟩;split at hm
    ·exact List.mem_of_mem_take hm
    ·exact hm
   ·unfold il at hm;rw[if_pos ho]at hm
    cases hl:(load s r).2 with
    | nil=>rw[hl]at hm;cases hm
    | cons a l =>
     rw[hl]at hm;have:p=a:=by simpa using hm
     rw[<- this];simp[hk]
theorem ints_map:∀l:List Int,fG (l.map D.int)=some l
 | []=>rfl
 | i::l=>by
  show(fG (l.map D.int)).map (i::·)=_;rw[ints_map l];rfl
structure lO (M:aq) (n:Nat) (as:List Nat) (g:Nat->List Int):Prop where
 at':M[n]?=some (.lst (as.map D.ah))
 nd:as.Nodup
 na:n∉as
 av:∀(r a:Nat),as[r]?=some a->M[a]?=some (.lst ((g r).map D.int))
theorem lO.ex(h:lO M n as g)(f:Ex M M'):lO M' n as g:=⟨Ex.get f h.at',h.nd,h.na,λr a e=>Ex.get f (h.av r a e)⟩
theorem lO.to(h:lO M n as g)(e:∀r,r<as.length->g r=g2 r):lO M n as g2:=⟨h.at',h.nd,h.na,λr a q=>by rw[<- e r (dU.mp q).1];exact h.av r a q⟩
theorem lO.upd(h:lO M n as g)(e:as[r]?=some a)(ks:List Int):lO (M.set a (.lst (ks.map D.int))) n as (λq=>if q=r then ks else g q):=by
 have ha:=h.av r a e;refine⟨ao h.at' (λz=>h.na (by rw[z];exact gU e)),h.nd,h.na,λq b eq=>?_⟩;by_cases z:q=r
 ·subst z;rw[e]at eq;cases eq;rw[if_pos rfl];exact aF ha
 ·rw[if_neg z];refine ao (h.av q b eq) λzz=>z ?_;subst zz;have h1:=dU.mp e;have h2:=dU.mp eq;have nn:=List.pairwise_iff_getElem.mp h.nd;rcases Nat.lt_trichotomy q r with w | w | w
  ·exact absurd (h2.2.trans h1.2.symm) (nn q r h2.1 h1.1 w)
  ·exact w
  ·exact absurd (h1.2.trans h2.2.symm) (nn r q h1.1 h2.1 w)
theorem lO.sub(h:lO M n as g)(hr:r<as.length):∃a,as[r]?=some a/\cU (.d (.ah n)) (.d (.int (r:Nat))) M=.ok (.d (.ah a)) M/\M[a]?=some (.lst ((g r).map D.int)):=by
 have e:as[r]?=some as[r]:=dM hr;refine⟨as[r],e,a_ h.at' (by rw[dG,e];rfl),h.av r _ e⟩
end Ev
end
section
namespace Ev
open PySem
def yq(gm:Nat):List S:=[.eD 2 (.comp .seq [(.sub (.ae 0) (.ai (.int 0)))] [1] none (.ai (.int 0)) [none,none]),.asg [3] (.lst []),.bq [4] .seq [(.ae 1)] [.asg [5] (.call gm [(.ae 0),(.ae 4)]),.expr (.me .append (.ae 3) [(.tup [(.ae 5),(.sub (.ae 2) (.ae 5))])]),.put (.ae 2) (.ae 5) (.bin .add (.sub (.ae 2) (.ae 5)) (.ai (.int 1)))],.ret (.ae 3)]
noncomputable def C2:List S:=[.asg [2] (.lst []),.bq [3] .dm [(.bi .len [(.sub (.ae 0) (.ai (.int 1)))])] [.bq [4] .oO [(.sub (.sub (.sub (.ae 0) (.ai (.int 1))) (.ae 3)) (.ai (.int 0))),(.sub (.sub (.sub (.ae 1) (.ai (.int 1))) (.ae 3)) (.ai (.int 0)))] [.expr (.me .append (.ae 2) [(.tup [(.ae 3),(.ae 4)])])]],.ret (.ae 2)]
def uH(dz:Nat)(ox:Nat)(fW:Nat):List S:=[.asg [3] .kJ,.bq [4] .dm [(.bi .len [(.sub (.ae 0) (.ai (.int 1)))])] [.bq [5,6] .seq [(.call dz [(.ae 1),(.ae 4)])] [.dput (.ae 3) (.tup [(.ae 4),(.ae 5)]) (.tup [(.ai .aQ),(.ai .aQ)])]],.asg [7] (.ae 1),.bq [8,9] .enum [(.call ox [(.ae 0),(.ae 1),(.ae 2)])] [.asg [10] (.sub (.ae 2) (.ae 8)),.iff (.val (.cmp .eq (.sub (.ae 10) (.ai (.int 0))) (.ai (.str "come")))) [.asg [11] (.tup [(.sub (.ae 10) (.ai (.int 1))),(.sub (.ae 10) (.ai (.int 2)))]),.dput (.ae 3) (.ae 11) (.tup [(.sub (.jk (.ae 3) (.ae 11)) (.ai (.int 0))),(.ae 8)])] [],.bq [11] .seq [(.call fW [(.ae 7),(.sub (.ae 9) (.ai (.int 0)))])] [.dput (.ae 3) (.ae 11) (.tup [(.ae 8),(.ai .aQ)])],.asg [7] (.sub (.ae 9) (.ai (.int 0)))],.ret (.ae 3)]
end Ev
end
section
namespace Ev
open L2
open PySem PySem.Spec PyProof.Rows
abbrev Kv:=List (List bA×D)
abbrev Lm:=Nat->Int->Option (Option Nat×Option Nat)
def k2(r:Nat)(k:Int):List bA:=[Sum.inl (r:Int),Sum.inl k]
def oD:Option Nat->D
 | none=>.aQ
 | some n=>.int n
def zI(x:Option Nat×Option Nat):D:=.tup [oD x.1,oD x.2]
theorem wK(h:k2 r k=k2 r' k'):r=r'/\k=k':=by
 unfold k2 at h;simp only[List.cons.injEq,Sum.inl.injEq]at h;exact⟨∅,h.2.1⟩
theorem C3{κ:Type}[DecidableEq κ]{ag:List (κ×D)}{k:κ}:(cS ag k).isSome=true↔k∈ag.map (·.1):=by
 unfold cS;rw[Option.isSome_map,List.find?_isSome,gZ];constructor
 ·rintro⟨p,h1,h2⟩;exact⟨p,h1,of_decide_eq_true h2⟩
 ·rintro⟨p,h1,h2⟩;exact⟨p,h1,decide_eq_true h2⟩
theorem qa{κ:Type}[DecidableEq κ]{ag:List (κ×D)}{k k':κ}{v:D}:(k≠k'->cS (ag.map λkv=>if kv.1=k then (kv.1,v) else kv) k'=cS ag k')/\(k=k'->k∈ag.map (·.1)->cS (ag.map λkv=>if kv.1=k then (kv.1,v) else kv) k'=some v):=by
 induction ag with
 | nil=>exact⟨λ_=>rfl,λ_ h=>by cases h⟩
 | cons p ag ih =>
  obtain⟨i1,i2⟩:=ih;unfold cS at i1 i2⊢;rw[List.map_cons,List.find?_cons,List.find?_cons];by_cases hp:p.1=k
  ·rw[if_pos hp];refine⟨λhk=>?_,λhk _=>?_⟩
   ·have h1:decide (p.1=k')=false:=decide_eq_false λh=>hk (hp.symm.trans h);simp only[h1];exact i1 hk
   ·subst hk;simp only[hp,decide_true];rfl
  ·rw[if_neg hp];refine⟨λhk=>?_,λhk hm=>?_⟩
   ·cases q:decide (p.1=k')with
    | true=>rfl
    | false=>exact i1 hk
   ·subst hk;simp only[decide_eq_false hp];refine i2 rfl ?_;rw[List.map_cons]at hm;rcases List.mem_cons.mp hm with z | z
    ·exact absurd z.symm hp
    ·exact z
theorem my{κ:Type}[DecidableEq κ]{ag:List (κ×D)}{k:κ}:(ag.any λkv=>decide (kv.1=k))=true↔k∈ag.map (·.1):=by
 rw[List.any_eq_true,gZ];constructor
 ·rintro⟨p,h1,h2⟩;exact⟨p,h1,of_decide_eq_true h2⟩
 ·rintro⟨p,h1,h2⟩;exact⟨p,h1,decide_eq_true h2⟩
theorem Gm{κ:Type}[DecidableEq κ]{ag:List (κ×D)}{k k':κ}{v:D}(h:k∉ag.map (·.1)):cS (ag++[(k,v)]) k'=if k=k' then some v else cS ag k':=by
 have e:cS (ag++[(k,v)]) k'=((ag.find? λp=>decide (p.1=k')).or ([(k,v)].find? λp=>decide (p.1=k'))).map (·.2):=by
  unfold cS;rw[List.find?_append]
 rw[e];by_cases hk:k=k'
 ·subst hk;rw[if_pos rfl,List.find?_eq_none.mpr (λp hp q=>h (gZ.mpr ⟨p,hp,of_decide_eq_true q⟩))];simp
 ·rw[if_neg hk]
  have:([(k,v)].find? λp=>decide (p.1=k'))=none:=by
   rw[List.find?_cons];have:decide ((k,v).1=k')=false:=decide_eq_false hk;simp only[this];rfl
  rw[this,Option.or_none];rfl
theorem rR{κ:Type}[DecidableEq κ]{ag:List (κ×D)}{k k':κ}{v:D}:cS (cD ag k v) k'=if k=k' then some v else cS ag k':=by
 unfold cD;by_cases h:k∈ag.map (·.1)
 ·rw[if_pos (my.mpr h)];by_cases hk:k=k'
  ·rw[qa.2 hk h,if_pos hk]
  ·rw[qa.1 hk,if_neg hk]
 ·rw[if_neg (λz=>h (my.mp z)),Gm h]
theorem yt{κ:Type}[DecidableEq κ]{ag:List (κ×D)}{k:κ}{v:D}(h:k∈ag.map (·.1)):(cD ag k v).map (·.1)=ag.map (·.1):=by
 unfold cD;rw[if_pos (my.mpr h),List.map_map];refine List.map_congr_left λp _=>?_;show(if p.1=k then (p.1,v) else p).1=p.1;split<;>rfl
theorem uI{κ:Type}[DecidableEq κ]{ag:List (κ×D)}{k:κ}{v:D}(h:k∉ag.map (·.1)):(cD ag k v).map (·.1)=ag.map (·.1)++[k]:=by
 unfold cD;rw[if_neg (λz=>h (my.mp z)),iN];rfl
theorem iI{κ:Type}[DecidableEq κ]{ag:List (κ×D)}{k:κ}{v:D}:(cD ag k v).length<=ag.length+1:=by
 unfold cD;split
 ·rw[aX];omega
 ·rw[gV];exact bJ _
structure fO (ag:Kv) (L:Lm):Prop where
 nd:(ag.map (·.1)).Nodup
 ky:∀k∈ag.map (·.1),∃r n x,k=k2 r n/\L r n=some x
 gt:∀r k,cS ag (k2 r k)=(L r k).map zI
noncomputable def putL(L:Lm)(r:Nat)(k:Int)(x:Option Nat×Option Nat):Lm:=λr' k'=>if r=r'/\k=k' then some x else L r' k'
theorem fO.nil:fO [] λ_ _=>none:=⟨List.nodup_nil,λk h=>(by cases h),λ_ _=>rfl⟩
theorem fO.put{ag:Kv}{L:Lm}(h:fO ag L)(r:Nat)(k:Int)(x:Option Nat×Option Nat):fO (cD ag (k2 r k) (zI x)) (putL L r k x):=by
 refine⟨?_,λfT hk=>?_,λr' k'=>?_⟩
 ·by_cases z:k2 r k∈ag.map (·.1)
  ·rw[yt z];exact h.nd
  ·rw[uI z,List.nodup_append];exact⟨h.nd,by simp,λa ha b hb e=>z (by rw[<- List.mem_singleton.mp hb,<- e];exact ha)⟩
 ·have hk:fT=k2 r k\/fT∈ag.map (·.1):=by
   by_cases z:k2 r k∈ag.map (·.1)
   ·rw[yt z]at hk;exact .inr hk
   ·rw[uI z]at hk;rcases fk.mp hk with z | z
    ·exact .inr z
    ·exact .inl (List.mem_singleton.mp z)
  rcases hk with rfl | z
  ·exact⟨r,k,x,rfl,if_pos ⟨rfl,rfl⟩⟩
  ·obtain⟨r',k',y,e,q⟩:=h.ky fT z;subst e;by_cases hc:r=r'/\k=k'
   ·exact⟨r',k',x,rfl,if_pos hc⟩
   ·exact⟨r',k',y,rfl,(if_neg hc).trans q⟩
 ·rw[rR];unfold putL;by_cases hc:r=r'/\k=k'
  ·obtain⟨rfl,rfl⟩:=hc;rw[if_pos rfl,if_pos ⟨rfl,rfl⟩];rfl
  ·rw[if_neg hc,if_neg (λz=>hc (wK z)),h.gt]
theorem fO.congr(h:fO ag L)(e:∀r k,L r k=L' r k):fO ag L':=by
 have:L=L':=by funext r k;exact e r k
 rw[<- this];exact h
theorem gr{α:Type}[DecidableEq α]:∀{a b:List α},a.Nodup->(∀x∈a,x∈b)->a.length<=b.length
 | [],b,_,_=>Nat.zero_le _
 | x::a,b,h,s=>by
  have hx:=s x List.mem_cons_self;obtain⟨h1,h2⟩:=List.nodup_cons.mp h;have:=gr (a:=a) (b:=b.erase x) h2 λy hy=>(List.mem_erase_of_ne (show y≠x from λe=>h1 (by rw[<- e];exact hy))).mpr (s y (ja _ hy));rw[List.length_erase_of_mem hx]at this;have hb:=List.length_pos_of_mem hx;rw[List.length_cons];omega
theorem fO.mem{ag:Kv}{L:Lm}(h:fO ag L){r:Nat}{k:Int}:k2 r k∈ag.map (·.1)↔(L r k).isSome=true:=by
 rw[<- C3,h.gt,Option.isSome_map]
def L0(f:Fm)(s:Sd):Lm:=λr k=>if r<f.ro.length/\k∈cG (load s r) then some (none,none) else none
def ki(d:Dn)(i:Nat)(L:Lm):Lm:=match d with
 | .bp q n=>putL L q n (((L q n).getD (none,none)).1,some i)
 | _=>L
def Lz(s s':Sd)(i:Nat)(L:Lm):Lm:=λr k=>if (load s r).1<=k/\k<(load s' r).1 then some (some i,none) else L r k
def MC(f:Fm)(s:Sd)(d:Dn)(i:Nat)(L:Lm):Lm:=Lz s (bW f s d) i (ki d i L)
def eI(f:Fm)(s:Sd)(ds:List Dn):Nat->Lm
 | 0=>L0 f s
 | i+1=>match ds[i]? with
  | some d=>MC f (fin f s (ds.take i)) d i (eI f s ds i)
  | none=>eI f s ds i
theorem gu(h:ds[i]?=some d):eI f s ds (i+1)=MC f (fin f s (ds.take i)) d i (eI f s ds i):=by
 show(match ds[i]? with
  | some d=>MC f (fin f s (ds.take i)) d i (eI f s ds i)
  | none=>eI f s ds i)=_
 rw[h]
theorem oy{ds:List Dn}{i:Nat}(h:ds[i]?=some d):fin f s (ds.take (i+1))=bW f (fin f s (ds.take i)) d:=by
 rw[bo h,rN];rfl
theorem yu(hf:cg f){ds:List Dn}{N:Nat}(hs:bE f N s)(hr:dC f s ds):∀i,i<=ds.length->∀r k,r<f.ro.length->k∈cG (load (fin f s (ds.take i)) r)->(eI f s ds i r k).isSome=true
 | 0,_,r,k,h1,h2=>by
  show(if r<f.ro.length/\k∈cG (load s r) then some (none,none) else none:Option (Option Nat×Option Nat)).isSome=true;rw[if_pos ⟨h1,h2⟩];rfl
 | i+1,hi,r,k,h1,h2=>by
  have e:ds[i]?=some ds[i]:=dM (∅);rw[gu e];rw[oy e]at h2;obtain⟨k1,k2⟩:=gP hr e;obtain⟨h3,h4⟩:=ow hf (bE.fin hf hs (gq (i:=i) hr)) k1 k2 r;rw[h4]at h2;show(if _/\_ then some (some i,none) else ki ds[i] i (eI f s ds i) r k).isSome=true;split
  ·rfl
  ·rename_i hn
   have hk:k∈cG (load (fin f s (ds.take i)) r):=by
    rcases fk.mp h2 with z | z
    ·generalize ds[i]=d at z
     cases d with
     | own m=>exact z
     | dg m c=>exact z
     | bp q n =>
      have z:k∈cG (if q=r then less (load (fin f s (ds.take i)) r) n else load (fin f s (ds.take i)) r):=z;split at z
      ·unfold cG less at z;obtain⟨p,hp,rfl⟩:=gZ.mp z;exact gZ.mpr ⟨p,(List.mem_filter.mp hp).1,rfl⟩
      ·exact z
    ·unfold fE at z;obtain⟨j,hj,rfl⟩:=gZ.mp z;rw[List.mem_range]at hj;exact absurd ⟨∅,∅⟩ hn
   have ih:=yu hf hs hr i (∅) r k h1 hk;generalize ds[i]=d
   cases d with
   | own m=>exact ih
   | dg m c=>exact ih
   | bp q n =>
    show(if q=r/\n=k then some _ else eI f s ds i r k).isSome=true;split
    ·rfl
    ·exact ih
theorem C4(h:n<=1000000):n<sizeLine:=Nat.lt_of_le_of_lt h (by decide)
theorem yv{n r:Nat}{k:Int}{d:D}(hM:M[n]?=some (.dT ag))(hl:ag.length<=1000000):gR (.d (.ah n)) (.d (.tup [.int r,.int k])) d M=.ok () (M.set n (.dT (cD ag (k2 r k) d))):=by
 unfold gR;simp only[hM,show vB (.d (.tup [.int r,.int k]))=some (k2 r k) from rfl];rw[if_pos (C4 hl)]
theorem HG(hM:Jn M (.d (.ah n))=some ag)(hg:cS ag (k2 r k)=some d):lD (.d (.ah n)) (.d (.tup [.int r,.int k])) M=.ok (.d d) M:=by
 unfold lD;simp only[hM,show vB (.d (.tup [.int r,.int k]))=some (k2 r k) from rfl,hg]
theorem LB(hM:M[n]?=some (.dT ag)):Jn M (.d (.ah n))=some ag:=by unfold Jn;simp only[hM]
def MD(p:Nat×Int):D:=.tup [.int p.1,.int p.2]
def oW(s s':Sd)(r:Nat):List (Nat×Int):=(fE (load s r).1 (load s' r).1).map λk=>(r,k)
def yw(s s':Sd)(n:Nat):List (Nat×Int):=(List.range n).flatMap (oW s s')
theorem uJ:yw s s' (n+1)=yw s s' n++oW s s' n:=by
 unfold yw;rw[List.range_succ,List.flatMap_append];simp
theorem kj:(fE a b).length=(b-a).toNat:=by unfold fE;simp
theorem Gn{a b:Int}{j:Nat}(h:j<(b-a).toNat):(fE a b)[j]?=some (a+(j:Int)):=by
 unfold fE;rw[dG,List.getElem?_range h];rfl
theorem kl:k∈fE a b↔a<=k/\k<b:=by
 unfold fE;rw[gZ];constructor
 ·rintro⟨j,hj,rfl⟩;rw[List.mem_range]at hj;omega
 ·rintro⟨h1,h2⟩;exact⟨(k-a).toNat,List.mem_range.mpr (∅),∅⟩
theorem yx:(r,k)∈yw s s' n↔r<n/\(load s r).1<=k/\k<(load s' r).1:=by
 unfold yw oW;rw[List.mem_flatMap];constructor
 ·rintro⟨q,hq,h⟩;obtain⟨j,hj,e⟩:=gZ.mp h;cases e;exact⟨List.mem_range.mp hq,kl.mp hj⟩
 ·rintro⟨h1,h2⟩;exact⟨r,List.mem_range.mpr h1,gZ.mpr ⟨k,kl.mpr h2,rfl⟩⟩
theorem rS{B:Nat}:∀{n:Nat},(∀r,r<n->(load s' r).1-(load s r).1<=B)->(yw s s' n).length<=n*B
 | 0,_=>Nat.zero_le _
 | n+1,h=>by
  rw[uJ,gV,Nat.add_mul];have h1:=rS (n:=n) λr hr=>h r (∅);have h2:=h n (∅);unfold oW;rw[aX,kj];omega
def rT(F:Fn):Prop:=∀(M:aq)(f:Fm)(N N':Nat)(s s':Sd),cg f->bE f N s->bE f N' s'->N<=900->N'<=900->(∀r,r<f.ro.length->(load s' r).1-(load s r).1<=900)->aP (F [cV s,cV s'] M) λr M'=>∃n,r=.d (.ah n)/\M.length<=n/\M'[n]?=some (.lst ((yw s s' f.ro.length).map MD))/\Ex M M'
theorem LC:rT (aw G 5 C2):=by
 intro M f N N' s s' hf hs DN hN hN' hd;have h8:=hf.l8;rw[bu];show dA G C2 [some (.tup [.tup (s.st.map D.int),.tup (s.ld.map ik)]),some (.tup [.tup (s'.st.map D.int),.tup (s'.ld.map ik)]),none,none,none] M _ _ _ _;nofun;refine⟨s0,?_⟩;nofun;have hl:((s.ld.map ik).length:Int).toNat=f.ro.length:=by rw[Int.toNat_natCast,aX,hs.ll]
 refine⟨⟨∅,by rw[aX,hs.ll];omega⟩,?_⟩;rw[hl];refine eE (n:=f.ro.length) (λi ρ M'=>∃o3 o4,ρ=[some (.tup [.tup (s.st.map D.int),.tup (s.ld.map ik)]),some (.tup [.tup (s'.st.map D.int),.tup (s'.ld.map ik)]),some (.ah M.length),o3,o4]/\M'[M.length]?=some (.lst ((yw s s' i).map MD))/\Ex M M') ⟨_,_,rfl,ak,(Ex.refl M).app⟩ ?_ ?_
 ·rintro i ρ M' hi ⟨o3,o4,rfl,hL,fr⟩;obtain⟨e1,l1⟩:=hs.zF hi;obtain⟨e2,l2⟩:=DN.zF hi;rw[show(0:Int)+(i:Int)=((i:Nat):Int) by omega];nofun;rw[jY e1];nofun;rw[jY e2];nofun;have b1:=l1.s;have b2:=l2.s;have b3:=hd i hi;refine⟨⟨∅,∅,∅,∅⟩,?_⟩;refine eE (n:=((load s' i).1-(load s i).1).toNat) (λj ρ M'=>∃o4,ρ=[some (.tup [.tup (s.st.map D.int),.tup (s.ld.map ik)]),some (.tup [.tup (s'.st.map D.int),.tup (s'.ld.map ik)]),some (.ah M.length),some (.int i),o4]/\M'[M.length]?=some (.lst ((yw s s' i++(oW s s' i).take j).map MD))/\Ex M M') ⟨_,rfl,by rw[List.take_zero,List.append_nil];exact hL,fr⟩ ?_ ?_
  ·rintro j ρ M2 hj ⟨o4,rfl,pT,kr⟩;have hb:=rS (s:=s) (s':=s') (B:=900) (n:=i) λr hr=>hd r (∅)
   have y4:((oW s s' i).take j).length<=900:=by
    rw[List.length_take];unfold oW;rw[aX,kj];omega
   have Wl:i*900<=8*900:=Nat.mul_le_mul_right _ (∅);nofun;refine⟨aW pT,?_⟩;nofun;refine⟨s2,?_⟩;nofun;rw[bD pT (C4 (by rw[aX,gV];omega))];refine⟨_,rfl,?_,Fr.set kr (bJ _)⟩
   have hat:(oW s s' i)[j]?=some (i,(load s i).1+(j:Int)):=by
    unfold oW;rw[dG,Gn hj];rfl
   rw[aF pT,bo hat,<- List.append_assoc,iN (l₂:=[_])];rfl
  ·rintro ρ M2 ⟨o4,rfl,pT,kr⟩;refine⟨_,_,rfl,?_,kr⟩;rw[uJ];rw[List.take_of_length_le (by unfold oW;rw[aX,kj];exact bJ _)]at pT;exact pT
 ·rintro ρ M' ⟨o3,o4,rfl,hL,fr⟩;nofun;exact⟨_,rfl,bJ _,hL,fr⟩
theorem C5(hf:cg f)(hs:bE f N s)(hd:dh f d)(hc:cn f s d=true)(hr:r<f.ro.length):(load (bW f s d) r).1-(load s r).1<=(N+3:Nat):=by
 obtain⟨h1,h2⟩:=ow hf hs hd hc r;have h3:=((hs.bW hf hd hc).zF hr).2.n;have h4:=congrArg List.length h2;rw[gV,kj]at h4;unfold cG at h4;rw[aX,aX]at h4;omega
def Lb(s:Sd)(i j:Nat):Lm:=λr k=>if (r<i/\k∈cG (load s r))\/(r=i/\k∈(cG (load s i)).take j) then some (none,none) else none
theorem fO.lb0:fO [] (Lb s 0 0):=fO.nil.congr λr k=>by
 unfold Lb;rw[if_neg];rintro(h | h)
 ·omega
 ·rw[List.take_zero]at h;cases h.2
theorem fO.lbp(h:fO ag (Lb s i j))(e:(cG (load s i))[j]?=some k):fO (cD ag (k2 i k) (zI (none,none))) (Lb s i (j+1)):=(h.put i k (none,none)).congr λr' k'=>by
 unfold putL Lb;rw[bo e];by_cases hc:i=r'/\k=k'
 ·obtain⟨rfl,rfl⟩:=hc;rw[if_pos ⟨rfl,rfl⟩,if_pos (.inr ⟨rfl,fk.mpr (.inr List.mem_cons_self)⟩)]
 ·rw[if_neg hc];by_cases h2:(r'<i/\k'∈cG (load s r'))\/(r'=i/\k'∈(cG (load s i)).take j)
  ·rw[if_pos h2,if_pos (h2.imp_right λz=>⟨z.1,fk.mpr (.inl z.2)⟩)]
  ·rw[if_neg h2,if_neg];rintro(z | ⟨z1,z2⟩)
   ·exact h2 (.inl z)
   ·rcases fk.mp z2 with z | z
    ·exact h2 (.inr ⟨z1,z⟩)
    ·exact hc ⟨z1.symm,(List.mem_singleton.mp z).symm⟩
theorem fO.lbn(h:fO ag (Lb s i j))(e:(cG (load s i)).length<=j):fO ag (Lb s (i+1) 0):=h.congr λr k=>by
 unfold Lb;rw[List.take_of_length_le e,List.take_zero];by_cases h2:(r<i/\k∈cG (load s r))\/(r=i/\k∈cG (load s i))
 ·rw[if_pos h2,if_pos];rcases h2 with z | ⟨rfl,z⟩
  ·exact .inl ⟨∅,z.2⟩
  ·exact .inl ⟨∅,z⟩
 ·rw[if_neg h2,if_neg];rintro(⟨z1,z2⟩|⟨_,z⟩)
  ·rcases Nat.lt_or_ge r i with q | q
   ·exact h2 (.inl ⟨q,z2⟩)
   ·have:r=i:=∅;subst this;exact h2 (.inr ⟨rfl,z2⟩)
  ·cases z
theorem fO.lbe(h:fO ag (Lb s f.ro.length 0)):fO ag (L0 f s):=h.congr λr k=>by
 unfold Lb L0;by_cases h2:r<f.ro.length/\k∈cG (load s r)
 ·rw[if_pos (.inl h2),if_pos h2]
 ·rw[if_neg h2,if_neg];rintro(z | ⟨_,z⟩)
  ·exact h2 z
  ·rw[List.take_zero]at z;cases z
noncomputable def Ls(L:Lm)(i:Nat)(ps:List (Nat×Int)):Lm:=λr k=>if (r,k)∈ps then some (some i,none) else L r k
theorem fO.ls0(h:fO ag L):fO ag (Ls L i []):=h.congr λr k=>by
 unfold Ls;rw[if_neg (by simp)]
theorem fO.lsp(h:fO ag (Ls L i ps)):fO (cD ag (k2 r k) (zI (some i,none))) (Ls L i (ps++[(r,k)])):=(h.put r k (some i,none)).congr λr' k'=>by
 unfold putL Ls;by_cases hc:r=r'/\k=k'
 ·obtain⟨rfl,rfl⟩:=hc;rw[if_pos ⟨rfl,rfl⟩,if_pos (fk.mpr (.inr List.mem_cons_self))]
 ·rw[if_neg hc];by_cases h2:(r',k')∈ps
  ·rw[if_pos h2,if_pos (fk.mpr (.inl h2))]
  ·rw[if_neg h2,if_neg];intro z;rcases fk.mp z with z | z
   ·exact h2 z
   ·have:=List.mem_singleton.mp z;cases this;exact hc ⟨rfl,rfl⟩
theorem uK(hs:bE f N s)(h:¬r<f.ro.length):load s r=(0,[]):=by
 unfold load;rw[sk,List.getElem?_eq_none (by rw[hs.ll];omega)];rfl
theorem fO.lse(hs:bE f N s)(DN:bE f N' s')(h:fO ag (Ls L i (yw s s' f.ro.length))):fO ag (Lz s s' i L):=h.congr λr k=>by
 unfold Ls Lz;by_cases h2:(load s r).1<=k/\k<(load s' r).1
 ·rw[if_pos h2,if_pos (yx.mpr ⟨?_,h2⟩)];rcases Nat.lt_or_ge r f.ro.length with q | q
  ·exact q
  ·rw[uK hs (∅),uK DN (∅)]at h2;have:=h2.1;have:=h2.2;omega
 ·rw[if_neg h2,if_neg (λz=>h2 (yx.mp z).2)]
def oA(F:Fn):Prop:=∀(M:aq)(f:Fm)(N:Nat)(s:Sd)(ds:List Dn)(n:Nat),cg f->bE f N s->N+3*ds.length<=890->ds.length<=60->dC f s ds->M[n]?=some (.lst (ds.map cF))->aP (F [dk f,cV s,.ah n] M) λr M'=>∃n' ag,r=.d (.ah n')/\M.length<=n'/\M'[n']?=some (.dT ag)/\fO ag (eI f s ds ds.length)/\Ex M M'
def C6(fW:Nat):List S:=[.bq [11] .seq [(.call fW [(.ae 7),(.sub (.ae 9) (.ai (.int 0)))])] [.dput (.ae 3) (.ae 11) (.tup [(.ae 8),(.ai .aQ)])],.asg [7] (.sub (.ae 9) (.ai (.int 0)))]
theorem Gp{r j:Nat}{p:Int×Str}(h:(load s r).2[j]?=some p):(cG (load s r))[j]?=some p.1:=by
 unfold cG;rw[dG,h];rfl
theorem C7{l:Int×List (Int×Str)}:(cG l).length=l.2.length:=by unfold cG;rw[aX]
theorem Qk(hM:M[n]?=some (.dT ag))(hl:ag.length<=1000000):gR (.d (.ah n)) (.d (MD (r,k))) d M=.ok () (M.set n (.dT (cD ag (k2 r k) d))):=yv hM hl
theorem Gq (hB : rT (G fW))  (hf : cg f) (hs : bE f N s) (hN : N + 3 <= 900) (hd : dh f d) (hc : cn f s d = true) (hL : M[nL]? = some (.dT ag)) (hk : ag.length <= 500000) (hr : fO ag (ki d i L)) (hx : Ex M0 M) (hl : M0.length <= nL)
    {nx:En->aq->Prop} {rt:W->aq->Prop} {bk ct:En->aq->Prop} (hn:∀M' wL eT,M'[nL]?=some (.dT wL)->wL.length<=ag.length+7200->fO wL (MC f s d i L)->Fr nL M M'->nx [e0,e1,e2,some (.ah nL),o4,o5,o6,some (cV (bW f s d)),some (.int i),some (.tup [cV (bW f s d),w]),eF,eT] M') :
    dA G (C6 fW) [e0,e1,e2,some (.ah nL),o4,o5,o6,some (cV s),some (.int i),some (.tup [cV (bW f s d),w]),eF,eT] M nx rt bk ct:=by
  have h8:=hf.l8;have DN:=hs.bW hf hd hc;have mQ:∀r,r<f.ro.length->(load (bW f s d) r).1-(load s r).1<=900:=λr hr=>by have:=C5 hf hs hd hc hr;omega
  have vO:=rS (s:=s) (s':=bW f s d) (B:=900) (n:=f.ro.length) mQ;have h89:f.ro.length*900<=8*900:=Nat.mul_le_mul_right _ h8;nofun;refine(hB M f N (N+3) s (bW f s d) hf hs DN (∅) hN mQ).imp ?_;rintro r M1 ⟨n1,rfl,DL,wI,f1⟩;have Gk:=Ex.get f1 hL;have lL:=aj hL;nofun;rw[dJ wI];refine Cb (n:=n1) (ds:=(yw s (bW f s d) f.ro.length).map MD) (λj ρ M'=>∃eT ME,ρ=[e0,e1,e2,some (.ah nL),o4,o5,o6,some (cV s),some (.int i),some (.tup [cV (bW f s d),w]),eF,eT]/\M'[n1]?=some (.lst ((yw s (bW f s d) f.ro.length).map MD))/\M'[nL]?=some (.dT ME)/\ME.length<=ag.length+j/\fO ME (Ls (ki d i L) i ((yw s (bW f s d) f.ro.length).take j))/\Fr nL M M') (by rintro j ρ M' ⟨_,_,_,h,_⟩;exact h) ⟨_,ag,rfl,wI,Gk,bJ _,hr.ls0,Fr.back (Fr.refl nL M) f1 (.inl (bJ _))⟩ ?_ ?_
  · rintro j ρ M2 dd bP ⟨eT,ME,rfl,sW,pT,Ms,DG,kr⟩;rw[dG]at bP
    cases e:(yw s (bW f s d) f.ro.length)[j]? with
    | none=>rw[e]at bP;cases bP
    | some p =>
      rw[e]at bP;cases bP;have hj:=(dU.mp e).1;obtain⟨r,k⟩:=p;nofun;refine⟨s2,?_⟩;nofun;rw[Qk pT (∅)];refine⟨_,_,rfl,ao sW (∅),aF pT,Nat.le_trans iI (∅),?_,Fr.KP kr⟩;rw[bo e];exact DG.lsp
  · rintro ρ M2 ⟨eT,ME,rfl,sW,pT,Ms,DG,kr⟩;rw[aX]at Ms DG;rw[List.take_length]at DG;nofun;exact hn M2 ME _ pT (∅) (DG.lse hs DN) kr
theorem C8{dz ox fW:Nat}(hW:oh (G dz))(hS:wH (G ox))(hB:rT (G fW)):oA (aw G 12 (uH dz ox fW)):=by
 intro M f N s ds n hf hs hN yz hr hn;have h8:=hf.l8;rw[bu];show dA G (uH dz ox fW) [some (.tup [.tup (f.ru.map pO),.tup (f.ro.map sj)]),some (cV s),some (.ah n),none,none,none,none,none,none,none,none,none] M _ _ _ _;have hl:((f.ro.map sj).length:Int).toNat=f.ro.length:=by rw[Int.toNat_natCast,aX]
 have lM:=aj hn;nofun;refine⟨⟨∅,by rw[aX];omega⟩,?_⟩;rw[hl];refine eE (n:=f.ro.length) (λi ρ M'=>∃o4 o5 o6 ag,ρ=[some (dk f),some (cV s),some (.ah n),some (.ah M.length),o4,o5,o6,none,none,none,none,none]/\M'[M.length]?=some (.dT ag)/\ag.length<=i*N/\fO ag (Lb s i 0)/\Ex M M') ⟨_,_,_,[],rfl,ak,Nat.zero_le _,fO.lb0,(Ex.refl M).app⟩ ?_ ?_
 ·rintro i ρ M1 hi ⟨o4,o5,o6,ag,rfl,hL,hk,hR,fr⟩;have hiN:i*N<=8*890:=Nat.mul_le_mul (∅) (∅);obtain⟨e1,l1⟩:=hs.zF hi;have ln:=l1.n;rw[show(0:Int)+(i:Int)=((i:Nat):Int) by omega];nofun;refine(hW M1 f N s i hs hi).imp ?_;rintro o M2 ⟨rfl,rfl⟩;nofun;refine fN (ds:=(load s i).2.map pD) (λj ρ M'=>∃o5 o6 kv,ρ=[some (dk f),some (cV s),some (.ah n),some (.ah M.length),some (.int i),o5,o6,none,none,none,none,none]/\M'[M.length]?=some (.dT kv)/\kv.length<=i*N+j/\fO kv (Lb s i j)/\Ex M M') ⟨_,_,ag,rfl,hL,hk,hR,fr⟩ ?_ ?_
  ·rintro j ρ M2 dd bP ⟨o5,o6,kv,rfl,pT,Ms,RJ,kr⟩;rw[dG]at bP
   cases e:(load s i).2[j]? with
   | none=>rw[e]at bP;cases bP
   | some p =>
    rw[e]at bP;cases bP;have hj:=(dU.mp e).1;obtain⟨k,c⟩:=p;nofun;refine⟨s2,?_⟩;nofun;refine⟨s2,?_⟩;nofun;rw[yv pT (∅)];exact⟨_,_,_,rfl,aF pT,Nat.le_trans iI (∅),RJ.lbp (Gp e),Fr.set kr (bJ _)⟩
  ·rintro ρ M2 ⟨o5,o6,kv,rfl,pT,Ms,RJ,kr⟩;rw[aX]at Ms RJ;exact⟨_,_,_,kv,rfl,pT,by rw[Nat.add_mul];omega,RJ.lbn (by rw[C7];exact bJ _),kr⟩
 ·rintro ρ M1 ⟨o4,o5,o6,ag,rfl,hL,hk,hR,fr⟩;have hR:=hR.lbe;have wI:=Ex.get fr hn;have hkN:f.ro.length*N<=8*890:=Nat.mul_le_mul h8 (∅);nofun;refine(hS M1 f N s ds n hf hs hN hr wI).imp ?_;rintro o M2 ⟨n2,rfl,DD,sW,f2⟩;have lM1:=fr.1;have lL:=aj hL;have pT:=Ex.get f2 hL;nofun;rw[rP sW];refine kc (n:=n2) (ds:=(tr f s ds).map Mz) (λi ρ M'=>∃o4 o5 o6 o8 o9 eF eT ag,ρ=[some (dk f),some (cV s),some (.ah n),some (.ah M.length),o4,o5,o6,some (cV (fin f s (ds.take i))),o8,o9,eF,eT]/\M'[n2]?=some (.lst ((tr f s ds).map Mz))/\M'[M.length]?=some (.dT ag)/\ag.length<=8000+7201*i/\fO ag (eI f s ds i)/\Ex M M') (by rintro i ρ M' ⟨_,_,_,_,_,_,_,_,_,h,_⟩;exact h) ⟨_,_,_,_,_,_,_,ag,rfl,sW,pT,∅,hR,Ex.trans fr f2⟩ ?_ ?_ (kg sW)
  ·rintro i ρ M3 dd bP ⟨o4,o5,o6,o8,o9,eF,eT,ag,rfl,LD,yp,Uc,LF,lJ⟩;rw[dG]at bP
   cases e:(tr f s ds)[i]? with
   | none=>rw[e]at bP;cases bP
   | some x =>
    rw[e]at bP;cases bP;have hx:=HD e;have hi:=(dU.mp e).1;rw[rO]at hi;have ed:ds[i]?=some ds[i]:=dM hi;obtain⟨k1,k2⟩:=gP hr ed;have Vk:=yu hf hs hr i (∅);have hLn:=gu (f:=f) (s:=s) ed;rw[oy ed]at hx;have Vl:=oy (f:=f) (s:=s) ed;have Ql:=bE.fin hf hs (gq (i:=i) hr);have MB:(ds.take i).length=i:=by rw[List.length_take];omega
    rw[MB]at Ql;have Vm:=Ex.get lJ hn;have zj:(ds.map cF)[i]?=some (cF ds[i]):=by rw[dG,ed];rfl
    obtain⟨t,m,wd⟩:=x;have hx:t=bW f (fin f s (ds.take i)) ds[i]:=hx;subst hx;generalize hgd:ds[i]=d at *
    have zJ:∀(M4:aq)(kv:Kv)(eF eT:Option D),M4[M.length]?=some (.dT kv)->kv.length<=8001+7201*i->fO kv (ki d i (eI f s ds i))->M4[n2]?=some (.lst ((tr f s ds).map Mz))->Ex M M4->∀rt bk ct,dA G (C6 fW) [some (dk f),some (cV s),some (.ah n),some (.ah M.length),o4,o5,o6,some (cV (fin f s (ds.take i))),some (.int i),some (.tup [cV (bW f (fin f s (ds.take i)) d),Ln m wd]),eF,eT] M4 (λρ M'=>∃o4 o5 o6 o8 o9 eF eT ag,ρ=[some (dk f),some (cV s),some (.ah n),some (.ah M.length),o4,o5,o6,some (cV (fin f s (ds.take (i+1)))),o8,o9,eF,eT]/\M'[n2]?=some (.lst ((tr f s ds).map Mz))/\M'[M.length]?=some (.dT ag)/\ag.length<=8000+7201*(i+1)/\fO ag (eI f s ds (i+1))/\Ex M M') rt bk ct:=by
     intro M4 kv eF eT h1 h2 h3 h4 h5 rt bk ct;refine Gq hB hf Ql (∅) k1 k2 h1 (∅) h3 h5 (bJ _) ?_;intro M5 kv5 eT g1 g2 g3 g4;rw[Vl,hLn];exact⟨_,_,_,_,_,_,_,kv5,rfl,g4.get h4 (∅),g1,∅,g3,Fr.back h5 g4 (.inl (bJ _))⟩
    nofun;rw[a_ Vm zj];nofun
    cases d with
    | own m =>
     nofun;rw[bz bV aI,wm];exact zJ M3 ag _ _ yp (∅) LF LD lJ _ _ _
    | dg m c =>
     nofun;rw[bz cb aI,uA];exact zJ M3 ag _ _ yp (∅) LF LD lJ _ _ _
    | bp r k =>
     have hd:=Vk r k k1 (kh k2).1;obtain⟨x,hx⟩:=Option.isSome_iff_exists.mp hd;have hg:cS ag (Ev.k2 r k)=some (zI x):=by rw[LF.gt,hx];rfl
     nofun;rw[bz aI aI,rF];nofun;refine⟨s2,?_⟩;nofun;rw[HG (LB yp) hg];nofun;refine⟨s2,?_⟩;nofun;rw[yv yp (∅)];refine zJ (M3.set M.length (.dT (cD ag (Ev.k2 r k) (zI (x.1,some i))))) _ _ _ (aF yp) (Nat.le_trans iI (∅)) ?_ (ao LD (∅)) (Fr.set lJ (bJ _)) _ _ _;have:=LF.put r k (x.1,some i);show fO _ (putL (eI f s ds i) r k (((eI f s ds i r k).getD (none,none)).1,some i));rw[hx];exact this
  ·rintro ρ M3 ⟨o4,o5,o6,o8,o9,eF,eT,ag,rfl,LD,yp,Uc,LF,lJ⟩;rw[aX,rO]at LF;nofun;exact⟨_,ag,rfl,bJ _,yp,LF,lJ⟩
abbrev Qm:=List (Int×List (Int×Str))
def lh(l:Int×List (Int×Str)):D:=.int l.1
def Vn:D->Option D
 | .tup (x::_)=>some x
 | _=>none
theorem yA:∀ld:Qm,(ld.map ik).filterMap Vn=ld.map lh
 | []=>rfl
 | l::ld=>by
  show D.int l.1::(ld.map ik).filterMap Vn=_;rw[yA ld];rfl
theorem wM{ld:Qm}{r:Nat}(h:r<ld.length):(ld.map lh)[r]?=some (.int (ld.getD r (0,[])).1):=by
 rw[dG,sk,dM h];rfl
theorem yB:cutD [a,b,c] (some 1) none=[b,c]:=rfl
def lP(f:Fm)(ds:List Dn):List Nat:=ds.map (mc f)
def RK(f:Fm)(ds:List Dn)(i:Nat):D:=.tup [.int (mc f (ds.getD i (.own 0))),.int ((lP f (ds.take i)).count (mc f (ds.getD i (.own 0))):Nat)]
def gT(f:Fm)(ds:List Dn)(i:Nat):List D:=(List.range i).map (RK f ds)
def lQ(f:Fm)(ds:List Dn)(i:Nat):List D:=(List.range f.ru.length).map λm=>D.int ((lP f (ds.take i)).count m:Nat)
theorem uL:gT f ds (i+1)=gT f ds i++[RK f ds i]:=by
 unfold gT;rw[List.range_succ,iN];rfl
theorem iJ:(gT f ds i).length=i:=by unfold gT;rw[aX,List.length_range]
theorem rV(h:m<f.ru.length):(lQ f ds i)[m]?=some (.int ((lP f (ds.take i)).count m:Nat)):=by
 unfold lQ;rw[dG,List.getElem?_range h];rfl
theorem mz:(lQ f ds i).length=f.ru.length:=by unfold lQ;rw[aX,List.length_range]
theorem uM{ds:List Dn}{i:Nat}(e:ds[i]?=some d):lP f (ds.take (i+1))=lP f (ds.take i)++[mc f d]:=by
 unfold lP;rw[bo e,iN];rfl
theorem C9{ds:List Dn}{i:Nat}(e:ds[i]?=some d):(lQ f ds i).set (mc f d) (.int (((lP f (ds.take i)).count (mc f d):Nat)+1:Int))=lQ f ds (i+1):=by
 refine List.ext_getElem? λm=>?_;rw[List.getElem?_set,mz];by_cases hm:m<f.ru.length
 ·rw[rV hm,rV hm,uM e,List.count_append];by_cases z:mc f d=m
  ·subst z;rw[if_pos rfl,if_pos hm,List.count_singleton_self];rfl
  ·rw[if_neg z,List.count_singleton,if_neg (by simpa using z)];rfl
 ·have h1:(lQ f ds i)[m]?=none:=List.getElem?_eq_none (by rw[mz];omega);have h2:(lQ f ds (i+1))[m]?=none:=List.getElem?_eq_none (by rw[mz];omega);rw[h1,h2];by_cases z:mc f d=m
  ·rw[if_pos z,if_neg (∅)]
  ·rw[if_neg z]
theorem uN:(f.ru.map pO).filterMap (λ_=>some (D.int 0))=lQ f ds 0:=by
 unfold lQ;rw[List.take_zero,List.filterMap_map];show f.ru.filterMap (λ_=>some (D.int 0))=(List.range f.ru.length).map λm=>D.int 0;refine List.ext_getElem? λj=>?_;rw[show(λ_:Int×List Mv=>some (D.int 0))=some∘(λ_=>D.int 0) from rfl,List.filterMap_eq_map,dG,dG];rcases Nat.lt_or_ge j f.ru.length with h | h
 ·rw[List.getElem?_range h,dM h];rfl
 ·rw[List.getElem?_eq_none (l:=f.ru) h,List.getElem?_eq_none (l:=List.range f.ru.length) (by rw[List.length_range];exact h)];rfl
theorem HH(e:ds[i]?=some d):RK f ds i=.tup [.int (mc f d),.int ((lP f (ds.take i)).count (mc f d):Nat)]:=by
 unfold RK;rw[sk,e];rfl
inductive LG (M:aq) (ds:List Dn):D->Prop where
 | l {n:Nat} (h:M[n]?=some (.lst (ds.map cF))):LG M ds (.ah n)
 | t:LG M ds (.tup (ds.map cF))
def mC(F:Fn):Prop:=∀(M:aq)(f:Fm)(ds:List Dn)(x:D),cg f->(∀d∈ds,dh f d)->ds.length<=60->LG M ds x->aP (F [dk f,x] M) λr M'=>∃n',r=.d (.ah n')/\M.length<=n'/\M'[n']?=some (.lst (gT f ds ds.length))/\Ex M M'
noncomputable def LH(gm:Nat):List S:=[.asg [5] (.call gm [(.ae 0),(.ae 4)]),.expr (.me .append (.ae 3) [(.tup [(.ae 5),(.sub (.ae 2) (.ae 5))])]),.put (.ae 2) (.ae 5) (.bin .add (.sub (.ae 2) (.ae 5)) (.ai (.int 1)))]
theorem Gr(hM:j8 (G gm)):mC (aw G 6 (yq gm)):=by
 intro M f ds x hf hd yz hx;have h4:=hf.l4;rw[bu];show dA G (yq gm) [some (.tup [.tup (f.ru.map pO),.tup (f.ro.map sj)]),some x,none,none,none,none] M _ _ _ _;nofun;refine jZ (ds:=f.ru.map pO) (λ_=>some (.int 0)) (by decide) j2 (dB (by rw[aX];omega)) ?_ ?_ rfl
 ·intro j M' dd bP fr;nofun;exact⟨rfl,fr⟩
 intro M1 f1;rw[uN (ds:=ds)];nofun;refine⟨s0,?_⟩;nofun;have lM:=f1.1;have hC:(M1++[MO.lst (lQ f ds 0)]++[MO.lst []])[M1.length]?=some (.lst (lQ f ds 0)):=ay ak;have hE:(M1++[MO.lst (lQ f ds 0)]++[MO.lst []])[(M1++[MO.lst (lQ f ds 0)]).length]?=some (.lst (gT f ds 0)):=ak;have fr:Ex M (M1++[MO.lst (lQ f ds 0)]++[MO.lst []]):=Fr.app (Fr.app f1);have lA:M1.length≠(M1++[MO.lst (lQ f ds 0)]).length:=by rw[gV];simp
 have hle:M.length<=(M1++[MO.lst (lQ f ds 0)]).length:=by rw[gV];omega
 generalize (M1++[MO.lst (lQ f ds 0)]).length=nE at hE lA hle⊢;generalize M1++[MO.lst (lQ f ds 0)]++[MO.lst []]=M2 at hC hE fr⊢;generalize M1.length=nC at hC lA lM⊢
 have step:∀(i:Nat)(ρ:En)(M':aq)(dd:D)(rt:W->aq->Prop)(bk:En->aq->Prop),(ds.map cF)[i]?=some dd->(∃o4 o5,ρ=[some (dk f),some x,some (.ah nC),some (.ah nE),o4,o5]/\M'[nC]?=some (.lst (lQ f ds i))/\M'[nE]?=some (.lst (gT f ds i))/\Ex M M')->DK (bR [4] dd ρ) λρ=>dA G (LH gm) ρ M' (λρ M'=>∃o4 o5,ρ=[some (dk f),some x,some (.ah nC),some (.ah nE),o4,o5]/\M'[nC]?=some (.lst (lQ f ds (i+1)))/\M'[nE]?=some (.lst (gT f ds (i+1)))/\Ex M M') rt bk (λρ M'=>∃o4 o5,ρ=[some (dk f),some x,some (.ah nC),some (.ah nE),o4,o5]/\M'[nC]?=some (.lst (lQ f ds (i+1)))/\M'[nE]?=some (.lst (gT f ds (i+1)))/\Ex M M'):=by
  rintro i ρ M3 dd rt bk bP ⟨o4,o5,rfl,Je,zK,lJ⟩;rw[dG]at bP
  cases e:ds[i]? with
  | none=>rw[e]at bP;cases bP
  | some d =>
   rw[e]at bP;cases bP;have hi:=(dU.mp e).1;have WM:=hd d (gU e);have hm:=WM.mc hf;nofun;refine(hM M3 f d hf WM).imp ?_;rintro r M4 ⟨rfl,rfl⟩;nofun;refine⟨aW zK,?_⟩;nofun;rw[a_ Je (rV hm)];nofun;refine⟨s2,?_⟩;nofun;rw[bD zK (aG (by rw[iJ];omega))];have xi:(M3.set nE (.lst (gT f ds i++[.tup [.int (mc f d),.int ((lP f (ds.take i)).count (mc f d):Nat)]])))[nC]?=some (.lst (lQ f ds i)):=ao Je lA;nofun;rw[a_ xi (rV hm)];nofun;rw[gL xi (by rw[mz];exact hm),C9 e];refine⟨_,_,rfl,aF xi,ao ?_ (Ne.symm lA),Fr.set (Fr.set lJ hle) lM⟩;rw[aF zK,uL,HH e]
 cases hx with
 | l h =>
  rename_i n
  have Qn:n≠nC/\n≠nE:=by have:=aj h;omega
  have h2:=Ex.get fr h;rw[dJ h2];refine Cb (n:=n) (ds:=ds.map cF) (λi ρ M'=>∃o4 o5,ρ=[some (dk f),some (.ah n),some (.ah nC),some (.ah nE),o4,o5]/\M'[nC]?=some (.lst (lQ f ds i))/\M'[nE]?=some (.lst (gT f ds i))/\Ex M M') (by rintro i ρ M' ⟨_,_,_,_,_,h3⟩;exact Ex.get h3 h) ⟨_,_,rfl,hC,hE,fr⟩ (λi ρ M' dd h1 h2=>step i ρ M' dd _ _ h1 h2) ?_;rintro ρ M3 ⟨o4,o5,rfl,Je,zK,lJ⟩;rw[aX]at zK;nofun;exact⟨_,rfl,hle,zK,lJ⟩
 | t =>
  refine fN (ds:=ds.map cF) (λi ρ M'=>∃o4 o5,ρ=[some (dk f),some (.tup (ds.map cF)),some (.ah nC),some (.ah nE),o4,o5]/\M'[nC]?=some (.lst (lQ f ds i))/\M'[nE]?=some (.lst (gT f ds i))/\Ex M M') ⟨_,_,rfl,hC,hE,fr⟩ (λi ρ M' dd h1 h2=>step i ρ M' dd _ _ h1 h2) ?_;rintro ρ M3 ⟨o4,o5,rfl,Je,zK,lJ⟩;rw[aX]at zK;nofun;exact⟨_,rfl,hle,zK,lJ⟩
theorem C_(h1:iw M (.d (.ah a))=some P)(h2:iw M (.d (.ah b))=some P)(hs:SeqAt.shaped P=true):aY .ne (.d (.ah a)) (.d (.ah b)) M=.ok false M/\aY .eq (.d (.ah a)) (.d (.ah b)) M=.ok true M:=by
 have hc:P.canLay0=true:=by
  unfold SeqAt.shaped at hs;exact((cu _ _).mp hs).1
 have hr:PyData.eqv P P=true:=SeqAt.eqv_refl _ hc;constructor
 ·unfold aY;simp only[h1,h2,hs,and_self,if_true,hr];rfl
 ·unfold aY;simp only[h1,h2,hs,and_self,if_true,hr]
theorem Dc{n:Nat}{ds:List Dn}(hM:M[n]?=some (.lst (ds.map cF))):iw M (.d (.ah n))=some (.list (ds.map yk)):=by
 show cW M 30 (.ah n)=_;unfold cW;simp only[hM];rw[wC (by decide) ds];rfl
theorem lj:∀{i r:Nat}{k:Int}{x:Option Nat×Option Nat},eI f s ds i r k=some x->(∀a,x.1=some a->a<i)/\∀a,x.2=some a->a<i
 | 0,r,k,x,h=>by
  have h:(if r<f.ro.length/\k∈cG (load s r) then some (none,none) else none:Option (Option Nat×Option Nat))=some x:=h;split at h
  ·cases h;exact⟨λa z=>(by cases z),λa z=>(by cases z)⟩
  ·cases h
 | i+1,r,k,x,h=>by
  cases e:ds[i]? with
  | none =>
   have q:eI f s ds (i+1)=eI f s ds i:=by
    show(match ds[i]? with
     | some d=>MC f (fin f s (ds.take i)) d i (eI f s ds i)
     | none=>eI f s ds i)=_
    rw[e]
   rw[q]at h;obtain⟨h1,h2⟩:=lj h;exact⟨λa z=>Nat.lt_succ_of_lt (h1 a z),λa z=>Nat.lt_succ_of_lt (h2 a z)⟩
  | some d =>
   rw[gu e]at h
   have oH:∀ {r k x},eI f s ds i r k=some x->(∀a,x.1=some a->a<i+1)/\∀a,x.2=some a->a<i+1:=λ{r k x} h=>by
    obtain⟨h1,h2⟩:=lj h;exact⟨λa z=>Nat.lt_succ_of_lt (h1 a z),λa z=>Nat.lt_succ_of_lt (h2 a z)⟩
   have h:(if (load (fin f s (ds.take i)) r).1<=k/\k<(load (bW f (fin f s (ds.take i)) d) r).1 then some (some i,none) else ki d i (eI f s ds i) r k)=some x:=h;split at h
   ·cases h;exact⟨λa z=>(by cases z;omega),λa z=>(by cases z)⟩
   ·cases d with
    | own m=>exact oH h
    | dg m c=>exact oH h
    | bp q n =>
     have h:(if q=r/\n=k then some (((eI f s ds i q n).getD (none,none)).1,some i) else eI f s ds i r k)=some x:=h;split at h
     ·cases h;refine⟨λa z=>?_,λa z=>(by cases z;omega)⟩
      cases w:eI f s ds i q n with
      | none=>rw[w]at z;cases z
      | some y=>rw[w]at z;exact(oH w).1 a z
     ·exact oH h
theorem Qo(h:i<=n):HT.dW n d (some (i:Int))=i:=by
 show(if ((i:Nat):Int)<0 then (((i:Nat):Int)+(n:Int)).toNat else min ((i:Nat):Int).toNat n)=i;rw[if_neg (∅)];omega
theorem Dd{n i:Nat}{ds:List D}(h:M[n]?=some (.lst ds))(hi:i<=ds.length):kL (.d (.ah n)) none (some (i:Int)) M=.ok (.lv (ds.take i)) M:=by
 have e:Ev.cutD ds none (some (i:Int))=ds.take i:=by
  unfold Ev.cutD;rw[Qo hi,show HT.dW ds.length 0 none=0 from rfl,List.drop_zero,Nat.sub_zero]
 unfold kL;simp only[bx,h,e]
def mI(f:Fm)(d:Dn):D:=.int (mc f d)
theorem yC:∀ds:List Dn,fG (ds.map (mI f))=some (ds.map λd=>(mc f d:Int))
 | []=>rfl
 | d::ds=>by
  show(fG (ds.map (mI f))).map _=_;rw[yC ds];rfl
theorem uO{m:Nat}:∀ds:List Dn,(ds.map λd=>(mc f d:Int)).count (m:Int)=(lP f ds).count m
 | []=>rfl
 | d::ds=>by
  unfold lP;rw[List.map_cons,List.map_cons,List.count_cons,List.count_cons];have:=uO (f:=f) (m:=m) ds;unfold lP at this;rw[this]
  congr 1
  by_cases h:mc f d=m
  ·rw[h];simp
  ·rw[if_neg (by simp;omega),if_neg (by simp;omega)]
theorem LI{ds:List Dn}{m:Nat}:kN (.lv (ds.map (mI f))) (.d (.int m)) M=.ok (.d (.int ((lP f ds).count m:Nat))) M:=by
 unfold kN;simp only[show dr M (.lv (ds.map (mI f)))=some (ds.map (mI f)) from rfl,yC,uO]
theorem is_list(h:M[n]?=some (.lst ds)):jl (.uW .list) [.d (.ah n)] M=.ok (.d (.bl true)) M:=by
 unfold jl EJ;simp only[h];rfl
def ef(M:aq)(n:Nat)(ag:Kv):aq:=M.set n (.dF ag)
theorem LJ(h:dC f s ds):∀d∈ds,dh f d:=λd hd=>by
 obtain⟨i,hi,rfl⟩:=List.mem_iff_getElem.mp hd;exact(gP h (dM hi)).1
end Ev
end
section
namespace Ev
open PySem
def yD(km:Nat)(d7:Nat):List S:=[.asg [3] (.call km [(.ae 0),(.ae 1),(.ae 2)]),.eD 4 (.comp .seq [(.ae 2)] [1] none (.lst []) [none,none]),.asg [5] (.tq [] []),.bq [6,7] .enum [(.call d7 [(.ae 0),(.ae 2)])] [.iff (.val (.cmp .isin (.sub (.ae 7) (.ai (.int 0))) (.ae 5))) [.expr (.me .append (.sub (.ae 4) (.ae 6)) [(.sub (.ae 5) (.sub (.ae 7) (.ai (.int 0))))])] [],.put (.ae 5) (.sub (.ae 7) (.ai (.int 0))) (.ae 6)],.bq [8,9] .vals [(.ae 3)] [.iff (.dq [(.val (.cmp .eZ (.ae 8) (.ai .aQ))),(.val (.cmp .eZ (.ae 9) (.ai .aQ)))]) [.expr (.me .append (.sub (.ae 4) (.ae 9)) [(.ae 8)])] []],.ret (.ae 4)]
def yE(mD:Nat)(d7:Nat):List S:=[.asg [3] (.call mD [(.ae 0),(.ae 1),(.ae 2)]),.asg [4] (.lst []),.bq [5,6] .enum [(.call d7 [(.ae 0),(.ae 2)])] [.eD 7 (.comp .seq [(.sub (.ae 0) (.ai (.int 0)))] [1] none (.ai (.int 0)) [none,none]),.bq [8] .seq [(.sub (.ae 3) (.ae 5))] [.eD 7 (.comp .zip [(.ae 7),(.sub (.ae 4) (.ae 8))] [1,2] none (.bi .max2 [(.ae 1),(.ae 2)]) [none,none,none])],.put (.ae 7) (.sub (.ae 6) (.ai (.int 0))) (.bin .add (.sub (.ae 6) (.ai (.int 1))) (.ai (.int 1))),.expr (.me .append (.ae 4) [(.bi .tuple1 [(.ae 7)])])],.ret (.ae 4)]
noncomputable def De:List S:=[.asg [4] (.sub (.ae 0) (.ae 2)),.ret (.dq [(.cmp .ne (.ae 2) (.ae 3)),(.cmp .lt (.sub (.ae 4) (.ai (.int 1))) (.sub (.sub (.ae 1) (.ae 3)) (.sub (.ae 4) (.ai (.int 0)))))])]
def uP(fV:Nat)(bw:Nat)(bX:Nat):List S:=[.asg [3] (.tq [] []),.asg [4] .kJ,.asg [5] (.lst []),.bq [6] .dm [(.bi .len [(.ae 2)])] [.asg [7] (.call fV [(.ae 0),(.sub (.ae 2) (.ae 6))]),.asg [8] (.ite (.val (.cmp .isin (.ae 7) (.ae 3))) (.lst [(.sub (.ae 3) (.ae 7))]) (.lst [])),.iff (.dq [(.val (.cmp .eq (.sub (.sub (.ae 2) (.ae 6)) (.ai (.int 0))) (.ai (.str "come")))),(.val (.f_ false (.nh (.sub (.ae 2) (.ae 6)) (some (.ai (.int 1))) none) (.ae 4)))]) [.expr (.me .append (.ae 8) [(.jk (.ae 4) (.nh (.sub (.ae 2) (.ae 6)) (some (.ai (.int 1))) none))])] [],.expr (.me .append (.ae 5) [(.ae 8)]),.put (.ae 3) (.ae 7) (.ae 6),.asg [9] (.sub (.call bw [(.ae 0),(.ae 1),(.sub (.ae 2) (.ae 6))]) (.ai (.int 1))),.eD 10 (.comp .seq [(.sub (.ae 1) (.ai (.int 1)))] [1] none (.sub (.ae 1) (.ai (.int 0))) [none,none]),.bq [11,12] .seq [(.ae 9)] [.dput (.ae 4) (.tup [(.ae 11),(.sub (.ae 10) (.ae 11))]) (.ae 6),.put (.ae 10) (.ae 11) (.bin .add (.sub (.ae 10) (.ae 11)) (.ai (.int 1)))],.asg [1] (.sub (.call bX [(.ae 0),(.ae 1),(.sub (.ae 2) (.ae 6))]) (.ai (.int 0)))],.ret (.ae 5)]
noncomputable def yF:List S:=[.asg [1] (.lst []),.bq [2] .dm [(.bi .len [(.ae 0)])] [.asg [3] (.lst []),.asg [4] (.bi .list1 [(.sub (.ae 0) (.ae 2))]),.DJ 1000 (.val (.cmp .ne (.ae 4) (.lst []))) [.asg [5] (.me .pop (.ae 4) []),.iff (.val (.cmp .d9 (.ae 5) (.ae 3))) [.expr (.me .append (.ae 3) [(.ae 5)]),.asg [4] (.bin .add (.ae 4) (.sub (.ae 0) (.ae 5)))] []],.expr (.me .append (.ae 1) [(.bi .m_ [(.ae 3)])])],.ret (.ae 1)]
end Ev
end
section
namespace Ev
open L2
open PySem PySem.Spec PyProof.Rows
section
variable (A:Nat->List Nat) (mA cA:Nat->Nat)
inductive kn:Nat->Nat->Prop where
 | one {i j:Nat} (h:j∈A i):kn i j
 | more {i o j:Nat} (h:o∈A i) (r:kn o j):kn i j
noncomputable def tk:Nat->Nat->Nat->Nat
 | 0,_,_=>0
 | f+1,i,m=>if m=mA i then cA i+1 else (A i).foldl (λa o=>max a (tk f o m)) 0
def Tk(i m:Nat):Nat:=tk A mA cA (i+1) i m
end
section
variable {A:Nat->List Nat} {mA cA:Nat->Nat}
theorem kn.lt(hA:∀i j,j∈A i->j<i)(h:kn A i j):j<i:=by
 induction h with
 | one h=>exact hA _ _ h
 | more h _ ih=>have:=hA _ _ h;omega
theorem kn.inv(h:kn A i j):∃o∈A i,j=o\/kn A o j:=by
 cases h with
 | one h=>exact⟨j,h,.inl rfl⟩
 | more h r=>exact⟨_,h,.inr r⟩
theorem kn.of(h:o∈A i)(r:j=o\/kn A o j):kn A i j:=by
 rcases r with rfl | r
 ·exact .one h
 ·exact .more h r
theorem oB{α:Type}{l:List Nat}{f g:α->Nat->α}{a:α}(h:∀a,∀o∈l,f a o=g a o):l.foldl f a=l.foldl g a:=by
 induction l generalizing a with
 | nil=>rfl
 | cons x l ih =>
  rw[List.foldl_cons,List.foldl_cons,h a x List.mem_cons_self];exact ih λa o ho=>h a o (ja _ ho)
theorem yG(hA:∀i j,j∈A i->j<i):∀(f g i m:Nat),i<f->i<g->tk A mA cA f i m=tk A mA cA g i m
 | 0,_,_,_,h,_=>∅
 | _+1,0,_,_,_,h=>∅
 | f+1,g+1,i,m,h1,h2=>by
  unfold tk;by_cases hm:m=mA i
  ·rw[if_pos hm,if_pos hm]
  ·rw[if_neg hm,if_neg hm];refine oB λa o ho=>?_;have:=hA i o ho;rw[yG hA f g o m (∅) (∅)]
theorem uQ(hA:∀i j,j∈A i->j<i)(i m:Nat):Tk A mA cA i m=if m=mA i then cA i+1 else (A i).foldl (λa o=>max a (Tk A mA cA o m)) 0:=by
 show tk A mA cA (i+1) i m=_;unfold tk;by_cases hm:m=mA i
 ·rw[if_pos hm,if_pos hm]
 ·rw[if_neg hm,if_neg hm];refine oB λa o ho=>?_;have:=hA i o ho;rw[yG hA i (o+1) o m (∅) (∅)];rfl
theorem Df{l:List Nat}{g:Nat->Nat}{c:Nat}:∀{a:Nat},c<l.foldl (λa o=>max a (g o)) a↔c<a\/∃o∈l,c<g o:=by
 induction l with
 | nil=>intro a;simp
 | cons x l ih =>
  intro a;rw[List.foldl_cons,ih];constructor
  ·rintro(h | ⟨o,ho,h⟩)
   ·rcases Nat.lt_or_ge c a with z | z
    ·exact .inl z
    ·exact .inr ⟨x,List.mem_cons_self,∅⟩
   ·exact .inr ⟨o,ja _ ho,h⟩
  ·rintro(h | ⟨o,ho,h⟩)
   ·exact .inl (∅)
   ·rcases List.mem_cons.mp ho with rfl | ho
    ·exact .inl (∅)
    ·exact .inr ⟨o,ho,h⟩
theorem wN {n : Nat} (hA : ∀ i j, j ∈ A i -> j < i) (hc : ∀ i j, i < n -> j < n -> mA i = mA j -> (cA j < cA i ↔ j < i)) (hp : ∀ i j, i < n -> j < i -> mA j = mA i -> ∃ o ∈ A i, mA o = mA i /\ j <= o) :
    ∀(i j:Nat),i<n->j<n->((j=i\/kn A i j)↔cA j<Tk A mA cA i (mA j)):=by
  intro i
  induction i using Nat.strongRecOn with
  | _ i ih =>
    intro j hi hj;rw[uQ hA];by_cases hm:mA j=mA i
    · rw[if_pos hm];constructor
      · rintro(rfl | h)
        · omega
        · have:=(hc i j hi hj hm.symm).mpr (h.lt hA);omega
      · intro h;rcases Nat.lt_or_ge j i with z | z
        · obtain⟨o,ho,WN,hjo⟩:=hp i j hi z hm;have LK:=hA i o ho;refine .inr (kn.of ho ?_);refine(ih o LK j (∅) hj).mpr ?_;rw[uQ hA,if_pos (hm.trans WN.symm)];rcases Nat.lt_or_ge j o with y | y
          · have:=(hc o j (∅) hj (WN.trans hm.symm)).mpr y;omega
          · have:j=o:=∅;subst this;omega
        · rcases Nat.lt_or_ge i j with y | y
          · have:=(hc j i hj hi hm).mpr y;omega
          · exact .inl (∅)
    · rw[if_neg hm,Df];constructor
      · rintro(rfl | h)
        · exact absurd rfl hm
        · obtain⟨o,ho,r⟩:=h.inv;have LK:=hA i o ho;exact .inr ⟨o,ho,(ih o LK j (∅) hj).mp r⟩
      · rintro(h | ⟨o,ho,h⟩)
        · omega
        · have LK:=hA i o ho;exact .inr (kn.of ho ((ih o LK j (∅) hj).mpr h))
end
def mA(f:Fm)(ds:List Dn)(i:Nat):Nat:=mc f (ds.getD i (.own 0))
def cA(f:Fm)(ds:List Dn)(i:Nat):Nat:=(lP f (ds.take i)).count (mA f ds i)
theorem pU(e:ds[i]?=some d):mA f ds i=mc f d:=by
 unfold mA;rw[sk,e];rfl
def bf(f:Fm)(ds:List Dn)(m:Nat):Nat->Option Nat
 | 0=>none
 | i+1=>if mA f ds i=m then some i else bf f ds m i
theorem lp:∀{i j:Nat},bf f ds m i=some j->j<i/\mA f ds j=m/\∀k,k<i->mA f ds k=m->k<=j
 | 0,j,h=>by cases h
 | i+1,j,h=>by
  unfold bf at h;by_cases hm:mA f ds i=m
  ·rw[if_pos hm]at h;cases h;exact⟨∅,hm,λk hk _=>∅⟩
  ·rw[if_neg hm]at h;obtain⟨h1,h2,h3⟩:=lp h;refine⟨∅,h2,λk hk WO=>?_⟩;rcases Nat.lt_or_ge k i with z | z
   ·exact h3 k z WO
   ·have:k=i:=∅;subst this;exact absurd WO hm
theorem pV:∀{i:Nat},bf f ds m i=none->∀k,k<i->mA f ds k≠m
 | 0,_,k,hk=>∅
 | i+1,h,k,hk=>by
  unfold bf at h;by_cases hm:mA f ds i=m
  ·rw[if_pos hm]at h;cases h
  ·rw[if_neg hm]at h;rcases Nat.lt_or_ge k i with z | z
   ·exact pV h k z
   ·have:k=i:=∅;subst this;exact hm
theorem jB(hi:i<ds.length):(lP f (ds.take (i+1))).count m=(lP f (ds.take i)).count m+if mA f ds i=m then 1 else 0:=by
 have e:ds[i]?=some ds[i]:=dM hi;rw[uM e,List.count_append,List.count_singleton,<- pU (f:=f) e];simp
theorem oC{ds:List Dn}{m i j:Nat}(h:i<=j):(lP f (ds.take i)).count m<=(lP f (ds.take j)).count m:=by
 unfold lP;have:ds.take i=(ds.take j).take i:=by rw[List.take_take];congr 1;omega
 rw[this,List.map_take];exact List.Sublist.count_le _ (List.take_sublist _ _)
theorem Qp{ds:List Dn}{i j:Nat}(hi:i<ds.length)(hj:j<ds.length)(hm:mA f ds i=mA f ds j):cA f ds j<cA f ds i↔j<i:=by
 have fT:∀{i j:Nat},j<ds.length->mA f ds i=mA f ds j->j<i->cA f ds j<cA f ds i:=λ{i j} hj hm h=>by
  unfold cA;rw[hm];have h1:=jB (f:=f) (m:=mA f ds j) hj;rw[if_pos rfl]at h1;have h2:=oC (f:=f) (ds:=ds) (m:=mA f ds j) (i:=j+1) (j:=i) (∅);omega
 constructor
 ·intro h;rcases Nat.lt_trichotomy j i with z | z | z
  ·exact z
  ·subst z;omega
  ·have:=fT hi hm.symm z;omega
 ·exact fT hj hm
theorem lI:∀{n:Nat},n<=ds.length->((List.range n).filter λj=>decide (mA f ds j=m)&&decide (cA f ds j<t)).length=min t ((lP f (ds.take n)).count m)
 | 0,_=>by simp[lP]
 | n+1,h=>by
  rw[List.range_succ,List.filter_append,gV,lI (n:=n) (∅),jB (∅)];by_cases hm:mA f ds n=m
  ·subst hm;rw[if_pos rfl];show min t (cA f ds n)+_=min t (cA f ds n+1);by_cases hc:cA f ds n<t
   ·rw[List.filter_cons,if_pos (by simp[hc])];show min t (cA f ds n)+1=_;omega
   ·rw[List.filter_cons,if_neg (by simp;omega)];show min t (cA f ds n)+0=_;omega
  ·rw[if_neg hm,List.filter_cons,if_neg (by simp[hm])];rfl
def oE(f:Fm)(s:Sd)(ds:List Dn)(i:Nat):Option Nat:=match ds[i]? with
 | some (.bp r k)=>(eI f s ds i r k).bind (·.1)
 | _=>none
def jD(f:Fm)(s:Sd)(ds:List Dn)(i:Nat):List Nat:=(bf f ds (mA f ds i) i).toList++(oE f s ds i).toList
theorem Gu(h:oE f s ds i=some j):j<i:=by
 unfold oE at h;split at h
 ·rename_i r k _
  cases e:eI f s ds i r k with
  | none=>rw[e]at h;cases h
  | some x=>rw[e]at h;exact(lj e).1 j h
 ·cases h
theorem eQ(i j:Nat)(h:j∈jD f s ds i):j<i:=by
 rcases fk.mp h with z | z
 ·exact(lp (Option.mem_toList.mp z)).1
 ·exact Gu (Option.mem_toList.mp z)
theorem Dg(h:j<i)(hm:mA f ds j=mA f ds i):∃o∈jD f s ds i,mA f ds o=mA f ds i/\j<=o:=by
 cases e:bf f ds (mA f ds i) i with
 | none=>exact absurd hm (pV e j h)
 | some o =>
  obtain⟨_,h2,h3⟩:=lp e;exact⟨o,fk.mpr (.inl (by rw[e];simp)),h2,h3 j h hm⟩
theorem Gv:(jD f s ds i).length<=2:=by
 unfold jD;rw[gV];have h:∀o:Option Nat,o.toList.length<=1:=λo=>by cases o<;>simp
 have:=h (bf f ds (mA f ds i) i);have:=h (oE f s ds i);omega
theorem Dh(hs:bE f N s)(hr:r<f.ro.length)(h:k∈cG (load s r)):k<(load s r).1:=by
 obtain⟨p,hp,rfl⟩:=gZ.mp h;exact((hs.zF hr).2.p p hp).2.2
theorem Gw(h:k∈cG (RI s d r)):k∈cG (load s r):=by
 cases d with
 | own m=>exact h
 | dg m c=>exact h
 | bp q n =>
  have h:k∈cG (if q=r then less (load s r) n else load s r):=h;split at h
  ·unfold cG less at h;obtain⟨p,hp,rfl⟩:=gZ.mp h;exact gZ.mpr ⟨p,(List.mem_filter.mp hp).1,rfl⟩
  ·exact h
section
variable {f:Fm} (hf:cg f) {N:Nat} {s:Sd} (hs:bE f N s) {ds:List Dn} (hr:dC f s ds)
include hf hs hr
theorem Vo(e:ds[i]?=some (.bp r k)):∀t,i<t->t<=ds.length->k∉cG (load (fin f s (ds.take t)) r)/\k<(load (fin f s (ds.take t)) r).1:=by
 intro t
 induction t with
 | zero=>intro h;omega
 | succ t ih =>
  intro h1 h2;have et:ds[t]?=some ds[t]:=dM (∅);obtain⟨k1,k2⟩:=gP hr et;have eJ:=bE.fin hf hs (gq (i:=t) hr);obtain⟨m1,m2⟩:=ow hf eJ k1 k2 r;rw[oy et];rcases Nat.lt_or_ge i t with z | z
  ·obtain⟨g1,g2⟩:=ih z (∅);refine⟨λq=>?_,∅⟩;rw[m2]at q;rcases fk.mp q with q | q
   ·exact g1 (Gw q)
   ·have:=(kl.mp q).1;omega
  ·have:i=t:=∅;subst this;rw[e]at et;have et:=eU et;rw[<- et]at k1 k2 m1 m2⊢;have hk:=Dh eJ k1 (kh k2).1;refine⟨λq=>?_,∅⟩;rw[m2]at q;rcases fk.mp q with q | q
   ·have q:k∈cG (if r=r then less (load (fin f s (ds.take i)) r) k else load (fin f s (ds.take i)) r):=q;rw[if_pos rfl]at q;unfold cG less at q;obtain⟨p,hp,e2⟩:=gZ.mp q;have:=(List.mem_filter.mp hp).2;rw[e2]at this;simp at this
   ·have:=(kl.mp q).1;omega
theorem kept(e:ds[i]?=some (.bp r k)):∀t,i<t->t<=ds.length->eI f s ds t r k=some ((eI f s ds i r k).bind (·.1),some i):=by
 intro t
 induction t with
 | zero=>intro h;omega
 | succ t ih =>
  intro h1 h2;have et:ds[t]?=some ds[t]:=dM (∅);obtain⟨k1,k2⟩:=gP hr et;have eJ:=bE.fin hf hs (gq (i:=t) hr);rw[gu et];rcases Nat.lt_or_ge i t with z | z
  ·obtain⟨g1,g2⟩:=Vo hf hs hr e t z (∅);show(if (load (fin f s (ds.take t)) r).1<=k/\k<(load (bW f (fin f s (ds.take t)) ds[t]) r).1 then some (some t,none) else ki ds[t] t (eI f s ds t) r k)=_;rw[if_neg (∅)];have ih:=ih z (∅);generalize ds[t]=d at k1 k2
   cases d with
   | own m=>exact ih
   | dg m c=>exact ih
   | bp q n =>
    show(if q=r/\n=k then some _ else eI f s ds t r k)=_;rw[if_neg]
    ·exact ih
    ·rintro⟨rfl,rfl⟩;exact g1 (kh k2).1
  ·have:i=t:=∅;subst this;rw[e]at et;have et:=eU et;rw[<- et]at k1 k2⊢;have hk:=Dh eJ k1 (kh k2).1;show(if (load (fin f s (ds.take i)) r).1<=k/\k<(load (bW f (fin f s (ds.take i)) (.bp r k)) r).1 then some (some i,none) else (if r=r/\k=k then some (((eI f s ds i r k).getD (none,none)).1,some i) else eI f s ds i r k))=_;rw[if_neg (∅),if_pos ⟨rfl,rfl⟩]
   cases eI f s ds i r k with
   | none=>rfl
   | some x=>rfl
omit hf hs hr in
theorem zL:∀{t:Nat},eI f s ds t r k=some (a,some c)->ds[c]?=some (.bp r k)
 | 0,h=>by
  have h:(if r<f.ro.length/\k∈cG (load s r) then some (none,none) else none:Option (Option Nat×Option Nat))=some (a,some c):=h;split at h<;>cases h
 | t+1,h=>by
  cases e:ds[t]? with
  | none =>
   have q:eI f s ds (t+1)=eI f s ds t:=by
    show(match ds[t]? with
     | some d=>MC f (fin f s (ds.take t)) d t (eI f s ds t)
     | none=>eI f s ds t)=_
    rw[e]
   rw[q]at h;exact zL h
  | some d =>
   rw[gu e]at h;have h:(if (load (fin f s (ds.take t)) r).1<=k/\k<(load (bW f (fin f s (ds.take t)) d) r).1 then some (some t,none) else ki d t (eI f s ds t) r k)=some (a,some c):=h;split at h
   ·cases h
   ·cases d with
    | own m=>exact zL h
    | dg m c=>exact zL h
    | bp q n =>
     have h:(if q=r/\n=k then some (((eI f s ds t q n).getD (none,none)).1,some t) else eI f s ds t r k)=some (a,some c):=h;by_cases z:q=r/\n=k
     ·rw[if_pos z]at h;have e2:some t=some c:=congrArg Prod.snd (eU h);rw[<- eU e2,e,z.1,z.2]
     ·rw[if_neg z]at h;exact zL h
end
abbrev MF:=Nat×Int×(Option Nat×Option Nat)
def Vp(t:MF):List bA×D:=(k2 t.1 t.2.1,zI t.2.2)
theorem zM{ag:Kv}(h:(ag.map (·.1)).Nodup){p:List bA×D}(hp:p∈ag):cS ag p.1=some p.2:=by
 unfold cS
 induction ag with
 | nil=>cases hp
 | cons q ag ih =>
  rw[List.map_cons,List.nodup_cons]at h;rw[List.find?_cons];rcases List.mem_cons.mp hp with rfl | hp
  ·simp
  ·have:decide (q.1=p.1)=false:=decide_eq_false λz=>h.1 (by rw[z];exact gZ.mpr ⟨p,hp,rfl⟩);simp only[this];exact ih h.2 hp
theorem fO.typed{ag:Kv}{L:Lm}(h:fO ag L):∃ts:List MF,ag=ts.map Vp/\ts.Nodup/\∀t,t∈ts↔L t.1 t.2.1=some t.2.2:=by
 obtain⟨ts,e,q⟩:=rD (toD:=λt:MF=>D.tup [.int t.1,.int t.2.1,zI t.2.2]) (ds:=ag.map λp=>D.tup (p.1.map kD++[p.2])) (Q:=λt=>L t.1 t.2.1=some t.2.2) λx hx=>by
  obtain⟨p,hp,rfl⟩:=gZ.mp hx;obtain⟨r,k,x,ek,hL⟩:=h.ky p.1 (gZ.mpr ⟨p,hp,rfl⟩);refine⟨(r,k,x),?_,hL⟩;have:=zM h.nd hp;rw[ek,h.gt,hL]at this;have:=eU this;rw[ek,<- this];rfl
 have hk:ag=ts.map Vp:=by
  have hl:ag.length=ts.length:=by have:=congrArg List.length e;rw[aX,aX]at this;exact this
  refine List.ext_getElem? λi=>?_;rcases Nat.lt_or_ge i ag.length with hi | hi
  ·have e1:(ag.map λp=>D.tup (p.1.map kD++[p.2]))[i]?=(ts.map λt:MF=>D.tup [.int t.1,.int t.2.1,zI t.2.2])[i]?:=by rw[e]
   rw[dG,dG,dM hi,dM (∅)]at e1;have e1:=eU e1;obtain⟨r,k,x,ek,hL⟩:=h.ky ag[i].1 (gZ.mpr ⟨ag[i],List.getElem_mem hi,rfl⟩);rw[dG,dM hi,dM (∅)];show some ag[i]=some (Vp ts[i]);have e1:D.tup (ag[i].1.map kD++[ag[i].2])=D.tup [.int ts[i].1,.int ts[i].2.1,zI ts[i].2.2]:=e1;rw[ek]at e1;have e1:D.tup [.int r,.int k,ag[i].2]=D.tup [.int ts[i].1,.int ts[i].2.1,zI ts[i].2.2]:=e1;simp only[D.tup.injEq,List.cons.injEq,D.int.injEq,and_true]at e1;obtain⟨z1,z2,z3⟩:=e1;have z1:r=ts[i].1:=∅
   congr 1
   refine Prod.ext ?_ z3;rw[ek,z1,z2];rfl
  ·rw[List.getElem?_eq_none hi,List.getElem?_eq_none (by rw[aX];omega)]
 refine⟨ts,hk,?_,λt=>⟨q t,λht=>?_⟩⟩
 ·have:=h.nd;rw[hk,List.map_map]at this;exact(List.pairwise_map.mp this).imp λh e=>h (congrArg _ e)
 ·have:k2 t.1 t.2.1∈ag.map (·.1):=h.mem.mpr (by rw[ht];rfl);rw[hk,List.map_map]at this;obtain⟨u,hu,eu⟩:=gZ.mp this;obtain⟨z1,z2⟩:=wK (show k2 u.1 u.2.1=k2 t.1 t.2.1 from eu);have h3:=q u hu;rw[z1,z2,ht]at h3;have h3:=eU h3;obtain⟨a,b,c⟩:=t;obtain⟨a',b',c'⟩:=u;have z1:a'=a:=z1;have z2:b'=b:=z2;have h3:c=c':=h3;have:(a,b,c)=(a',b',c'):=by rw[z1,z2,h3]
  rw[this];exact hu
noncomputable def gv(ts:List MF)(i:Nat):List Nat:=ts.filterMap λt=>match t.2.2 with
 | (some a,some c)=>if c=i then some a else none
 | _=>none
theorem oF{α β:Type}{g:α->Option β}{t0:α}:∀{l:List α},l.Nodup->(∀t∈l,t≠t0->g t=none)->t0∈l->l.filterMap g=(g t0).toList
 | x::l,h,q,m=>by
  rw[List.nodup_cons]at h;rw[List.filterMap_cons];by_cases e:x=t0
  ·subst e;rw[List.filterMap_eq_nil_iff.mpr λt ht=>q t (ja _ ht) λz=>h.1 (by rw[<- z];exact ht)];cases g x<;>rfl
  ·rw[q x List.mem_cons_self e];refine oF (g:=g) (t0:=t0) h.2 (λt ht=>q t (ja _ ht)) ?_;rcases List.mem_cons.mp m with z | z
   ·exact absurd z.symm e
   ·exact z
theorem yH{f:Fm}(hf:cg f){N:Nat}{s:Sd}(hs:bE f N s){ds:List Dn}(hr:dC f s ds){ts:List MF}(nd:ts.Nodup)(hm:∀t,t∈ts↔eI f s ds ds.length t.1 t.2.1=some t.2.2){i:Nat}(hi:i<ds.length):gv ts i=(oE f s ds i).toList:=by
  have none_of : ∀ t ∈ ts, (∀ r k, ds[i]? = some (.bp r k) -> ¬ (t.1 = r /\ t.2.1 = k)) -> (match t.2.2 with
      | (some a,some c)=>if c=i then some a else none
      | _=>none:Option Nat)=none:=λt ht q=>by
    obtain⟨r,k,a,c⟩:=t
    cases a with
    | none=>rfl
    | some a =>
      cases c with
      | none=>rfl
      | some c =>
        show(if c=i then some a else none)=none;rw[if_neg];rintro rfl;exact q r k (zL ((hm _).mp ht)) ⟨rfl,rfl⟩
  unfold gv oE;split
  · rename_i r k e
    have hk:=kept hf hs hr e ds.length hi (bJ _)
    rw[oF (t0:=(r,k,((eI f s ds i r k).bind (·.1),some i))) nd (λt ht ne=>none_of t ht λr' k' e' z=>by
      rw[e]at e';cases e';obtain⟨rfl,rfl⟩:=z;have:=(hm t).mp ht;rw[hk]at this;have:=eU this;obtain⟨a,b,c⟩:=t;have this:_=c:=this;exact ne (by rw[<- this])) ((hm (r,k,((eI f s ds i r k).bind (·.1),some i))).mpr hk)]
    cases (eI f s ds i r k).bind (·.1)with
    | none=>rfl
    | some a=>show(if i=i then some a else none:Option Nat).toList=_;rw[if_pos rfl]
  · rename_i ne
    rw[List.filterMap_eq_nil_iff.mpr λt ht=>none_of t ht λr k e _=>ne r k e];rfl
abbrev Kn:=List (bA×D)
def HI(ag:Kn)(l:Nat->Option Nat):Prop:=∀m:Nat,cS ag (Sum.inl (m:Int):bA)=(l m).map λn:Nat=>D.int n
theorem HI.put(h:HI ag l)(m n:Nat):HI (cD ag (Sum.inl (m:Int)) (.int n)) λm'=>if m'=m then some n else l m':=λm'=>by
 rw[rR];show _=(if m'=m then some n else l m').map λn:Nat=>D.int n;by_cases e:m'=m
 ·subst e;rw[if_pos rfl,if_pos rfl];rfl
 ·rw[if_neg (λz=>e (by have:=Sum.inl.inj z;omega)),if_neg e,h]
theorem HJ{n m:Nat}(hM:M[n]?=some (.dK ag))(h:HI ag l):aY .isin (.d (.int m)) (.d (.ah n)) M=.ok (l m).isSome M:=by
 unfold aY;simp only[show bx M (.d (.ah n))=none by unfold bx;simp only[hM],show gY M (.d (.ah n))=some ag by unfold gY;simp only[hM],show tL (.d (.int m))=some (Sum.inl (m:Int)) from rfl,h m,Option.isSome_map]
theorem Di(hM:M[n]?=some (.dK ag))(h:HI ag l)(e:l m=some j):cU (.d (.ah n)) (.d (.int m)) M=.ok (.d (.int j)) M:=by
 unfold cU bx;simp only[hM,h m,e,Option.map_some]
theorem Dj(hM:M[n]?=some (.dK ag))(hl:ag.length<=1000):gD (.d (.ah n)) (.d (.int m)) d M=.ok () (M.set n (.dK (cD ag (Sum.inl (m:Int)) d))):=by
 unfold gD;simp only[hM];rw[if_pos (aG hl)]
structure zN (M0 M:aq) (as:List Nat) (g:Nat->List Int):Prop where
 av:∀(r a:Nat),as[r]?=some a->M[a]?=some (.lst ((g r).map D.int))
 bd:∀a∈as,M0.length<=a/\a<M.length
 nd:as.Nodup
 ex:Ex M0 M
theorem zN.nil(h:Ex M0 M):zN M0 M [] g:=⟨λr a e=>(by simp at e),λa h=>(by cases h),List.nodup_nil,h⟩
theorem zN.more{M0 M M1:aq}{as:List Nat}{g:Nat->List Int}(h:zN M0 M as g)(f:Ex M M1):zN M0 M1 as g:=⟨λr a e=>Ex.get f (h.av r a e),λa ha=>⟨(h.bd a ha).1,Nat.lt_of_lt_of_le (h.bd a ha).2 f.1⟩,h.nd,Ex.trans h.ex f⟩
theorem zN.snoc(h:zN M0 M as g)(ha:M[a]?=some (.lst ((g as.length).map D.int)))(h0:M0.length<=a)(hn:a∉as):zN M0 M (as++[a]) g:=by
 refine⟨λr b e=>?_,λb hb=>?_,?_,h.ex⟩
 ·rcases Nat.lt_or_ge r as.length with z | z
  ·rw[uU z]at e;exact h.av r b e
  ·rw[List.getElem?_append_right z]at e
   have hr:r=as.length:=by
    have:=(dU.mp e).1;simp only[List.length_cons,List.length_nil]at this;omega
   subst hr;simp at e;subst e;exact ha
 ·rcases fk.mp hb with z | z
  ·exact h.bd b z
  ·rw[List.mem_singleton.mp z];exact⟨h0,aj ha⟩
 ·rw[List.nodup_append];exact⟨h.nd,by simp,λx hx y hy e=>hn (by rw[<- List.mem_singleton.mp hy,<- e];exact hx)⟩
theorem zN.new(h:zN M0 M as g):zN M0 (M++[MO.lst ((g as.length).map D.int)]) (as++[M.length]) g :=
 (h.more (Fr.app (Ex.refl M))).snoc ak h.ex.1 λz=>by have:=(h.bd _ z).2;omega
def jI(l:List Nat):List Int:=l.map λj:Nat=>(j:Int)
def iK(F:Fn):Prop:=∀(M:aq)(f:Fm)(N:Nat)(s:Sd)(ds:List Dn)(n:Nat),cg f->bE f N s->N+3*ds.length<=890->ds.length<=60->dC f s ds->M[n]?=some (.lst (ds.map cF))->aP (F [dk f,cV s,.ah n] M) λr M'=>∃n' as,r=.d (.ah n')/\as.length=ds.length/\lO M' n' as (λi=>jI (jD f s ds i))/\Ex M M'
theorem Qq(h:M[n]?=some (.dT ag)):fC .vals [.d (.ah n)] M=.ok (.items (ag.map (·.2))) (M.set n (.dF ag)):=by
 unfold fC;simp only[h]
theorem Gx(hL:oA (G km))(hE:mC (G d7)):iK (aw G 10 (yD km d7)):=by
 intro M f N s ds n hf hs hN yz hr hn
 have HK:∀d∈ds,dh f d:=λd hd=>by
  obtain⟨i,hi,rfl⟩:=List.mem_iff_getElem.mp hd;exact(gP hr (dM hi)).1
 rw[bu];show dA G (yD km d7) [some (dk f),some (cV s),some (.ah n),none,none,none,none,none,none,none] M _ _ _ _;nofun;refine(hL M f N s ds n hf hs hN yz hr hn).imp ?_;rintro r M1 ⟨nL,ag,rfl,DL,Gk,hR,f1⟩;have wI:=Ex.get f1 hn;have lL:=aj Gk;nofun;rw[dJ wI];refine ig (ds:=ds.map cF) (λi M' acc=>∃as:List Nat,acc=as.map D.ah/\as.length=i/\zN M1 M' as (λ_=>[])) (by decide) (λi M' acc ⟨as,_,_,h⟩ hi=>lG wI M' h.ex i hi) ⟨[],rfl,rfl,zN.nil (Ex.refl M1)⟩ ?_ ?_ (nU wI)
 ·rintro i M' acc dd bP ⟨as,rfl,uV,hv⟩;have hi:=(dU.mp bP).1;rw[aX]at hi;refine⟨aG (by rw[aX];omega),?_⟩;nofun;refine⟨s0,?_⟩;nofun;exact⟨as++[M'.length],by rw[iN];rfl,by rw[gV,uV];rfl,hv.new⟩
 rintro M2 acc ⟨as,rfl,uV,hv⟩;rw[aX]at uV;nofun;refine⟨rfl,?_⟩;nofun;have vq:=hv.bd;have Vq:=hv.ex.1;have kr:Ex M M2:=Ex.trans f1 hv.ex;have pT:=Ex.get hv.ex Gk;have sW:=Ex.get hv.ex wI;have Mh:(M2++[MO.lst (as.map D.ah)]++[MO.dK []])[(M2++[MO.lst (as.map D.ah)]).length]?=some (.dK []):=ak;have RL:lO (M2++[MO.lst (as.map D.ah)]++[MO.dK []]) M2.length as (λ_=>[]):=⟨ay ak,hv.nd,λz=>by have:=(vq _ z).2;omega,λr a e=>ay (ay (hv.av r a e))⟩;have yp:(M2++[MO.lst (as.map D.ah)]++[MO.dK []])[nL]?=some (.dT ag):=ay (ay pT);have LD:(M2++[MO.lst (as.map D.ah)]++[MO.dK []])[n]?=some (.lst (ds.map cF)):=ay (ay sW);have lJ:Ex M (M2++[MO.lst (as.map D.ah)]++[MO.dK []]):=Fr.app (Fr.app kr);have ln:(M2++[MO.lst (as.map D.ah)]).length=M2.length+1:=by rw[gV];rfl
 rw[ln]at Mh⊢;show aP (G d7 [dk f,.ah n] (M2++[MO.lst (as.map D.ah)]++[MO.dK []])) _;generalize M2++[MO.lst (as.map D.ah)]++[MO.dK []]=M3 at Mh RL yp LD lJ⊢;refine(hE M3 f ds (.ah n) hf HK yz (.l LD)).imp ?_;rintro r M4 ⟨nE,rfl,hlE,LL,f4⟩;have lM3:=aj Mh;nofun;rw[rP LL];refine kc (n:=nE) (ds:=gT f ds ds.length) (λi ρ M'=>∃o6 o7 kv,ρ=[some (dk f),some (cV s),some (.ah n),some (.ah nL),some (.ah M2.length),some (.ah (M2.length+1)),o6,o7,none,none]/\M'[nE]?=some (.lst (gT f ds ds.length))/\lO M' M2.length as (λj=>jI (if j<i then (bf f ds (mA f ds j) j).toList else []))/\M'[M2.length+1]?=some (.dK kv)/\kv.length<=i/\HI kv (λm=>bf f ds m i)/\M'[nL]?=some (.dT ag)/\Ex M M') (by rintro i ρ M' ⟨_,_,_,_,h,_⟩;exact h) ⟨_,_,[],rfl,LL,(RL.ex f4).to λr _=>by rw[if_neg (Nat.not_lt_zero r)];rfl,Ex.get f4 Mh,bJ _,λm=>rfl,Ex.get f4 yp,Ex.trans lJ f4⟩ ?_ ?_ (kg LL)
 ·rintro i ρ M5 dd bP ⟨o6,o7,kv,rfl,Vr,zY,Qr,hk5,Gy,HF,lr⟩;have hi:=(dU.mp bP).1;rw[iJ]at hi
  have he:dd=.tup [.int (mA f ds i),.int (cA f ds i)]:=by
   unfold gT at bP;rw[dG,List.getElem?_range hi]at bP;exact(eU bP).symm
  subst he;obtain⟨a,ea,es,HL⟩:=zY.sub (r:=i) (∅);have ba:=vq a (gU ea);rw[if_neg (Nat.lt_irrefl i)]at HL
  have zJ:∀(M6:aq)(g:Nat->List Int),lO M6 M2.length as g->(∀j,j<as.length->g j=jI (if j<i+1 then (bf f ds (mA f ds j) j).toList else []))->M6[nE]?=some (.lst (gT f ds ds.length))->M6[M2.length+1]?=some (.dK kv)->M6[nL]?=some (.dT ag)->Ex M M6->∀rt bk ct,dA G [.put (.ae 5) (.sub (.ae 7) (.ai (.int 0))) (.ae 6)] [some (dk f),some (cV s),some (.ah n),some (.ah nL),some (.ah M2.length),some (.ah (M2.length+1)),some (.int i),some (.tup [.int (mA f ds i),.int (cA f ds i)]),none,none] M6 (λρ M'=>∃o6 o7 kv,ρ=[some (dk f),some (cV s),some (.ah n),some (.ah nL),some (.ah M2.length),some (.ah (M2.length+1)),o6,o7,none,none]/\M'[nE]?=some (.lst (gT f ds ds.length))/\lO M' M2.length as (λj=>jI (if j<i+1 then (bf f ds (mA f ds j) j).toList else []))/\M'[M2.length+1]?=some (.dK kv)/\kv.length<=i+1/\HI kv (λm=>bf f ds m (i+1))/\M'[nL]?=some (.dT ag)/\Ex M M') rt bk ct:=by
   intro M6 g h1 h2 h3 h4 h5 h6 rt bk ct;nofun;rw[Dj h4 (∅)];refine⟨_,_,_,rfl,ao h3 (∅),?_,aF h4,Nat.le_trans iI (∅),?_,ao h5 (∅),Fr.set h6 (∅)⟩
   ·have h1:=h1.to h2;exact⟨ao h1.at' (∅),h1.nd,h1.na,λr b e=>ao (h1.av r b e) (by have:=vq b (gU e);omega)⟩
   ·have:=Gy.put (mA f ds i) i;refine λm=>(this m).trans ?_;show Option.map _ (if m=mA f ds i then some i else bf f ds m i)=Option.map _ (if mA f ds i=m then some i else bf f ds m i);by_cases z:m=mA f ds i
    ·rw[if_pos z,if_pos z.symm]
    ·rw[if_neg z,if_neg (Ne.symm z)]
  nofun;rw[HJ Qr Gy]
  cases hl:bf f ds (mA f ds i) i with
  | none =>
   refine zJ M5 _ zY (λj hj=>?_) Vr Qr HF lr _ _ _;rcases Nat.lt_trichotomy j i with z | z | z
   ·rw[if_pos z,if_pos (∅)]
   ·subst z;rw[if_neg (Nat.lt_irrefl j),if_pos (∅),hl];rfl
   ·rw[if_neg (∅),if_neg (∅)]
  | some j0 =>
   nofun;rw[es];nofun;refine⟨aW HL,?_⟩;nofun;rw[Di Qr Gy hl];nofun;rw[bD HL (aG (by simp[jI]))];refine zJ (M5.set a (.lst ((jI [j0]).map D.int))) _ (zY.upd ea (jI [j0])) (λj hj=>?_) (ao Vr (∅)) (ao Qr (∅)) (ao HF (∅)) (Fr.set lr (∅)) _ _ _;by_cases z:j=i
   ·subst z;rw[if_pos rfl,if_pos (∅),hl];rfl
   ·rw[if_neg z];rcases Nat.lt_or_ge j i with y | y
    ·rw[if_pos y,if_pos (∅)]
    ·rw[if_neg (∅),if_neg (∅)]
 ·rintro ρ M5 ⟨o6,o7,kv,rfl,Vr,zY,Qr,hk5,Gy,HF,lr⟩;rw[iJ]at zY;obtain⟨ts,ets,WQ,Vs⟩:=hR.typed
  have zY:lO M5 M2.length as (λj=>jI ((bf f ds (mA f ds j) j).toList++gv (ts.take 0) j)):=zY.to λj hj=>by
   rw[if_pos (∅),List.take_zero];show _=jI (_++[]);rw[List.append_nil]
  nofun;rw[Qq HF];have zO:lO (M5.set nL (.dF ag)) M2.length as (λj=>jI ((bf f ds (mA f ds j) j).toList++gv (ts.take 0) j)):=⟨ao zY.at' (∅),zY.nd,zY.na,λr b e=>ao (zY.av r b e) (by have:=vq b (gU e);omega)⟩;have evl:ag.map (·.2)=ts.map λt=>zI t.2.2:=by rw[ets,List.map_map];rfl
  rw[evl];refine fN (ds:=ts.map λt=>zI t.2.2) (λi ρ M'=>∃o5 o6 o7 o8 o9,ρ=[some (dk f),some (cV s),some (.ah n),some (.ah nL),some (.ah M2.length),o5,o6,o7,o8,o9]/\lO M' M2.length as (λj=>jI ((bf f ds (mA f ds j) j).toList++gv (ts.take i) j))/\Ex M M') ⟨_,_,_,_,_,rfl,zO,Fr.set lr (∅)⟩ ?_ ?_
  ·rintro i ρ M6 dd bP ⟨o5,o6,o7,o8,o9,rfl,zO,vZ⟩;rw[dG]at bP
   cases e:ts[i]? with
   | none=>rw[e]at bP;cases bP
   | some t =>
    rw[e]at bP;cases bP;have htm:=(Vs t).mp (gU e);obtain⟨q,k,a,c⟩:=t
    have WR:∀j,gv (ts.take (i+1)) j=gv (ts.take i) j++gv [(q,k,a,c)] j:=λj=>by
     unfold gv;rw[bo e,List.filterMap_append]
    have keep:(∀j,gv [(q,k,a,c)] j=[])->lO M6 M2.length as (λj=>jI ((bf f ds (mA f ds j) j).toList++gv (ts.take (i+1)) j)):=λh=>zO.to λj _=>by rw[WR,h,List.append_nil]
    cases a with
    | none=>exact⟨_,_,_,_,_,rfl,keep λj=>rfl,vZ⟩
    | some a =>
     cases c with
     | none=>exact⟨_,_,_,_,_,rfl,keep λj=>rfl,vZ⟩
     | some c =>
      have hc:=(dU.mp (zL htm)).1;obtain⟨b,eb,es,WS⟩:=zO.sub (r:=c) (∅);have bb:=vq b (gU eb)
      have aR:((bf f ds (mA f ds c) c).toList++gv (ts.take i) c).length<=1000:=by
       have h1:∀o:Option Nat,o.toList.length<=1:=λo=>by cases o<;>simp
       have h2:=h1 (bf f ds (mA f ds c) c);have h3:=yH hf hs hr WQ Vs hc
       have h4:(gv (ts.take i) c).length<=(gv ts c).length:=by
        unfold gv;exact((List.take_sublist i ts).filterMap _).length_le
       rw[h3]at h4;have h5:=h1 (oE f s ds c);rw[gV];omega
      have es:cU (.d (.ah M2.length)) (.d (oD (q,k,some a,some c).2.2.2)) M6=.ok (.d (.ah b)) M6:=es;nofun;rw[es];nofun;refine⟨aW WS,?_⟩;nofun;rw[bD WS (aG (by unfold jI;rw[aX,aX];exact aR))];have hu:=zO.upd eb (jI ((bf f ds (mA f ds c) c).toList++gv (ts.take i) c++[a]));refine⟨_,_,_,_,_,rfl,?_,Fr.set vZ (∅)⟩
      have e1:(jI ((bf f ds (mA f ds c) c).toList++gv (ts.take i) c)).map D.int++[D.int a]=(jI ((bf f ds (mA f ds c) c).toList++gv (ts.take i) c++[a])).map D.int:=by
       unfold jI;rw[iN (l₂:=[a]),iN (l₂:=[a].map _)];rfl
      rw[show [oD (q,k,some a,some c).2.2.1]=[D.int a] from rfl,e1];refine hu.to λj hj=>?_;rw[WR];rw[show gv [(q,k,some a,some c)] j=if c=j then [a] else [] by by_cases z:c=j<;>simp[gv,z]];by_cases z:j=c
      ·subst z;rw[if_pos rfl,if_pos rfl,List.append_assoc]
      ·rw[if_neg z,if_neg (Ne.symm z),List.append_nil]
  ·rintro ρ M6 ⟨o5,o6,o7,o8,o9,rfl,zO,vZ⟩;rw[aX,List.take_length]at zO;nofun;refine⟨_,as,rfl,uV,zO.to λj hj=>?_,vZ⟩;rw[yH hf hs hr WQ Vs (∅)];rfl
def T(f:Fm)(s:Sd)(ds:List Dn)(i m:Nat):Nat:=Tk (jD f s ds) (mA f ds) (cA f ds) i m
noncomputable def d8(n:Nat)(g:Nat->Nat):List D:=(List.range n).map λm=>D.int (g m:Nat)
def RM(f:Fm)(s:Sd)(ds:List Dn)(i:Nat):D:=.tup (d8 f.ru.length (T f s ds i))
def uR(f:Fm)(s:Sd)(ds:List Dn)(i:Nat):List D:=(List.range i).map (RM f s ds)
theorem fg:(d8 n g).length=n:=by unfold d8;rw[aX,List.length_range]
theorem lq(h:m<n):(d8 n g)[m]?=some (.int (g m:Nat)):=by
 unfold d8;rw[dG,List.getElem?_range h];rfl
theorem Gz(h:m<n)(h1:g2 m=k)(h2:∀j,j≠m->g2 j=g j):(d8 n g).set m (.int (k:Nat))=d8 n g2:=by
 refine List.ext_getElem? λj=>?_;rw[List.getElem?_set,fg];by_cases z:m=j
 ·subst z;rw[if_pos rfl,if_pos h,lq h,h1]
 ·rw[if_neg z];rcases Nat.lt_or_ge j n with y | y
  ·rw[lq y,lq y,h2 j (Ne.symm z)]
  ·rw[List.getElem?_eq_none (by rw[fg];exact y),List.getElem?_eq_none (by rw[fg];exact y)]
theorem uS:uR f s ds (i+1)=uR f s ds i++[RM f s ds i]:=by
 unfold uR;rw[List.range_succ,iN];rfl
theorem rW:(uR f s ds i).length=i:=by unfold uR;rw[aX,List.length_range]
theorem Dk(h:j<i):(uR f s ds i)[j]?=some (RM f s ds j):=by
 unfold uR;rw[dG,List.getElem?_range h];rfl
noncomputable def LM:D->Option D
 | .tup [.int a,.int b]=>some (.int (if b>a then b else a))
 | _=>none
theorem GA:(List.zipWith (λa b=>D.tup [a,b]) (d8 n g) (d8 n h)).filterMap LM=d8 n λm=>max (g m) (h m):=by
 unfold d8;rw[List.zipWith_map,List.zipWith_self,List.filterMap_map]
 rw[show(LM∘λm=>D.tup [D.int ((g m:Nat):Int),D.int ((h m:Nat):Int)])=some∘λm=>D.int (((max (g m) (h m):Nat)):Int) from by
  funext m;show some (D.int (if ((h m:Nat):Int)>((g m:Nat):Int) then ((h m:Nat):Int) else ((g m:Nat):Int)))=some (D.int ((max (g m) (h m):Nat):Int));rw[show(if ((h m:Nat):Int)>((g m:Nat):Int) then ((h m:Nat):Int) else ((g m:Nat):Int))=((max (g m) (h m):Nat):Int) by split<;>omega],List.filterMap_eq_map]
theorem Dl(hM:M[n]?=some (.lst xs)):fC .zip [.d (.ah n),.d (.tup ys)] M=.ok (.zip (.at n) (.items ys)) M:=by
 unfold fC Hc bx;simp only[hM];rfl
theorem Dm(hM:M[n]?=some (.lst xs)):cX M (.zip (.at n) (.items ys))=(List.zipWith (λa b=>D.tup [a,b]) xs ys).length:=by
 unfold cX oR;simp only[hM,List.length_zipWith]
theorem GB(hM:M[n]?=some (.lst xs)):∀M',Ex M M'->∀i,i<=(List.zipWith (λa b=>D.tup [a,b]) xs ys).length->itemAt M' i (.zip (.at n) (.items ys))=some (List.zipWith (λa b=>D.tup [a,b]) xs ys)[i]?:=λM' e i _=>by
 unfold itemAt oR;simp only[Ex.get e hM];unfold tM;rw[List.getElem?_zipWith];cases xs[i]? <;> cases ys[i]? <;> rfl
def rX(F:Fn):Prop:=∀(M:aq)(f:Fm)(N:Nat)(s:Sd)(ds:List Dn)(n:Nat),cg f->bE f N s->N+3*ds.length<=890->ds.length<=60->dC f s ds->M[n]?=some (.lst (ds.map cF))->aP (F [dk f,cV s,.ah n] M) λr M'=>∃n',r=.d (.ah n')/\M.length<=n'/\M'[n']?=some (.lst (uR f s ds ds.length))/\Ex M M'
theorem Dp{f:Fm}:(f.ru.map pO).filterMap (λ_=>some (D.int 0))=d8 f.ru.length λ_=>0:=uN (ds:=[])
theorem GC(hR:iK (G mD))(hE:mC (G d7)):rX (aw G 9 (yE mD d7)):=by
 intro M f N s ds n hf hs hN yz hr hn;have h4:=hf.l4
 have HK:∀d∈ds,dh f d:=λd hd=>by
  obtain⟨i,hi,rfl⟩:=List.mem_iff_getElem.mp hd;exact(gP hr (dM hi)).1
 rw[bu];show dA G (yE mD d7) [some (.tup [.tup (f.ru.map pO),.tup (f.ro.map sj)]),some (cV s),some (.ah n),none,none,none,none,none,none] M _ _ _ _;nofun;refine(hR M f N s ds n hf hs hN yz hr hn).imp ?_;rintro r M1 ⟨nl,as,rfl,uV,Qs,f1⟩;nofun;refine⟨s0,?_⟩;nofun;have lM:=f1.1;have Vt:(M1++[MO.lst []])[M1.length]?=some (.lst (uR f s ds 0)):=ak;have HM:=Qs.ex (Fr.app (X:=[MO.lst []]) (Ex.refl M1));have sW:(M1++[MO.lst []])[n]?=some (.lst (ds.map cF)):=ay (Ex.get f1 hn);have kr:Ex M (M1++[MO.lst []]):=Fr.app f1
 have Qt:∀a∈as,a≠M1.length:=λa ha=>by
  obtain⟨r,hr,rfl⟩:=List.mem_iff_getElem.mp ha;have:=aj (Qs.av r _ (dM hr));omega
 have zV:=aj Qs.at';generalize M1++[MO.lst []]=M2 at Vt HM sW kr⊢;show aP (G d7 [dk f,.ah n] M2) _;refine(hE M2 f ds (.ah n) hf HK yz (.l sW)).imp ?_;rintro r M3 ⟨nE,rfl,hlE,zK,f3⟩;have lT:=aj Vt;nofun;rw[rP zK];refine kc (n:=nE) (ds:=gT f ds ds.length) (λi ρ M'=>∃o5 o6 o7 o8,ρ=[some (.tup [.tup (f.ru.map pO),.tup (f.ro.map sj)]),some (cV s),some (.ah n),some (.ah nl),some (.ah M1.length),o5,o6,o7,o8]/\M'[nE]?=some (.lst (gT f ds ds.length))/\lO M' nl as (λi=>jI (jD f s ds i))/\M'[M1.length]?=some (.lst (uR f s ds i))/\Ex M M') (by rintro i ρ M' ⟨_,_,_,_,_,h,_⟩;exact h) ⟨_,_,_,_,rfl,zK,HM.ex f3,Ex.get f3 Vt,Ex.trans kr f3⟩ ?_ ?_ (kg zK)
 ·rintro i ρ M4 dd bP ⟨o5,o6,o7,o8,rfl,LL,Vu,MG,iM⟩;have hi:=(dU.mp bP).1;rw[iJ]at hi
  have he:dd=.tup [.int (mA f ds i),.int (cA f ds i)]:=by
   unfold gT at bP;rw[dG,List.getElem?_range hi]at bP;exact(eU bP).symm
  subst he
  have WT:mA f ds i<f.ru.length:=by
   rw[pU (dM hi)];exact(HK _ (List.getElem_mem hi)).mc hf
  have lT4:=aj MG;have lE4:=aj LL;nofun;refine jZ (ds:=f.ru.map pO) (λ_=>some (.int 0)) (by decide) j2 (dB (by rw[aX];omega)) ?_ ?_ rfl
  ·intro j M' dd bP fr;nofun;exact⟨rfl,fr⟩
  intro M5 f5;rw[Dp];nofun;have MH:(M5++[MO.lst (d8 f.ru.length λ_=>0)])[M5.length]?=some (.lst (d8 f.ru.length λ_=>0)):=ak;have f6:Ex M4 (M5++[MO.lst (d8 f.ru.length λ_=>0)]):=Fr.app f5;have l5:=f5.1;generalize RN:M5.length=nc at MH⊢;generalize M5++[MO.lst (d8 f.ru.length λ_=>0)]=M6 at MH f6⊢;have zO:=Vu.ex f6;obtain⟨a,ea,es,HL⟩:=zO.sub (r:=i) (∅);have haT:=Qt a (gU ea);rw[es];nofun;rw[dJ HL];refine Cb (n:=a) (ds:=(jI (jD f s ds i)).map D.int) (λj ρ M'=>∃o8 nc,ρ=[some (.tup [.tup (f.ru.map pO),.tup (f.ro.map sj)]),some (cV s),some (.ah n),some (.ah nl),some (.ah M1.length),some (.int i),some (.tup [.int (mA f ds i),.int (cA f ds i)]),some (.ah nc),o8]/\M4.length<=nc/\M'[nc]?=some (.lst (d8 f.ru.length λm=>((jD f s ds i).take j).foldl (λa o=>max a (T f s ds o m)) 0))/\M'[a]?=some (.lst ((jI (jD f s ds i)).map D.int))/\Ex M4 M') (by rintro j ρ M' ⟨_,_,_,_,_,h,_⟩;exact h) ⟨_,nc,rfl,∅,MH,HL,f6⟩ ?_ ?_
  ·rintro j ρ M7 dd bP ⟨o8,nc,rfl,RN,LN,WU,f7⟩;unfold jI at bP;rw[dG,dG]at bP
   cases e:(jD f s ds i)[j]? with
   | none=>rw[e]at bP;cases bP
   | some o =>
    rw[e]at bP;cases bP;have ho:=eQ i o (gU e);have hT7:=Ex.get f7 MG;nofun;rw[a_ hT7 (Dk ho)];nofun;show d6 (fC .zip [.d (.ah nc),.d (.tup (d8 f.ru.length (T f s ds o)))] M7) _;rw[Dl LN];refine jZ (ds:=List.zipWith (λa b=>D.tup [a,b]) (d8 f.ru.length λm=>((jD f s ds i).take j).foldl (λa o=>max a (T f s ds o m)) 0) (d8 f.ru.length (T f s ds o))) LM (by decide) (GB LN) (dB (by rw[List.length_zipWith,fg,fg];omega)) ?_ ?_ (Dm LN)
    ·intro q M' dd bP fr;rw[List.getElem?_zipWith]at bP
     have hq:q<f.ru.length:=by
      rcases Nat.lt_or_ge q f.ru.length with z | z
      ·exact z
      ·rw[List.getElem?_eq_none (by rw[fg];exact z)]at bP;cases bP
     rw[lq hq,lq hq]at bP;cases bP;nofun;exact⟨rfl,fr⟩
    ·intro M8 f8;rw[GA];have l7:=Ex.trans f7 f8
     have Qu:(λm=>max (((jD f s ds i).take j).foldl (λa o=>max a (T f s ds o m)) 0) (T f s ds o m))=λm=>((jD f s ds i).take (j+1)).foldl (λa o=>max a (T f s ds o m)) 0:=by
      funext m;rw[bo e,List.foldl_append];rfl
     rw[Qu];exact⟨_,M8.length,rfl,l7.1,ak,ay (Ex.get f8 WU),Fr.app l7⟩
  ·rintro ρ M7 ⟨o8,nc,rfl,RN,LN,WU,f7⟩;have Qg:((jI (jD f s ds i)).map D.int).length=(jD f s ds i).length:=by unfold jI;rw[aX,aX]
   rw[Qg,List.take_length]at LN;nofun;rw[show((cA f ds i:Nat):Int)+1=((cA f ds i+1:Nat):Int) by omega,gL LN (by rw[fg];exact WT),Gz (g2:=T f s ds i) WT (by unfold T;rw[uQ eQ,if_pos rfl]) (λj hj=>by unfold T;rw[uQ eQ,if_neg hj])];have WV:(M7.set nc (.lst (d8 f.ru.length (T f s ds i))))[nc]?=some (.lst (d8 f.ru.length (T f s ds i))):=aF LN;have RO:(M7.set nc (.lst (d8 f.ru.length (T f s ds i))))[M1.length]?=some (.lst (uR f s ds i)):=ao (Ex.get f7 MG) (∅);have MI:(M7.set nc (.lst (d8 f.ru.length (T f s ds i))))[nE]?=some (.lst (gT f ds ds.length)):=ao (Ex.get f7 LL) (∅);have f8:Ex M4 (M7.set nc (.lst (d8 f.ru.length (T f s ds i)))):=Fr.set f7 RN;have zP:=Vu.ex f8;generalize M7.set nc (.lst (d8 f.ru.length (T f s ds i)))=M8 at WV RO MI f8 zP⊢;nofun;refine⟨aW RO,?_⟩;nofun;rw[bU WV];nofun;rw[bD RO (aG (by rw[rW];omega))];have hTl:M1.length≠nE:=∅;refine⟨_,_,_,_,rfl,ao MI (Ne.symm hTl),⟨ao zP.at' (∅),zP.nd,zP.na,λr b e=>ao (zP.av r b e) (Qt b (gU e))⟩,?_,Fr.set (Ex.trans iM f8) (∅)⟩;rw[aF RO,uS];rfl
 ·rintro ρ M4 ⟨o5,o6,o7,o8,rfl,LL,Vu,MG,iM⟩;rw[iJ]at MG;nofun;exact⟨_,rfl,∅,MG,iM⟩
def wQ(F:Fn):Prop:=∀(M:aq)(f:Fm)(s:Sd)(ds:List Dn)(nE nC one cj:Nat),cg f->(∀d∈ds,dh f d)->one<ds.length->cj<ds.length->M[nE]?=some (.lst (gT f ds ds.length))->M[nC]?=some (.lst (uR f s ds ds.length))->aP (F [.ah nE,.ah nC,.int one,.int cj] M) λr M'=>M=M'/\r=.d (.bl (!(one==cj)&&decide (cA f ds one<T f s ds cj (mA f ds one))))
theorem LO(h:i<n):(gT f ds n)[i]?=some (.tup [.int (mA f ds i),.int (cA f ds i)]):=by
 unfold gT;rw[dG,List.getElem?_range h];rfl
theorem LP:wQ (aw G 5 De):=by
 intro M f s ds nE nC one cj hf hd h1 h2 hE hC
 have hm:mA f ds one<f.ru.length:=by
  rw[pU (dM h1)];exact(hd _ (List.getElem_mem h1)).mc hf
 rw[bu];show dA G De [some (.ah nE),some (.ah nC),some (.int one),some (.int cj),none] M _ _ _ _;nofun;rw[a_ hE (LO h1)];nofun;by_cases e:one=cj
 ·subst e;rw[beq_self_eq_true,beq_self_eq_true];exact⟨rfl,rfl⟩
 ·rw[show(((one:Nat):Int)==((cj:Nat):Int))=false from beq_eq_false_iff_ne.mpr (∅),show(one==cj)=false from beq_eq_false_iff_ne.mpr e];nofun;rw[a_ hC (Dk h2)];nofun;rw[show cU (.d (RM f s ds cj)) (.d (.int (mA f ds one:Nat))) M=.ok (.d (.int (T f s ds cj (mA f ds one):Nat))) M from jY (lq hm)];nofun;refine⟨rfl,?_⟩
  congr 2
  show decide (((cA f ds one:Nat):Int)<((T f s ds cj (mA f ds one):Nat):Int))=(true&&decide (cA f ds one<T f s ds cj (mA f ds one)));rw[Bool.true_and];exact decide_eq_decide.mpr (∅)
def Gs(ag:Kv)(S:Nat->Int->Option Nat):Prop:=∀r k,cS ag (k2 r k)=(S r k).map λn:Nat=>D.int n
theorem Gs.put{ag:Kv}{S:Nat->Int->Option Nat}(h:Gs ag S)(r:Nat)(k:Int)(n:Nat):Gs (cD ag (k2 r k) (.int n)) λr' k'=>if r=r'/\k=k' then some n else S r' k':=λr' k'=>by
 rw[rR];show _=(if r=r'/\k=k' then some n else S r' k').map λn:Nat=>D.int n;by_cases hc:r=r'/\k=k'
 ·obtain⟨rfl,rfl⟩:=hc;rw[if_pos rfl,if_pos ⟨rfl,rfl⟩];rfl
 ·rw[if_neg hc,if_neg (λz=>hc (wK z)),h]
theorem Gs.congr{ag:Kv}{S S':Nat->Int->Option Nat}(h:Gs ag S)(e:∀r k,S r k=S' r k):Gs ag S':=λr k=>by rw[<- e];exact h r k
def Sq(s:Sd)(ld:Qm)(i:Nat)(S:Nat->Int->Option Nat):Nat->Int->Option Nat:=λr k=>if (load s r).1<=k/\k<(ld.getD r (0,[])).1 then some i else S r k
theorem Gs.q0{ag:Kv}{s:Sd}{ld:Qm}{i:Nat}{S:Nat->Int->Option Nat}(h:Gs ag S)(e:∀r,(ld.getD r (0,[])).1=(load s r).1):Gs ag (Sq s ld i S):=h.congr λr k=>by
 unfold Sq;rw[e,if_neg (∅)]
theorem Gs.qp{ag:Kv}{s:Sd}{ld:Qm}{i r:Nat}{c:Str}{S:Nat->Int->Option Nat}(h:Gs ag (Sq s ld i S))(hr:r<ld.length)(hm:(load s r).1<=(ld.getD r (0,[])).1):Gs (cD ag (k2 r (ld.getD r (0,[])).1) (.int i)) (Sq s (ld.set r (more (ld.getD r (0,[])) c)) i S):=(h.put r (ld.getD r (0,[])).1 i).congr λr' k'=>by
 unfold Sq;rw[ou hr];by_cases hc:r=r'/\(ld.getD r (0,[])).1=k'
 ·obtain⟨rfl,rfl⟩:=hc;rw[if_pos ⟨rfl,rfl⟩,if_pos rfl,if_pos ⟨hm,by show _<(ld.getD r (0,[])).1+1;omega⟩]
 ·rw[if_neg hc];by_cases PH:r=r'
  ·subst PH;rw[if_pos rfl];have hk:(ld.getD r (0,[])).1≠k':=λz=>hc ⟨rfl,z⟩;by_cases h2:(load s r).1<=k'/\k'<(ld.getD r (0,[])).1
   ·rw[if_pos h2,if_pos ⟨h2.1,by show _<(ld.getD r (0,[])).1+1;omega⟩]
   ·rw[if_neg h2,if_neg];rintro⟨z1,z2⟩;have z2:k'<(ld.getD r (0,[])).1+1:=z2;exact h2 ⟨z1,∅⟩
  ·rw[if_neg PH]
def LQ(f:Fm)(s:Sd)(ds:List Dn)(i:Nat):Nat->Int->Option Nat:=λr k=>(eI f s ds i r k).bind (·.1)
theorem Dq(e:ds[i]?=some d)(r:Nat)(k:Int):Sq (fin f s (ds.take i)) (bW f (fin f s (ds.take i)) d).ld i (LQ f s ds i) r k=LQ f s ds (i+1) r k:=by
 unfold LQ;rw[gu e];show(if (load (fin f s (ds.take i)) r).1<=k/\k<(load (bW f (fin f s (ds.take i)) d) r).1 then some i else (eI f s ds i r k).bind (·.1))=(if (load (fin f s (ds.take i)) r).1<=k/\k<(load (bW f (fin f s (ds.take i)) d) r).1 then some (some i,none) else ki d i (eI f s ds i) r k).bind (·.1);split
 ·rfl
 ·cases d with
  | own m=>rfl
  | dg m c=>rfl
  | bp q n =>
   show _=(if q=r/\n=k then some (((eI f s ds i q n).getD (none,none)).1,some i) else eI f s ds i r k).bind (·.1);by_cases z:q=r/\n=k
   ·rw[if_pos z];obtain⟨rfl,rfl⟩:=z;cases eI f s ds i q n<;>rfl
   ·rw[if_neg z]
def rY(bw bX:Nat):List S:=[.asg [9] (.sub (.call bw [(.ae 0),(.ae 1),(.sub (.ae 2) (.ae 6))]) (.ai (.int 1))),.eD 10 (.comp .seq [(.sub (.ae 1) (.ai (.int 1)))] [1] none (.sub (.ae 1) (.ai (.int 0))) [none,none]),.bq [11,12] .seq [(.ae 9)] [.dput (.ae 4) (.tup [(.ae 11),(.sub (.ae 10) (.ae 11))]) (.ae 6),.put (.ae 10) (.ae 11) (.bin .add (.sub (.ae 10) (.ae 11)) (.ai (.int 1)))],.asg [1] (.sub (.call bX [(.ae 0),(.ae 1),(.sub (.ae 2) (.ae 6))]) (.ai (.int 0)))]
theorem GD {G : du} {bw bX : Nat} (hA : lb (G bw)) (hO : lH (G bX)) {M : aq} {f : Fm} {N : Nat} {s : Sd} {ds : List Dn} {d : Dn} {i n nL : Nat} {S : Nat -> Int -> Option Nat} {ag : Kv} {e3 e5 o7 o8 o9 eF eT jC : Option D} (hf : cg f) (hs : bE f N s) (hN : N + 3 <= 900) (hd : dh f d) (hc : cn f s d = true) (he : ds[i]? = some d) (hn : M[n]? = some (.lst (ds.map cF))) (hL : M[nL]? = some (.dT ag)) (hk : ag.length <= 500000) (hr : Gs ag S)
    {nx:En->aq->Prop} {rt:W->aq->Prop} {bk ct:En->aq->Prop} (hx:∀M' wL o9 eF eT jC,M'[nL]?=some (.dT wL)->wL.length<=ag.length+3->Gs wL (Sq s (bW f s d).ld i S)->Fr nL M M'->nx [some (dk f),some (cV (bW f s d)),some (.ah n),e3,some (.ah nL),e5,some (.int i),o7,o8,o9,eF,eT,jC] M') :
    dA G (rY bw bX) [some (dk f),some (cV s),some (.ah n),e3,some (.ah nL),e5,some (.int i),o7,o8,o9,eF,eT,jC] M nx rt bk ct:=by
  have h8:=hf.l8;have zj:(ds.map cF)[i]?=some (cF d):=by rw[dG,he];rfl
  have Vv:=oq hc;have ax:=uy hf hs hd Vv;have GF:n≠nL:=λz=>by rw[z,hL]at hn;cases hn
  have lL:=aj hL;have ln:=aj hn;show dA G (rY bw bX) [some (dk f),some (.tup [.tup (s.st.map D.int),.tup (s.ld.map ik)]),some (.ah n),e3,some (.ah nL),e5,some (.int i),o7,o8,o9,eF,eT,jC] M nx rt bk ct;nofun;rw[a_ hn zj];nofun;refine(hA M f N s d hf hs (∅) hd).imp ?_;rintro o M0 ⟨f0,rfl⟩;rw[Vv];have WX:wG f s d=((wG f s d).1,(wG f s d).2.1,(wG f s d).2.2):=rfl;have eJ:bW f s d=⟨s.st.set (mc f d) (wG f s d).1,cC (cN s.ld d) (wG f s d).2.1⟩:=rfl;have Vb:=ax.l;have WY:=ax.sd;generalize ml:(wG f s d).2.1=sd at WX eJ Vb WY;rw[WX];nofun;have Vm:=Ex.get f0 hn;have hL0:=Ex.get f0 hL;refine jZ (ds:=s.ld.map ik) Vn (by decide) j2 (dB (by rw[aX,hs.ll];omega)) ?_ ?_ rfl
  · intro j M' dd bP fr;obtain⟨l,hl,rfl⟩:=gZ.mp (gU bP);nofun;exact⟨rfl,fr⟩
  intro M1 f1;rw[yA];nofun;have Ha:(M1++[MO.lst (s.ld.map lh)])[M1.length]?=some (.lst (s.ld.map lh)):=ak;have wI:(M1++[MO.lst (s.ld.map lh)])[n]?=some (.lst (ds.map cF)):=ay (Ex.get f1 Vm);have Gk:(M1++[MO.lst (s.ld.map lh)])[nL]?=some (.dT ag):=ay (Ex.get f1 hL0);have Ru:Ex M (M1++[MO.lst (s.ld.map lh)]):=Fr.app (Ex.trans f0 f1);have lM0:=f0.1;have lM:=f1.1;generalize M1++[MO.lst (s.ld.map lh)]=M2 at Ha wI Gk Ru⊢;generalize RN:M1.length=nC at Ha⊢
  have e1:s.ld.map lh=(cN s.ld d).map lh:=by
    cases d with
    | own m=>rfl
    | dg m c=>rfl
    | bp q k =>
      have hq:q<s.ld.length:=by rw[hs.ll];exact hd
      show _=(s.ld.set q (less (s.ld.getD q (0,[])) k)).map lh;rw[List.map_set];refine(List.ext_getElem? λj=>?_);rw[List.getElem?_set];by_cases z:q=j
      · subst z;rw[if_pos rfl,if_pos (by rw[aX];exact hq),wM hq];rfl
      · rw[if_neg z]
  have e2:∀r,((cN s.ld d).getD r (0,[])).1=(load s r).1:=λr=>by
    rw[(wJ hs hd r).1]
    cases d with
    | own m=>rfl
    | dg m c=>rfl
    | bp q k =>
      show(if q=r then less (load s r) k else load s r).1=_;split<;>rfl
  have pS:(cN s.ld d).length=f.ro.length:=by rw[(wJ hs hd 0).2,hs.ll]
  have hb:∀p∈sd,0<=p.1/\p.1.toNat<(cN s.ld d).length:=λp hp=>by
    obtain⟨_,h2,x,h3,_⟩:=WY p hp;refine⟨h2,?_⟩;rw[pS];exact(dU.mp h3).1
  rw[e1]at Ha;refine fN (ds:=sd.map pD) (λj ρ M'=>∃eT jC kv,ρ=[some (dk f),some (cV s),some (.ah n),e3,some (.ah nL),e5,some (.int i),o7,o8,some (.tup (sd.map pD)),some (.ah nC),eT,jC]/\M'[nL]?=some (.dT kv)/\M'[nC]?=some (.lst ((cC (cN s.ld d) (sd.take j)).map lh))/\kv.length<=ag.length+j/\Gs kv (Sq s (cC (cN s.ld d) (sd.take j)) i S)/\M'[n]?=some (.lst (ds.map cF))/\Fr nL M M') ⟨_,_,ag,rfl,Gk,Ha,bJ _,hr.q0 e2,wI,Fr.back (Fr.refl nL M) Ru (.inl (bJ _))⟩ ?_ ?_
  · rintro j ρ M4 dd bP ⟨eT,jC,kv,rfl,HE,xi,Md,MJ,FY,iM⟩;rw[dG]at bP
    cases e:sd[j]? with
    | none=>rw[e]at bP;cases bP
    | some p =>
      rw[e]at bP;cases bP;have hj:=(dU.mp e).1;obtain⟨b0,b1⟩:=hb p (gU e);obtain⟨r,c⟩:=p;obtain⟨r,rfl⟩:∃q:Nat,r=q:=⟨r.toNat,∅⟩;have b1:r<(cN s.ld d).length:=by simpa using b1
      obtain⟨m1,_,m3⟩:=lg (sd.take j) (cN s.ld d) r λq hq=>hb q (List.mem_of_mem_take hq);rw[e2]at m1;have Qv:r<(cC (cN s.ld d) (sd.take j)).length:=by rw[m3];exact b1
      have zV:nC≠nL:=λz=>by rw[z,HE]at xi;cases xi
      have Qn:=k_ (ld:=cN s.ld d) (sd:=sd.take j) (p:=((r:Int),c));rw[<- bo e]at Qn;have Qn:cC (cN s.ld d) (sd.take (j+1))=(cC (cN s.ld d) (sd.take j)).set r (more ((cC (cN s.ld d) (sd.take j)).getD r (0,[])) c):=Qn;rw[Qn];generalize cC (cN s.ld d) (sd.take j)=ld at xi MJ m1 Qv;nofun;rw[a_ xi (wM Qv)];nofun;refine⟨s2,?_⟩;nofun;rw[yv HE (∅)];have Jf:(M4.set nL (.dT (cD kv (k2 r (ld.getD r (0,[])).1) (.int i))))[nC]?=some (.lst (ld.map lh)):=ao xi zV;nofun;rw[a_ Jf (wM Qv)];nofun;rw[gL Jf (by rw[aX];exact Qv)];refine⟨_,_,_,rfl,ao (aF HE) (Ne.symm zV),?_,Nat.le_trans iI (∅),MJ.qp Qv m1,ao (ao FY GF) (∅),Fr.set (Fr.KP iM) (∅)⟩;rw[aF Jf,List.map_set];rfl
  · rintro ρ M4 ⟨eT,jC,kv,rfl,HE,xi,Md,MJ,FY,iM⟩;rw[aX]at Md MJ;rw[List.take_length]at MJ;nofun;rw[a_ FY zj];nofun;refine(hO M4 f N s d _ hf hs (∅) hd Vv).imp ?_;rintro o M5 ⟨f5,rfl⟩;have HF:=Ex.get f5 HE;refine hx M5 kv _ _ _ _ HF (∅) ?_ (Fr.back iM f5 (.inl iM.1));rw[eJ];exact MJ
theorem Qw{M:aq}{n r:Nat}{ag:Kv}{k:Int}{S:Nat->Int->Option Nat}(hM:M[n]?=some (.dT ag))(h:Gs ag S):iU false (.d (.tup [.int r,.int k])) (.d (.ah n)) M=.ok (.d (.bl (S r k).isSome)) M:=by
 unfold iU;simp only[LB hM,show vB (.d (.tup [.int r,.int k]))=some (k2 r k) from rfl,h r k,Option.isSome_map];cases (S r k).isSome<;>rfl
def LR(bw bX:Nat):List S:=.expr (.me .append (.ae 5) [(.ae 8)])::.put (.ae 3) (.ae 7) (.ae 6)::rY bw bX
def Qx(bw bX:Nat):List S:=.iff (.dq [(.val (.cmp .eq (.sub (.sub (.ae 2) (.ae 6)) (.ai (.int 0))) (.ai (.str "come")))),(.val (.f_ false (.nh (.sub (.ae 2) (.ae 6)) (some (.ai (.int 1))) none) (.ae 4)))]) [.expr (.me .append (.ae 8) [(.jk (.ae 4) (.nh (.sub (.ae 2) (.ae 6)) (some (.ai (.int 1))) none))])] []::LR bw bX
structure GG (f:Fm) (s:Sd) (ds:List Dn) (n b:Nat) (M M':aq) (i:Nat) (kv:Kn) (ag:Kv) (as:List Nat):Prop where
 n:M'[n]?=some (.lst (ds.map cF))
 a:M'[b]?=some (.dK kv)
 al:kv.length<=i
 ad:HI kv λm=>bf f ds m i
 c:M'[b+1]?=some (.dT ag)
 cl:ag.length<=3*i
 cs:Gs ag (LQ f s ds i)
 d:M'[b+2]?=some (.lst (as.map D.ah))
 dl:as.length=i
 dv:∀(r a:Nat),as[r]?=some a->M'[a]?=some (.lst ((jI (jD f s ds r)).map D.int))
 db:∀a∈as,b+2<a
 nd:as.Nodup
 ex:Ex M M'
theorem GG.more{f:Fm}{s:Sd}{ds:List Dn}{n b:Nat}{M M' M2:aq}{i:Nat}{kv:Kn}{ag:Kv}{as:List Nat}(h:GG f s ds n b M M' i kv ag as)(e:Ex M' M2):GG f s ds n b M M2 i kv ag as :=
 ⟨Ex.get e h.n,Ex.get e h.a,h.al,h.ad,Ex.get e h.c,h.cl,h.cs,Ex.get e h.d,h.dl,λr a q=>Ex.get e (h.dv r a q),h.db,h.nd,Ex.trans h.ex e⟩
theorem Dr(Lo:j8 (G fV))(hA:lb (G bw))(hO:lH (G bX)):iK (aw G 13 (uP fV bw bX)):=by
 intro M f N s ds n hf hs hN yz hr hn;rw[bu];show dA G (uP fV bw bX) [some (dk f),some (cV s),some (.ah n),none,none,none,none,none,none,none,none,none,none] M _ _ _ _;have lM:=aj hn;nofun;refine⟨rfl,?_⟩;nofun;refine⟨s0,?_⟩;nofun;have l1:(M++[MO.dK []]).length=M.length+1:=by rw[gV];rfl
 have l2:(M++[MO.dK []]++[MO.dT []]).length=M.length+2:=by rw[gV,l1];rfl
 have hI:GG f s ds n M.length M (M++[MO.dK []]++[MO.dT []]++[MO.lst []]) 0 [] [] []:=⟨ay (ay (ay hn)),ay (ay ak),bJ _,λm=>rfl,by rw[<- l1];exact ay ak,bJ _,λr k=>by
  show none=Option.map _ (Option.bind (if r<f.ro.length/\k∈cG (load s r) then some (none,none) else none) _);split<;>rfl,by rw[<- l2];exact ak,rfl,λr a e=>(by simp at e),λa h=>(by cases h),List.nodup_nil,Fr.app (Fr.app (Fr.app (Ex.refl M)))⟩
 rw[show(M++[MO.dK ((List.map Sum.inr []).zip [])]++[MO.dT []]).length=M.length+2 from l2,show(M++[MO.dK ((List.map Sum.inr []).zip [])]).length=M.length+1 from l1];show d6 (jl .len [.d (.ah n)] (M++[MO.dK []]++[MO.dT []]++[MO.lst []])) _;generalize M++[MO.dK []]++[MO.dT []]++[MO.lst []]=M1 at hI⊢;rw[df hI.n];nofun;refine⟨⟨∅,by rw[aX];omega⟩,?_⟩;rw[show(((ds.map cF).length:Nat):Int).toNat=ds.length by rw[Int.toNat_natCast,aX]];refine eE (n:=ds.length) (λi ρ M'=>∃o6 o7 o8 o9 eF eT jC kv ag as,ρ=[some (dk f),some (cV (fin f s (ds.take i))),some (.ah n),some (.ah M.length),some (.ah (M.length+1)),some (.ah (M.length+2)),o6,o7,o8,o9,eF,eT,jC]/\GG f s ds n M.length M M' i kv ag as) ⟨_,_,_,_,_,_,_,[],[],[],rfl,hI⟩ ?_ ?_
 ·rintro i ρ M2 hi ⟨o6,o7,o8,o9,eF,eT,jC,kv,ag,as,rfl,uY⟩;have ed:ds[i]?=some ds[i]:=dM hi;obtain⟨k1,k2⟩:=gP hr ed;have Ql:=bE.fin hf hs (gq (i:=i) hr);have MB:(ds.take i).length=i:=by rw[List.length_take];omega
  rw[MB]at Ql;have zj:(ds.map cF)[i]?=some (cF ds[i]):=by rw[dG,ed];rfl
  have hmA:=pU (f:=f) ed;have Vl:=oy (f:=f) (s:=s) ed;have hSn:=Dq (f:=f) (s:=s) ed
  have MK:oE f s ds i=match ds[i]with | .bp r k=>LQ f s ds i r k | _=>none:=by
   unfold oE;rw[ed];cases ds[i]<;>rfl
  generalize hgd:ds[i]=d at *;have Vq:=aj uY.d
  have fin2:∀(M4:aq)(na:Nat)(o9 eF eT jC:Option D),GG f s ds n M.length M M4 i kv ag as->M4[na]?=some (.lst ((jI (jD f s ds i)).map D.int))->M.length+2<na->na∉as->∀rt bk ct,dA G (LR bw bX) [some (dk f),some (cV (fin f s (ds.take i))),some (.ah n),some (.ah M.length),some (.ah (M.length+1)),some (.ah (M.length+2)),some (.int i),some (.int (mA f ds i)),some (.ah na),o9,eF,eT,jC] M4 (λρ M'=>∃o6 o7 o8 o9 eF eT jC kv ag as,ρ=[some (dk f),some (cV (fin f s (ds.take (i+1)))),some (.ah n),some (.ah M.length),some (.ah (M.length+1)),some (.ah (M.length+2)),o6,o7,o8,o9,eF,eT,jC]/\GG f s ds n M.length M M' (i+1) kv ag as) rt bk ct:=by
   intro M4 na o9 eF eT jC fF ML hb GF rt bk ct;unfold LR;nofun;refine⟨aW fF.d,?_⟩;nofun;rw[bD fF.d (aG (by rw[aX,fF.dl];omega))];have WZ:(M4.set (M.length+2) (.lst (as.map D.ah++[.ah na])))[M.length]?=some (.dK kv):=ao fF.a (∅);nofun;rw[Dj WZ (by have:=fF.al;omega)];have Ry:((M4.set (M.length+2) (.lst (as.map D.ah++[.ah na]))).set M.length (.dK (cD kv (Sum.inl ((mA f ds i:Nat):Int)) (.int i))))[n]?=some (.lst (ds.map cF)):=ao (ao fF.n (∅)) (∅);have W0:((M4.set (M.length+2) (.lst (as.map D.ah++[.ah na]))).set M.length (.dK (cD kv (Sum.inl ((mA f ds i:Nat):Int)) (.int i))))[M.length]?=some (.dK (cD kv (Sum.inl ((mA f ds i:Nat):Int)) (.int i))):=aF WZ;have MH:((M4.set (M.length+2) (.lst (as.map D.ah++[.ah na]))).set M.length (.dK (cD kv (Sum.inl ((mA f ds i:Nat):Int)) (.int i))))[M.length+1]?=some (.dT ag):=ao (ao fF.c (∅)) (∅)
   have W2:((M4.set (M.length+2) (.lst (as.map D.ah++[.ah na]))).set M.length (.dK (cD kv (Sum.inl ((mA f ds i:Nat):Int)) (.int i))))[M.length+2]?=some (.lst ((as++[na]).map D.ah)):=by
    rw[ao (aF fF.d) (∅),iN];rfl
   have zO:∀(r a:Nat),(as++[na])[r]?=some a->((M4.set (M.length+2) (.lst (as.map D.ah++[.ah na]))).set M.length (.dK (cD kv (Sum.inl ((mA f ds i:Nat):Int)) (.int i))))[a]?=some (.lst ((jI (jD f s ds r)).map D.int)):=λr a e=>by
    rcases Nat.lt_or_ge r as.length with z | z
    ·rw[uU z]at e;have hb:=fF.db a (gU e);exact ao (ao (fF.dv r a e) (∅)) (∅)
    ·rw[List.getElem?_append_right z]at e
     have hr:r=as.length:=by
      have:=(dU.mp e).1;simp only[List.length_cons,List.length_nil]at this;omega
     subst hr;simp at e;subst e;rw[fF.dl];exact ao (ao ML (∅)) (∅)
   have vZ:Ex M ((M4.set (M.length+2) (.lst (as.map D.ah++[.ah na]))).set M.length (.dK (cD kv (Sum.inl ((mA f ds i:Nat):Int)) (.int i)))):=Fr.set (Fr.set fF.ex (∅)) (bJ _);show dA G (rY bw bX) _ ((M4.set (M.length+2) (.lst (as.map D.ah++[.ah na]))).set M.length (.dK (cD kv (Sum.inl ((mA f ds i:Nat):Int)) (.int i)))) _ _ _ _;generalize (M4.set (M.length+2) (.lst (as.map D.ah++[.ah na]))).set M.length (.dK (cD kv (Sum.inl ((mA f ds i:Nat):Int)) (.int i)))=M6 at Ry W0 MH W2 zO vZ⊢;refine GD (s:=fin f s (ds.take i)) hA hO hf Ql (∅) k1 k2 ed Ry MH (by have:=fF.cl;omega) fF.cs ?_;intro M7 kv7 o9 eF eT jC g1 g2 g3 g4;rw[Vl];refine⟨_,_,_,_,_,_,_,_,kv7,as++[na],rfl,g4.get Ry (∅),g4.get W0 (∅),Nat.le_trans iI (by have:=fF.al;omega),?_,g1,by have:=fF.cl;omega,g3.congr hSn,g4.get W2 (∅),by rw[gV,fF.dl];rfl,λr a e=>g4.get (zO r a e) ?_,λa ha=>?_,?_,Fr.back vZ g4 (.inl (∅))⟩
   ·refine λm=>((fF.ad.put (mA f ds i) i) m).trans ?_;show Option.map _ (if m=mA f ds i then some i else bf f ds m i)=Option.map _ (if mA f ds i=m then some i else bf f ds m i);by_cases z:m=mA f ds i
    ·rw[if_pos z,if_pos z.symm]
    ·rw[if_neg z,if_neg (Ne.symm z)]
   ·rcases fk.mp (gU e)with z | z
    ·have:=fF.db a z;omega
    ·rw[List.mem_singleton.mp z];omega
   ·rcases fk.mp ha with z | z
    ·exact fF.db a z
    ·rw[List.mem_singleton.mp z];exact hb
   ·rw[List.nodup_append];exact⟨fF.nd,by simp,λx hx y hy e=>GF (by rw[<- List.mem_singleton.mp hy,<- e];exact hx)⟩
  have Qy:∀(M4:aq)(na:Nat)(o9 eF eT jC:Option D),GG f s ds n M.length M M4 i kv ag as->M4[na]?=some (.lst ((jI (bf f ds (mA f ds i) i).toList).map D.int))->M.length+2<na->na∉as->∀rt bk ct,dA G (Qx bw bX) [some (dk f),some (cV (fin f s (ds.take i))),some (.ah n),some (.ah M.length),some (.ah (M.length+1)),some (.ah (M.length+2)),some (.int i),some (.int (mA f ds i)),some (.ah na),o9,eF,eT,jC] M4 (λρ M'=>∃o6 o7 o8 o9 eF eT jC kv ag as,ρ=[some (dk f),some (cV (fin f s (ds.take (i+1)))),some (.ah n),some (.ah M.length),some (.ah (M.length+1)),some (.ah (M.length+2)),o6,o7,o8,o9,eF,eT,jC]/\GG f s ds n M.length M M' (i+1) kv ag as) rt bk ct:=by
   intro M4 na o9 eF eT jC fF ML hb GF rt bk ct
   have Vw:oE f s ds i=none->M4[na]?=some (.lst ((jI (jD f s ds i)).map D.int)):=λz=>by
    rw[ML];unfold jD;rw[z];show _=some (MO.lst ((jI (_++[])).map D.int));rw[List.append_nil]
   unfold Qx;nofun;rw[a_ fF.n zj];nofun
   cases d with
   | own m =>
    nofun;rw[bz bV aI,wm];exact fin2 M4 na _ _ _ _ fF (Vw MK) hb GF _ _ _
   | dg m c =>
    nofun;rw[bz cb aI,uA];exact fin2 M4 na _ _ _ _ fF (Vw MK) hb GF _ _ _
   | bp r k =>
    have zj:(ds.map cF)[i]?=some (.tup [.str "come",.int r,.int k]):=zj;have MK:oE f s ds i=LQ f s ds i r k:=MK;nofun;rw[bz aI aI,rF];nofun;rw[a_ fF.n zj];nofun;rw[yB,Qw fF.c fF.cs]
    cases hS:LQ f s ds i r k with
    | none=>exact fin2 M4 na _ _ _ _ fF (Vw (MK.trans hS)) hb GF _ _ _
    | some j =>
     have hg:cS ag (Ev.k2 r k)=some (.int j):=by rw[fF.cs r k,hS];rfl
     nofun;refine⟨aW ML,?_⟩;nofun;rw[a_ fF.n zj];nofun;rw[yB,HG (LB fF.c) hg];nofun;rw[bD ML (aG (by unfold jI;rw[aX,aX];cases bf f ds (mA f ds i) i<;>simp))]
     have e1:(jI (bf f ds (mA f ds i) i).toList).map D.int++[.int (j:Nat)]=(jI (jD f s ds i)).map D.int:=by
      unfold jD;rw[MK,hS];unfold jI;rw[iN,iN];rfl
     rw[e1];refine fin2 (M4.set na (.lst ((jI (jD f s ds i)).map D.int))) na _ _ _ _ ⟨ao fF.n (∅),ao fF.a (∅),fF.al,fF.ad,ao fF.c (∅),fF.cl,fF.cs,ao fF.d (∅),fF.dl,λr a q=>ao (fF.dv r a q) (λz=>GF (by rw[<- z];exact gU q)),fF.db,fF.nd,Fr.set fF.ex (∅)⟩ (aF ML) hb GF _ _ _
  rw[show(0:Int)+(i:Int)=((i:Nat):Int) by omega];nofun;rw[a_ uY.n zj];nofun;refine(Lo M2 f d hf k1).imp ?_;rintro r M3 ⟨rfl,rfl⟩;rw[<- hmA]
  have gW:M2.length∉as:=λz=>by
   obtain⟨q,hq,e⟩:=List.mem_iff_getElem.mp z;have:=aj (uY.dv q _ (dM hq));omega
  nofun;rw[HJ uY.a uY.ad]
  cases hl:bf f ds (mA f ds i) i with
  | none =>
   nofun;refine⟨s0,?_⟩;nofun;refine Qy (M2++[MO.lst []]) M2.length _ _ _ _ (uY.more (Fr.app (Ex.refl M2))) ?_ Vq gW _ _ _;rw[hl];exact ak
  | some j0 =>
   nofun;rw[Di uY.a uY.ad hl];nofun;refine⟨s1,?_⟩;nofun;refine Qy (M2++[MO.lst [.int j0]]) M2.length _ _ _ _ (uY.more (Fr.app (Ex.refl M2))) ?_ Vq gW _ _ _;rw[hl];exact ak
 ·rintro ρ M2 ⟨o6,o7,o8,o9,eF,eT,jC,kv,ag,as,rfl,uY⟩;nofun;exact⟨_,as,rfl,uY.dl,⟨uY.d,uY.nd,λz=>by have:=uY.db _ z;omega,uY.dv⟩,uY.ex⟩
theorem kn.step(h:kn A i x)(hy:y∈A x):kn A i y:=by
 induction h with
 | one h=>exact .more h (.one hy)
 | more h _ ih=>exact .more h (ih hy)
theorem wR{S:List Nat}(hS:∀x∈S,∀y∈A x,y∈S){i j:Nat}(h:kn A i j):(∀y∈A i,y∈S)->j∈S:=by
 induction h with
 | one h=>exact λq=>q _ h
 | more h _ ih=>exact λq=>ih (hS _ (q _ h))
structure Ds (A:Nat->List Nat) (i:Nat) (seen line:List Nat):Prop where
 nd:seen.Nodup
 s:∀x∈seen,kn A i x
 l:∀x∈line,kn A i x
 a:∀x∈A i,x∈seen\/x∈line
 c:∀x∈seen,∀y∈A x,y∈seen\/y∈line
theorem Ds.skip{i x:Nat}{seen line:List Nat}(h:Ds A i seen (line++[x]))(hx:x∈seen):Ds A i seen line:=by
 have fT:∀ {y},y∈seen\/y∈line++[x]->y∈seen\/y∈line:=λ{y} q=>by
  rcases q with q | q
  ·exact .inl q
  ·rcases fk.mp q with q | q
   ·exact .inr q
   ·rw[List.mem_singleton.mp q];exact .inl hx
 exact⟨h.nd,h.s,λy hy=>h.l y (fk.mpr (.inl hy)),λy hy=>fT (h.a y hy),λw hw y hy=>fT (h.c w hw y hy)⟩
theorem Ds.take{i x:Nat}{seen line:List Nat}(h:Ds A i seen (line++[x]))(hx:x∉seen):Ds A i (seen++[x]) (line++A x):=by
 have W3:=h.l x (fk.mpr (.inr List.mem_cons_self))
 have fT:∀ {y},y∈seen\/y∈line++[x]->y∈seen++[x]\/y∈line++A x:=λ{y} q=>by
  rcases q with q | q
  ·exact .inl (fk.mpr (.inl q))
  ·rcases fk.mp q with q | q
   ·exact .inr (fk.mpr (.inl q))
   ·exact .inl (fk.mpr (.inr q))
 refine⟨?_,λy hy=>?_,λy hy=>?_,λy hy=>fT (h.a y hy),λw hw y hy=>?_⟩
 ·rw[List.nodup_append];exact⟨h.nd,by simp,λa ha b hb e=>hx (by rw[<- List.mem_singleton.mp hb,<- e];exact ha)⟩
 ·rcases fk.mp hy with q | q
  ·exact h.s y q
  ·rw[List.mem_singleton.mp q];exact W3
 ·rcases fk.mp hy with q | q
  ·exact h.l y (fk.mpr (.inl q))
  ·exact W3.step q
 ·rcases fk.mp hw with q | q
  ·exact fT (h.c w q y hy)
  ·rw[List.mem_singleton.mp q]at hy;exact .inr (fk.mpr (.inr hy))
theorem Ds.QQ(hA:∀i j,j∈A i->j<i){i L:Nat}{seen line:List Nat}(h:Ds A i seen line)(hi:i<L):seen.length<=L:=by
 have:=gr (b:=List.range L) h.nd λx hx=>List.mem_range.mpr (by have:=(h.s x hx).lt hA;omega);rw[List.length_range]at this;exact this
theorem Ds.done{i:Nat}{seen:List Nat}(h:Ds A i seen [])(j:Nat):j∈seen↔kn A i j:=⟨h.s j,λr=>wR (λx hx y hy=>(h.c x hx y hy).resolve_right (by simp)) r λy hy=>(h.a y hy).resolve_right (by simp)⟩
theorem Qz(h:M[n]?=some (.lst (ds++[d]))):oQ .pop (.d (.ah n)) [] M=.ok (.d d) (M.set n (.lst ds)):=by
 unfold oQ;simp only[h];rw[show(ds++[d])[(ds++[d]).length-1]?=some d by simp,List.dropLast_concat]
theorem GH(h:M[n]?=some (.lst xs))(h2:M[k]?=some (.lst ys))(hl:xs.length+ys.length<=1000):ni .add (.d (.ah n)) (.d (.ah k)) M=.ok (.lv (xs++ys)) M:=by
 unfold ni;simp only[dr,h,h2];rw[if_pos (dB hl)]
theorem Dt(h:M[n]?=some (.lst (is.map D.int)))(hl:is.length<64):jl .m_ [.d (.ah n)] M=.ok (.lv ((jL is).map D.int)) M:=by
 unfold jl bx;simp only[h,ints_map,if_pos hl]
theorem rZ:jI (a++b)=jI a++jI b:=by unfold jI;rw[iN]
theorem r_:((jI a).map D.int).length=a.length:=by unfold jI;rw[aX,aX]
theorem wU{a:List Nat}{x:Nat}:(x:Int)∈jI a↔x∈a:=by
 unfold jI;rw[gZ];constructor
 ·rintro⟨y,hy,e⟩;have:y=x:=∅;subst this;exact hy
 ·exact λh=>⟨x,h,rfl⟩
theorem QA(h:∀x∈a,x<100):∀d∈(jI a).map D.int,Sm 2 0 d:=λd hd=>by
 obtain⟨i,hi,rfl⟩:=gZ.mp hd;obtain⟨x,hx,rfl⟩:=gZ.mp hi;have:=h x hx;exact Sm.int (∅) (∅)
def se(F:Fn):Prop:=∀(M:aq)(n0:Nat)(as:List Nat)(A:Nat->List Nat)(L:Nat),lO M n0 as (λi=>jI (A i))->as.length=L->L<=60->(∀i j,j∈A i->j<i)->(∀i,(A i).length<=2)->aP (F [.ah n0] M) λr M'=>∃n' bs h,r=.d (.ah n')/\bs.length=L/\lO M' n' bs h/\(∀i,i<L->(h i).Nodup/\∀x:Int,x∈h i↔∃j:Nat,x=j/\kn A i j)/\Ex M M'
noncomputable def rcB:List S:=[.asg [5] (.me .pop (.ae 4) []),.iff (.val (.cmp .d9 (.ae 5) (.ae 3))) [.expr (.me .append (.ae 3) [(.ae 5)]),.asg [4] (.bin .add (.ae 4) (.sub (.ae 0) (.ae 5)))] []]
theorem GI:se (aw G 6 yF):=by
 intro M n0 as A L hv uV hL hA h2;rw[bu];show dA G yF [some (.ah n0),none,none,none,none,none] M _ _ _ _;have ln0:=aj hv.at'
 have has:∀a∈as,a<M.length:=λa ha=>by
  obtain⟨q,hq,e⟩:=List.mem_iff_getElem.mp ha;have:=aj (hv.av q _ (dM hq));omega
 nofun;refine⟨s0,?_⟩;nofun;have Qs:=hv.ex (Fr.app (X:=[MO.lst []]) (Ex.refl M));rw[df Qs.at'];nofun;refine⟨⟨∅,by rw[aX];omega⟩,?_⟩;rw[show(((as.map D.ah).length:Nat):Int).toNat=L by rw[Int.toNat_natCast,aX,uV]];refine eE (n:=L) (λi ρ M'=>∃o2 o3 o4 o5 bs h,ρ=[some (.ah n0),some (.ah M.length),o2,o3,o4,o5]/\bs.length=i/\M'[M.length]?=some (.lst (bs.map D.ah))/\(∀(r a:Nat),bs[r]?=some a->M'[a]?=some (.lst ((h r).map D.int)))/\(∀a∈bs,M.length<a)/\bs.Nodup/\(∀k,k<i->(h k:List Int).Nodup/\∀x:Int,x∈h k↔∃j:Nat,x=j/\kn A k j)/\Ex M M') ⟨_,_,_,_,[],λ_=>[],rfl,rfl,ak,λr a e=>(by simp at e),λa h=>(by cases h),List.nodup_nil,λk hk=>(∅),Fr.app (Ex.refl M)⟩ ?_ ?_
 ·rintro i ρ M2 hi ⟨o2,o3,o4,o5,bs,h,rfl,QB,RP,y4,G7,Vx,hh,kr⟩;have HM:=hv.ex kr;obtain⟨a,ea,es,HL⟩:=HM.sub (r:=i) (∅);have lF:=aj RP;have l2:=kr.1;rw[show(0:Int)+(i:Int)=((i:Nat):Int) by omega];nofun;refine⟨s0,?_⟩;nofun;have RL:=HM.ex (Fr.app (X:=[MO.lst []]) (Ex.refl M2));have es3:cU (.d (.ah n0)) (.d (.int (i:Nat))) (M2++[MO.lst []])=.ok (.d (.ah a)) (M2++[MO.lst []]):=a_ RL.at' (by rw[dG,ea];rfl);rw[es3];nofun;rw[uj (ay HL)];nofun;have l3:(M2++[MO.lst []]).length=M2.length+1:=by rw[gV];rfl
  have W4:(M2++[MO.lst []]++[MO.lst ((jI (A i)).map D.int)])[M2.length]?=some (.lst ((jI []).map D.int)):=ay ak;have oI:(M2++[MO.lst []]++[MO.lst ((jI (A i)).map D.int)])[M2.length+1]?=some (.lst ((jI (A i)).map D.int)):=by rw[<- l3];exact ak
  have f4:Ex M2 (M2++[MO.lst []]++[MO.lst ((jI (A i)).map D.int)]):=Fr.app (Fr.app (Ex.refl M2));rw[l3];generalize M2++[MO.lst []]++[MO.lst ((jI (A i)).map D.int)]=M4 at W4 oI f4⊢;have Wn:=h2 i;refine Ca (t:=.val (.cmp .ne (.ae 4) (.lst []))) (b:=rcB) (λf ρ M'=>∃o5 nl seen line,ρ=[some (.ah n0),some (.ah M.length),some (.int i),some (.ah M2.length),some (.ah nl),o5]/\M'[M2.length]?=some (.lst ((jI seen).map D.int))/\M'[nl]?=some (.lst ((jI line).map D.int))/\M2.length<nl/\Ex M2 M'/\Ds A i seen line/\line.length+2*(L-seen.length)+1<=f/\f<=1000) ?_ 1000 _ _ ⟨_,M2.length+1,[],A i,rfl,W4,oI,∅,f4,⟨List.nodup_nil,λx hx=>(by cases hx),λx hx=>.one hx,λx hx=>.inr hx,λx hx=>(by cases hx)⟩,by simp only[List.length_nil];omega,bJ _⟩;rintro fu ρ M5 ⟨o5,nl,seen,line,rfl,W5,zT,zV,f5,hD,Vy,hf1⟩;have ko:∀x∈line,x<100:=λx hx=>by have:=(hD.l x hx).lt hA;omega
  have Wz:∀x∈seen,x<100:=λx hx=>by have:=(hD.s x hx).lt hA;omega
  have vO:=hD.QQ hA hi;refine⟨fu-1,∅,?_⟩;have zY:=HM.ex f5;nofun;refine⟨s0,?_⟩;nofun;rw[Cu zT (QA ko) (by rw[r_];omega) (by decide)];rcases List.eq_nil_or_concat line with e | ⟨l',x,e⟩
  ·subst e;have W6:=Ex.get f5 RP;have l5:=f5.1;nofun;refine⟨aW W6,?_⟩;nofun;rw[Dt W5 (by unfold jI;rw[aX];omega)];nofun;have W7:(M5++[MO.lst ((jL (jI seen)).map D.int)])[M.length]?=some (.lst (bs.map D.ah)):=ay W6;rw[bD W7 (aG (by rw[aX];omega))]
   have gW:M5.length∉bs:=λz=>by
    obtain⟨q,hq,e⟩:=List.mem_iff_getElem.mp z;have:=aj (Ex.get f5 (y4 q _ (dM hq)));omega
   refine⟨_,_,_,_,bs++[M5.length],λk=>if k=i then jL (jI seen) else h k,rfl,by rw[gV,QB];rfl,?_,λr b e=>?_,λb hb=>?_,?_,λk hk=>?_,Fr.set (Fr.app (Ex.trans kr f5)) (bJ _)⟩
   ·rw[aF W7,iN];rfl
   ·rcases Nat.lt_or_ge r bs.length with z | z
    ·rw[uU z]at e;show _=some (MO.lst ((if r=i then jL (jI seen) else h r).map D.int));rw[if_neg (∅)];exact ao (ay (Ex.get f5 (y4 r b e))) (by have:=G7 b (gU e);omega)
    ·rw[List.getElem?_append_right z]at e
     have hr:r=bs.length:=by
      have:=(dU.mp e).1;simp only[List.length_cons,List.length_nil]at this;omega
     subst hr;simp at e;subst e;show _=some (MO.lst ((if bs.length=i then jL (jI seen) else h bs.length).map D.int));rw[if_pos QB];exact ao ak (∅)
   ·rcases fk.mp hb with z | z
    ·exact G7 b z
    ·rw[List.mem_singleton.mp z];omega
   ·rw[List.nodup_append];exact⟨Vx,by simp,λx hx y hy e=>gW (by rw[<- List.mem_singleton.mp hy,<- e];exact hx)⟩
   ·show(if k=i then jL (jI seen) else h k).Nodup/\∀x:Int,x∈(if k=i then jL (jI seen) else h k)↔∃j:Nat,x=j/\kn A k j;by_cases z:k=i
    ·subst z;rw[if_pos rfl];refine⟨ib.nodup_iff.mpr ?_,λx=>?_⟩
     ·unfold jI;exact List.pairwise_map.mpr (hD.nd.imp λh e=>h (∅))
     ·rw[ib.mem_iff];unfold jI;rw[gZ];constructor
      ·rintro⟨y,hy,rfl⟩;exact⟨y,rfl,(hD.done y).mp hy⟩
      ·rintro⟨y,rfl,hy⟩;exact⟨y,(hD.done y).mpr hy,rfl⟩
    ·rw[if_neg z];exact hh k (∅)
  ·rw[List.concat_eq_append]at e;subst e;rw[gV]at Vy;have Vy:l'.length+1+2*(L-seen.length)+1<=fu:=Vy;have P5:M5[nl]?=some (.lst ((jI l').map D.int++[.int x])):=by rw[zT,rZ,iN];rfl
   have hxl:=(hD.l x (fk.mpr (.inr List.mem_cons_self))).lt hA;rw[show((jI (l'++[x])).map D.int).isEmpty=false by rw[rZ,iN];cases (jI l').map D.int<;>rfl];nofun;refine⟨aW P5,?_⟩;nofun;rw[Qz P5];have FZ:(M5.set nl (.lst ((jI l').map D.int)))[M2.length]?=some (.lst ((jI seen).map D.int)):=ao W5 (∅);have Qf:(M5.set nl (.lst ((jI l').map D.int)))[nl]?=some (.lst ((jI l').map D.int)):=aF P5;have f7:Ex M2 (M5.set nl (.lst ((jI l').map D.int))):=Fr.set f5 (∅);have RQ:=HM.ex f7;nofun;rw[K4 (ks:=jI seen) FZ];generalize M5.set nl (.lst ((jI l').map D.int))=M7 at FZ Qf f7 RQ⊢;by_cases hx:x∈seen
   ·rw[show decide ((x:Int)∈jI seen)=true from decide_eq_true (wU.mpr hx)];exact⟨_,nl,seen,l',rfl,FZ,Qf,zV,f7,hD.skip hx,∅,∅⟩
   ·rw[show decide ((x:Int)∈jI seen)=false from decide_eq_false λz=>hx (wU.mp z)];have W8:=hD.take hx;have p_:=W8.QQ hA hi;rw[gV]at p_;have p_:seen.length+1<=L:=p_;nofun;refine⟨aW FZ,?_⟩;nofun;rw[bD FZ (aG (by rw[r_];omega))];have e8:(jI seen).map D.int++[.int (x:Nat)]=(jI (seen++[x])).map D.int:=by rw[rZ,iN];rfl
    rw[e8];have Vz:(M7.set M2.length (.lst ((jI (seen++[x])).map D.int)))[M2.length]?=some (.lst ((jI (seen++[x])).map D.int)):=aF FZ;have W9:(M7.set M2.length (.lst ((jI (seen++[x])).map D.int)))[nl]?=some (.lst ((jI l').map D.int)):=ao Qf (∅);have f8:Ex M2 (M7.set M2.length (.lst ((jI (seen++[x])).map D.int))):=Fr.set f7 (bJ _);have zP:=HM.ex f8;generalize M7.set M2.length (.lst ((jI (seen++[x])).map D.int))=M8 at Vz W9 f8 zP⊢;obtain⟨a8,ea8,es8,VA⟩:=zP.sub (r:=x) (∅);have hAx:=h2 x;nofun;rw[es8];nofun;rw[GH W9 VA (by rw[r_,r_];omega),<- iN,<- rZ];nofun;refine⟨_,M8.length,seen++[x],l'++A x,rfl,ay Vz,ak,aj Vz,Fr.app f8,W8,?_,∅⟩;rw[gV,gV];show l'.length+(A x).length+2*(L-(seen.length+1))+1<=fu-1;omega
 ·rintro ρ M2 ⟨o2,o3,o4,o5,bs,h,rfl,QB,RP,y4,G7,Vx,hh,kr⟩;nofun;exact⟨_,bs,h,rfl,QB,⟨RP,Vx,λz=>by have:=G7 _ z;omega,y4⟩,hh,kr⟩
theorem wV(hi:i<ds.length)(hj:j<ds.length):(j=i\/kn (jD f s ds) i j)↔cA f ds j<T f s ds i (mA f ds j) :=
 wN (n:=ds.length) eQ (λi j hi hj hm=>Qp hi hj hm) (λi j _ h hm=>Dg h hm) i j hi hj
theorem QC:∀{i:Nat},i<ds.length->T f s ds i m<=(lP f ds).count m:=by
 intro i
 induction i using Nat.strongRecOn with
 | _ i ih =>
  intro hi;unfold T;rw[uQ eQ];by_cases hm:m=mA f ds i
  ·subst hm;rw[if_pos rfl];have h1:=jB (f:=f) (m:=mA f ds i) hi;rw[if_pos rfl]at h1;have h2:=oC (f:=f) (ds:=ds) (m:=mA f ds i) (i:=i+1) (j:=ds.length) hi;rw[List.take_length]at h2;unfold cA;omega
  ·rw[if_neg hm];refine Nat.not_lt.mp λz=>?_;rcases Df.mp z with z | ⟨o,ho,z⟩
   ·omega
   ·have LK:=eQ i o ho;have:=ih o LK (∅);unfold T at this;omega
theorem sf{l:List Nat}{g:Nat->Nat}{m:Nat}:(l.map λx=>((g x:Nat):Int)).count (m:Int)=(l.filter λj=>decide (g j=m)).length:=by
 induction l with
 | nil=>rfl
 | cons x l ih =>
  rw[List.map_cons,List.count_cons,ih,List.filter_cons];by_cases h:g x=m
  ·rw[if_pos (by simp[h]),if_pos (by simp[h]),List.length_cons]
  ·rw[if_neg (by simp;omega),if_neg (by simp[h])];rfl
theorem LS{ds:List Dn}{k m:Nat}{h:List Int}(hk:k<ds.length)(nd:h.Nodup)(hm:∀x:Int,x∈h↔∃j:Nat,x=j/\kn (jD f s ds) k j):((h.map λx=>((mA f ds x.toNat:Nat):Int))++[((mA f ds k:Nat):Int)]).count (m:Int)=T f s ds k m:=by
 have hB:(h.map λx=>((mA f ds x.toNat:Nat):Int))++[((mA f ds k:Nat):Int)]=(h.map Int.toNat++[k]).map λx=>((mA f ds x:Nat):Int):=by
  rw[iN,List.map_map];rfl
 have mB:∀j,j∈h.map Int.toNat++[k]↔j=k\/kn (jD f s ds) k j:=λj=>by
  rw[fk,List.mem_singleton,gZ];constructor
  ·rintro(⟨x,hx,rfl⟩ | rfl)
   ·obtain⟨y,rfl,hy⟩:=(hm x).mp hx;exact .inr (by simpa using hy)
   ·exact .inl rfl
  ·rintro(rfl | r)
   ·exact .inr rfl
   ·exact .inl ⟨j,(hm j).mpr ⟨j,rfl,r⟩,by simp⟩
 have nB:(h.map Int.toNat++[k]).Nodup:=by
  rw[List.nodup_append];refine⟨List.pairwise_map.mpr ((List.Pairwise.and_mem.mp nd).imp ?_),by simp,λx hx y hy e=>?_⟩
  ·rintro x y ⟨hx,hy,ne⟩ e;obtain⟨a,rfl,_⟩:=(hm x).mp hx;obtain⟨b,rfl,_⟩:=(hm y).mp hy;have e:a=b:=by simpa using e
   exact ne (by rw[e])
  ·obtain⟨z,hz,rfl⟩:=gZ.mp hx;obtain⟨a,rfl,ra⟩:=(hm z).mp hz;have:=ra.lt eQ;rw[List.mem_singleton.mp hy]at e;have e:a=k:=by simpa using e
   omega
 rw[hB,sf];have hT:=QC (f:=f) (s:=s) (m:=m) hk;have hc:=lI (f:=f) (ds:=ds) (m:=m) (t:=T f s ds k m) (n:=ds.length) (bJ _);rw[List.take_length,Nat.min_eq_left hT]at hc;rw[<- hc]
 have fT:∀j,j∈(h.map Int.toNat++[k]).filter (λj=>decide (mA f ds j=m))↔j∈(List.range ds.length).filter λj=>decide (mA f ds j=m)&&decide (cA f ds j<T f s ds k m):=λj=>by
  rw[List.mem_filter,List.mem_filter,mB,List.mem_range];simp only[cu,decide_eq_true_eq];constructor
  ·rintro⟨r,rfl⟩
   have hj:j<ds.length:=by
    rcases r with rfl | r
    ·exact hk
    ·have:=r.lt eQ;omega
   exact⟨hj,rfl,(wV hk hj).mp r⟩
  ·rintro⟨hj,rfl,r⟩;exact⟨(wV hk hj).mpr r,rfl⟩
 refine Nat.le_antisymm (gr (nB.filter _) λx hx=>(fT x).mp hx) (gr (List.nodup_range.filter _) λx hx=>(fT x).mpr hx)
theorem GJ{ds:List Dn}{one cj:Nat}{h:List Int}(h1:one<ds.length)(h2:cj<ds.length)(hm:∀x:Int,x∈h↔∃j:Nat,x=j/\kn (jD f s ds) cj j):(!(one==cj)&&decide (cA f ds one<T f s ds cj (mA f ds one)))=decide ((one:Int)∈h):=by
 have q:=wV (f:=f) (s:=s) h2 h1
 have q2:(one:Int)∈h↔kn (jD f s ds) cj one:=by
  rw[hm];constructor
  ·rintro⟨j,e,r⟩;have:one=j:=∅;rw[this];exact r
  ·exact λr=>⟨one,rfl,r⟩
 by_cases e:one=cj
 ·subst e;rw[beq_self_eq_true,show decide ((one:Int)∈h)=false from decide_eq_false λz=>by have:=(q2.mp z).lt eQ;omega];rfl
 ·rw[show(one==cj)=false from beq_eq_false_iff_ne.mpr e,Bool.not_false,Bool.true_and];refine decide_eq_decide.mpr ?_;rw[<- q,q2];exact⟨λz=>z.resolve_left e,.inr⟩
theorem QD(hf:cg f)(yz:ds.length<=60):∀d∈uR f s ds ds.length,Sm 19 1 d:=λd hd=>by
 have h4:=hf.l4;obtain⟨i,hi,rfl⟩:=gZ.mp hd;rw[List.mem_range]at hi;refine Sm.tup (b:=2) (h:=0) (k:=4) (λx hx=>?_) (by rw[fg];exact h4);obtain⟨m,_,rfl⟩:=gZ.mp hx;have h1:=QC (f:=f) (s:=s) (m:=m) hi;have h2:=List.count_le_length (a:=m) (l:=lP f ds);have h3:(lP f ds).length=ds.length:=by unfold lP;rw[aX]
 exact Sm.int (∅) (∅)
theorem GK(h:M[n]?=some (.lst [])):aY .eq (.d (.ah n)) (.lv []) M=.ok true M:=by
 have h1:iw M (.d (.ah n))=some (.list []):=by
  show cW M 30 (.ah n)=_;unfold cW;simp only[h];unfold bG;rfl
 have h2:iw M (.lv [])=some (.list []):=by show(bG M 30 []).map _=_;unfold bG;rfl
 have h4:SeqAt.shaped (.list [])=true:=⋯;unfold aY;simp only[h1,h2,h4,and_self,if_true,PyData.eqv.eq_7,PyData.eqvAll.eq_1]
end Ev
end
section
namespace gQ
open Ev PySem
abbrev Fu:=List D->aq->cw W
abbrev c0(l:List Fu):=l
def n0:List Str:=["thing"]
def b0:List S:=v7
def f0:Fu:=aw (cz (c0 [])) 1 b0
abbrev c1(l:List Fu):=c0 (f0::l)
def n1:List Str:=["thing","bound"]
def b1:List S:=v8 0
def f1:Fu:=aw (cz (c1 [])) 2 b1
abbrev c2(l:List Fu):=c1 (f1::l)
def n2:List Str:=["thing"]
def b2:List S:=Cy
def f2:Fu:=aw (cz (c2 [])) 1 b2
abbrev c3(l:List Fu):=c2 (f2::l)
def n3:List Str:=["form","m","state","cause","move"]
def b3:List S:=q_
def f3:Fu:=aw (cz (c3 [])) 5 b3
abbrev c4(l:List Fu):=c3 (f3::l)
def n4:List Str:=["stand","road"]
def b4:List S:=v9
def f4:Fu:=aw (cz (c4 [])) 2 b4
abbrev c5(l:List Fu):=c4 (f4::l)
def n5:List Str:=["form","thing"]
def b5:List S:=v_ 1 2 0
def f5:Fu:=aw (cz (c5 [])) 2 b5
abbrev c6(l:List Fu):=c5 (f5::l)
def n6:List Str:=["form","deed"]
def b6:List S:=Cz
def f6:Fu:=aw (cz (c6 [])) 2 b6
abbrev c7(l:List Fu):=c6 (f6::l)
def n7:List Str:=["form","stand","road","waiting"]
def b7:List S:=K5 4
def f7:Fu:=aw (cz (c7 [])) 4 b7
abbrev c8(l:List Fu):=c7 (f7::l)
def n8:List Str:=["form","stand","thing"]
def b8:List S:=K6 5 3 7
def f8:Fu:=aw (cz (c8 [])) 3 b8
abbrev c9(l:List Fu):=c8 (f8::l)
def n9:List Str:=["stand","deed"]
def b9:List S:=wa 4
def f9:Fu:=aw (cz (c9 [])) 2 b9
abbrev RS(l:List Fu):=c9 (f9::l)
def n10:List Str:=["letters","k"]
def W_:List S:=CA
def zQ:Fu:=aw (cz (RS [])) 2 W_
abbrev RT(l:List Fu):=RS (zQ::l)
def n11:List Str:=["letters","sign"]
def Xa:List S:=CB
def RU:Fu:=aw (cz (RT [])) 2 Xa
abbrev RV(l:List Fu):=RT (RU::l)
noncomputable def n12:List Str:=["form","stand","deed","m","reply","states","roads","road","sign","told"]
def Xb:List S:=CD 6 3 9 10 11
def Qj:Fu:=aw (cz (RV [])) 10 Xb
abbrev RX(l:List Fu):=RV (Qj::l)
noncomputable def n13:List Str:=["form","stand","deeds","behind","now","number","deed","step"]
def Xc:List S:=wF 8 12
def f13:Fu:=aw (cz (RX [])) 8 Xc
abbrev RY(l:List Fu):=RX (f13::l)
noncomputable def n14:List Str:=["form","deeds","counts","events","deed","m"]
def Xd:List S:=[.eD 2 (.comp .seq [(.sub (.ae 0) (.ai (.int 0)))] [1] none (.ai (.int 0)) [none,none]),.asg [3] (.lst []),.bq [4] .seq [(.ae 1)] [.asg [5] (.call 6 [(.ae 0),(.ae 4)]),.expr (.me .append (.ae 3) [(.tup [(.ae 5),(.sub (.ae 2) (.ae 5))])]),.put (.ae 2) (.ae 5) (.bin .add (.sub (.ae 2) (.ae 5)) (.ai (.int 1)))],.ret (.ae 3)]
def f14:Fu:=aw (cz (RY [])) 6 Xd
abbrev RZ(l:List Fu):=RY (f14::l)
def n15:List Str:=["ahead","behind","letters","road","k"]
noncomputable def Xe:List S:=[.asg [2] (.lst []),.bq [3] .dm [(.bi .len [(.sub (.ae 0) (.ai (.int 1)))])] [.bq [4] .oO [(.sub (.sub (.sub (.ae 0) (.ai (.int 1))) (.ae 3)) (.ai (.int 0))),(.sub (.sub (.sub (.ae 1) (.ai (.int 1))) (.ae 3)) (.ai (.int 0)))] [.expr (.me .append (.ae 2) [(.tup [(.ae 3),(.ae 4)])])]],.ret (.ae 2)]
def f15:Fu:=aw (cz (RZ [])) 5 Xe
abbrev R0(l:List Fu):=RZ (f15::l)
noncomputable def n16:List Str:=["form","stand","deeds","letters","road","k","sign","ahead","number","step","deed","letter"]
def Xf:List S:=[.asg [3] .kJ,.bq [4] .dm [(.bi .len [(.sub (.ae 0) (.ai (.int 1)))])] [.bq [5,6] .seq [(.call 4 [(.ae 1),(.ae 4)])] [.dput (.ae 3) (.tup [(.ae 4),(.ae 5)]) (.tup [(.ai .aQ),(.ai .aQ)])]],.asg [7] (.ae 1),.bq [8,9] .enum [(.call 13 [(.ae 0),(.ae 1),(.ae 2)])] [.asg [10] (.sub (.ae 2) (.ae 8)),.iff (.val (.cmp .eq (.sub (.ae 10) (.ai (.int 0))) (.ai (.str "come")))) [.asg [11] (.tup [(.sub (.ae 10) (.ai (.int 1))),(.sub (.ae 10) (.ai (.int 2)))]),.dput (.ae 3) (.ae 11) (.tup [(.sub (.jk (.ae 3) (.ae 11)) (.ai (.int 0))),(.ae 8)])] [],.bq [11] .seq [(.call 15 [(.ae 7),(.sub (.ae 9) (.ai (.int 0)))])] [.dput (.ae 3) (.ae 11) (.tup [(.ae 8),(.ai .aQ)])],.asg [7] (.sub (.ae 9) (.ai (.int 0)))],.ret (.ae 3)]
def f16:Fu:=aw (cz (R0 [])) 12 Xf
abbrev R1(l:List Fu):=R0 (f16::l)
noncomputable def n17:List Str:=["form","stand","deeds","letters","links","last","number","event","sending","coming"]
def Xg:List S:=[.asg [3] (.call 16 [(.ae 0),(.ae 1),(.ae 2)]),.eD 4 (.comp .seq [(.ae 2)] [1] none (.lst []) [none,none]),.asg [5] (.tq [] []),.bq [6,7] .enum [(.call 14 [(.ae 0),(.ae 2)])] [.iff (.val (.cmp .isin (.sub (.ae 7) (.ai (.int 0))) (.ae 5))) [.expr (.me .append (.sub (.ae 4) (.ae 6)) [(.sub (.ae 5) (.sub (.ae 7) (.ai (.int 0))))])] [],.put (.ae 5) (.sub (.ae 7) (.ai (.int 0))) (.ae 6)],.bq [8,9] .vals [(.ae 3)] [.iff (.dq [(.val (.cmp .eZ (.ae 8) (.ai .aQ))),(.val (.cmp .eZ (.ae 9) (.ai .aQ)))]) [.expr (.me .append (.sub (.ae 4) (.ae 9)) [(.ae 8)])] []],.ret (.ae 4)]
def f17:Fu:=aw (cz (R1 [])) 10 Xg
abbrev R3(l:List Fu):=R1 (f17::l)
noncomputable def n18:List Str:=["form","stand","deeds","links","told","number","event","clock","other"]
def Xh:List S:=[.asg [3] (.call 17 [(.ae 0),(.ae 1),(.ae 2)]),.asg [4] (.lst []),.bq [5,6] .enum [(.call 14 [(.ae 0),(.ae 2)])] [.eD 7 (.comp .seq [(.sub (.ae 0) (.ai (.int 0)))] [1] none (.ai (.int 0)) [none,none]),.bq [8] .seq [(.sub (.ae 3) (.ae 5))] [.eD 7 (.comp .zip [(.ae 7),(.sub (.ae 4) (.ae 8))] [1,2] none (.bi .max2 [(.ae 1),(.ae 2)]) [none,none,none])],.put (.ae 7) (.sub (.ae 6) (.ai (.int 0))) (.bin .add (.sub (.ae 6) (.ai (.int 1))) (.ai (.int 1))),.expr (.me .append (.ae 4) [(.bi .tuple1 [(.ae 7)])])],.ret (.ae 4)]
def f18:Fu:=aw (cz (R3 [])) 9 Xh
abbrev R4(l:List Fu):=R3 (f18::l)
noncomputable def n19:List Str:=["events","deed_clocks","one","other","event"]
noncomputable def Xi:List S:=[.asg [4] (.sub (.ae 0) (.ae 2)),.ret (.dq [(.cmp .ne (.ae 2) (.ae 3)),(.cmp .lt (.sub (.ae 4) (.ai (.int 1))) (.sub (.sub (.ae 1) (.ae 3)) (.sub (.ae 4) (.ai (.int 0)))))])]
def f19:Fu:=aw (cz (R4 [])) 5 Xi
abbrev R5(l:List Fu):=R4 (f19::l)
def n20:List Str:=["_law_script","_law_k","_law_cell"]
def Xj:List S:=Cd
def f20:Fu:=aw (cz (R5 [])) 3 Xj
abbrev R6(l:List Fu):=R5 (f20::l)
noncomputable def n21:List Str:=["_law_well_here","_law_many","_law_turn","_law_left","_law_here","_law_mixed"]
def Xk:List S:=xX
def f21:Fu:=aw (cz (R6 [])) 6 Xk
abbrev R7(l:List Fu):=R6 (f21::l)
noncomputable def n22:List Str:=["_law_well_here","_law_machines","_law_roads_here","_law_many","_law_k","_law_one","_law_other"]
def Xl:List S:=vT 21
def f22:Fu:=aw (cz (R7 [])) 7 Xl
abbrev R8(l:List Fu):=R7 (f22::l)
noncomputable def n23:List Str:=["_law_well_here","_law_some","_law_many","_law_k","_law_state"]
def Xm:List S:=rf 21
def f23:Fu:=aw (cz (R8 [])) 5 Xm
abbrev R9(l:List Fu):=R8 (f23::l)
noncomputable def n24:List Str:=["_law_well_here","_law_ways","_law_sends_here","_law_k","_law_road"]
def Xn:List S:=vU 21
def f24:Fu:=aw (cz (R9 [])) 5 Xn
abbrev R_(l:List Fu):=R9 (f24::l)
noncomputable def n25:List Str:=["_law_well_here","_law_some","_law_ways","_law_words","_law_moves_here","_law_state","_law_cause","_law_after","_law_sends_here","_law_word","_law_at"]
def Xo:List S:=vV 21 24
def f25:Fu:=aw (cz (R_ [])) 11 Xo
abbrev Sa(l:List Fu):=R_ (f25::l)
noncomputable def n26:List Str:=["_law_script","_law_well_here","_law_machines","_law_roads_here","_law_rules","_law_m","_law_some","_law_ways","_law_start"]
def Xp:List S:=xY 20 21 22 23 25
def f26:Fu:=aw (cz (Sa [])) 9 Xp
abbrev Sb(l:List Fu):=Sa (f26::l)
noncomputable def n27:List Str:=["_law_form_here","_law_m","_law_state","_law_cause","_law_told"]
def Xq:List S:=rh
def f27:Fu:=aw (cz (Sb [])) 5 Xq
abbrev Se(l:List Fu):=Sb (f27::l)
noncomputable def n28:List Str:=["_law_form_here","_law_stand_here","_law_found","_law_road","_law_waiting"]
def Xr:List S:=rB
def f28:Fu:=aw (cz (Se [])) 5 Xr
abbrev Sf(l:List Fu):=Se (f28::l)
noncomputable def n29:List Str:=["_law_form_here","_law_stand_here","_law_deed","_law_m","_law_road","_law_number","_law_sign"]
def Xs:List S:=wb 27 28
def f29:Fu:=aw (cz (Sf [])) 7 Xs
abbrev Sg(l:List Fu):=Sf (f29::l)
def n30:List Str:=["_law_form_here","_law_deed"]
def Xu:List S:=wc
def f30:Fu:=aw (cz (Sg [])) 2 Xu
abbrev Sh(l:List Fu):=Sg (f30::l)
noncomputable def n31:List Str:=["_law_form_here","_law_stand_here","_law_deed","_law_after","_law_sends_here","_law_word","_law_m","_law_states_here","_law_load_here","_law_loads","_law_road","_law_sign","_law_roads_here"]
def Xv:List S:=we 29 30
def f31:Fu:=aw (cz (Sh [])) 13 Xv
abbrev Si(l:List Fu):=Sh (f31::l)
noncomputable def n32:List Str:=["_law_well_here","_law_order","_law_some","_law_sent","_law_waiting","_law_least","_law_k"]
def Xw:List S:=wg 21
def f32:Fu:=aw (cz (Si [])) 7 Xw
abbrev Sj(l:List Fu):=Si (f32::l)
noncomputable def n33:List Str:=["_law_script","_law_form_here","_law_well_here","_law_loads","_law_states_here"]
def Xx:List S:=rC 20 21 32
def f33:Fu:=aw (cz (Sj [])) 5 Xx
abbrev Sk(l:List Fu):=Sj (f33::l)
noncomputable def n34:List Str:=["_law_well_here","_law_form_here","_law_stand_here","_law_some","_law_owns","_law_m","_law_way"]
def Xy:List S:=wj 28 29 21
def f34:Fu:=aw (cz (Sk [])) 7 Xy
abbrev Sl(l:List Fu):=Sk (f34::l)
noncomputable def n35:List Str:=["_law_script","_law_form_here","_law_stand_here","_law_most","_law_well_here","_law_deeds_here","_law_many","_law_k","_law_deed"]
def Xz:List S:=rL 20 21 34 31
def f35:Fu:=aw (cz (Sl [])) 9 Xz
abbrev Sn(l:List Fu):=Sl (f35::l)
noncomputable def n36:List Str:=["_law_form_here","_law_stand_here","_law_deeds_here","_law_last","_law_sender","_law_found","_law_k","_law_m","_law_ahead","_law_sends_here","_law_counts","_law_road","_law_sign"]
def XA:List S:=[.asg [3] (.tq [] []),.asg [4] .kJ,.asg [5] (.lst []),.bq [6] .dm [(.bi .len [(.ae 2)])] [.asg [7] (.call 30 [(.ae 0),(.sub (.ae 2) (.ae 6))]),.asg [8] (.ite (.val (.cmp .isin (.ae 7) (.ae 3))) (.lst [(.sub (.ae 3) (.ae 7))]) (.lst [])),.iff (.dq [(.val (.cmp .eq (.sub (.sub (.ae 2) (.ae 6)) (.ai (.int 0))) (.ai (.str "come")))),(.val (.f_ false (.nh (.sub (.ae 2) (.ae 6)) (some (.ai (.int 1))) none) (.ae 4)))]) [.expr (.me .append (.ae 8) [(.jk (.ae 4) (.nh (.sub (.ae 2) (.ae 6)) (some (.ai (.int 1))) none))])] [],.expr (.me .append (.ae 5) [(.ae 8)]),.put (.ae 3) (.ae 7) (.ae 6),.asg [9] (.sub (.call 29 [(.ae 0),(.ae 1),(.sub (.ae 2) (.ae 6))]) (.ai (.int 1))),.eD 10 (.comp .seq [(.sub (.ae 1) (.ai (.int 1)))] [1] none (.sub (.ae 1) (.ai (.int 0))) [none,none]),.bq [11,12] .seq [(.ae 9)] [.dput (.ae 4) (.tup [(.ae 11),(.sub (.ae 10) (.ae 11))]) (.ae 6),.put (.ae 10) (.ae 11) (.bin .add (.sub (.ae 10) (.ae 11)) (.ai (.int 1)))],.asg [1] (.sub (.call 31 [(.ae 0),(.ae 1),(.sub (.ae 2) (.ae 6))]) (.ai (.int 0)))],.ret (.ae 5)]
def f36:Fu:=aw (cz (Sn [])) 13 XA
abbrev So(l:List Fu):=Sn (f36::l)
noncomputable def n37:List Str:=["_law_ahead","_law_found","_law_k","_law_seen","_law_line","_law_one"]
noncomputable def XB:List S:=[.asg [1] (.lst []),.bq [2] .dm [(.bi .len [(.ae 0)])] [.asg [3] (.lst []),.asg [4] (.bi .list1 [(.sub (.ae 0) (.ae 2))]),.DJ 1000 (.val (.cmp .ne (.ae 4) (.lst []))) [.asg [5] (.me .pop (.ae 4) []),.iff (.val (.cmp .d9 (.ae 5) (.ae 3))) [.expr (.me .append (.ae 3) [(.ae 5)]),.asg [4] (.bin .add (.ae 4) (.sub (.ae 0) (.ae 5)))] []],.expr (.me .append (.ae 1) [(.bi .m_ [(.ae 3)])])],.ret (.ae 1)]
def f37:Fu:=aw (cz (So [])) 6 XB
abbrev Sr(l:List Fu):=So (f37::l)
noncomputable def n38:List Str:=["_law_script","_law_form_here","_law_stand_here","_law_deeds_here","_law_before_here","_law_machines","_law_k","_law_events","_law_due","_law_one","_law_some","_law_turn","_law_handed","_law_found","_law_other","_law_said"]
def Ss:List S:=[.asg [1] (.call 26 [(.ae 0)]),.asg [2] (.call 33 [(.ae 0),(.ae 1)]),.asg [3] (.call 35 [(.ae 0),(.ae 1),(.ae 2),(.ai (.int 40))]),.asg [4] (.call 37 [(.call 36 [(.ae 1),(.ae 2),(.ae 3)])]),.asg [5] (.comp .seq [(.ae 3)] [1] none (.call 30 [(.ae 2),(.ae 1)]) [none,none,some 1]),.eD 7 (.comp .dm [(.bi .len [(.ae 3)])] [1] none (.tup [(.sub (.ae 2) (.ae 1)),(.cnt (.nh (.ae 2) none (some (.ae 1))) (.sub (.ae 2) (.ae 1)))]) [none,none,some 5]),.asg [8] (.lst []),.bq [6] .dm [(.bi .len [(.ae 3)])] [.asg [10] (.bin .add (.comp .seq [(.sub (.ae 4) (.ae 6))] [1] none (.sub (.ae 2) (.ae 1)) [none,none,some 5]) (.lst [(.sub (.ae 5) (.ae 6))])),.expr (.me .append (.ae 8) [(.bi .tuple1 [(.comp .dm [(.bi .len [(.sub (.ae 1) (.ai (.int 0)))])] [1] none (.cnt (.ae 2) (.ae 1)) [none,none,some 10])])])],.bq [11] .dm [(.ai (.int 2))] [.asg [12] (.bi .list1 [(.ae 3)]),.asg [13] (.call 18 [(.ae 1),(.ae 2),(.ae 12)]),.iff (.gA [(.neg (.val (.bi (.uW .list) [(.ae 13)]))),(.val (.cmp .ne (.bi .m8 [(.ae 13)]) (.bi .m8 [(.ae 8)]))),(.val (.cmp .ne (.ae 12) (.ae 3)))]) [.ret (.ai (.bl false))] [],.bq [9] .dm [(.bi .len [(.ae 3)])] [.bq [14] .dm [(.bi .len [(.ae 3)])] [.asg [15] (.call 19 [(.ae 7),(.sub (.lst [(.ae 13),(.ae 8)]) (.ae 11)),(.ae 9),(.ae 14)]),.iff (.gA [(.neg (.val (.bi (.uW .bool) [(.ae 15)]))),(.val (.cmp .ne (.ae 15) (.cmp .isin (.ae 9) (.sub (.ae 4) (.ae 14)))))]) [.ret (.ai (.bl false))] []]],.expr (.me .reverse (.ae 13) [])],.ret (.cmp .eq (.call 18 [(.ae 1),(.ae 2),(.lst [])]) (.lst []))]
def QE:Fu:=aw (cz (Sr [])) 16 Ss
def gs:List (Str×Int):=[]
noncomputable def fs:List (Str×Nat):=[(("is_whole" : Str),1),(("is_below" : Str),2),(("is_sign" : Str),1),(("answer" : Str),4),(("waits" : Str),2),(("is_plain" : Str),2),(("machine_of" : Str),2),(("may_come" : Str),3),(("can" : Str),3),(("cause_of" : Str),2),(("less_letter" : Str),2),(("more_letter" : Str),2),(("outcome" : Str),3),(("steps" : Str),3),(("events_of" : Str),2),(("sent_between" : Str),2),(("letters_of" : Str),3),(("right_ahead" : Str),3),(("clocks" : Str),3),(("is_before" : Str),4),(("_law_well" : Str),2),(("_law_draw" : Str),2),(("_law_roads" : Str),2),(("_law_states" : Str),1),(("_law_sends" : Str),2),(("_law_moves" : Str),3),(("_law_form" : Str),1),(("_law_answer" : Str),4),(("_law_comes" : Str),2),(("_law_answered" : Str),3),(("_law_machine" : Str),2),(("_law_done" : Str),3),(("_law_load" : Str),2),(("_law_stand" : Str),2),(("_law_next" : Str),3),(("_law_deeds" : Str),4),(("_law_before" : Str),3),(("_law_reach" : Str),1),(("law" : Str),1)]
end gQ
end
section
namespace gQ
open L2 Ev
open PySem PySem.Spec PyProof.Rows
theorem QF:aY .ne (.d (.bl a)) (.d (.bl b)) M=.ok (!(a==b)) M:=by
 have p:∀a:Bool,iw M (.d (.bl a))=some (.bool a):=λa=>by show cW M 30 (.bl a)=_;unfold cW;rfl
 unfold aY;simp only[p];cases a<;>cases b<;>rfl
def mJ(f:Fm)(ds:List Dn):D->Option D
 | .int x=>some (.int (mA f ds x.toNat:Nat))
 | _=>none
theorem Du:∀h:List Int,(h.map D.int).filterMap (mJ f ds)=(h.map λx=>((mA f ds x.toNat:Nat):Int)).map D.int
 | []=>rfl
 | x::h=>by
  show D.int _::(h.map D.int).filterMap (mJ f ds)=_;rw[Du h];rfl
theorem GL{n:Nat}{is:List Int}{i:Int}(h:M[n]?=some (.lst (is.map D.int))):kN (.d (.ah n)) (.d (.int i)) M=.ok (.d (.int (is.count i:Nat))) M:=by
 unfold kN;simp only[show dr M (.d (.ah n))=some (is.map D.int) by unfold dr;simp only[h],Ev.ints_map]
theorem LU(hF:Co (G 26))(Px:rK (G 33))(hDe:rQ (G 35))(hLb:iK (G 36))(hRe:se (G 37))(Lo:j8 (G 30))(XC:rX (G 18))(hIb:wQ (G 19))(ns:List Int)(kG:ns.length<=63):aP (aw G 16 Ss [.ls (ns.map D.int)] []) λr _=>r=.d (.bl true):=by
 rw[bu];show dA G Ss [some (.ls (ns.map D.int)),none,none,none,none,none,none,none,none,none,none,none,none,none,none,none] [] _ _ _ _;nofun;refine(hF [] ns kG).imp ?_;rintro r M1 ⟨d,rfl,hd,f1⟩;obtain⟨f,rfl,hf⟩:=wk hd;have h4:=hf.l4;nofun;refine(Px M1 ns f kG hf).imp ?_;rintro r M2 ⟨s,rfl,hs,ht,f2⟩;nofun;refine(hDe M2 ns f s 40 kG hf hs (∅) (∅)).imp ?_;rintro r M3 ⟨nD,ds,rfl,hlD,XD,LV,hl40,f3⟩;have yz:ds.length<=60:=∅;have HK:=LJ LV;nofun;refine(hLb M3 f 4 s ds nD hf hs (∅) yz LV XD).imp ?_;rintro r M4 ⟨nA,as,rfl,uV,hvA,f4⟩;have hD4:=Ex.get f4 XD;nofun;refine(hRe M4 nA as (jD f s ds) ds.length hvA uV yz eQ (λi=>Gv)).imp ?_;rintro r M5 ⟨nB,bs,h,rfl,QB,hvB,hB,f5⟩;have Gy:=Ex.get f5 hD4;nofun;rw[dJ Gy];refine ig (ds:=ds.map cF) (λi M' acc=>acc=(ds.take i).map (mI f)/\M5=M') (by decide) (λi M' acc ⟨_,e⟩ _=>by subst e;exact lG Gy _ (Ex.refl _) _ (by assumption)) ⟨rfl,rfl⟩ ?_ ?_ (nU Gy)
 ·rintro i M' acc dd bP ⟨rfl,rfl⟩;rw[dG]at bP
  cases e:ds[i]? with
  | none=>rw[e]at bP;cases bP
  | some d =>
   rw[e]at bP;cases bP;refine⟨aG (by rw[aX,List.length_take];omega),?_⟩;nofun;refine(Lo _ f d hf (HK d (gU e))).imp ?_;rintro r M4 ⟨rfl,rfl⟩;exact⟨by rw[bo e,iN];rfl,rfl⟩
 rintro M' acc ⟨rfl,rfl⟩;rw[aX,List.take_length];nofun;have LW:(M5++[MO.lst (ds.map (mI f))])[M5.length]?=some (.lst (ds.map (mI f))):=ak;have Su:(M5++[MO.lst (ds.map (mI f))])[nD]?=some (.lst (ds.map cF)):=ay Gy;have GN:=hvB.ex (Fr.app (X:=[MO.lst (ds.map (mI f))]) (Ex.refl M5));generalize hnM:M5.length=nM at LW⊢;generalize M5++[MO.lst (ds.map (mI f))]=M6 at LW Su GN⊢;rw[df Su];nofun;refine⟨⟨∅,by rw[aX];omega⟩,?_⟩;have aR:(((ds.map cF).length:Nat):Int).toNat=ds.length:=by rw[Int.toNat_natCast,aX]
 rw[aR];refine Cc (n:=ds.length) (λi M' acc=>acc=gT f ds i/\M6=M') (by decide) ⟨rfl,rfl⟩ ?_ ?_
 ·rintro i M' acc hi ⟨rfl,rfl⟩;have ed:ds[i]?=some ds[i]:=dM hi;have zH:(ds.map (mI f))[i]?=some (.int (mc f ds[i])):=by rw[dG,ed];rfl
  refine⟨aG (by rw[iJ];omega),?_⟩;rw[show(0:Int)+(i:Int)=((i:Nat):Int) by omega];nofun;rw[a_ LW zH];nofun;rw[Dd LW (by rw[aX];omega)];nofun;refine⟨rfl,?_⟩;nofun;rw[a_ LW zH];nofun;rw[<- List.map_take,LI];nofun;refine⟨s2,?_⟩;exact⟨by rw[uL,HH ed],rfl⟩
 rintro M' acc ⟨rfl,rfl⟩;nofun;refine⟨s0,?_⟩;nofun;have l6:=aj LW;have XE:(M6++[MO.lst (gT f ds ds.length)]++[MO.lst []])[M6.length]?=some (.lst (gT f ds ds.length)):=ay ak;have VB:(M6++[MO.lst (gT f ds ds.length)]++[MO.lst []])[(M6++[MO.lst (gT f ds ds.length)]).length]?=some (.lst (uR f s ds 0)):=ak;have RF:(M6++[MO.lst (gT f ds ds.length)]++[MO.lst []])[nM]?=some (.lst (ds.map (mI f))):=ay (ay LW);have VC:(M6++[MO.lst (gT f ds ds.length)]++[MO.lst []])[nD]?=some (.lst (ds.map cF)):=ay (ay Su);have RQ:=GN.ex (Fr.app (X:=[MO.lst []]) (Fr.app (X:=[MO.lst (gT f ds ds.length)]) (Ex.refl M6)));have lU:(M6++[MO.lst (gT f ds ds.length)]).length=M6.length+1:=by rw[gV];rfl
 have hbU:∀b∈bs,b<M6.length:=λb hb=>by
  obtain⟨q,hq,e⟩:=List.mem_iff_getElem.mp hb;have:=aj (GN.av q _ (dM hq));omega
 have hnB:=aj GN.at';have hnD:=aj Su;rw[lU]at VB⊢;show d6 (jl .len [.d (.ah nD)] (M6++[MO.lst (gT f ds ds.length)]++[MO.lst []])) _;generalize M6++[MO.lst (gT f ds ds.length)]++[MO.lst []]=M7 at XE VB RF VC RQ⊢;rw[df VC];nofun;refine⟨⟨∅,by rw[aX];omega⟩,?_⟩;rw[aR];refine eE (n:=ds.length) (λi ρ M'=>∃o6 eF,ρ=[some (.ls (ns.map D.int)),some (.tup [.tup (f.ru.map pO),.tup (f.ro.map sj)]),some (cV s),some (.ah nD),some (.ah nB),some (.ah nM),o6,some (.ah M6.length),some (.ah (M6.length+1)),none,eF,none,none,none,none,none]/\M'[M6.length+1]?=some (.lst (uR f s ds i))/\M'[M6.length]?=some (.lst (gT f ds ds.length))/\M'[nM]?=some (.lst (ds.map (mI f)))/\M'[nD]?=some (.lst (ds.map cF))/\lO M' nB bs h) ⟨_,_,rfl,VB,XE,RF,VC,RQ⟩ ?_ ?_
 ·rintro i ρ M8 hi ⟨o6,eF,rfl,Sv,MI,Sw,VD,zP⟩;have ed:ds[i]?=some ds[i]:=dM hi;obtain⟨Rk,VE⟩:=hB i hi;obtain⟨b,eb,es,VF⟩:=zP.sub (r:=i) (∅)
  have hhl:(h i).length<=60:=by
   have:=gr (b:=jI (List.range ds.length)) Rk λx hx=>by
    obtain⟨j,rfl,r⟩:=(VE x).mp hx;exact wU.mpr (List.mem_range.mpr (by have:=r.lt eQ;omega))
   unfold jI at this;rw[aX,List.length_range]at this;omega
  rw[show(0:Int)+(i:Int)=((i:Nat):Int) by omega];nofun;rw[es];nofun;rw[dJ VF];refine jZ (ds:=(h i).map D.int) (mJ f ds) (by decide) (lG VF) (dB (by rw[aX];omega)) ?_ ?_ (nU VF)
  ·intro q M' dd bP fr;obtain⟨x,hx,rfl⟩:=gZ.mp (gU bP);obtain⟨j,rfl,r⟩:=(VE x).mp hx;have hj:j<ds.length:=by have:=r.lt eQ;omega
   have ej:ds[j]?=some ds[j]:=dM hj;have zH:(ds.map (mI f))[j]?=some (.int (mA f ds j:Nat)):=by rw[dG,ej,pU ej];rfl
   nofun;rw[a_ (Ex.get fr Sw) zH];exact⟨rfl,fr⟩
  intro M9 f9;rw[Du];have zH:(ds.map (mI f))[i]?=some (.int (mA f ds i:Nat)):=by rw[dG,ed,pU ed];rfl
  nofun;rw[a_ (Ex.get f9 Sw) zH];nofun;refine⟨s1,?_⟩;nofun;refine⟨dB (by rw[aX,aX];show _+1<=_;omega),?_⟩;nofun;have e10:(((h i).map λx=>((mA f ds x.toNat:Nat):Int)).map D.int)++[D.int (mA f ds i:Nat)]=(((h i).map λx=>((mA f ds x.toNat:Nat):Int))++[((mA f ds i:Nat):Int)]).map D.int:=by rw[iN];rfl
  rw[e10];have LX:(M9++[MO.lst ((((h i).map λx=>((mA f ds x.toNat:Nat):Int))++[((mA f ds i:Nat):Int)]).map D.int)])[M9.length]?=some (.lst ((((h i).map λx=>((mA f ds x.toNat:Nat):Int))++[((mA f ds i:Nat):Int)]).map D.int)):=ak;have zQ:Ex M8 (M9++[MO.lst ((((h i).map λx=>((mA f ds x.toNat:Nat):Int))++[((mA f ds i:Nat):Int)]).map D.int)]):=Fr.app f9;have l9:=f9.1;have lU8:=aj Sv;generalize M9++[MO.lst ((((h i).map λx=>((mA f ds x.toNat:Nat):Int))++[((mA f ds i:Nat):Int)]).map D.int)]=Sx at LX zQ⊢;have LY:=Ex.get zQ Sv;refine⟨aW LY,?_⟩;nofun;have hrl:((f.ru.map pO).length:Int).toNat=f.ru.length:=by rw[Int.toNat_natCast,aX]
  refine⟨⟨∅,by rw[aX];omega⟩,?_⟩;rw[hrl];refine Cc (n:=f.ru.length) (λm M' acc=>acc=d8 m (T f s ds i)/\Sx=M') (by decide) ⟨rfl,rfl⟩ ?_ ?_
  ·rintro m M' acc hm ⟨rfl,rfl⟩;refine⟨aG (by rw[fg];omega),?_⟩;rw[show(0:Int)+(m:Int)=((m:Nat):Int) by omega];nofun;refine⟨aW LX,?_⟩;nofun;rw[GL LX,LS hi Rk VE];exact⟨by unfold d8;rw[List.range_succ,iN];rfl,rfl⟩
  rintro M' acc ⟨rfl,rfl⟩;nofun;rw[bD LY (aG (by rw[rW];omega))];refine⟨_,_,rfl,by rw[aF LY,uS];rfl,ao (Ex.get zQ MI) (∅),ao (Ex.get zQ Sw) (∅),ao (Ex.get zQ VD) (∅),?_⟩;have GO:=zP.ex zQ;exact⟨ao GO.at' (∅),GO.nd,GO.na,λr b e=>ao (GO.av r b e) (by have:=hbU b (gU e);omega)⟩
 ·rintro ρ M8 ⟨o6,eF,rfl,Sv,MI,Sw,VD,zP⟩;obtain⟨ex,hex,QG⟩:=Cr (QD hf (s:=s) yz) (by rw[rW];omega) (by decide) (by decide);nofun;refine⟨by decide,?_⟩;refine eE (n:=2) (λi ρ M'=>∃o9 eT jC VG Dv Dw,ρ=[some (.ls (ns.map D.int)),some (dk f),some (cV s),some (.ah nD),some (.ah nB),some (.ah nM),o6,some (.ah M6.length),some (.ah (M6.length+1)),o9,eF,eT,jC,VG,Dv,Dw]/\M'[M6.length+1]?=some (.lst (uR f s ds ds.length))/\M'[M6.length]?=some (.lst (gT f ds ds.length))/\M'[nD]?=some (.lst (ds.map cF))/\lO M' nB bs h) ⟨_,_,_,_,_,_,rfl,Sv,MI,VD,zP⟩ ?_ ?_
  ·rintro t ρ M9 htt ⟨o9,eT,jC,VG,Dv,Dw,rfl,VH,VI,Sy,Sz⟩;nofun;rw[uj Sy];nofun;have GP:(M9++[MO.lst (ds.map cF)])[M9.length]?=some (.lst (ds.map cF)):=ak;have zQ:Ex M9 (M9++[MO.lst (ds.map cF)]):=Fr.app (Ex.refl M9);have lU9:=aj VH;generalize hnH:M9.length=nH at GP⊢;generalize M9++[MO.lst (ds.map cF)]=Sx at GP zQ⊢;refine(XC Sx f 4 s ds nH hf hs (∅) yz LV GP).imp ?_;rintro r HN ⟨nf,rfl,hlf,Dx,RU⟩;have GQ:=Ex.trans zQ RU;have VJ:=Ex.get RU GP;have LZ:=Ex.get GQ VH;have QH:=Ex.get GQ VI;have GR:=Ex.get GQ Sy;have Dy:=Sz.ex GQ;have V2:=zQ.1;nofun;rw[is_list Dx];nofun;rw[QG HN nf Dx];nofun;rw[QG HN (M6.length+1) LZ];nofun;rw[xW hex hex,beq_self_eq_true];nofun;rw[(C_ (Dc VJ) (Dc GR) (CS λd hd=>(HK d hd).s)).1];nofun;rw[df GR];nofun;refine⟨⟨∅,by rw[aX];omega⟩,?_⟩;rw[aR];refine eE (n:=ds.length) (λi ρ M'=>∃o9 Dv Dw,ρ=[some (.ls (ns.map D.int)),some (dk f),some (cV s),some (.ah nD),some (.ah nB),some (.ah nM),o6,some (.ah M6.length),some (.ah (M6.length+1)),o9,eF,some (.int (0+t)),some (.ah nH),some (.ah nf),Dv,Dw]/\HN=M') ⟨_,_,_,rfl,rfl⟩ ?_ ?_
   ·rintro one ρ VL h1 ⟨o9,Dv,Dw,rfl,rfl⟩;rw[show(0:Int)+(one:Int)=((one:Nat):Int) by omega];nofun;rw[df GR];nofun;refine⟨⟨∅,by rw[aX];omega⟩,?_⟩;rw[aR];refine eE (n:=ds.length) (λi ρ M'=>∃Dv Dw,ρ=[some (.ls (ns.map D.int)),some (dk f),some (cV s),some (.ah nD),some (.ah nB),some (.ah nM),o6,some (.ah M6.length),some (.ah (M6.length+1)),some (.int one),eF,some (.int (0+t)),some (.ah nH),some (.ah nf),Dv,Dw]/\HN=M') ⟨_,_,rfl,rfl⟩ ?_ ?_
    ·rintro cj ρ VL h2 ⟨Dv,Dw,rfl,rfl⟩;rw[show(0:Int)+(cj:Int)=((cj:Nat):Int) by omega];obtain⟨b,eb,es,hb⟩:=Dy.sub (r:=cj) (∅)
     obtain⟨nC,hC,Jg⟩:∃nC,HN[nC]?=some (.lst (uR f s ds ds.length))/\cU (.lv [.ah nf,.ah (M6.length+1)]) (.d (.int (0+(t:Nat)))) HN=.ok (.d (.ah nC)) HN:=by
      rcases Nat.lt_or_ge t 1 with z | z
      ·have:t=0:=∅;subst this;exact⟨nf,Dx,kZ (by decide) rfl⟩
      ·have:t=1:=∅;subst this;exact⟨M6.length+1,LZ,kZ (by decide) rfl⟩
     nofun;refine⟨s2,?_⟩;nofun;rw[Jg];nofun;refine(hIb HN f s ds M6.length nC one cj hf HK h1 h2 QH hC).imp ?_;rintro r M13 ⟨rfl,rfl⟩;rw[GJ h1 h2 (hB cj h2).2];nofun;rw[es];nofun;rw[K3 (ks:=h cj) hb];nofun;rw[QF,beq_self_eq_true];exact⟨_,_,rfl,rfl⟩
    ·rintro ρ VL ⟨Dv,Dw,rfl,rfl⟩;exact⟨_,_,_,rfl,rfl⟩
   ·rintro ρ VL ⟨o9,Dv,Dw,rfl,rfl⟩;nofun;refine⟨aW Dx,?_⟩;nofun;rw[zy Dx];have lB9:=aj Sz.at';have lD9:=aj Sy;have lE9:=aj VI;exact⟨_,_,_,_,_,_,rfl,ao LZ (∅),ao QH (∅),ao GR (∅),ao Dy.at' (∅),Dy.nd,Dy.na,λr b e=>ao (Dy.av r b e) (by have:=aj (Sz.av r b e);omega)⟩
  ·rintro ρ M9 ⟨o9,eT,jC,VG,Dv,Dw,rfl,VH,VI,Sy,Sz⟩;nofun;refine⟨s0,?_⟩;nofun;refine(XC (M9++[MO.lst []]) f 4 s [] M9.length hf hs (by decide) (by decide) trivial ak).imp ?_;rintro r Sx ⟨n',rfl,Q5,VM,zQ⟩;nofun;refine⟨s0,?_⟩;nofun;rw[GK VM]
theorem Dz:∀ns:List Int,ns.length<=63->∃M,QE [.ls (ns.map D.int)] []=.ok (.d (.bl true)) M:=by
 intro ns kG;have h0:∀l,rG (cz (c1 l) 0):=λl=>La;have h1:∀l,wq (cz (c2 l) 1):=λl=>Lc (h0 _);have h2:∀l,CJ (cz (c3 l) 2):=λl=>PR;have h3:∀l,j4 (cz (c4 l) 3):=λl=>F2;have h4:∀l,oh (cz (c5 l) 4):=λl=>Le;have h5:∀l,wt (cz (c6 l) 5):=λl=>Ld (h1 _) (h2 _) (h0 _);have h6:∀l,j8 (cz (c7 l) 6):=λl=>PQ;have h7:∀l,Lf (cz (c8 l) 7):=λl=>U_ (h4 _);have h8:∀l,Li (cz (c9 l) 8):=λl=>Va (h5 _) (h3 _) (h7 _);have h9:∀l,wu (cz (RS l) 9):=λl=>Lk (h4 _);have VM:∀l,CO (cz (RT l) 10):=λl=>PZ;have h11:∀l,yg (cz (RV l) 11):=λl=>P0;have h12:∀l,lH (cz (RX l) 12):=λl=>P6 (h6 _) (h3 _) (h9 _) (VM _) (h11 _);have h13:∀l,wH (cz (RY l) 13):=λl=>Ly (h8 _) (h12 _);have XF:∀l,mC (cz (RZ l) 14):=λl=>Gr (h6 _);have NJ:∀l,rT (cz (R0 l) 15):=λl=>LC;have h16:∀l,oA (cz (R1 l) 16):=λl=>C8 (h4 _) (h13 _) (NJ _);have h17:∀l,iK (cz (R3 l) 17):=λl=>Gx (h16 _) (XF _);have h18:∀l,rX (cz (R4 l) 18):=λl=>GC (h17 _) (XF _);have h19:∀l,wQ (cz (R5 l) 19):=λl=>LP;have VN:∀l,pL (cz (R6 l) 20):=λl=>Pk;have GS:∀l,eO (cz (R7 l) 21):=λl=>KS;have h22:∀l,vW (cz (R8 l) 22):=λl=>KU (GS _);have h23:∀l,mj (cz (R9 l) 23):=λl=>FX (GS _);have h24:∀l,vY (cz (R_ l) 24):=λl=>KY (GS _);have h25:∀l,rl (cz (Sa l) 25):=λl=>KZ (GS _) (h24 _);have h26:∀l,Co (cz (Sb l) 26):=λl=>Py (VN _) (GS _) (h22 _) (h23 _) (h25 _);have h27:∀l,mq (cz (Se l) 27):=λl=>F5;have U7:∀l,mw (cz (Sf l) 28):=λl=>Gb;have VO:∀l,lb (cz (Sg l) 29):=λl=>Lq (h27 _) (U7 _);have VP:∀l,j8 (cz (Sh l) 30):=λl=>K_;have XG:∀l,lH (cz (Si l) 31):=λl=>Lv (VO _) (VP _);have h32:∀l,wA (cz (Sj l) 32):=λl=>Lr (GS _);have h33:∀l,rK (cz (Sk l) 33):=λl=>Gg (VN _) (GS _) (h32 _);have h34:∀l,wD (cz (Sl l) 34):=λl=>Lx (U7 _) (VO _) (GS _);have h35:∀l,rQ (cz (Sn l) 35):=λl=>Gj (VN _) (GS _) (h34 _) (XG _);have h36:∀l,iK (cz (So l) 36):=λl=>Dr (VP _) (VO _) (XG _);have h37:∀l,se (cz (Sr l) 37):=λl=>GI;obtain⟨r,M,e,q⟩:=B2 (LU (G:=cz (Sr [])) (h26 _) (h33 _) (h35 _) (h36 _) (h37 _) (VP _) (h18 _) (h19 _) ns kG);subst q;exact⟨M,e⟩
end gQ
end
section
namespace gQ
open L2 Ev PySem PySem.Spec PyProof.Rows
noncomputable def cO(i:Nat):Stmt:=PySem.Challenge.pw_cutstand_k11_clocks.main.body.getD i (.Pass ⟨0,0,0,0⟩)
abbrev s0:=cO 4
abbrev s1:=cO 5
abbrev s2:=cO 6
abbrev s3:=cO 8
abbrev s4:=cO 10
abbrev s5:=cO 12
abbrev s6:=cO 13
abbrev s7:=cO 15
abbrev s8:=cO 14
abbrev s9:=cO 17
abbrev Q0:=cO 18
abbrev TX:=cO 19
abbrev XH:=cO 16
abbrev XI:=cO 20
abbrev XJ:=cO 22
abbrev XM:=cO 24
abbrev XN:=cO 23
abbrev XO:=cO 25
abbrev XQ:=cO 27
abbrev XR:=cO 28
abbrev XS:=cO 30
abbrev XT:=cO 31
abbrev XU:=cO 32
abbrev XW:=cO 33
abbrev XX:=cO 34
abbrev XY:=cO 35
abbrev XZ:=cO 36
abbrev X0:=cO 37
abbrev X1:=cO 38
abbrev X2:=cO 39
abbrev X3:=cO 40
abbrev X4:=cO 41
abbrev X5:=cO 42
abbrev X6:=cO 43
abbrev X7:=cO 44
abbrev X8:=cO 45
abbrev X9:=cO 46
abbrev X_:=cO 47
abbrev VQ:=cO 48
abbrev m0:Value:=(.str "cutstand.kinds" 232)
abbrev m1:Value:=(.str "cutstand.forms" 256)
abbrev m2:Value:=(.str "cutstand.stands" 269)
abbrev m3:Value:=(.str "cutstand.plain" 279)
abbrev m4:Value:=(.str "cutstand.pasts" 364)
abbrev m5:Value:=(.str "cutstand.clocks" 407)
abbrev m6:Value:=(.str "law_cutstand_k11_clocks" 426)
noncomputable def en(P:Params)(k:Str)(t:Nat)(v:Value):DictEntry:=⟨PyData.keyHash P k,.str k t,v⟩
noncomputable def co(a:Array Value):Obj:=⟨.type "code",none,.fields a,#[]⟩
def cp(n:Nat):Value:=.str "/claim/cut.py" n
def iv(n:Nat):Value:=.int n 0
def Kf(P:Params):PySem.W.Frag:=[(3,⟨(.type "dict"),none,.dict #[en P "__name__" 165 (.str "law_cutstand_k11_clocks" 426),en P "__doc__" 166 .none,en P "__package__" 167 .none,en P "__loader__" 168 (.builtin "__main__.__loader__#opaque"),en P "__spec__" 169 .none,en P "__annotations__" 170 (.ref 6),en P "__builtins__" 171 (.ref 4),en P "__file__" 173 (cp 172),en P "__cached__" 174 .none,en P "CutError" 206 (.ref 24),en P "NoDeed" 231 (.ref 44),en P "is_whole" 240 (.ref 53),en P "is_below" 248 (.ref 60),en P "is_sign" 255 (.ref 67),en P "answer" 268 (.ref 74),en P "waits" 278 (.ref 81),en P "is_plain" 288 (.ref 88),en P "machine_of" 296 (.ref 95),en P "can" 305 (.ref 102),en P "may_come" 311 (.ref 107),en P "outcome" 327 (.ref 114),en P "cause_of" 335 (.ref 121),en P "less_letter" 341 (.ref 126),en P "more_letter" 349 (.ref 133),en P "steps" 363 (.ref 140),en P "events_of" 371 (.ref 145),en P "letters_of" 389 (.ref 152),en P "sent_between" 400 (.ref 159),en P "right_ahead" 406 (.ref 164),en P "clocks" 414 (.ref 169),en P "is_before" 425 (.ref 176),en P "_law_well" 436 (.ref 183),en P "_law_draw" 448 (.ref 190),en P "_law_roads" 461 (.ref 197),en P "_law_states" 472 (.ref 204),en P "_law_sends" 483 (.ref 211),en P "_law_moves" 500 (.ref 218),en P "_law_form" 506 (.ref 223),en P "_law_answer" 512 (.ref 228),en P "_law_comes" 518 (.ref 233),en P "_law_answered" 531 (.ref 240),en P "_law_machine" 539 (.ref 247),en P "_law_done" 545 (.ref 252),en P "_law_load" 558 (.ref 259),en P "_law_stand" 564 (.ref 264),en P "_law_next" 570 (.ref 269),en P "_law_deeds" 585 (.ref 276),en P "_law_before" 591 (.ref 281),en P "_law_reach" 603 (.ref 288),en P "law" 609 (.ref 293)] 50,#[]⟩),(52,co #[(.str "is_whole" 234),(.str "is_whole" 235),(cp 236),(iv 9),(iv 1),(iv 0),(iv 0),(iv 3),(.ref 47),(.bool true),(iv 181),(.ref 48),.none,(.ref 49),(.ref 50),(.ref 51),(iv 238),(iv 9),(cp 239)]),(53,fo (fq "is_whole" s0 m0 (.ref 52))),(59,co #[(.str "is_below" 241),(.str "is_below" 242),(cp 243),(iv 11),(iv 2),(iv 0),(iv 0),(iv 3),(.ref 54),(.bool true),(iv 181),(.ref 55),.none,(.ref 56),(.ref 57),(.ref 58),(iv 246),(iv 11),(cp 247)]),(60,fo (fq "is_below" s1 m0 (.ref 59))),(66,co #[(.str "is_sign" 249),(.str "is_sign" 250),(cp 251),(iv 13),(iv 1),(iv 0),(iv 0),(iv 3),(.ref 61),(.bool true),(iv 181),(.ref 62),.none,(.ref 63),(.ref 64),(.ref 65),(iv 253),(iv 13),(cp 254)]),(67,fo (fq "is_sign" s2 m0 (.ref 66))),(73,co #[(.str "answer" 258),(.str "answer" 259),(cp 260),(iv 16),(iv 4),(iv 0),(iv 0),(iv 3),(.ref 68),(.bool true),(iv 181),(.ref 69),.none,(.ref 70),(.ref 71),(.ref 72),(iv 266),(iv 16),(cp 267)]),(74,fo (fq "answer" s3 m1 (.ref 73))),(80,co #[(.str "waits" 271),(.str "waits" 272),(cp 273),(iv 24),(iv 2),(iv 0),(iv 0),(iv 3),(.ref 75),(.bool true),(iv 181),(.ref 76),.none,(.ref 77),(.ref 78),(.ref 79),(iv 276),(iv 24),(cp 277)]),(81,fo (fq "waits" s4 m2 (.ref 80))),(87,co #[(.str "is_plain" 281),(.str "is_plain" 282),(cp 283),(iv 27),(iv 2),(iv 0),(iv 0),(iv 3),(.ref 82),(.bool true),(iv 181),(.ref 83),.none,(.ref 84),(.ref 85),(.ref 86),(iv 286),(iv 27),(cp 287)]),(88,fo (fq "is_plain" s5 m3 (.ref 87))),(94,co #[(.str "machine_of" 289),(.str "machine_of" 290),(cp 291),(iv 35),(iv 2),(iv 0),(iv 0),(iv 3),(.ref 89),(.bool true),(iv 181),(.ref 90),.none,(.ref 91),(.ref 92),(.ref 93),(iv 294),(iv 35),(cp 295)]),(95,fo (fq "machine_of" s6 m3 (.ref 94))),(101,co #[(.str "can" 297),(.str "can" 298),(cp 299),(iv 39),(iv 3),(iv 0),(iv 0),(iv 3),(.ref 96),(.bool true),(iv 181),(.ref 97),.none,(.ref 98),(.ref 99),(.ref 100),(iv 303),(iv 39),(cp 304)]),(102,fo (fq "can" s8 m3 (.ref 101))),(106,co #[(.str "may_come" 306),(.str "may_come" 307),(cp 308),(iv 47),(iv 3),(iv 0),(iv 0),(iv 3),(.ref 103),(.bool true),(iv 181),(.ref 104),.none,.none,.none,(.ref 105),(iv 309),(iv 47),(cp 310)]),(107,fo (fq "may_come" s7 m3 (.ref 106))),(113,co #[(.str "outcome" 312),(.str "outcome" 313),(cp 314),(iv 52),(iv 3),(iv 0),(iv 0),(iv 3),(.ref 108),(.bool true),(iv 181),(.ref 109),.none,(.ref 110),(.ref 111),(.ref 112),(iv 325),(iv 52),(cp 326)]),(114,fo (fq "outcome" XH m3 (.ref 113))),(120,co #[(.str "cause_of" 328),(.str "cause_of" 329),(cp 330),(iv 66),(iv 2),(iv 0),(iv 0),(iv 3),(.ref 115),(.bool true),(iv 181),(.ref 116),.none,(.ref 117),(.ref 118),(.ref 119),(iv 333),(iv 66),(cp 334)]),(121,fo (fq "cause_of" s9 m3 (.ref 120))),(125,co #[(.str "less_letter" 336),(.str "less_letter" 337),(cp 338),(iv 72),(iv 2),(iv 0),(iv 0),(iv 3),(.ref 122),(.bool true),(iv 181),(.ref 123),.none,.none,.none,(.ref 124),(iv 339),(iv 72),(cp 340)]),(126,fo (fq "less_letter" Q0 m3 (.ref 125))),(132,co #[(.str "more_letter" 342),(.str "more_letter" 343),(cp 344),(iv 74),(iv 2),(iv 0),(iv 0),(iv 3),(.ref 127),(.bool true),(iv 181),(.ref 128),.none,(.ref 129),(.ref 130),(.ref 131),(iv 347),(iv 74),(cp 348)]),(133,fo (fq "more_letter" TX m3 (.ref 132))),(139,co #[(.str "steps" 350),(.str "steps" 351),(cp 352),(iv 76),(iv 3),(iv 0),(iv 0),(iv 3),(.ref 134),(.bool true),(iv 181),(.ref 135),.none,(.ref 136),(.ref 137),(.ref 138),(iv 361),(iv 76),(cp 362)]),(140,fo (fq "steps" XI m3 (.ref 139))),(144,co #[(.str "events_of" 366),(.str "events_of" 367),(cp 368),(iv 87),(iv 2),(iv 0),(iv 0),(iv 3),(.ref 141),(.bool true),(iv 181),(.ref 142),.none,.none,.none,(.ref 143),(iv 369),(iv 87),(cp 370)]),(145,fo (fq "events_of" XJ m4 (.ref 144))),(151,co #[(.str "letters_of" 372),(.str "letters_of" 373),(cp 374),(iv 95),(iv 3),(iv 0),(iv 0),(iv 3),(.ref 146),(.bool true),(iv 181),(.ref 147),.none,(.ref 148),(.ref 149),(.ref 150),(iv 387),(iv 95),(cp 388)]),(152,fo (fq "letters_of" XN m4 (.ref 151))),(158,co #[(.str "sent_between" 390),(.str "sent_between" 391),(cp 392),(iv 110),(iv 2),(iv 0),(iv 0),(iv 3),(.ref 153),(.bool true),(iv 181),(.ref 154),.none,(.ref 155),(.ref 156),(.ref 157),(iv 398),(iv 110),(cp 399)]),(159,fo (fq "sent_between" XM m4 (.ref 158))),(163,co #[(.str "right_ahead" 401),(.str "right_ahead" 402),(cp 403),(iv 116),(iv 3),(iv 0),(iv 0),(iv 3),(.ref 160),(.bool true),(iv 181),(.ref 161),.none,.none,.none,(.ref 162),(iv 404),(iv 116),(cp 405)]),(164,fo (fq "right_ahead" XO m4 (.ref 163))),(168,co #[(.str "clocks" 409),(.str "clocks" 410),(cp 411),(iv 129),(iv 3),(iv 0),(iv 0),(iv 3),(.ref 165),(.bool true),(iv 181),(.ref 166),.none,.none,.none,(.ref 167),(iv 412),(iv 129),(cp 413)]),(169,fo (fq "clocks" XQ m5 (.ref 168))),(175,co #[(.str "is_before" 415),(.str "is_before" 416),(cp 417),(iv 139),(iv 4),(iv 0),(iv 0),(iv 3),(.ref 170),(.bool true),(iv 181),(.ref 171),.none,(.ref 172),(.ref 173),(.ref 174),(iv 423),(iv 139),(cp 424)]),(176,fo (fq "is_before" XR m5 (.ref 175))),(182,co #[(.str "_law_well" 428),(.str "_law_well" 429),(cp 430),(iv 143),(iv 2),(iv 0),(iv 0),(iv 3),(.ref 177),(.bool true),(iv 181),(.ref 178),.none,(.ref 179),(.ref 180),(.ref 181),(iv 434),(iv 143),(cp 435)]),(183,fo (fq "_law_well" XS m6 (.ref 182))),(189,co #[(.str "_law_draw" 437),(.str "_law_draw" 438),(cp 439),(iv 148),(iv 2),(iv 0),(iv 0),(iv 3),(.ref 184),(.bool true),(iv 181),(.ref 185),.none,(.ref 186),(.ref 187),(.ref 188),(iv 446),(iv 148),(cp 447)]),(190,fo (fq "_law_draw" XT m6 (.ref 189))),(196,co #[(.str "_law_roads" 449),(.str "_law_roads" 450),(cp 451),(iv 158),(iv 2),(iv 0),(iv 0),(iv 3),(.ref 191),(.bool true),(iv 181),(.ref 192),.none,(.ref 193),(.ref 194),(.ref 195),(iv 459),(iv 158),(cp 460)]),(197,fo (fq "_law_roads" XU m6 (.ref 196))),(203,co #[(.str "_law_states" 462),(.str "_law_states" 463),(cp 464),(iv 167),(iv 1),(iv 0),(iv 0),(iv 3),(.ref 198),(.bool true),(iv 181),(.ref 199),.none,(.ref 200),(.ref 201),(.ref 202),(iv 470),(iv 167),(cp 471)]),(204,fo (fq "_law_states" XW m6 (.ref 203))),(210,co #[(.str "_law_sends" 473),(.str "_law_sends" 474),(cp 475),(iv 175),(iv 2),(iv 0),(iv 0),(iv 3),(.ref 205),(.bool true),(iv 181),(.ref 206),.none,(.ref 207),(.ref 208),(.ref 209),(iv 481),(iv 175),(cp 482)]),(211,fo (fq "_law_sends" XX m6 (.ref 210))),(217,co #[(.str "_law_moves" 484),(.str "_law_moves" 485),(cp 486),(iv 181),(iv 3),(iv 0),(iv 0),(iv 3),(.ref 212),(.bool true),(iv 181),(.ref 213),.none,(.ref 214),(.ref 215),(.ref 216),(iv 498),(iv 181),(cp 499)]),(218,fo (fq "_law_moves" XY m6 (.ref 217))),(222,co #[(.str "_law_form" 501),(.str "_law_form" 502),(cp 503),(iv 193),(iv 1),(iv 0),(iv 0),(iv 3),(.ref 219),(.bool true),(iv 181),(.ref 220),.none,.none,.none,(.ref 221),(iv 504),(iv 193),(cp 505)]),(223,fo (fq "_law_form" XZ m6 (.ref 222))),(227,co #[(.str "_law_answer" 507),(.str "_law_answer" 508),(cp 509),(iv 205),(iv 4),(iv 0),(iv 0),(iv 3),(.ref 224),(.bool true),(iv 181),(.ref 225),.none,.none,.none,(.ref 226),(iv 510),(iv 205),(cp 511)]),(228,fo (fq "_law_answer" X0 m6 (.ref 227))),(232,co #[(.str "_law_comes" 513),(.str "_law_comes" 514),(cp 515),(iv 210),(iv 2),(iv 0),(iv 0),(iv 3),(.ref 229),(.bool true),(iv 181),(.ref 230),.none,.none,.none,(.ref 231),(iv 516),(iv 210),(cp 517)]),(233,fo (fq "_law_comes" X1 m6 (.ref 232))),(239,co #[(.str "_law_answered" 519),(.str "_law_answered" 520),(cp 521),(iv 218),(iv 3),(iv 0),(iv 0),(iv 3),(.ref 234),(.bool true),(iv 181),(.ref 235),.none,(.ref 236),(.ref 237),(.ref 238),(iv 529),(iv 218),(cp 530)]),(240,fo (fq "_law_answered" X2 m6 (.ref 239))),(246,co #[(.str "_law_machine" 532),(.str "_law_machine" 533),(cp 534),(iv 227),(iv 2),(iv 0),(iv 0),(iv 3),(.ref 241),(.bool true),(iv 181),(.ref 242),.none,(.ref 243),(.ref 244),(.ref 245),(iv 537),(iv 227),(cp 538)]),(247,fo (fq "_law_machine" X3 m6 (.ref 246))),(251,co #[(.str "_law_done" 540),(.str "_law_done" 541),(cp 542),(iv 229),(iv 3),(iv 0),(iv 0),(iv 3),(.ref 248),(.bool true),(iv 181),(.ref 249),.none,.none,.none,(.ref 250),(iv 543),(iv 229),(cp 544)]),(252,fo (fq "_law_done" X4 m6 (.ref 251))),(258,co #[(.str "_law_load" 546),(.str "_law_load" 547),(cp 548),(iv 243),(iv 2),(iv 0),(iv 0),(iv 3),(.ref 253),(.bool true),(iv 181),(.ref 254),.none,(.ref 255),(.ref 256),(.ref 257),(iv 556),(iv 243),(cp 557)]),(259,fo (fq "_law_load" X5 m6 (.ref 258))),(263,co #[(.str "_law_stand" 559),(.str "_law_stand" 560),(cp 561),(iv 253),(iv 2),(iv 0),(iv 0),(iv 3),(.ref 260),(.bool true),(iv 181),(.ref 261),.none,.none,.none,(.ref 262),(iv 562),(iv 253),(cp 563)]),(264,fo (fq "_law_stand" X6 m6 (.ref 263))),(268,co #[(.str "_law_next" 565),(.str "_law_next" 566),(cp 567),(iv 262),(iv 3),(iv 0),(iv 0),(iv 3),(.ref 265),(.bool true),(iv 181),(.ref 266),.none,.none,.none,(.ref 267),(iv 568),(iv 262),(cp 569)]),(269,fo (fq "_law_next" X7 m6 (.ref 268))),(275,co #[(.str "_law_deeds" 571),(.str "_law_deeds" 572),(cp 573),(iv 274),(iv 4),(iv 0),(iv 0),(iv 3),(.ref 270),(.bool true),(iv 181),(.ref 271),.none,(.ref 272),(.ref 273),(.ref 274),(iv 583),(iv 274),(cp 584)]),(276,fo (fq "_law_deeds" X8 m6 (.ref 275))),(280,co #[(.str "_law_before" 586),(.str "_law_before" 587),(cp 588),(iv 283),(iv 3),(iv 0),(iv 0),(iv 3),(.ref 277),(.bool true),(iv 181),(.ref 278),.none,.none,.none,(.ref 279),(iv 589),(iv 283),(cp 590)]),(281,fo (fq "_law_before" X9 m6 (.ref 280))),(287,co #[(.str "_law_reach" 592),(.str "_law_reach" 593),(cp 594),(iv 301),(iv 1),(iv 0),(iv 0),(iv 3),(.ref 282),(.bool true),(iv 181),(.ref 283),.none,(.ref 284),(.ref 285),(.ref 286),(iv 601),(iv 301),(cp 602)]),(288,fo (fq "_law_reach" X_ m6 (.ref 287))),(292,co #[(.str "law" 604),(.str "law" 605),(cp 606),(iv 313),(iv 1),(iv 0),(iv 0),(iv 3),(.ref 289),(.bool true),(iv 181),(.ref 290),.none,.none,.none,(.ref 291),(iv 607),(iv 313),(cp 608)]),(293,fo (fq "law" VQ m6 (.ref 292)))]
noncomputable def ads:List Addr:=[3,52,53,59,60,66,67,73,74,80,81,87,88,94,95,101,102,106,107,113,114,120,121,125,126,132,133,139,140,144,145,151,152,158,159,163,164,168,169,175,176,182,183,189,190,196,197,203,204,210,211,217,218,222,223,227,228,232,233,239,240,246,247,251,252,258,259,263,264,268,269,275,276,280,281,287,288,292,293]
theorem nob{P:Params}{h:Heap}{mg:Str->Option Value}(X:(Kf P).In h)(G:h.Ns mainGlobals mg):∀b∈cT,mg b=none:=by
 have z:cT.all (λb=>match PySem.W.nsIn (Kf P) mainGlobals b with | some none=>true | _=>false)=true:=nofun;intro b hb;have q:=List.all_eq_true.mp z b hb;split at q
 ·rename_i e;exact PySem.W.mg_none_of X G e
 ·cases q
abbrev AL(l:PySem.W.OpenLaw)(w:World)(mg:Str->Option Value)(base:Heap)(i:Nat):=All l.prog w (Kf w.params) mg base i (fs.take i)
theorem all_mk {l : PySem.W.OpenLaw} {w : World} {h : Heap} {mg : Str -> Option Value} {fa : Addr} (X : (Kf w.params).In h) (G : h.Ns mainGlobals mg) (hfa : mg "law" = some (.ref fa))
    : ∃fd:FuncData,(∀(s:Shared)(v:Value),BindsTo s fd ⟨[v],[]⟩ [("_law_script",v)])/\∀base:Heap,(Kf w.params).In base->base.Ns mainGlobals mg->hV l.prog w (Kf w.params) mg base yZ 39 fa fd ["_law_script"] (Fb (Kf w.params) 1 QE):=by
  have W:Cw (Kf w.params) h mg gs:=⟨X,G,nob X G,Kb X G (nofun)⟩;cases hfa.symm.trans (PySem.W.mg_of X G (show PySem.W.nsIn (Kf w.params) mainGlobals "law" = some (some (.ref 293)) by kernel_rfl));refine⟨fq "law" VQ m6 (.ref 292),λs v=>.of_eq rfl,λbase _ _=>?_⟩;have A0:AL l w mg base 0 []:=All.nil;have A1:AL l w mg base 1 (c1 []):=nx "is_whole" 53 s0 n0 ["thing"] b0 m0 (.ref 52) W A0 (nofun) (nofun) (nofun) (nofun) (⋯) λ_=>rfl;have A2:AL l w mg base 2 (c2 []):=nx "is_below" 60 s1 n1 ["thing","bound"] b1 m0 (.ref 59) W A1 (nofun) (nofun) (nofun) (nofun) (⋯) λ_ _=>rfl;have A3:AL l w mg base 3 (c3 []):=nx "is_sign" 67 s2 n2 ["thing"] b2 m0 (.ref 66) W A2 (nofun) (nofun) (nofun) (nofun) (⋯) λ_=>rfl;have A4:AL l w mg base 4 (c4 []):=nx "answer" 74 s3 n3 ["form","m","state","cause"] b3 m1 (.ref 73) W A3 (nofun) (nofun) (nofun) (nofun) (⋯) λ_ _ _ _=>rfl;have A5:AL l w mg base 5 (c5 []):=nx "waits" 81 s4 n4 ["stand","road"] b4 m2 (.ref 80) W A4 (nofun) (nofun) (nofun) (nofun) (⋯) λ_ _=>rfl;have A6:AL l w mg base 6 (c6 []):=nx "is_plain" 88 s5 n5 ["form","thing"] b5 m3 (.ref 87) W A5 (nofun) (nofun) (nofun) (nofun) (⋯) λ_ _=>rfl;have A7:AL l w mg base 7 (c7 []):=nx "machine_of" 95 s6 n6 ["form","deed"] b6 m3 (.ref 94) W A6 (nofun) (nofun) (nofun) (nofun) (⋯) λ_ _=>rfl;have A8:AL l w mg base 8 (c8 []):=nx "may_come" 107 s7 n7 ["form","stand","road"] b7 m3 (.ref 106) W A7 (nofun) (nofun) (nofun) (nofun) (⋯) λ_ _ _=>rfl;have A9:AL l w mg base 9 (c9 []):=nx "can" 102 s8 n8 ["form","stand","thing"] b8 m3 (.ref 101) W A8 (nofun) (nofun) (nofun) (nofun) (⋯) λ_ _ _=>rfl;have A10:AL l w mg base 10 (RS []):=nx "cause_of" 121 s9 n9 ["stand","deed"] b9 m3 (.ref 120) W A9 (nofun) (nofun) (nofun) (nofun) (⋯) λ_ _=>rfl;have A11:AL l w mg base 11 (RT []):=nx "less_letter" 126 Q0 n10 ["letters","k"] W_ m3 (.ref 125) W A10 (nofun) (nofun) (nofun) (nofun) (⋯) λ_ _=>rfl;have A12:AL l w mg base 12 (RV []):=nx "more_letter" 133 TX n11 ["letters","sign"] Xa m3 (.ref 132) W A11 (nofun) (nofun) (nofun) (nofun) (⋯) λ_ _=>rfl;have A13:AL l w mg base 13 (RX []):=nx "outcome" 114 XH n12 ["form","stand","deed"] Xb m3 (.ref 113) W A12 (nofun) (nofun) (nofun) (nofun) (⋯) λ_ _ _=>rfl;have A14:AL l w mg base 14 (RY []):=nx "steps" 140 XI n13 ["form","stand","deeds"] Xc m3 (.ref 139) W A13 (nofun) (nofun) (nofun) (nofun) (⋯) λ_ _ _=>rfl;have A15:AL l w mg base 15 (RZ []):=nx "events_of" 145 XJ n14 ["form","deeds"] Xd m4 (.ref 144) W A14 (nofun) (nofun) (nofun) (nofun) (⋯) λ_ _=>rfl;have A16:AL l w mg base 16 (R0 []):=nx "sent_between" 159 XM n15 ["ahead","behind"] Xe m4 (.ref 158) W A15 (nofun) (nofun) (nofun) (nofun) (⋯) λ_ _=>rfl;have A17:AL l w mg base 17 (R1 []):=nx "letters_of" 152 XN n16 ["form","stand","deeds"] Xf m4 (.ref 151) W A16 (nofun) (nofun) (nofun) (nofun) (⋯) λ_ _ _=>rfl;have A18:AL l w mg base 18 (R3 []):=nx "right_ahead" 164 XO n17 ["form","stand","deeds"] Xg m4 (.ref 163) W A17 (nofun) (nofun) (nofun) (nofun) (⋯) λ_ _ _=>rfl;have A19:AL l w mg base 19 (R4 []):=nx "clocks" 169 XQ n18 ["form","stand","deeds"] Xh m5 (.ref 168) W A18 (nofun) (nofun) (nofun) (nofun) (⋯) λ_ _ _=>rfl;have A20:AL l w mg base 20 (R5 []):=nx "is_before" 176 XR n19 ["events","deed_clocks","one","other"] Xi m5 (.ref 175) W A19 (nofun) (nofun) (nofun) (nofun) (⋯) λ_ _ _ _=>rfl;have A21:AL l w mg base 21 (R6 []):=nx "_law_well" 183 XS n20 ["_law_script","_law_k"] Xj m6 (.ref 182) W A20 (nofun) (nofun) (nofun) (nofun) (⋯) λ_ _=>rfl;have A22:AL l w mg base 22 (R7 []):=nx "_law_draw" 190 XT n21 ["_law_well_here","_law_many"] Xk m6 (.ref 189) W A21 (nofun) (nofun) (nofun) (nofun) (⋯) λ_ _=>rfl;have A23:AL l w mg base 23 (R8 []):=nx "_law_roads" 197 XU n22 ["_law_well_here","_law_machines"] Xl m6 (.ref 196) W A22 (nofun) (nofun) (nofun) (nofun) (⋯) λ_ _=>rfl;have A24:AL l w mg base 24 (R9 []):=nx "_law_states" 204 XW n23 ["_law_well_here"] Xm m6 (.ref 203) W A23 (nofun) (nofun) (nofun) (nofun) (⋯) λ_=>rfl;have A25:AL l w mg base 25 (R_ []):=nx "_law_sends" 211 XX n24 ["_law_well_here","_law_ways"] Xn m6 (.ref 210) W A24 (nofun) (nofun) (nofun) (nofun) (⋯) λ_ _=>rfl;have A26:AL l w mg base 26 (Sa []):=nx "_law_moves" 218 XY n25 ["_law_well_here","_law_some","_law_ways"] Xo m6 (.ref 217) W A25 (nofun) (nofun) (nofun) (nofun) (⋯) λ_ _ _=>rfl;have A27:AL l w mg base 27 (Sb []):=nx "_law_form" 223 XZ n26 ["_law_script"] Xp m6 (.ref 222) W A26 (nofun) (nofun) (nofun) (nofun) (⋯) λ_=>rfl;have A28:AL l w mg base 28 (Se []):=nx "_law_answer" 228 X0 n27 ["_law_form_here","_law_m","_law_state","_law_cause"] Xq m6 (.ref 227) W A27 (nofun) (nofun) (nofun) (nofun) (⋯) λ_ _ _ _=>rfl;have A29:AL l w mg base 29 (Sf []):=nx "_law_comes" 233 X1 n28 ["_law_form_here","_law_stand_here"] Xr m6 (.ref 232) W A28 (nofun) (nofun) (nofun) (nofun) (⋯) λ_ _=>rfl;have A30:AL l w mg base 30 (Sg []):=nx "_law_answered" 240 X2 n29 ["_law_form_here","_law_stand_here","_law_deed"] Xs m6 (.ref 239) W A29 (nofun) (nofun) (nofun) (nofun) (⋯) λ_ _ _=>rfl;have A31:AL l w mg base 31 (Sh []):=nx "_law_machine" 247 X3 n30 ["_law_form_here","_law_deed"] Xu m6 (.ref 246) W A30 (nofun) (nofun) (nofun) (nofun) (⋯) λ_ _=>rfl;have A32:AL l w mg base 32 (Si []):=nx "_law_done" 252 X4 n31 ["_law_form_here","_law_stand_here","_law_deed"] Xv m6 (.ref 251) W A31 (nofun) (nofun) (nofun) (nofun) (⋯) λ_ _ _=>rfl;have A33:AL l w mg base 33 (Sj []):=nx "_law_load" 259 X5 n32 ["_law_well_here","_law_order"] Xw m6 (.ref 258) W A32 (nofun) (nofun) (nofun) (nofun) (⋯) λ_ _=>rfl;have A34:AL l w mg base 34 (Sk []):=nx "_law_stand" 264 X6 n33 ["_law_script","_law_form_here"] Xx m6 (.ref 263) W A33 (nofun) (nofun) (nofun) (nofun) (⋯) λ_ _=>rfl;have A35:AL l w mg base 35 (Sl []):=nx "_law_next" 269 X7 n34 ["_law_well_here","_law_form_here","_law_stand_here"] Xy m6 (.ref 268) W A34 (nofun) (nofun) (nofun) (nofun) (⋯) λ_ _ _=>rfl;have A36:AL l w mg base 36 (Sn []):=nx "_law_deeds" 276 X8 n35 ["_law_script","_law_form_here","_law_stand_here","_law_most"] Xz m6 (.ref 275) W A35 (nofun) (nofun) (nofun) (nofun) (⋯) λ_ _ _ _=>rfl;have A37:AL l w mg base 37 (So []):=nx "_law_before" 281 X9 n36 ["_law_form_here","_law_stand_here","_law_deeds_here"] XA m6 (.ref 280) W A36 (nofun) (nofun) (nofun) (nofun) (⋯) λ_ _ _=>rfl;have A38:AL l w mg base 38 (Sr []):=nx "_law_reach" 288 X_ n37 ["_law_ahead"] XB m6 (.ref 287) W A37 (nofun) (nofun) (nofun) (nofun) (⋯) λ_=>rfl;exact B1 "law" 293 VQ n38 ["_law_script"] Ss m6 (.ref 292) W A38 (nofun) (nofun) (nofun) (⋯)
theorem L1{K:PySem.W.Frag}{H:Hp}{a:Addr}{xs:List V}(hO:Em H)(h:eG K H a xs):tJ K H a xs:=by
 rcases h with(h | ⟨o,h⟩) | h
 ·rcases hO a with q | ⟨o,ys,q⟩
  ·rw[q]at h;cases h
  ·rw[q]at h;cases h
 ·exact .inl ⟨o,h⟩
 ·exact .inr h
theorem uT{K:PySem.W.Frag}{H:Hp}{ads:List Addr}:∀(ns:List Int),aJ K ads H (ns.map D.int) (ns.map V.int)
 | []=>by unfold aJ;rfl
 | i::ns=>by
  show aJ K ads H (D.int i::ns.map D.int) (V.int i::ns.map V.int);unfold aJ;exact⟨_,_,rfl,by unfold RD;rfl,uT ns⟩
theorem walk {l : PySem.W.OpenLaw} {q : Program} {loose : List Str} {XP : (Str -> Option Value) -> Heap -> Prop} {YP : World -> Heap -> Prop} {d : DefRec} {K : Params -> PySem.W.Frag} (VR : ∀ ns : List Int, ns.length <= 63 -> ∃ M, QE [.ls (ns.map D.int)] [] = .ok (.d (.bl true)) M) (hn : l.most = some 63) (G6 : d.params.defaults = [])
    (hY:∀(w:World)(h:Heap),YP w h->(K w.params).In h)
    (F:∀(w:World)(mg:Str->Option Value)(fa:Addr)(h:Heap),(K w.params).In h->h.Ns mainGlobals mg->mg d.name=some (.ref fa) ->
      ∃fd:FuncData,(∀(s:Shared)(u:Value),BindsTo s fd ⟨[u],[]⟩ [("_law_script",u)])/\∀base:Heap,(K w.params).In base->base.Ns mainGlobals mg->hV l.prog w (K w.params) mg base yZ 39 fa fd ["_law_script"] (Fb (K w.params) 1 QE)) :
    PySem.W.WalkO q loose XP YP l.row.toRowW d [] (λf vs=>PySem.call f vs) :=
  L2.Eo (n:=63) (k:=39) (x := "_law_script") (CX:=λ_=>yZ) (sp:=λw=>Fb (K w.params) 1 QE) hn (by decide) G6 ⟨rfl,by decide,by decide,rfl⟩ hY F (λw H a ns hl hO hS=>by
    obtain⟨M,hM⟩:=VR ns hl;refine⟨[],[],[.ls (ns.map D.int)],⟨List.nodup_nil,rfl,λn o a e _=>by simp at e⟩,.one ?_,rfl,?_⟩
    · unfold RD;exact⟨a,_,rfl,L1 hO hS,uT ns⟩
    · rw[hM];intro v H' aB _ _ r;have r:RD (K w.params) aB H' (.bl true) v:=r;unfold RD at r;exact r) λ_ _ _ _ _ z=>z
def vw:Program:={ PySem.Challenge.pw_cutstand_k11_clocks with main:={ PySem.Challenge.pw_cutstand_k11_clocks.main with body:=[cO 1,cO 2,cO 4,cO 5,cO 6,cO 8,cO 10,cO 12,cO 13,cO 14,cO 15,cO 16,cO 17,cO 18,cO 19,cO 20,cO 22,cO 23,cO 24,cO 25,cO 27,cO 28,cO 30,cO 31,cO 32,cO 33,cO 34,cO 35,cO 36,cO 37,cO 38,cO 39,cO 40,cO 41,cO 42,cO 43,cO 44,cO 45,cO 46,cO 47,cO 48] } }
def hk:PySem.W.Hook:=PySem.W.kHook Kf ads (λ_=>nofun)
theorem lft:PySem.W.LeftO PySem.Challenge.pw_cutstand_k11_clocks vw [] (λs=>PySem.W.xlAt vw [] s&&PySem.W.recOk [] s) (PySem.W.Hook.obs hk) (PySem.W.Hook.val hk) 3524:=by
 intro w
 kernel_rfl
theorem L3:PySem.W.OpenLaw.wellSaid PySem.Challenge.rw_cutstand_k11_clocks=true:=nofun
end gQ
end
end
open PySem PySem.W PyProof.Rows
set_option maxRecDepth 100000 in
set_option maxHeartbeats 0 in
theorem PySem.Challenge.cw_cutstand_k11_clocks_holds : PySem.Challenge.rw_cutstand_k11_clocks.Holds := by
 refine holds_law gQ.L3 λL3=>?_;refine holds_open (q:=gQ.vw) (loose:=[]) (Xt:=λs=>xlAt gQ.vw [] s&&recOk [] s) (XP:=XL gQ.vw []) (Yf:=Hook.obs gQ.hk) (Ya:=Hook.val gQ.hk) (YP:=Hook.says gQ.hk) (N:=3524) gQ.lft (Hook.of gQ.hk) (Hook.keeps gQ.hk) (λs e=>xl_of s (Bool.and_eq_true_iff.mp e).1) XL.keeps (by rfl) (by rfl) (by rfl) (λs e=>recFacts_of (Bool.and_eq_true_iff.mp e).2) (by rfl) L3 (⋯) ⟨rfl,rfl,rfl,rfl,rfl,⋯⟩ ?hw ?hc
 case hw=>w_witness2
 case hc=>exact gQ.walk (l:=PySem.Challenge.rw_cutstand_k11_clocks) (K:=gQ.Kf) gQ.Dz rfl rfl (λw h Y=>kIn_of Y) λw mg fa h KX G NR=>gQ.all_mk KX G NR
