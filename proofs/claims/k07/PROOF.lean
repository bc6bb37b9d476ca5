import PyProof.Rows.All
import Wide.All
import OpenK.AllK
import Wide.FinOn
import Lean
import PyProof.EqAt
import PyProof.EqKinds
import PyProof.TupleCall
import PyProof.ZipIter
import PyProof.ListRange
import PyProof.TupleOfSeq
import PyProof.Rows.CallKwBuiltin
import PyProof.Rows.Range3
import KE.KFind
import PyProof.IsRules

import PySem.Challenge.RW_cutstand_k07_whole_stands_stay_right
set_option Elab.async false
set_option linter.all false
set_option maxRecDepth 100000
set_option maxHeartbeats 4000000
local macro_rules
  | `(⋯) => `(by decide +kernel)
  | `(nofun) => `(by kernel_rfl)
abbrev zqa:=@List.getElem?_eq_some_iff
abbrev zqb:=@List.getElem?_eq_getElem
abbrev zqc:=@PySem.Heap.get?_push_of_some
abbrev zqd:=@Bool.false_ne_true
abbrev zqe:=@List.length_map
abbrev zqf:=@Bool.and_eq_true
abbrev zqg:=@Nat.le_refl
abbrev zqh:=@List.getD_eq_getElem?_getD
abbrev zqi:=@List.mem_cons_of_mem
abbrev zqj:=@List.mem_of_getElem?
abbrev zqk:=@List.getElem?_map
abbrev zql:=@Option.some.inj
abbrev zqm:=@Int.le_refl
abbrev zqn:=@PySem.Heap.get?_push_size
abbrev zqo:=@List.mem_map
abbrev zqp:=@List.length_append
abbrev zqq:=@List.size_toArray
abbrev zqr:=@List.mem_append
abbrev zqs:=@List.map_append
abbrev zqt:=@List.getElem?_append_left
section
namespace L2
open PySem PySem.Spec PyProof.Rows
abbrev Key:=Sum Int Str
def keyIs:Key->Value->Bool
 | .inl k,v=>Value.isInt k v
 | .inr x,v=>Value.isStrOf x v
def keyH (w:World):Key->Int
 | .inl k=>hashInt k
 | .inr x=>hashStr w x
theorem keyIs_shape:∀ {k:Key} {v:Value},keyIs k v=true->(∃ i t,k=Sum.inl i/\v=Value.int i t)\/(∃ x t,k=Sum.inr x/\v=Value.str x t)
 | .inl i,v,h=>by
  obtain ⟨t,e⟩:=Value.isInt_shape (k:=i) (v:=v) h
  exact .inl ⟨i,t,rfl,e⟩
 | .inr x,v,h=>by
  obtain ⟨t,e⟩:=Value.isStrOf_shape (x:=x) (v:=v) h
  exact .inr ⟨x,t,rfl,e⟩
theorem keyIs_int (i:Int) (t:Tok):keyIs (.inl i) (.int i t)=true:=by simp [keyIs,Value.isInt]
theorem keyIs_str (x:Str) (t:Tok):keyIs (.inr x) (.str x t)=true:=by simp [keyIs,Value.isStrOf]
theorem key_ll (a b:Int):decide ((Sum.inl a:Key)=Sum.inl b)=(a == b):=by
 by_cases e:a=b
 ·subst e;simp
 ·have h:¬ (Sum.inl a:Key)=Sum.inl b:=fun q=>e (Sum.inl.inj q)
  rw [decide_eq_false h]
  exact (beq_eq_false_iff_ne.mpr e).symm
theorem key_rr (a b:Str):decide ((Sum.inr a:Key)=Sum.inr b)=decide (a=b):=by
 by_cases e:a=b
 ·subst e;simp
 ·have h:¬ (Sum.inr a:Key)=Sum.inr b:=fun q=>e (Sum.inr.inj q)
  rw [decide_eq_false h,decide_eq_false e]
theorem key_lr (a:Int) (b:Str):decide ((Sum.inl a:Key)=Sum.inr b)=false:=decide_eq_false (fun q=>nomatch q)
theorem key_rl (a:Str) (b:Int):decide ((Sum.inr a:Key)=Sum.inl b)=false:=decide_eq_false (fun q=>nomatch q)
def mixKind (prog:Program) (w:World):PySem.KeyKind prog w Key where
 is:=keyIs
 hash:=keyH w
 inj:=fun v a b ha hb=>by
  rcases keyIs_shape ha with ⟨i,t,rfl,rfl⟩|⟨x,t,rfl,rfl⟩
  ·rcases keyIs_shape hb with ⟨j,u,rfl,e⟩|⟨y,u,rfl,e⟩
   ·injection e with e1 _;rw [e1]
   ·exact nomatch e
  ·rcases keyIs_shape hb with ⟨j,u,rfl,e⟩|⟨y,u,rfl,e⟩
   ·exact nomatch e
   ·injection e with e1 _;rw [e1]
 byValue:=fun k v h=>by
  rcases keyIs_shape h with ⟨i,t,rfl,rfl⟩|⟨x,t,rfl,rfl⟩ <;> rfl
 pyHash:=fun hv h=>by
  rcases keyIs_shape hv with ⟨i,t,rfl,rfl⟩|⟨x,t,rfl,rfl⟩
  ·exact wpAny_pyHash_int h
  ·exact wpAny_pyHash_str h
 eqBool:=fun hu hv h=>by
  rcases keyIs_shape hu with ⟨i,t,rfl,rfl⟩|⟨x,t,rfl,rfl⟩
  ·rcases keyIs_shape hv with ⟨j,u,rfl,rfl⟩|⟨y,u,rfl,rfl⟩
   ·rw [key_ll] at h;exact wpAny_eqBool_int h
   ·rw [key_lr] at h;exact SeqAt.EqAt.int_str i t y u _ _ _ _ h
  ·rcases keyIs_shape hv with ⟨j,u,rfl,rfl⟩|⟨y,u,rfl,rfl⟩
   ·rw [key_rl] at h;exact SeqAt.EqAt.str_int x t j u _ _ _ _ h
   ·rw [key_rr] at h;exact wpAny_eqBool_str h
 «strs»:=fun k x t v h=>by
  rcases keyIs_shape h with ⟨i,u,rfl,e⟩|⟨y,u,rfl,e⟩
  ·exact nomatch e
  ·injection e with e1 _
   subst e1
   cases v <;> rfl
theorem mixKind_int (prog:Program) (w:World) (i:Int) (t:Tok):(mixKind prog w).is (.inl i) (.int i t)=true:=keyIs_int i t
theorem mixKind_str (prog:Program) (w:World) (x:Str) (t:Tok):(mixKind prog w).is (.inr x) (.str x t)=true:=keyIs_str x t
inductive V where
 | non | bl (b:Bool) | int (i:Int) | str (x:Str) | byt (b:Array UInt8) | flt (b:UInt64) | ref (a:Addr) | ty (n:String)
 deriving DecidableEq
def RelV:V->Value->Prop
 | .non,u=>u=Value.none
 | .bl b,u=>u=Value.bool b
 | .int i,u=>∃ t,u=Value.int i t
 | .str x,u=>∃ t,u=Value.str x t
 | .byt b,u=>∃ t,u=Value.bytes b t
 | .flt b,u=>∃ t,u=Value.float b t
 | .ref a,u=>u=Value.ref a
 | .ty n,u=>u=Value.type n
abbrev Vals:List V->List Value->Prop:=Paired RelV
theorem Vals.length {xs:List V} {us:List Value} (r:Vals xs us):xs.length=us.length:=Paired.length r
theorem Vals.get:∀ {xs:List V} {us:List Value} {i:Nat} {x:V},Vals xs us->xs[i]?=some x->∃ u,us[i]?=some u/\RelV x u
 | _,_,_,_,.nil,e=>by simp at e
 | _,_,0,_,.cons r _,e=>by simp at e;subst e;exact ⟨_,rfl,r⟩
 | _,_,i+1,x,.cons _ t,e=>by
  obtain ⟨u,h1,h2⟩:=Vals.get (i:=i) (x:=x) t (by simpa using e)
  exact ⟨u,by simpa using h1,h2⟩
theorem Vals.set {x:V} {u:Value} (r:RelV x u):∀ {xs:List V} {us:List Value} (i:Nat),Vals xs us->Vals (xs.set i x) (us.set i u)
 | _,_,_,.nil=>.nil
 | _,_,0,.cons _ t=>.cons r t
 | _,_,i+1,.cons q t=>.cons q (Vals.set r i t)
theorem Vals.append:∀ {xs ys:List V} {us ws:List Value},Vals xs us->Vals ys ws->Vals (xs++ys) (us++ws)
 | _,_,_,_,.nil,s=>s
 | _,_,_,_,.cons r t,s=>.cons r (Vals.append t s)
theorem Vals.take:∀ {xs:List V} {us:List Value} (n:Nat),Vals xs us->Vals (xs.take n) (us.take n)
 | _,_,0,_=>.nil
 | _,_,_+1,.nil=>.nil
 | _,_,n+1,.cons r t=>.cons r (Vals.take n t)
theorem Vals.drop:∀ {xs:List V} {us:List Value} (n:Nat),Vals xs us->Vals (xs.drop n) (us.drop n)
 | _,_,0,r=>r
 | _,_,_+1,.nil=>.nil
 | _,_,n+1,.cons _ t=>Vals.drop n t
def RelO:Option V->Option Value->Prop
 | some v,some u=>RelV v u
 | none,none=>True
 | _,_=>False
def KV {κ:Type}:List (κ×V)->List (κ×Value)->Prop:=Paired fun (p:κ×V) (q:κ×Value)=>p.1=q.1/\RelV p.2 q.2
def kV:Key->V
 | .inl i=>.int i
 | .inr x=>.str x
inductive HO where
 | lst (xs:List V)
 | tup (xs:List V)
 | dK (kvs:List (Key×V)) | dT (kvs:List (List Key×V))
 | set (S:Int->Bool) (n:Nat)
 | ins (C dx:Addr) (fs:List (Str×V))
 | own (x:Addr)
 | xd (fs:List (Str×V))
 | met (f x:Addr)
 | rng (lo hi:Int)
 | frz (o:Obj) (u:HO)
 | tbl (ps:Array Value)
 | ext (φ:Heap->Prop)
abbrev Hp:=Addr->Option HO
def upd (H:Hp) (a:Addr) (o:HO):Hp:=fun b=>if b=a then some o else H b
theorem upd_same {H:Hp} {a:Addr} {o:HO}:upd H a o a=some o:=by unfold upd;rw [if_pos rfl]
theorem upd_ne {H:Hp} {a b:Addr} {o:HO} (h:b≠a):upd H a o b=H b:=by unfold upd;rw [if_neg h]
theorem ne_of {H:Hp} {a b:Addr} {o u:HO} (h:H a=some o) (h':H b=some u) (d:o≠u):a≠b:=by
 intro e;subst e;rw [h] at h';exact d (zql h')
theorem ne_of_none {H:Hp} {a b:Addr} {o:HO} (h:H a=some o) (h':H b=none):a≠b:=by
 intro e;subst e;rw [h] at h';cases h'
section
variable (P:Program) (w:World)
def ObjOk (H:Hp) (h:Heap) (a:Addr):HO->Prop
  | .lst xs=>xs.length<=sizeLine/\∃ (its:List Value) (n:Nat),Vals xs its/\h.get? a=some { cls:=.type "list",data:=.seq its.toArray n }
  | .tup xs=>xs.length<=sizeLine/\∃ its:List Value,Vals xs its/\IsTup h a its.toArray
  | .dK kvs=>kvs.length<=sizeLine/\(a == sysModules)=false/\∃ vs,KV kvs vs/\h.DictOf (mixKind P w) a vs
  | .dT kvs => kvs.length <= sizeLine /\ (a == sysModules) = false /\ ∃ xs : List (List Key × Addr × Value),
      Paired (fun (p:List Key×V) (q:List Key×Addr×Value)=>p.1=q.1/\H q.2.1=some (.tup (p.1.map kV))/\RelV p.2 q.2.2) kvs xs /\
      ∃ o es ep,h.get? a=some o/\o.ExactDict/\o.data=.dict es ep/\es.toList=xs.map (entryOfKey (tupleKind (mixKind P w)))/\(xs.map (·.1)).Nodup
  | .set S n=>h.SetOf (intKind P w) a S n
  | .ins C dx fs => H dx = some (.own a) /\ fs.length <= 1000 /\ dx ≠ a /\ h.get? a = some (PySem.W.instObj C dx) /\
      ∃ mA,h.Ns1 dx mA/\(∀ f,RelO (fs.lookup f) (mA f))/\PySem.Within mA (fs.map (·.1))
  | .own _=>∃ o,h.get? a=some o
  | .xd fs=>∃ mA,h.Ns1 a mA/\∀ f,RelO (fs.lookup f) (mA f)
  | .rng lo hi=>∃ t u v,h.get? a=some { cls:=.type "range",data:=.fields #[.int lo t,.int hi u,.int 1 v] }
  | .frz o u=>h.get? a=some o/\ObjOk H h a u
  | .tbl ps=>h.get? a=some { cls:=.none,data:=.fields ps }
  | .met f x=>h.get? a=some (PySem.W.methodObj (.ref f) (.ref x))
  | .ext φ=>φ h/\(∃ o,h.get? a=some o)/\∀ h1 h2:Heap,φ h1->(∀ o,h1.get? a=some o->h2.get? a=some o)->φ h2
def HOk (H:Hp) (h:Heap):Prop:=∀ a o,H a=some o->ObjOk P w H h a o
end
section
variable {P:Program} {w:World} {H H':Hp} {h h':Heap} {a:Addr} {o:HO}
theorem ObjOk.lt (x:ObjOk P w H h a o):a < h.objs.size:=by
 cases o with
 | lst xs=>obtain ⟨_,_,_,_,e⟩:=x;exact Heap.lt_size e
 | tup xs=>obtain ⟨_,_,_,p⟩:=x;exact p.lt
 | dK kvs=>obtain ⟨_,_,_,_,o,_,_,e,_⟩:=x;exact Heap.lt_size e
 | dT kvs=>obtain ⟨_,_,_,_,o,_,_,e,_⟩:=x;exact Heap.lt_size e
 | set S n=>obtain ⟨o,_,_,_,e,_⟩:=x;exact Heap.lt_size e
 | ins C dx fs=>obtain ⟨_,_,_,e,_⟩:=x;exact Heap.lt_size e
 | own y=>obtain ⟨_,e⟩:=x;exact Heap.lt_size e
 | xd fs=>obtain ⟨_,⟨_,_,_,e,_⟩,_⟩:=x;exact Heap.lt_size e
 | rng lo hi=>obtain ⟨_,_,_,e⟩:=x;exact Heap.lt_size e
 | frz ob u=>obtain ⟨e,_⟩:=x;exact Heap.lt_size e
 | tbl ps=>exact Heap.lt_size (show h.get? a=some _ from x)
 | met f y=>exact Heap.lt_size (show h.get? a=some _ from x)
 | ext φ=>obtain ⟨_,⟨_,e⟩,_⟩:=x;exact Heap.lt_size e
theorem Paired.mapP {α β:Type} {F G:α->β->Prop}:∀ {l₁:List α} {l₂:List β},Paired F l₁ l₂->(∀ a b,F a b->G a b)->Paired G l₁ l₂
 | _,_,.nil,_=>.nil
 | _,_,.cons r t,f=>.cons (f _ _ r) (Paired.mapP t f)
theorem ObjOk.stay (x : ObjOk P w H h a o) (k : ∀ b u, (b = a \/ H b = some (.own a)) -> h.get? b = some u -> h'.get? b = some u)
    (ho:∀ b,H b=some (.own a)->H' b=some (.own a)) (ht:∀ b xs,H b=some (.tup xs)->H' b=some (.tup xs)):ObjOk P w H' h' a o:=by
  induction o with
  | lst xs=>obtain ⟨z,its,n,r,e⟩:=x;exact ⟨z,its,n,r,k _ _ (.inl rfl) e⟩
  | tup xs=>obtain ⟨z,its,r,ob,e,c⟩:=x;exact ⟨z,its,r,ob,k _ _ (.inl rfl) e,c⟩
  | dK kvs=>obtain ⟨z,y,vs,r,ob,es,ep,e,c⟩:=x;exact ⟨z,y,vs,r,ob,es,ep,k _ _ (.inl rfl) e,c⟩
  | dT kvs =>
    obtain ⟨z,y,xs,r,ob,es,ep,e,c⟩:=x
    exact ⟨z,y,xs,Paired.mapP r fun p q z=>⟨z.1,ht _ _ z.2.1,z.2.2⟩,ob,es,ep,k _ _ (.inl rfl) e,c⟩
  | set S n=>obtain ⟨ob,es,ep,t,e,c⟩:=x;exact ⟨ob,es,ep,t,k _ _ (.inl rfl) e,c⟩
  | ins C dx fs =>
    obtain ⟨d,z,ne,e,mA,⟨od,es,ep,e2,c⟩,r⟩:=x
    exact ⟨ho _ d,z,ne,k _ _ (.inl rfl) e,mA,⟨od,es,ep,k _ _ (.inr d) e2,c⟩,r⟩
  | own y=>obtain ⟨ob,e⟩:=x;exact ⟨ob,k _ _ (.inl rfl) e⟩
  | xd fs=>obtain ⟨mA,⟨od,es,ep,e,c⟩,r⟩:=x;exact ⟨mA,⟨od,es,ep,k _ _ (.inl rfl) e,c⟩,r⟩
  | rng lo hi=>obtain ⟨t,u,v,e⟩:=x;exact ⟨t,u,v,k _ _ (.inl rfl) e⟩
  | frz ob u ih=>obtain ⟨e,q⟩:=x;exact ⟨k _ _ (.inl rfl) e,ih q⟩
  | tbl ps =>
    have e:h.get? a=some { cls:=.none,data:=.fields ps }:=x
    show h'.get? a=some { cls:=.none,data:=.fields ps }
    exact k a _ (.inl rfl) e
  | met f y =>
    have e:h.get? a=some (PySem.W.methodObj (.ref f) (.ref y)):=x
    show h'.get? a=some (PySem.W.methodObj (.ref f) (.ref y))
    exact k a _ (.inl rfl) e
  | ext φ=>obtain ⟨p,⟨o,e⟩,st⟩:=x;exact ⟨st _ _ p fun o q=>k _ _ (.inl rfl) q,⟨o,k _ _ (.inl rfl) e⟩,st⟩
theorem HOk.lt (x:HOk P w H h) (e:H a=some o):a < h.objs.size:=(x a o e).lt
theorem HOk.fresh (x:HOk P w H h) (e:h.objs.size<=a):H a=none:=by
 cases q:H a with
 | none=>rfl
 | some u=>exact absurd (Nat.lt_of_lt_of_le (x.lt q) e) (Nat.lt_irrefl _)
theorem HOk.kept (x:HOk P w H h) (k:∀ b u,h.get? b=some u->h'.get? b=some u):HOk P w H h':=fun a o e =>
 (x a o e).stay (fun b u _ q=>k b u q) (fun _ q=>q) fun _ _ q=>q
theorem HOk.laid (x:HOk P w H h) (k:∀ b u,h.get? b=some u->h'.get? b=some u) (hp:h.objs.size<=a) (new:ObjOk P w (upd H a o) h' a o):HOk P w (upd H a o) h':=fun b u e=>by
 have hn:=x.fresh hp
 by_cases hb:b=a
 ·subst hb;rw [upd_same] at e;cases e;exact new
 ·rw [upd_ne hb] at e
  exact (x b u e).stay (fun c v _ q=>k c v q) (fun c q=>by rw [upd_ne (ne_of_none q hn)];exact q) fun c xs q=>by rw [upd_ne (ne_of_none q hn)];exact q
end
def Rd (H:Hp) (a:Addr) (u:HO):Prop:=H a=some u\/∃ o,H a=some (.frz o u)
theorem Rd.ok {P:Program} {w:World} {H:Hp} {h:Heap} {a:Addr} {u:HO} (r:Rd H a u) (x:HOk P w H h):ObjOk P w H h a u:=by
 rcases r with r | ⟨o,r⟩
 ·exact x a u r
 ·obtain ⟨_,q⟩:=x a _ r
  exact q
def Mut:Option HO->Prop
 | some (.lst _)=>True
 | some (.dK _)=>True
 | some (.dT _)=>True
 | some (.set _ _)=>True
 | some (.ins _ _ _)=>True
 | some (.ext _)=>True
 | _=>False
section
variable {P:Program} {w:World} {H:Hp} {h h':Heap} {x e:Addr} {o':HO}
theorem HOk.write (ok : HOk P w H h) (mu : Mut (H x)) (he : e = x \/ H e = some (.own x)) (k : ∀ b u, b ≠ e -> h.get? b = some u -> h'.get? b = some u) (heo : ∃ u, h'.get? e = some u)
    (new:ObjOk P w (upd H x o') h' x o'):HOk P w (upd H x o') h':=fun b u q=>by
  have nown:∀ c y,H c=some (.own y)->c≠x:=fun c y r z=>by subst z;rw [r] at mu;exact mu
  have ntup:∀ c xs,H c=some (.tup xs)->c≠x:=fun c xs r z=>by subst z;rw [r] at mu;exact mu
  by_cases hb:b=x
  · subst hb;rw [upd_same] at q;cases q;exact new
  · rw [upd_ne hb] at q
    by_cases hbe:b=e
    · have q' : H b = some (.own x) := by
        rcases he with z | z
        · exact absurd (hbe.trans z) hb
        · rw [hbe];exact z
      rw [q] at q';cases q'
      obtain ⟨v,hv⟩:=heo
      exact ⟨v,by rw [hbe];exact hv⟩
    · refine (ok b u q).stay (fun c v hc r=>k c v ?_ r) (fun c r=>by rw [upd_ne (nown c b r)];exact r) fun c xs r=>by rw [upd_ne (ntup c xs r)];exact r
      rcases hc with rfl | hc
      · exact hbe
      · rintro rfl
        rcases he with z | z
        · exact nown c b hc z
        · rw [hc] at z;cases z;exact hb rfl
end
structure Un (fs ex:List Addr) (H H':Hp) (h h':Heap):Prop where
 keep:∀ b o,h.get? b=some o->H b=none->b∉fs->b∉ex->h'.get? b=some o
 slot:∀ b o,h.get? b=some o->H b=none->b∈fs->b∉ex->∃ sl,h'.get? b=some { o with slots:=sl }
 free:∀ b o,h.get? b=some o->H b=none->b∉ex->H' b=none
 there:∀ b o,h.get? b=some o->b∉ex->∃ o',h'.get? b=some o'
 tups:∀ b xs,H b=some (.tup xs)->H' b=some (.tup xs)
 frzs:∀ b o u,H b=some (.frz o u)->H' b=some (.frz o u)
 tbls:∀ b ps,H b=some (.tbl ps)->∃ more,H' b=some (.tbl (ps++more))
section
variable {fs fs' ex ex':List Addr} {H H1 H2:Hp} {h h1 h2 h':Heap} {a x e:Addr} {o:HO}
theorem Un.any (u:Un fs ex H H1 h h1) {b:Addr} {ob:Obj} (q:h.get? b=some ob) (n:H b=none) (hx:b∉ex):∃ sl,h1.get? b=some { ob with slots:=sl }:=by
 by_cases hb:b∈fs
 ·exact u.slot b ob q n hb hx
 ·exact ⟨ob.slots,u.keep b ob q n hb hx⟩
theorem Un.kept (k:∀ b u,h.get? b=some u->h'.get? b=some u):Un fs ex H H h h' :=
 ⟨fun b ob q _ _ _=>k b ob q,fun b ob q _ _ _=>⟨ob.slots,k b ob q⟩,fun _ _ _ n _=>n,fun b ob q _=>⟨ob,k b ob q⟩,fun _ _ q=>q,fun _ _ _ q=>q,fun _ ps q=>⟨#[],by rw [q];simp⟩⟩
theorem Un.refl:Un fs ex H H h h:=Un.kept fun _ _ q=>q
theorem Un.laid (k:∀ b u,h.get? b=some u->h'.get? b=some u) (hp:h.objs.size<=a) (hn:H a=none):Un fs ex H (upd H a o) h h' where
 keep:=fun b u q _ _ _=>k b u q
 slot:=fun b u q _ _ _=>⟨u.slots,k b u q⟩
 free:=fun b u q n _=>by rw [upd_ne (Nat.ne_of_lt (Nat.lt_of_lt_of_le (Heap.lt_size q) hp))];exact n
 there:=fun b u q _=>⟨u,k b u q⟩
 tups:=fun b xs q=>by rw [upd_ne (ne_of_none q hn)];exact q
 frzs:=fun b u xs q=>by rw [upd_ne (ne_of_none q hn)];exact q
 tbls:=fun b ps q=>⟨#[],by rw [upd_ne (ne_of_none q hn),q];simp⟩
theorem Un.write (mu:Mut (H x)) (he:e=x\/H e=some (.own x)) (k:∀ b u,b≠e->h.get? b=some u->h'.get? b=some u) (heo:∃ u,h'.get? e=some u):Un fs ex H (upd H x o) h h':=by
 have hx:∀ b,H b=none->b≠x:=fun b n z=>by subst z;rw [n] at mu;exact mu
 have hb:∀ b,H b=none->b≠e:=fun b n z=>by
  subst z
  rcases he with r | r
  ·exact hx b n r
  ·rw [n] at r;cases r
 have hm:∀ b u,H b=some u->¬ Mut (some u)->b≠x:=fun b u q nm z=>by subst z;rw [q] at mu;exact nm mu
 refine ⟨fun b u q n _ _=>k b u (hb b n) q,fun b u q n _ _=>⟨u.slots,k b u (hb b n) q⟩,fun b u q n _=>by rw [upd_ne (hx b n)];exact n,fun b u q _=>?_,
  fun b xs q=>by rw [upd_ne (hm b _ q fun z=>z)];exact q,fun b u xs q=>by rw [upd_ne (hm b _ q fun z=>z)];exact q,fun b ps q=>⟨#[],by rw [upd_ne (hm b _ q fun z=>z),q];simp⟩⟩
 by_cases hbe:b=e
 ·subst hbe;exact heo
 ·exact ⟨u,k b u hbe q⟩
end
def trk (h:Heap) (H:Hp):List Addr:=(List.range h.objs.size).filter fun a=>(H a).isSome
def hidT (h:Heap) (H:Hp):Heap:=PySem.W.hideAll h (trk h H)
theorem hidT_size (h:Heap) (H:Hp):(hidT h H).objs.size=h.objs.size:=PySem.W.hideAll_size _ _
theorem hidT_get {h:Heap} {H:Hp} {b:Addr} {o:Obj} (e:h.get? b=some o) (n:H b=none):(hidT h H).get? b=some o :=
 PySem.W.hideAll_get _ e fun hm=>by
  have q:(H b).isSome=true:=(List.mem_filter.mp hm).2
  rw [n] at q;simp at q
theorem of_hidT {h:Heap} {H:Hp} {b:Addr} {o:Obj} (e:(hidT h H).get? b=some o):h.get? b=some o/\H b=none:=by
 have e':h.get? b=some o:=PySem.W.of_hideAll (trk h H) e
 refine ⟨e',?_⟩
 cases q:H b with
 | none=>rfl
 | some x =>
  have hm:b∈trk h H:=List.mem_filter.mpr ⟨List.mem_range.mpr (Heap.lt_size e'),by simp [q]⟩
  have z:(hidT h H).get? b=none:=PySem.W.hideAll_none (trk h H) hm
  rw [z] at e;cases e
def allNews (g h:Heap) (L:Addr):List (Addr×Obj):=(List.range h.objs.size).filterMap fun a=>if a=L\/(g.get? a).isSome=true then none else (h.get? a).map fun o=>(a,o)
def rest (g h:Heap) (L d:Addr):List (Addr×Obj):=(allNews g h L).filter fun p=>decide (p.1≠d)
structure Mod (K:PySem.W.Frag) (mg:Str->Option Value) (base:Heap):Prop where
 kin:K.In base
 glob:base.Ns mainGlobals mg
 blt:∃ mb,base.Ns builtinsNs mb/\∀ x:Str,x ≠ "__name__" -> mb x=bootBuiltins x
 nolimit:base.NoLimit
structure Cx where
 prog:Program
 w:World
 K:PySem.W.Frag
 mg:Str->Option Value
 base:Heap
 A:Around
 N:List Str
 s₀:Shared
 H₀:Hp
 env:Env
 outer:List Env
 stack:List Env
 ex:List Addr
 fn:Str->Bool
 calm:Bool
 pn:List (Addr×Obj)
 xe:Value->Shared->Prop
def frs (l:List Env):List Addr:=l.filterMap (·.frame)
abbrev Cx.fs (X:Cx):List Addr:=frs X.outer
def Vis (sc:Scope) (x:Str):Prop:=sc.names.lookup x=some .local\/sc.names.lookup x=some .cell\/sc.names.lookup x=some .free
def Loc (sc:Scope) (x:Str):Prop:=sc.names.lookup x=some .local\/sc.names.lookup x=some .cell
def Look (env:Env) (h:Heap) (m:Str->Option Value) (x:Str) (u:Value):Prop :=
 (env.kindOf x=some .local/\m x=some u)\/((env.kindOf x=some .cell\/env.kindOf x=some .free)/\∃ c,env.cells.lookup x=some c/\h.IsCell c (some u))
structure Cx.Ok (X:Cx):Prop where
 mod:Mod X.K X.mg X.base
 kind:X.env.scope.kind=.function
 glob:X.env.globals=mainGlobals
 blt:X.env.builtins=builtinsNs
 above:X.s₀.heap.objs.size<=X.env.locals
 inj:∀ x y c,X.env.cells.lookup x=some c->X.env.cells.lookup y=some c->x=y
 has:∀ x,(X.env.kindOf x=some .cell\/X.env.kindOf x=some .free)->∃ c,X.env.cells.lookup x=some c
 cab:∀ x c,X.fn x=true->X.env.cells.lookup x=some c->X.s₀.heap.objs.size<=c
 hd:X.calm=true->X.A.handled=none
 frames:X.A.frames=some X.stack
 stk:X.stack=X.outer\/(X.stack=X.env::X.outer/\X.env.frame=some X.env.locals)
 exf:∀ b∈X.ex,b≠X.env.locals/\∀ x c,X.env.cells.lookup x=some c->c≠b
 bs:∀ b o,X.base.get? b=some o->X.s₀.heap.get? b=some o/\X.H₀ b=none
 bsz:X.base.objs.size<=X.s₀.heap.objs.size
 noex:∀ b o,X.base.get? b=some o->b∉X.ex
 exfs:∀ b∈X.ex,b∉X.fs
 funs:X.s₀.heap.FunFrames X.base X.outer
 frf:∀ b∈X.fs,X.H₀ b=none
structure Inv (X:Cx) (pins:List (Addr×Obj)) (σ:List (Option V)) (H:Hp) (s:Shared):Prop where
 ok:X.Ok
 os:s.os=X.s₀.os
 bare:AllBare s.gens
 base:Un X.fs X.ex X.H₀ H X.s₀.heap s.heap
 loc:∃ m,s.heap.Ns X.env.locals m/\∀ (i:Nat) (x:Str) (v:V),X.N[i]?=some x->σ[i]?=some (some v)->Vis X.env.scope x->∃ u,RelV v u/\Look X.env s.heap m x u
 cell:∀ x c,X.env.cells.lookup x=some c->∃ v,s.heap.IsCell c v
 free:H X.env.locals=none
 freeC:∀ x c,X.env.cells.lookup x=some c->H c=none
 pin:∀ p∈X.pn++pins,s.heap.get? p.1=some p.2/\H p.1=none/\p.1≠X.env.locals/\p.1∉X.fs/\∀ v,p.2.data≠.cell v
 hok:HOk X.prog X.w H s.heap
 len:σ.length=X.N.length
section
variable {X:Cx} {pins:List (Addr×Obj)} {σ:List (Option V)} {H H':Hp} {s:Shared} {h':Heap}
theorem Cx.Ok.nofr (ok:X.Ok) {b:Addr} {o:Obj} (e:X.base.get? b=some o):b∉X.fs:=fun hb=>by
 have:=(ok.funs.mem hb).1
 rw [e] at this;cases this
theorem Inv.bs (I:Inv X pins σ H s):∀ b o,X.base.get? b=some o->s.heap.get? b=some o/\H b=none:=fun b o e =>
 ⟨I.base.keep b o (I.ok.bs b o e).1 (I.ok.bs b o e).2 (I.ok.nofr e) (I.ok.noex b o e),I.base.free b o (I.ok.bs b o e).1 (I.ok.bs b o e).2 (I.ok.noex b o e)⟩
theorem Inv.bk (I:Inv X pins σ H s):∀ b o,X.base.get? b=some o->s.heap.get? b=some o:=fun b o e=>(I.bs b o e).1
theorem Inv.mod (I:Inv X pins σ H s):Mod X.K X.mg X.base:=I.ok.mod
theorem Inv.kIn (I:Inv X pins σ H s):X.K.In s.heap:=I.ok.mod.kin.keeps I.bk
theorem Inv.lt (I:Inv X pins σ H s):X.env.locals < s.heap.objs.size:=let ⟨_,hn,_⟩:=I.loc;hn.lt
theorem Inv.sz (I:Inv X pins σ H s):X.s₀.heap.objs.size<=s.heap.objs.size:=Nat.le_trans I.ok.above (Nat.le_of_lt I.lt)
theorem Inv.nofs (I:Inv X pins σ H s) {a:Addr} (h:s.heap.objs.size<=a):a∉X.fs:=fun hb=>by
 obtain ⟨_,o,ho,_⟩:=I.ok.funs.mem hb
 exact absurd (Nat.lt_of_lt_of_le (Heap.lt_size ho) (Nat.le_trans I.sz h)) (Nat.lt_irrefl _)
theorem Inv.cne (I:Inv X pins σ H s):∀ x c,X.env.cells.lookup x=some c->c≠X.env.locals:=fun x c e z=>by
 obtain ⟨v,o,ho,hd⟩:=I.cell x c e
 obtain ⟨m,⟨o',es,ep,ho',hd',_⟩,_⟩:=I.loc
 rw [z,ho'] at ho;cases ho;rw [hd'] at hd;cases hd
theorem Inv.funs (I:Inv X pins σ H s):s.heap.FunFrames X.base X.outer:=by
 have all:∀ (l:List Env),(∀ b∈frs l,b∈X.fs)->X.s₀.heap.FunFrames X.base l->s.heap.FunFrames X.base l:=by
  intro l
  induction l with
  | nil=>intro _ _;trivial
  | cons env r ih =>
   intro hs hl
   obtain ⟨hk,⟨L,o,hf,hn,ho,hd⟩,hr⟩:=hl
   have hL:L∈X.fs:=hs L (by unfold frs;rw [List.filterMap_cons,hf];exact List.mem_cons_self)
   obtain ⟨sl,e⟩:=I.base.slot L o ho (I.ok.frf L hL) hL fun z=>I.ok.exfs L z hL
   exact ⟨hk,⟨L,_,hf,hn,e,hd⟩,ih (fun b hb=>hs b (by unfold frs;rw [List.filterMap_cons,hf];exact zqi _ hb)) hr⟩
 exact all X.outer (fun _ hb=>hb) I.ok.funs
theorem Inv.stack (I:Inv X pins σ H s):s.heap.FunFrames X.base X.stack:=by
 rcases I.ok.stk with e | ⟨e,hf⟩
 ·rw [e];exact I.funs
 ·rw [e]
  obtain ⟨m,hn,_⟩:=I.loc
  refine .cons (by rw [I.ok.kind];decide) hf hn ?_ I.funs
  exact Heap.get?_none_of_le (Nat.le_trans I.ok.bsz I.ok.above)
theorem Inv.stkSub (I:Inv X pins σ H s):∀ b∈frs X.stack,b∈X.env.locals::X.fs:=fun b hb=>by
 rcases I.ok.stk with e | ⟨e,hf⟩
 ·rw [e] at hb;exact zqi _ hb
 ·rw [e] at hb
  unfold frs at hb
  rw [List.filterMap_cons,hf] at hb
  exact hb
theorem Inv.stkFree (I:Inv X pins σ H s):∀ b∈frs X.stack,H b=none:=fun b hb=>by
 rcases List.mem_cons.mp (I.stkSub b hb) with e | hb
 ·rw [e];exact I.free
 ·obtain ⟨_,o,ho,_⟩:=I.ok.funs.mem hb
  exact I.base.free b o ho (I.ok.frf b hb) fun z=>I.ok.exfs b z hb
theorem Inv.step {g' : Array GenState} {t' : Nat} {d' : Drawn} {ch : List Addr} (I : Inv X pins σ H s)
    (hch:∀ b∈ch,(b∈X.ex\/X.s₀.heap.objs.size<=b)/\b≠X.env.locals/\(∀ x c,X.env.cells.lookup x=some c->c≠b)/\∀ p∈X.pn++pins,p.1≠b)
    (keep:∀ b o,b≠X.env.locals->b∉X.fs->b∉ch->s.heap.get? b=some o->H b=none->h'.get? b=some o)
    (slot:∀ b o,b≠X.env.locals->b∈X.fs->b∉ch->s.heap.get? b=some o->H b=none->∃ sl,h'.get? b=some { o with slots:=sl }) (free:∀ b o,b∉ch->s.heap.get? b=some o->H b=none->H' b=none)
    (there:∀ b o,b∉ch->s.heap.get? b=some o->∃ o',h'.get? b=some o')
    (tups:∀ b xs,H b=some (.tup xs)->H' b=some (.tup xs)) (frzs:∀ b o u,H b=some (.frz o u)->H' b=some (.frz o u)) (tbls:∀ b ps,H b=some (.tbl ps)->∃ more,H' b=some (.tbl (ps++more)))
    (ns:∀ m,s.heap.Ns X.env.locals m->h'.Ns X.env.locals m) (hok:HOk X.prog X.w H' h') (hg:AllBare g') :
    Inv X pins σ H' { s with heap:=h',gens:=g',drawn:=d',toks:=t' }:=by
  have neL:∀ b o,X.s₀.heap.get? b=some o->b≠X.env.locals:=fun b o e=>Nat.ne_of_lt (Nat.lt_of_lt_of_le (Heap.lt_size e) I.ok.above)
  have neC:∀ b o,X.s₀.heap.get? b=some o->b∉X.ex->b∉ch:=fun b o e hx hb=>by
    rcases (hch b hb).1 with z | z
    · exact hx z
    · exact absurd (Nat.lt_of_lt_of_le (Heap.lt_size e) z) (Nat.lt_irrefl _)
  have cellK:∀ x c,X.env.cells.lookup x=some c->∀ v,s.heap.IsCell c v->h'.IsCell c v:=fun x c e v ⟨o,ho,hd⟩=>by
    have nch:c∉ch:=fun z=>(hch c z).2.2.1 x c e rfl
    by_cases hc:c∈X.fs
    · obtain ⟨sl,q⟩:=slot c o (I.cne x c e) hc nch ho (I.freeC x c e)
      exact ⟨_,q,hd⟩
    · exact ⟨o,keep c o (I.cne x c e) hc nch ho (I.freeC x c e),hd⟩
  refine ⟨I.ok,I.os,hg,⟨fun b o e n hb hx=>?_,fun b o e n hb hx=>?_,fun b o e n hx=>?_,fun b o e hx=>?_,fun b xs e=>tups b xs (I.base.tups b xs e),fun b o xs e=>frzs b o xs (I.base.frzs b o xs e),fun b ps e=>?_⟩,?_,fun x c e=>?_,?_,fun x c e=>?_,fun p hp=>?_,hok,I.len⟩
  · exact keep b o (neL b o e) hb (neC b o e hx) (I.base.keep b o e n hb hx) (I.base.free b o e n hx)
  · obtain ⟨sl,e1⟩:=I.base.slot b o e n hb hx
    obtain ⟨sl',e2⟩:=slot b _ (neL b o e) hb (neC b o e hx) e1 (I.base.free b o e n hx)
    exact ⟨sl',e2⟩
  · obtain ⟨o',e1⟩:=I.base.there b o e hx
    exact free b o' (neC b o e hx) e1 (I.base.free b o e n hx)
  · obtain ⟨o',e1⟩:=I.base.there b o e hx
    exact there b o' (neC b o e hx) e1
  · obtain ⟨m1,e1⟩:=I.base.tbls b ps e
    obtain ⟨m2,e2⟩:=tbls b _ e1
    exact ⟨m1++m2,by rw [e2,Array.append_assoc]⟩
  · obtain ⟨m,hn,hl⟩:=I.loc
    refine ⟨m,ns m hn,fun i x v e1 e2 e3=>?_⟩
    obtain ⟨u,r,l⟩:=hl i x v e1 e2 e3
    refine ⟨u,r,?_⟩
    rcases l with l | ⟨k,c,e,z⟩
    · exact .inl l
    · exact .inr ⟨k,c,e,cellK x c e _ z⟩
  · obtain ⟨v,z⟩:=I.cell x c e
    exact ⟨v,cellK x c e v z⟩
  · obtain ⟨m,⟨o,_,_,ho,_⟩,_⟩:=I.loc
    exact free _ o (fun z=>(hch _ z).2.1 rfl) ho I.free
  · obtain ⟨v,o,ho,hd⟩:=I.cell x c e
    exact free c o (fun z=>(hch c z).2.2.1 x c e rfl) ho (I.freeC x c e)
  · obtain ⟨e,n,ne,nf,d⟩:=I.pin p hp
    have nch:p.1∉ch:=fun z=>(hch p.1 z).2.2.2 p hp rfl
    exact ⟨keep p.1 p.2 ne nf nch e n,free p.1 p.2 nch e n,ne,nf,d⟩
theorem Inv.un {t':Nat} (I:Inv X pins σ H s) (u:Un X.fs [] H H' s.heap h') (hok:HOk X.prog X.w H' h'):Inv X pins σ H' { s with heap:=h',toks:=t' }:=by
 obtain ⟨m,⟨o,es,ep,ho,r⟩,_⟩:=id I.loc
 obtain ⟨sl,hL⟩:=u.any ho I.free (by simp)
 exact I.step (g':=s.gens) (d':=s.drawn) (ch:=[]) (fun _ z=>nomatch z) (fun b o _ hb _ e n=>u.keep b o e n hb (by simp)) (fun b o _ hb _ e n=>u.slot b o e n hb (by simp)) (fun b o _ e n=>u.free b o e n (by simp)) (fun b o _ e=>u.there b o e (by simp)) u.tups u.frzs u.tbls (fun m' hm=>by
  obtain ⟨o',es',ep',ho',r'⟩:=hm
  rw [ho] at ho';cases ho'
  exact ⟨_,es',ep',hL,r'⟩) hok I.bare
theorem Inv.call {g' : Array GenState} {t' : Nat} {d' : Drawn} {ch : List Addr} (I : Inv X pins σ H s) (u : Un (frs X.stack) ch H H' s.heap h') (hok : HOk X.prog X.w H' h') (hg : AllBare g')
    (hch:∀ b∈ch,(b∈X.ex\/X.s₀.heap.objs.size<=b)/\b≠X.env.locals/\(∀ x c,X.env.cells.lookup x=some c->c≠b)/\∀ p∈X.pn++pins,p.1≠b) :
    Inv X pins σ H' { s with heap:=h',gens:=g',drawn:=d',toks:=t' }:=by
  obtain ⟨m,⟨o,es,ep,ho,r⟩,_⟩:=id I.loc
  obtain ⟨sl,hL⟩:=u.any ho I.free fun z=>(hch _ z).2.1 rfl
  exact I.step (ch:=ch) hch (fun b o hL hb hc e n=>u.keep b o e n (fun z=>(List.mem_cons.mp (I.stkSub b z)).elim hL hb) hc) (fun b o _ _ hc e n=>u.any e n hc) (fun b o hc e n=>u.free b o e n hc) (fun b o hc e=>u.there b o e hc) u.tups u.frzs u.tbls (fun m' hm=>by
    obtain ⟨o',es',ep',ho',r'⟩:=hm
    rw [ho] at ho';cases ho'
    exact ⟨_,es',ep',hL,r'⟩) hok hg
theorem Inv.turned {t' : Nat} {it : Addr} (I : Inv X pins σ H s) (k : ∀ b o, b ≠ it -> s.heap.get? b = some o -> h'.get? b = some o) (hn : H it = none) (hL : it ≠ X.env.locals)
    (h1:it∈X.ex\/X.s₀.heap.objs.size<=it) (h2:∀ x c,X.env.cells.lookup x=some c->c≠it) (h3:∀ p∈X.pn++pins,p.1≠it):Inv X pins σ H { s with heap:=h',toks:=t' }:=by
  have nit:∀ b u,H b=some u->b≠it:=fun b u e z=>by rw [z,hn] at e;cases e
  refine I.step (g':=s.gens) (d':=s.drawn) (ch:=[it]) (fun b hb=>?_) (fun b o _ _ hc e _=>k b o (fun z=>hc (by simp [z])) e) (fun b o _ _ hc e _=>⟨o.slots,k b o (fun z=>hc (by simp [z])) e⟩) (fun _ _ _ _ n=>n)
    (fun b o hc e=>⟨o,k b o (fun z=>hc (by simp [z])) e⟩) (fun _ _ e=>e) (fun _ _ _ e=>e) (fun b ps e=>⟨#[],by rw [e];simp⟩) (fun m hm=>?_) (fun b u e=>?_) I.bare
  · have e:b=it:=by simpa using hb
    subst e
    exact ⟨h1,hL,h2,h3⟩
  · obtain ⟨o,es,ep,ho,r⟩:=hm
    exact ⟨o,es,ep,k _ o (Ne.symm hL) ho,r⟩
  · refine (I.hok b u e).stay (fun c v hc q=>k c v ?_ q) (fun _ q=>q) fun _ _ q=>q
    rcases hc with z | z
    · rw [z];exact nit b u e
    · exact nit c _ z
theorem Inv.tok (I:Inv X pins σ H s) (t:Nat):Inv X pins σ H { s with toks:=t }:=I.un (h':=s.heap) (t':=t) Un.refl I.hok
theorem Inv.kept {t':Nat} (I:Inv X pins σ H s) (k:∀ b u,s.heap.get? b=some u->h'.get? b=some u):Inv X pins σ H { s with heap:=h',toks:=t' }:=I.un (Un.kept k) (I.hok.kept k)
theorem Inv.laid {a : Addr} {o : HO} {t' : Nat} (I : Inv X pins σ H s) (k : ∀ b u, s.heap.get? b = some u -> h'.get? b = some u) (hp : s.heap.objs.size <= a) (new : ObjOk X.prog X.w (upd H a o) h' a o) :
    Inv X pins σ (upd H a o) { s with heap:=h',toks:=t' }:=I.un (Un.laid k hp (I.hok.fresh hp)) (I.hok.laid k hp new)
theorem Inv.write {x e : Addr} {o : HO} {t' : Nat} (I : Inv X pins σ H s) (mu : Mut (H x)) (he : e = x \/ H e = some (.own x)) (k : ∀ b u, b ≠ e -> s.heap.get? b = some u -> h'.get? b = some u) (heo : ∃ u, h'.get? e = some u)
    (new:ObjOk X.prog X.w (upd H x o) h' x o):Inv X pins σ (upd H x o) { s with heap:=h',toks:=t' }:=I.un (Un.write mu he k heo) (I.hok.write mu he k heo new)
theorem Inv.pins_of {pins':List (Addr×Obj)} (I:Inv X pins σ H s) (h:∀ p∈pins',s.heap.get? p.1=some p.2/\H p.1=none/\p.1≠X.env.locals/\p.1∉X.fs/\∀ v,p.2.data≠.cell v):Inv X pins' σ H s :=
 ⟨I.ok,I.os,I.bare,I.base,I.loc,I.cell,I.free,I.freeC,fun p hp=>(zqr.mp hp).elim (fun z=>I.pin p (List.mem_append_left _ z)) (h p),I.hok,I.len⟩
theorem nodup_ix {N:List Str} (hN:N.Nodup) {i j:Nat} {x:Str} (a:N[i]?=some x) (b:N[j]?=some x):i=j:=by
 obtain ⟨h1,e1⟩:=zqa.mp a
 obtain ⟨h2,e2⟩:=zqa.mp b
 exact (List.getElem_inj hN).mp (e1.trans e2.symm)
theorem store_ok2 {M : Model} {A : Around} {E : Value -> Shared -> Prop} {i : Nat} {x : Str} {v : V} {u : Value} {Q : Unit -> Shared -> Prop} (I : Inv X pins σ H s) (hN : X.N.Nodup) (hi : X.N[i]? = some x) (hx : Loc X.env.scope x) (r : RelV v u)
    (h:∀ s',Inv X pins (σ.set i (some v)) H s'->(∃ a,Heap.SameBut a s.heap s'.heap/\(a=X.env.locals\/X.env.cells.lookup x=some a))->Q () s') (hf:X.fn x=true\/X.env.scope.names.lookup x=some .local:=by first | exact .inl rfl | exact .inr rfl | assumption):wpAny M A (storeName X.env x u) Q E s:=by
  obtain ⟨m,hn,hl⟩:=id I.loc
  have hcls:(X.env.scope.kind == .class || (X.env.scope.kind == .module && X.env.locals != X.env.globals))=false:=by rw [I.ok.kind];rfl
  have hiσ:i < σ.length:=by rw [I.len];exact (zqa.mp hi).1
  have cne:=I.cne
  have tracked:∀ {a:Addr} {h':Heap},(∃ o,s.heap.get? a=some o/\H a=none)->Heap.SameBut a s.heap h'->HOk X.prog X.w H h':=fun {a h'} ha hs b ob e=>by
    obtain ⟨_,_,hfree⟩:=ha
    refine (I.hok b ob e).stay (fun c w' hc q=>(hs.2 c ?_).trans q) (fun _ q=>q) fun _ _ q=>q
    rintro rfl
    rcases hc with rfl | hc
    · rw [hfree] at e;cases e
    · rw [hfree] at hc;cases hc
  rcases hx with hk | hk
  · refine wpAny_storeName_local hk hn (fun h' hn' hs=>?_) hcls
    obtain ⟨oL,_,_,hoL,_⟩:=id hn
    refine h _ ⟨I.ok,I.os,I.bare,⟨fun b o e n hb hx=>?_,fun b o e n hb hx=>?_,I.base.free,fun b o e hx=>?_,I.base.tups,I.base.frzs,I.base.tbls⟩,⟨_,hn',fun j y v' e1 e2 e3=>?_⟩,fun y c e=>?_,I.free,I.freeC,fun p hp=>?_,tracked ⟨oL,hoL,I.free⟩ hs,by simpa using I.len⟩ ⟨_,hs,.inl rfl⟩
    · exact (hs.2 b (Nat.ne_of_lt (Nat.lt_of_lt_of_le (Heap.lt_size e) I.ok.above))).trans (I.base.keep b o e n hb hx)
    · obtain ⟨sl,e1⟩:=I.base.slot b o e n hb hx
      exact ⟨sl,(hs.2 b (Nat.ne_of_lt (Nat.lt_of_lt_of_le (Heap.lt_size e) I.ok.above))).trans e1⟩
    · obtain ⟨o',e1⟩:=I.base.there b o e hx
      exact ⟨o',(hs.2 b (Nat.ne_of_lt (Nat.lt_of_lt_of_le (Heap.lt_size e) I.ok.above))).trans e1⟩
    · by_cases hj:j=i
      · subst hj
        rw [hi] at e1;cases e1
        rw [List.getElem?_set_self hiσ] at e2
        cases e2
        exact ⟨u,r,.inl ⟨hk,by simp⟩⟩
      · rw [List.getElem?_set_ne (Ne.symm hj)] at e2
        obtain ⟨u',r',q⟩:=hl j y v' e1 e2 e3
        refine ⟨u',r',?_⟩
        rcases q with ⟨k,e⟩|⟨k,c,e,z⟩
        · refine .inl ⟨k,?_⟩
          have:y≠x:=fun e=>hj (nodup_ix hN e1 (e ▸ hi))
          simp [this,e]
        · exact .inr ⟨k,c,e,z.sameBut hs (cne y c e)⟩
    · obtain ⟨w',z⟩:=I.cell y c e
      exact ⟨w',z.sameBut hs (cne y c e)⟩
    · obtain ⟨e,n,ne,nf,d⟩:=I.pin p hp
      exact ⟨(hs.2 p.1 ne).trans e,n,ne,nf,d⟩
  · have hfn : X.fn x = true := by
      rcases hf with z | z
      · exact z
      · rw [z] at hk;cases hk
    obtain ⟨c,hc⟩:=I.ok.has x (.inl hk)
    obtain ⟨w',z⟩:=I.cell x c hc
    refine wpAny_storeName_cell I.ok.kind hk hc z (fun h' hc' hs=>?_)
    obtain ⟨oc,hoc,hocd⟩:=id z
    refine h { s with heap:=h' } ⟨I.ok,I.os,I.bare,⟨fun b o e n hb hx=>?_,fun b o e n hb hx=>?_,I.base.free,fun b o e hx=>?_,I.base.tups,I.base.frzs,I.base.tbls⟩,⟨m,hn.sameBut hs (Ne.symm (cne x c hc)),fun j y v' e1 e2 e3=>?_⟩,fun y c' e=>?_,I.free,I.freeC,fun p hp=>?_,tracked ⟨oc,hoc,I.freeC x c hc⟩ hs,by simpa using I.len⟩ ⟨c,hs,.inr hc⟩
    · exact (hs.2 b (Nat.ne_of_lt (Nat.lt_of_lt_of_le (Heap.lt_size e) (I.ok.cab x c hfn hc)))).trans (I.base.keep b o e n hb hx)
    · obtain ⟨sl,e1⟩:=I.base.slot b o e n hb hx
      exact ⟨sl,(hs.2 b (Nat.ne_of_lt (Nat.lt_of_lt_of_le (Heap.lt_size e) (I.ok.cab x c hfn hc)))).trans e1⟩
    · obtain ⟨o',e1⟩:=I.base.there b o e hx
      exact ⟨o',(hs.2 b (Nat.ne_of_lt (Nat.lt_of_lt_of_le (Heap.lt_size e) (I.ok.cab x c hfn hc)))).trans e1⟩
    · by_cases hj:j=i
      · subst hj
        rw [hi] at e1;cases e1
        rw [List.getElem?_set_self hiσ] at e2
        cases e2
        exact ⟨u,r,.inr ⟨.inl hk,c,hc,hc'⟩⟩
      · rw [List.getElem?_set_ne (Ne.symm hj)] at e2
        obtain ⟨u',r',q⟩:=hl j y v' e1 e2 e3
        refine ⟨u',r',?_⟩
        rcases q with q | ⟨k,c',e,z'⟩
        · exact .inl q
        · refine .inr ⟨k,c',e,z'.sameBut hs ?_⟩
          rintro rfl
          exact hj (nodup_ix hN e1 (I.ok.inj _ _ _ e hc ▸ hi))
    · by_cases hcc:c'=c
      · subst hcc;exact ⟨_,hc'⟩
      · obtain ⟨w2,z2⟩:=I.cell y c' e
        exact ⟨w2,z2.sameBut hs hcc⟩
    · obtain ⟨e,n,ne,nf,d⟩:=I.pin p hp
      refine ⟨(hs.2 p.1 ?_).trans e,n,ne,nf,d⟩
      intro q
      rw [q,hoc] at e
      have q':oc=p.2:=zql e
      exact d w' (by rw [<- q'];exact hocd)
theorem store_ok {M : Model} {A : Around} {E : Value -> Shared -> Prop} {i : Nat} {x : Str} {v : V} {u : Value} {Q : Unit -> Shared -> Prop} (I : Inv X pins σ H s) (hN : X.N.Nodup) (hi : X.N[i]? = some x) (hx : Loc X.env.scope x) (r : RelV v u)
    (h:∀ s',Inv X pins (σ.set i (some v)) H s'->Q () s') (hf:X.fn x=true\/X.env.scope.names.lookup x=some .local:=by first | exact .inl rfl | exact .inr rfl | assumption):wpAny M A (storeName X.env x u) Q E s :=
  store_ok2 I hN hi hx r (fun s' I' _=>h s' I') hf
theorem Inv.call' {s' : Shared} {ch : List Addr} (I : Inv X pins σ H s) (ho : s'.os = s.os) (u : Un (frs X.stack) ch H H' s.heap s'.heap) (hok : HOk X.prog X.w H' s'.heap) (hg : AllBare s'.gens)
    (hch:∀ b∈ch,(b∈X.ex\/X.s₀.heap.objs.size<=b)/\b≠X.env.locals/\(∀ x c,X.env.cells.lookup x=some c->c≠b)/\∀ p∈X.pn++pins,p.1≠b):Inv X pins σ H' s':=by
  obtain ⟨h',g',d',t',o'⟩:=s'
  have e:o'=s.os:=ho
  subst e
  exact I.call (g':=g') (t':=t') (d':=d') u hok hg hch
end
abbrev XK:=Value->Option Addr->Hp->Prop
abbrev St:=List (Option V)
abbrev VK:=V->Hp->Prop
abbrev TE:=St->Hp->VK->Prop
abbrev TT:=St->Hp->(Bool->Hp->Prop)->Prop
abbrev TA:=St->Hp->(List V->Hp->Prop)->Prop
structure Ends where
 nx:St->Hp->Prop
 rt:VK
 bk:St->Hp->Prop:=fun _ _=>False
 ct:St->Hp->Prop:=fun _ _=>False
abbrev TS:=Ends->St->Hp->Prop
def EP (X:Cx) (pins:List (Addr×Obj)) (σ:St) (Q:VK) (u:Value) (s':Shared):Prop:=∃ v H',Inv X pins σ H' s'/\RelV v u/\Q v H'
def TP (X:Cx) (pins:List (Addr×Obj)) (σ:St) (Q:Bool->Hp->Prop) (b:Bool) (s':Shared):Prop:=∃ H',Inv X pins σ H' s'/\Q b H'
def AP (X:Cx) (pins:List (Addr×Obj)) (σ:St) (Q:List V->Hp->Prop) (us:List Value) (s':Shared):Prop:=∃ vs H',Inv X pins σ H' s'/\Vals vs us/\Q vs H'
def SP (X:Cx) (pins:List (Addr×Obj)) (D:Ends) (f:Flow) (s':Shared):Prop :=
 match f with
 | .next=>∃ σ' H',Inv X pins σ' H' s'/\D.nx σ' H'
 | .brk=>∃ σ' H',Inv X pins σ' H' s'/\D.bk σ' H'
 | .cont=>∃ σ' H',Inv X pins σ' H' s'/\D.ct σ' H'
 | .ret u=>∃ v σ' H',Inv X pins σ' H' s'/\RelV v u/\D.rt v H'
def PE (X:Cx) (e:Expr) (t:TE):Prop :=
 ∀ (pins:List (Addr×Obj)) (s:Shared) (σ:St) (H:Hp) (Q:VK),Inv X pins σ H s->t σ H Q->wpAny (model X.prog X.w) X.A (eval e X.env) (EP X pins σ Q) X.xe s
def PT (X:Cx) (e:Expr) (t:TT):Prop :=
 ∀ (pins:List (Addr×Obj)) (s:Shared) (σ:St) (H:Hp) (Q:Bool->Hp->Prop),Inv X pins σ H s->t σ H Q->wpAny (model X.prog X.w) X.A (isTrue e X.env (eval e X.env)) (TP X pins σ Q) X.xe s
def PW (X:Cx) (e:Expr) (t:TT):Prop :=
 ∀ (whole:Sem Value) (pins:List (Addr×Obj)) (s:Shared) (σ:St) (H:Hp) (Q:Bool->Hp->Prop),Inv X pins σ H s->t σ H Q->wpAny (model X.prog X.w) X.A (isTrue e X.env whole) (TP X pins σ Q) X.xe s
theorem PW.pt {X:Cx} {e:Expr} {t:TT} (h:PW X e t):PT X e t:=h _
def PA (X:Cx) (es:List Expr) (t:TA):Prop :=
 ∀ (pos:Pos) (pins:List (Addr×Obj)) (s:Shared) (σ:St) (H:Hp) (Q:List V->Hp->Prop),Inv X pins σ H s->t σ H Q->wpAny (model X.prog X.w) X.A (spliced (backTo pos (starEach es X.env))) (AP X pins σ Q) X.xe s
def PS (X:Cx) (st:Stmt) (t:TS):Prop :=
 ∀ (pins:List (Addr×Obj)) (s:Shared) (σ:St) (H:Hp) (D:Ends),Inv X pins σ H s->t D σ H->wpAny (model X.prog X.w) X.A (exec st X.env) (SP X pins D) X.xe s
def PSs (X:Cx) (st:List Stmt) (t:TS):Prop :=
 ∀ (pins:List (Addr×Obj)) (s:Shared) (σ:St) (H:Hp) (D:Ends),Inv X pins σ H s->t D σ H->wpAny (model X.prog X.w) X.A (execs st X.env) (SP X pins D) X.xe s
theorem thn {α:Type} {t:Sem α} {Q Q':α->Shared->Prop} {M:Model} {A:Around} {E:Value->Shared->Prop} {s:Shared} (h:wpAny M A t Q E s) (hQ:∀ a s,Q a s->Q' a s):wpAny M A t Q' E s:=wpAny_mono h hQ fun _ _ x=>x
section
variable {X:Cx}
theorem bin {a b : Expr} {ta tb : TE} (ha : PE X a ta) (hb : PE X b tb) {pins : List (Addr × Obj)} {s : Shared} {σ : St} {H : Hp} {R : V -> V -> Hp -> Prop} (I : Inv X pins σ H s) (h : ta σ H fun x H1 => tb σ H1 fun y H2 => R x y H2)
    {α:Type} {Q:α->Shared->Prop} {f:Value->Value->Sem α}
    (hf:∀ v u s2 x y H2,Inv X pins σ H2 s2->RelV x v->RelV y u->R x y H2->wpAny (model X.prog X.w) X.A (f v u) Q X.xe s2) :
    wpAny (model X.prog X.w) X.A (eval a X.env) (fun v s₁=>wpAny (model X.prog X.w) X.A (eval b X.env) (fun u s₂=>wpAny (model X.prog X.w) X.A (f v u) Q X.xe s₂) X.xe s₁) X.xe s:=by
  refine thn (ha pins s σ H _ I h) ?_
  rintro v s1 ⟨x,H1,I1,r1,q1⟩
  refine thn (hb pins s1 σ H1 _ I1 q1) ?_
  rintro u s2 ⟨y,H2,I2,r2,q2⟩
  exact hf v u s2 x y H2 I2 r1 r2 q2
def tVar (i:Nat):TE:=fun σ H Q=>∃ v,σ[i]?=some (some v)/\Q v H
def tC (v:V):TE:=fun _ H Q=>Q v H
theorem pe_var {i:Nat} {x:Str} {pos:Pos} (hN:X.N[i]?=some x) (hv:Vis X.env.scope x) (hd:(x == ("__debug__" : Str))=false:=by decide) (hcd:(x == ("__classdict__" : Str))=false:=by decide):PE X (.Name x pos) (tVar i):=by
 intro pins s σ H Q I h
 obtain ⟨v,e,h⟩:=h
 obtain ⟨m,hn,hl⟩:=I.loc
 obtain ⟨u,r,l⟩:=hl i x v hN e hv
 have fin:EP X pins σ Q u s:=⟨v,H,I,r,h⟩
 rcases l with ⟨hk,hm⟩|⟨hk,c,hc,hcell⟩
 ·exact wpAny_Name (wpAny_loadName_local I.ok.kind hk hn hm fin) hd
 ·rcases hk with hk | hk
  ·exact wpAny_Name (wpAny_loadName_cell I.ok.kind hk hc hcell fin) hd
  ·exact wpAny_Name (wpAny_loadName_free I.ok.kind hk hc hcell fin hcd) hd
theorem pe_int {i j pos}:PE X (.Constant (.int i) j pos) (tC (.int i)):=fun _ _ _ H _ I h=>wpAny_Constant_int ⟨.int i,H,I.tok _,⟨_,rfl⟩,h⟩
theorem pe_bl {b j pos}:PE X (.Constant (.bool b) j pos) (tC (.bl b)):=fun _ _ _ H _ I h=>Constant_bool ⟨.bl b,H,I,rfl,h⟩
theorem pe_non {j pos}:PE X (.Constant .none j pos) (tC .non):=fun _ _ _ H _ I h=>Constant_none ⟨.non,H,I,rfl,h⟩
theorem pe_str {x j pos}:PE X (.Constant (.str x) j pos) (tC (.str x)):=fun _ _ _ H _ I h=>Calls.Constant_str ⟨.str x,H,I.tok _,⟨_,rfl⟩,h⟩
def Gl (X:Cx) (x:Str):Prop:=X.env.kindOf x=some .globalImplicit
theorem ld_glob {E : Value -> Shared -> Prop} {pins : List (Addr × Obj)} {s : Shared} {σ : St} {H : Hp} {x : Str} {u : Value} {pos : Pos} {Q : Value -> Shared -> Prop} (I : Inv X pins σ H s) (hg : Gl X x) (hm : X.mg x = some u) (h : Q u s)
    (hd:(x == ("__debug__" : Str))=false:=by decide):wpAny (model X.prog X.w) X.A (eval (.Name x pos) X.env) Q E s :=
  Calls.Name_function_global I.ok.kind hg (Calls.loadGlobal_global (by rw [I.ok.glob];exact I.mod.glob.keeps I.bk) hm h) hd
theorem ld_blt {E : Value -> Shared -> Prop} {pins : List (Addr × Obj)} {s : Shared} {σ : St} {H : Hp} {x : Str} {u : Value} {pos : Pos} {Q : Value -> Shared -> Prop} (I : Inv X pins σ H s) (hg : Gl X x) (hm : X.mg x = none) (hv : bootBuiltins x = some u) (h : Q u s)
    (hn:x ≠ "__name__" := by decide) (hd:(x == ("__debug__" : Str))=false:=by decide):wpAny (model X.prog X.w) X.A (eval (.Name x pos) X.env) Q E s:=by
  obtain ⟨mb,h1,h2⟩:=I.mod.blt
  exact Calls.Name_function_global I.ok.kind hg (Calls.loadGlobal_builtin (by rw [I.ok.glob];exact I.mod.glob.keeps I.bk) hm (by rw [I.ok.blt];exact h1.keeps I.bk) ((h2 x hn).trans hv) h) hd
theorem pe_glob {x:Str} {v:V} {u:Value} {pos:Pos} (hg:Gl X x) (hm:X.mg x=some u) (r:RelV v u) (hd:(x == ("__debug__" : Str))=false:=by decide):PE X (.Name x pos) (tC v) :=
 fun _ _ _ H _ I h=>ld_glob I hg hm ⟨v,H,I,r,h⟩ hd
theorem pe_bltn {x:Str} {v:V} {u:Value} {pos:Pos} (hg:Gl X x) (hm:X.mg x=none) (hv:bootBuiltins x=some u) (r:RelV v u) (hn:x ≠ "__name__" := by decide) (hd:(x == ("__debug__" : Str))=false:=by decide):PE X (.Name x pos) (tC v) :=
 fun _ _ _ H _ I h=>ld_blt I hg hm hv ⟨v,H,I,r,h⟩ hn hd
variable {a b:Expr} {ta tb:TE} {pos:Pos}
variable {tA tB':TT} {rest:List Expr}
def tAnd (t u:TT):TT:=fun σ H Q=>t σ H fun c H1=>if c=true then u σ H1 Q else Q false H1
def tOr (t u:TT):TT:=fun σ H Q=>t σ H fun c H1=>if c=true then Q true H1 else u σ H1 Q
def tNot (t:TT):TT:=fun σ H Q=>t σ H fun c H1=>Q (!c) H1
theorem pw_and1 (ha:PT X a tA):PW X (.BoolOp .And [a] pos) tA:=by
 intro wh pins s σ H Q I h
 refine isTrue_and (thn (ha pins s σ H Q I h) fun c s1 e=>?_)
 cases c with
 | true=>exact isTrue_and_nil e
 | false=>exact e
theorem pw_or1 (ha:PT X a tA):PW X (.BoolOp .Or [a] pos) tA:=by
 intro wh pins s σ H Q I h
 refine isTrue_or (thn (ha pins s σ H Q I h) fun c s1 e=>?_)
 cases c with
 | false=>exact isTrue_or_nil e
 | true=>exact e
theorem pw_and (ha:PT X a tA) (hb:PW X (.BoolOp .And (b::rest) pos) tB'):PW X (.BoolOp .And (a::b::rest) pos) (tAnd tA tB'):=by
 intro wh pins s σ H Q I h
 refine isTrue_and (thn (ha pins s σ H _ I h) ?_)
 rintro c s1 ⟨H1,I1,q1⟩
 cases c with
 | true=>exact hb wh pins s1 σ H1 Q I1 q1
 | false=>exact ⟨H1,I1,q1⟩
theorem pw_or (ha:PT X a tA) (hb:PW X (.BoolOp .Or (b::rest) pos) tB'):PW X (.BoolOp .Or (a::b::rest) pos) (tOr tA tB'):=by
 intro wh pins s σ H Q I h
 refine isTrue_or (thn (ha pins s σ H _ I h) ?_)
 rintro c s1 ⟨H1,I1,q1⟩
 cases c with
 | true=>exact ⟨H1,I1,q1⟩
 | false=>exact hb wh pins s1 σ H1 Q I1 q1
theorem pt_not (ha:PT X a tA):PT X (.UnaryOp .Not a pos) (tNot tA):=by
 intro pins s σ H Q I h
 exact isTrue_not (ha pins s σ H (fun c H1=>Q (!c) H1) I h)
def tAndV (ta tb:TE):TE:=fun σ H Q=>ta σ H fun x H1=>∃ c,x=.bl c/\if c=true then tb σ H1 Q else Q (.bl false) H1
def tOrV (ta tb:TE):TE:=fun σ H Q=>ta σ H fun x H1=>∃ c,x=.bl c/\if c=true then Q (.bl true) H1 else tb σ H1 Q
def tNotV (ta:TE):TE:=fun σ H Q=>ta σ H fun x H1=>∃ c,x=.bl c/\Q (.bl (!c)) H1
theorem pe_one {op} {t:TE} (h:PE X a t):PE X (.BoolOp op [a] pos) t:=fun pins s σ H Q I hw=>BoolOp_one (h pins s σ H Q I hw)
theorem pe_and (ha:PE X a ta) (hb:PE X (.BoolOp .And (b::rest) pos) tb):PE X (.BoolOp .And (a::b::rest) pos) (tAndV ta tb):=by
 intro pins s σ H Q I h
 refine BoolOp_and (thn (ha pins s σ H _ I h) ?_)
 rintro v s1 ⟨x,H1,I1,r1,q1⟩
 obtain ⟨c,rfl,q1⟩:=q1
 cases r1
 refine wpAny_truthy_bool ?_
 cases c with
 | true=>exact hb pins s1 σ H1 Q I1 q1
 | false=>exact ⟨.bl false,H1,I1,rfl,q1⟩
theorem pe_or (ha:PE X a ta) (hb:PE X (.BoolOp .Or (b::rest) pos) tb):PE X (.BoolOp .Or (a::b::rest) pos) (tOrV ta tb):=by
 intro pins s σ H Q I h
 refine BoolOp_or (thn (ha pins s σ H _ I h) ?_)
 rintro v s1 ⟨x,H1,I1,r1,q1⟩
 obtain ⟨c,rfl,q1⟩:=q1
 cases r1
 refine wpAny_truthy_bool ?_
 cases c with
 | false=>exact hb pins s1 σ H1 Q I1 q1
 | true=>exact ⟨.bl true,H1,I1,rfl,q1⟩
theorem pe_not (ha:PE X a ta):PE X (.UnaryOp .Not a pos) (tNotV ta):=by
 intro pins s σ H Q I h
 refine UnaryOp_ (thn (ha pins s σ H _ I h) ?_)
 rintro v s1 ⟨x,H1,I1,r1,q1⟩
 obtain ⟨c,rfl,q1⟩:=q1
 cases r1
 exact not_of (wpAny_truthy_bool ⟨.bl (!c),H1,I1,rfl,q1⟩)
def tIf (t:TT) (ta tb:TE):TE:=fun σ H Q=>t σ H fun c H1=>if c=true then ta σ H1 Q else tb σ H1 Q
theorem pe_ifExp {c:Expr} (hc:PT X c tA) (ha:PE X a ta) (hb:PE X b tb):PE X (.IfExp c a b pos) (tIf tA ta tb):=by
 intro pins s σ H Q I h
 refine wpAny_IfExp (thn (hc pins s σ H _ I h) ?_)
 rintro d s1 ⟨H1,I1,q1⟩
 cases d with
 | true=>exact ha pins s1 σ H1 Q I1 q1
 | false=>exact hb pins s1 σ H1 Q I1 q1
end
def SqL (K:PySem.W.Frag) (H:Hp) (a:Addr) (xs:List V):Prop :=
 Rd H a (.lst xs) \/
  ∃ (o:Obj) (its:Array Value) (n:Nat),K.lookup a=some o/\o.cls=.type "list" /\ o.dict=none/\o.data=.seq its n/\its.size<=sizeLine/\Vals xs its.toList
def SqT (K:PySem.W.Frag) (H:Hp) (a:Addr) (xs:List V):Prop :=
 Rd H a (.tup xs) \/
  ∃ (o:Obj) (its:Array Value) (n:Nat),K.lookup a=some o/\o.cls=.type "tuple" /\ o.data=.seq its n/\its.size<=sizeLine/\Vals xs its.toList
def absV:Value->Option V
 | .none=>some .non
 | .bool b=>some (.bl b)
 | .int i _=>some (.int i)
 | .str x _=>some (.str x)
 | .bytes b _=>some (.byt b)
 | .float b _=>some (.flt b)
 | .ref a=>some (.ref a)
 | .type n=>some (.ty n)
 | _=>none
theorem RelV.abs {x:V} {u:Value} (r:RelV x u):absV u=some x:=by
 cases x with
 | non=>cases r;rfl
 | bl _=>cases r;rfl
 | int _=>obtain ⟨t,rfl⟩:=r;rfl
 | str _=>obtain ⟨t,rfl⟩:=r;rfl
 | byt _=>obtain ⟨t,rfl⟩:=r;rfl
 | flt _=>obtain ⟨t,rfl⟩:=r;rfl
 | ref _=>cases r;rfl
 | ty _=>cases r;rfl
theorem RelV.inj {x y:V} {u:Value} (r:RelV x u) (q:RelV y u):x=y:=zql (r.abs.symm.trans q.abs)
theorem Vals.inj:∀ {xs ys:List V} {us:List Value},Vals xs us->Vals ys us->xs=ys
 | _,_,_,.nil,.nil=>rfl
 | _,_,_,.cons r t,.cons r' t'=>by rw [r.inj r',Vals.inj t t']
section
variable {X:Cx} {pins:List (Addr×Obj)} {σ:St} {H:Hp} {s:Shared} {a:Addr} {xs ys:List V}
theorem SqL.of {K:PySem.W.Frag} (h:H a=some (.lst xs)):SqL K H a xs:=.inl (.inl h)
theorem SqT.of {K:PySem.W.Frag} (h:H a=some (.tup xs)):SqT K H a xs:=.inl (.inl h)
theorem Inv.list (I:Inv X pins σ H s) (h:SqL X.K H a xs):∃ its:List Value,Vals xs its/\PlainL s.heap a its.toArray/\xs.length<=sizeLine:=by
 rcases h with h | ⟨o,its,n,hk,hc,hd,hs,hz,r⟩
 ·obtain ⟨z,its,n,r,e⟩:=h.ok I.hok
  exact ⟨its,r,⟨_,n,e,rfl,rfl,rfl⟩,z⟩
 ·refine ⟨its.toList,r,⟨o,n,I.kIn a o hk,hc,hd,by simpa using hs⟩,?_⟩
  have e:=r.length
  simp only [Array.length_toList] at e
  omega
theorem Inv.tuple (I:Inv X pins σ H s) (h:SqT X.K H a xs):∃ its:List Value,Vals xs its/\IsTup s.heap a its.toArray/\xs.length<=sizeLine:=by
 rcases h with h | ⟨o,its,n,hk,hc,hs,hz,r⟩
 ·obtain ⟨z,its,r,p⟩:=h.ok I.hok
  exact ⟨its,r,p,z⟩
 ·refine ⟨its.toList,r,⟨o,I.kIn a o hk,hc,n,by simpa using hs⟩,?_⟩
  have e:=r.length
  simp only [Array.length_toList] at e
  omega
theorem Inv.list_inj (I:Inv X pins σ H s) (h:SqL X.K H a xs) (h':SqL X.K H a ys):xs=ys:=by
 obtain ⟨its,r,⟨o,n,e,_,_,d⟩,_⟩:=I.list h
 obtain ⟨its',r',⟨o',n',e',_,_,d'⟩,_⟩:=I.list h'
 rw [e] at e';cases e'
 rw [d] at d'
 injection d' with d1 _
 have:its=its':=by simpa using congrArg Array.toList d1
 subst this
 exact r.inj r'
theorem Inv.tuple_inj (I:Inv X pins σ H s) (h:SqT X.K H a xs) (h':SqT X.K H a ys):xs=ys:=by
 obtain ⟨its,r,⟨o,e,_,n,d⟩,_⟩:=I.tuple h
 obtain ⟨its',r',⟨o',e',_,n',d'⟩,_⟩:=I.tuple h'
 rw [e] at e';cases e'
 rw [d] at d'
 injection d' with d1 _
 have:its=its':=by simpa using congrArg Array.toList d1
 subst this
 exact r.inj r'
end
abbrev Cx.wish (X:Cx) (E:Value->Shared->Prop):Cx:={ X with xe:=E }
abbrev Cx.nox (X:Cx):Cx:=X.wish fun _ _=>False
theorem Cx.Ok.wish {X:Cx} (ok:X.Ok) (E:Value->Shared->Prop):(X.wish E).Ok :=
 ⟨ok.mod,ok.kind,ok.glob,ok.blt,ok.above,ok.inj,ok.has,ok.cab,ok.hd,ok.frames,ok.stk,ok.exf,ok.bs,ok.bsz,ok.noex,ok.exfs,ok.funs,ok.frf⟩
theorem Cx.Ok.unwish {X:Cx} {E:Value->Shared->Prop} (ok:(X.wish E).Ok):X.Ok :=
 ⟨ok.mod,ok.kind,ok.glob,ok.blt,ok.above,ok.inj,ok.has,ok.cab,ok.hd,ok.frames,ok.stk,ok.exf,ok.bs,ok.bsz,ok.noex,ok.exfs,ok.funs,ok.frf⟩
section
variable {X:Cx} {pins:List (Addr×Obj)} {σ:St} {H:Hp} {s:Shared} {E:Value->Shared->Prop}
theorem Inv.wish (I:Inv X pins σ H s) (E:Value->Shared->Prop):Inv (X.wish E) pins σ H s:=⟨I.ok.wish E,I.os,I.bare,I.base,I.loc,I.cell,I.free,I.freeC,I.pin,I.hok,I.len⟩
theorem Inv.unwish (I:Inv (X.wish E) pins σ H s):Inv X pins σ H s:=⟨I.ok.unwish,I.os,I.bare,I.base,I.loc,I.cell,I.free,I.freeC,I.pin,I.hok,I.len⟩
theorem SP.unwish {D:Ends} {f:Flow} {s':Shared} (h:SP (X.wish E) pins D f s'):SP X pins D f s':=by
 cases f with
 | next=>obtain ⟨σ',H',I,q⟩:=h;exact ⟨σ',H',I.unwish,q⟩
 | brk=>obtain ⟨σ',H',I,q⟩:=h;exact ⟨σ',H',I.unwish,q⟩
 | cont=>obtain ⟨σ',H',I,q⟩:=h;exact ⟨σ',H',I.unwish,q⟩
 | ret u=>obtain ⟨v,σ',H',I,r,q⟩:=h;exact ⟨v,σ',H',I.unwish,r,q⟩
theorem PSs.nox {st:List Stmt} {t:TS} (h:PSs X.nox st t):PSs X st t:=fun pins s σ H D I hw =>
 wpAny_mono (h pins s σ H D (I.wish _) hw) (fun _ _ q=>q.unwish) fun _ _ z=>False.elim z
end
section
variable {X:Cx} {st:Stmt} {rest:List Stmt} {t u:TS} {e:Expr} {te:TE} {pos:Pos}
def tNext:TS:=fun D σ H=>D.nx σ H
def tSeq (t u:TS):TS:=fun D σ H=>t { D with nx:=u D } σ H
theorem pss_nil:PSs X [] tNext:=fun _ _ σ H _ I h=>wpAny_execs_nil ⟨σ,H,I,h⟩
theorem pss_cons (h1:PS X st t) (h2:PSs X rest u):PSs X (st::rest) (tSeq t u):=by
 intro pins s σ H D I h
 refine wpAny_execs_cons (thn (h1 pins s σ H { D with nx:=u D } I h) fun f s1 q=>?_)
 cases f with
 | next =>
  obtain ⟨σ',H',I',q⟩:=q
  exact h2 pins s1 σ' H' D I' q
 | ret v=>exact q
 | brk=>exact q
 | cont=>exact q
def tBreak:TS:=fun D σ H=>D.bk σ H
def tCont:TS:=fun D σ H=>D.ct σ H
theorem ps_pass:PS X (.Pass pos) tNext:=fun _ _ σ H _ I h=>wpAny_Pass ⟨σ,H,I,h⟩
theorem ps_break:PS X (.Break pos) tBreak:=fun _ _ σ H _ I h=>wpAny_Break ⟨σ,H,I,h⟩
theorem ps_continue:PS X (.Continue pos) tCont:=fun _ _ σ H _ I h=>wpAny_Continue ⟨σ,H,I,h⟩
theorem Inv.quiet {pins:List (Addr×Obj)} {σ:St} {H:Hp} {s:Shared} (I:Inv X pins σ H s):interactive X.env=false:=by simp [interactive,I.ok.kind]
def tDrop (te:TE):TS:=fun D σ H=>te σ H fun _ H1=>D.nx σ H1
theorem ps_expr (he:PE X e te) (hs:swapsWith e none pos.line X.env=pure false:=by rfl):PS X (.Expr e pos) (tDrop te):=by
 intro pins s σ H D I h
 exact wpAny_Expr_any (thn (he pins s σ H _ I h) fun v s1 ⟨x,H1,I1,r1,q1⟩=>⟨σ,H1,I1,q1⟩) I.quiet hs
def tRet (te:TE):TS:=fun D σ H=>te σ H D.rt
theorem ps_ret (he:PE X e te):PS X (.Return (some e) pos) (tRet te):=by
 intro pins s σ H D I h
 exact wpAny_Return_some (thn (he pins s σ H _ I h) fun v s1 ⟨x,H1,I1,r1,q1⟩=>⟨x,σ,H1,I1,r1,q1⟩)
def tRetN:TS:=fun D _ H=>D.rt .non H
theorem ps_retN:PS X (.Return none pos) tRetN:=fun _ _ σ H _ I h=>wpAny_Return_none ⟨.non,σ,H,I,rfl,h⟩
def tIfS (c:TT) (t u:TS):TS:=fun D σ H=>c σ H fun b H1=>if b=true then t D σ H1 else u D σ H1
theorem ps_if {c:Expr} {a b:List Stmt} {tc:TT} (hc:PT X c tc) (ha:PSs X a t) (hb:PSs X b u):PS X (.If c a b pos) (tIfS tc t u):=by
 intro pins s σ H D I h
 refine wpAny_If (thn (hc pins s σ H _ I h) ?_)
 rintro d s1 ⟨H1,I1,q1⟩
 cases d with
 | true=>exact ha pins s1 σ H1 D I1 q1
 | false=>exact hb pins s1 σ H1 D I1 q1
def tNever:TS:=fun _ _ _=>False
theorem ps_never:PS X st tNever:=fun _ _ _ _ _ _ h=>h.elim
end
abbrev TG:=V->St->Hp->(St->Hp->Prop)->Prop
abbrev TGs:=List V->St->Hp->(St->Hp->Prop)->Prop
def PG (X:Cx) (target:Expr) (t:TG):Prop :=
 ∀ (pins:List (Addr×Obj)) (s:Shared) (σ:St) (H:Hp) (v:V) (u:Value) (Q:St->Hp->Prop),Inv X pins σ H s->RelV v u->t v σ H Q ->
  wpAny (model X.prog X.w) X.A (assign target X.env u) (fun _ s'=>∃ σ' H',Inv X pins σ' H' s'/\Q σ' H') X.xe s
def PGs (X:Cx) (ts:List Expr) (t:TGs):Prop :=
 ∀ (pins:List (Addr×Obj)) (s:Shared) (σ:St) (H:Hp) (vs:List V) (us:List Value) (Q:St->Hp->Prop),Inv X pins σ H s->Vals vs us->t vs σ H Q ->
  wpAny (model X.prog X.w) X.A (assignInOrder ((assignEach ts X.env).map (·.2)) us) (fun _ s'=>∃ σ' H',Inv X pins σ' H' s'/\Q σ' H') X.xe s
abbrev TSet:=V->V->V->Hp->(Hp->Prop)->Prop
def PSet (X:Cx) (t:TSet):Prop :=
 ∀ (pins:List (Addr×Obj)) (s:Shared) (σ:St) (H:Hp) (o i v:V) (ov iv u:Value) (Q:Hp->Prop),Inv X pins σ H s->RelV o ov->RelV i iv->RelV v u->t o i v H Q ->
  wpAny (model X.prog X.w) X.A (setItem ov iv u) (fun _ s'=>∃ H',Inv X pins σ H' s'/\Q H') X.xe s
section
variable {X:Cx} {pos:Pos}
def gName (i:Nat):TG:=fun v σ H Q=>Q (σ.set i (some v)) H
theorem pg_name {i:Nat} {x:Str} (hN:X.N.Nodup) (hi:X.N[i]?=some x) (hx:Loc X.env.scope x) (hf:X.fn x=true\/X.env.scope.names.lookup x=some .local:=by first | exact .inl rfl | exact .inr rfl | assumption):PG X (.Name x pos) (gName i):=by
 intro pins s σ H v u Q I r h
 exact wpAny_assign_Name (store_ok I hN hi hx r (fun s' I'=>⟨_,H,I',h⟩) hf)
def gNil:TGs:=fun vs σ H Q=>vs=[]/\Q σ H
def gCons (t:TG) (u:TGs):TGs:=fun vs σ H Q=>∃ v r,vs=v::r/\t v σ H fun σ' H'=>u r σ' H' Q
theorem pgs_nil:PGs X [] gNil:=by
 intro pins s σ H vs us Q I r h
 obtain ⟨e,h⟩:=h
 subst e
 cases r
 exact assignInOrder_nil ⟨σ,H,I,h⟩
theorem pgs_cons {e : Expr} {es : List Expr} {t : TG} {u : TGs} (h1 : PG X e t) (h2 : PGs X es u)
    (hs:(assignEach (e::es) X.env).map (·.2)=assign e X.env::(assignEach es X.env).map (·.2):=by rfl):PGs X (e::es) (gCons t u):=by
  intro pins s σ H vs us Q I r h
  obtain ⟨v,vr,e1,h⟩:=h
  subst e1
  cases r with
  | cons r rr =>
    rw [hs]
    refine assignInOrder_cons (thn (h1 pins s σ H _ _ _ I r h) ?_)
    rintro _ s1 ⟨σ1,H1,I1,q1⟩
    exact h2 pins s1 σ1 H1 _ _ Q I1 rr q1
def gTup (K:PySem.W.Frag) (n:Nat) (t:TGs):TG:=fun v σ H Q=>∃ a xs,v=.ref a/\SqT K H a xs/\xs.length=n/\t xs σ H Q
theorem pg_tup {es : List Expr} {k : Nat} {t : TGs} {n : Nat} (hc : X.calm = true) (h : PGs X es t)
    (hn:(assignEach es X.env).length=n:=by rfl) (hst:(assignEach es X.env).findIdx? (·.1)=none:=by rfl):PG X (.Tuple es k pos) (gTup X.K n t):=by
  intro pins s σ H v u Q I r hw
  obtain ⟨a,xs,e1,hq,hl,hw⟩:=hw
  subst e1
  cases r
  obtain ⟨its,rv,ht,hz⟩:=I.tuple hq
  refine assign_Tuple_tuple (I.ok.hd hc) ht (by simp [hn,<- hl,rv.length]) hst fun h' hx=>?_
  have I1:Inv X pins σ H { s with heap:=h' }:=I.kept (t':=s.toks) fun b o e=>hx b o (Nat.ne_of_lt (Heap.lt_size e)) e
  exact h pins _ σ H xs _ Q I1 (by simpa using rv) hw
def gSub (to ti:TE) (t:TSet):TG:=fun v σ H Q=>to σ H fun o H1=>ti σ H1 fun i H2=>t o i v H2 fun H3=>Q σ H3
theorem pg_sub {o i : Expr} {to ti : TE} {t : TSet} (ho : PE X o to) (hi : PE X i ti) (hs : PSet X t)
    (ha:∀ v,assign (.Subscript o i pos) X.env v=(do
      let ov <- holding [v] (eval o X.env)
      let iv <- holding [v,ov] (eval i X.env)
      standAt pos
      holding [v,ov,iv] (setItem ov iv v)
      release [v,ov,iv] []):=by intro _;rfl):PG X (.Subscript o i pos) (gSub to ti t):=by
  intro pins s σ H v u Q I r h
  rw [ha]
  refine wpAny_bind (wpAny_holding (thn (ho pins s σ H _ I h) ?_))
  rintro ov s1 ⟨x,H1,I1,r1,q1⟩
  refine wpAny_bind (wpAny_holding (thn (hi pins s1 σ H1 _ I1 q1) ?_))
  rintro iv s2 ⟨y,H2,I2,r2,q2⟩
  refine wpAny_bind (wpAny_standAt (wpAny_bind (wpAny_holding (thn (hs pins s2 σ H2 x y v ov iv u _ I2 r1 r2 r q2) ?_))))
  rintro _ s3 ⟨H3,I3,q3⟩
  exact wpAny_release ⟨σ,H3,I3,q3⟩
def tAsg (te:TE) (g:TG):TS:=fun D σ H=>te σ H fun x H1=>g x σ H1 D.nx
theorem ps_asg {tg e : Expr} {te : TE} {g : TG} (he : PE X e te) (hg : PG X tg g) (hs : swapsWithSole [tg] e pos.line X.env = pure false := by rfl) (hw : swappedStores [tg] e X.env = pure none := by rfl)
    (h1:(assignEach [tg] X.env).map (·.2)=[assign tg X.env]:=by rfl):PS X (.Assign [tg] e pos) (tAsg te g):=by
  intro pins s σ H D I h
  refine wpAny_Assign_stores (thn (he pins s σ H _ I h) ?_) hs hw
  rintro v s1 ⟨x,H1,I1,r1,q1⟩
  rw [h1]
  exact thn (hg pins s1 σ H1 x v _ I1 r1 q1) fun _ s2 q=>q
end
structure It where
 go:Nat->Hp->Prop
 yld:Nat->Hp->V->Hp->Prop
 stop:Nat->Hp->Prop
def FpOk (X:Cx) (pins:List (Addr×Obj)) (H:Hp) (b:Addr):Prop :=
 H b=none/\b≠X.env.locals/\b∉X.fs/\(b∈X.ex\/X.s₀.heap.objs.size<=b)/\(∀ x c,X.env.cells.lookup x=some c->c≠b)/\∀ p∈X.pn++pins,p.1≠b
theorem Inv.fpOk {X:Cx} {pins:List (Addr×Obj)} {σ:St} {H H':Hp} {s:Shared} {b:Addr} (I:Inv X pins σ H s) (hb:s.heap.objs.size<=b) (hn:H' b=none):FpOk X pins H' b:=by
 refine ⟨hn,Nat.ne_of_gt (Nat.lt_of_lt_of_le I.lt hb),I.nofs hb,.inr (Nat.le_trans I.sz hb),fun x c e z=>?_,fun p hp z=>?_⟩
 ·obtain ⟨v,q⟩:=I.cell x c e
  exact absurd (Nat.lt_of_lt_of_le q.lt (by rw [z];exact hb)) (Nat.lt_irrefl _)
 ·exact absurd (Nat.lt_of_lt_of_le (Heap.lt_size (I.pin p hp).1) (by rw [z];exact hb)) (Nat.lt_irrefl _)
structure Turn (P:Program) (w:World) (K:PySem.W.Frag) (tg:Expr) (J:It) (fp:List Addr) (it:Addr) (tn:Nat->Heap->Prop):Prop where
 mem:it∈fp
 obj:∀ i h,tn i h->∀ b∈fp,∃ o,h.get? b=some o/\∀ v,o.data≠.cell v
 keep:∀ i h h',tn i h->(∀ b∈fp,∀ o,h.get? b=some o->h'.get? b=some o)->tn i h'
 item:∀ (X:Cx),X.prog=P->X.w=w->X.K=K->X.calm=true->∀ (i:Nat) (pins:List (Addr×Obj)) (s:Shared) (σ:St) (H:Hp) (E:Value->Shared->Prop),Inv X pins σ H s->(∀ b∈fp,FpOk X pins H b)->tn i s.heap->J.go i H ->
  wpAny (model P w) X.A (pyNext (.ref it)) (fun r s1=>∃ u,r=some u /\
   wpAny (model P w) X.A (letOwnedTupleGo tg (.ref it) u) (fun _ s2=>∃ x H',Inv X pins σ H' s2/\RelV x u/\J.yld i H x H'/\tn (i+1) s2.heap/\∀ b∈fp,H' b=none) E s1) E s
 done:∀ (X:Cx),X.prog=P->X.w=w->X.K=K->X.calm=true->∀ (i:Nat) (pins:List (Addr×Obj)) (s:Shared) (σ:St) (H:Hp) (E:Value->Shared->Prop),Inv X pins σ H s->(∀ b∈fp,FpOk X pins H b)->tn i s.heap->J.stop i H ->
  wpAny (model P w) X.A (pyNext (.ref it)) (fun r s1=>r=none/\Inv X pins σ H s1) E s
 self:∀ (A:Around) (i:Nat) (s:Shared) (Q:Value->Shared->Prop) (E:Value->Shared->Prop),tn i s.heap->Q (.ref it) s->wpAny (model P w) A (pyIter (.ref it)) Q E s
abbrev TI:=St->Hp->(It->Hp->Prop)->Prop
def PIE (X:Cx) (pins:List (Addr×Obj)) (σ:St) (tg:Expr) (R:It->Hp->Prop) (itv:Value) (s2:Shared):Prop :=
 ∃ (it:Addr) (fp:List Addr) (tn:Nat->Heap->Prop) (J:It) (H':Hp),itv=.ref it/\Inv X pins σ H' s2/\Turn X.prog X.w X.K tg J fp it tn/\tn 0 s2.heap/\(∀ b∈fp,FpOk X pins H' b)/\R J H'
def PI (X:Cx) (tg iter:Expr) (wi:TI):Prop :=
 ∀ (pins:List (Addr×Obj)) (s:Shared) (σ:St) (H:Hp) (R:It->Hp->Prop),Inv X pins σ H s->wi σ H R ->
  wpAny (model X.prog X.w) X.A (eval iter X.env) (fun v s1=>wpAny (model X.prog X.w) X.A (pyIter v) (PIE X pins σ tg R) X.xe s1) X.xe s
theorem go_of {M : Model} {A : Around} {E : Value -> Shared -> Prop} {s : Shared} {tg : Expr} {it : Addr} {u : Value} {o : Obj} {n : String} {vs : Array Value} {Q : Unit -> Shared -> Prop} (ho : s.heap.get? it = some o) (hc : o.cls = .type n) (hd : o.data = .fields vs)
    (hn:["enumerate","zip","dict_itemiterator","dict_reverseitemiterator","odict_iterator","itertools.zip_longest","itertools.pairwise"].contains n=false) (hQ:Q () s):wpAny M A (letOwnedTupleGo tg (.ref it) u) Q E s:=by
  unfold letOwnedTupleGo
  cases tg <;> first
    | exact wpAny_pure hQ
    | (cases u <;> first
        | exact wpAny_pure hQ
        | (refine wpAny_bind (wpAny_load ho ?_)
           rw [hc,hd]
           show wpAny M A (if (["enumerate","zip","dict_itemiterator","dict_reverseitemiterator","odict_iterator","itertools.zip_longest","itertools.pairwise"].contains n && vs[0]? == some (rawInt _))=true then _ else _) Q E s
           rw [if_neg (by intro h;rw [hn,Bool.false_and] at h;cases h)]
           exact wpAny_pure hQ))
def Itl (K:PySem.W.Frag) (a:Addr):It :=
 ⟨fun i H=>∃ xs x,SqL K H a xs/\xs[i]?=some x,fun i H x H'=>H'=H/\∀ xs,SqL K H a xs->xs[i]?=some x,fun i H=>∃ xs,SqL K H a xs/\xs.length<=i⟩
def Itt (K:PySem.W.Frag) (a:Addr):It :=
 ⟨fun i H=>∃ xs x,SqT K H a xs/\xs[i]?=some x,fun i H x H'=>H'=H/\∀ xs,SqT K H a xs->xs[i]?=some x,fun i H=>∃ xs,SqT K H a xs/\xs.length<=i⟩
def Itr (lo:Int) (n:Nat):It:=⟨fun i _=>i < n,fun i H x H'=>H'=H/\x=.int (lo+i),fun i _=>n<=i⟩
theorem turn_list {P:Program} {w:World} {K:PySem.W.Frag} {tg:Expr} (a it:Addr):Turn P w K tg (Itl K a) [it] it (fun i h=>h.IsListIter it a i) where
 mem:=by simp
 obj:=fun i h st b hb=>by
  have e:b=it:=by simpa using hb
  subst e
  obtain ⟨o,e,c,d⟩:=st
  exact ⟨o,e,fun v z=>by rw [d] at z;cases z⟩
 keep:=fun i h h' st k=>st.at fun o e=>k it (by simp) o e
 item:=by
  intro X hP hw hK hc i pins s σ H E I hf st hg
  subst hP hw hK
  obtain ⟨xs,x,hq,hx⟩:=hg
  obtain ⟨its,rv,p,hz⟩:=I.list hq
  obtain ⟨u,hu,ru⟩:=rv.get hx
  obtain ⟨f0,f1,f2,f3,f4,f5⟩:=hf it (by simp)
  refine wpAny_pyNext_list_item st p.isList (x:=u) (by simpa using hu) fun h' st' sb=>?_
  have I1:Inv X pins σ H { s with heap:=h' }:=I.turned (t':=s.toks) (fun b o hb e=>(sb.2 b hb).trans e) f0 f1 f3 f4 f5
  obtain ⟨o,e,c,d⟩:=id st'
  exact ⟨u,rfl,go_of (s:={ s with heap:=h' }) e c d (by decide) ⟨x,H,I1,ru,⟨rfl,fun ys hy=>by rw [I.list_inj hy hq];exact hx⟩,st',fun b hb=>(hf b hb).1⟩⟩
 done:=by
  intro X hP hw hK hc i pins s σ H E I hf st hg
  subst hP hw hK
  obtain ⟨xs,hq,hx⟩:=hg
  obtain ⟨its,rv,p,hz⟩:=I.list hq
  obtain ⟨f0,f1,f2,f3,f4,f5⟩:=hf it (by simp)
  have hl:=rv.length
  exact wpAny_pyNext_list_end (I.ok.hd hc) st p.isList (by simp;omega) fun h' eb=>⟨rfl,I.turned (t':=s.toks) (fun b o hb e=>eb b o hb e) f0 f1 f3 f4 f5⟩
 self:=fun _ _ _ _ _ st h=>wpAny_pyIter_listiter st h
theorem turn_tuple {P:Program} {w:World} {K:PySem.W.Frag} {tg:Expr} (a it:Addr):Turn P w K tg (Itt K a) [it] it (fun i h=>h.IsTupleIter it a i) where
 mem:=by simp
 obj:=fun i h st b hb=>by
  have e:b=it:=by simpa using hb
  subst e
  obtain ⟨o,e,c,d⟩:=st
  exact ⟨o,e,fun v z=>by rw [d] at z;cases z⟩
 keep:=fun i h h' st k=>st.at fun o e=>k it (by simp) o e
 item:=by
  intro X hP hw hK hc i pins s σ H E I hf st hg
  subst hP hw hK
  obtain ⟨xs,x,hq,hx⟩:=hg
  obtain ⟨its,rv,p,hz⟩:=I.tuple hq
  obtain ⟨u,hu,ru⟩:=rv.get hx
  obtain ⟨f0,f1,f2,f3,f4,f5⟩:=hf it (by simp)
  refine wpAny_pyNext_tuple_item st (show s.heap.IsTuple a its.toArray from p) (x:=u) (by simpa using hu) fun h' st' sb=>?_
  have I1:Inv X pins σ H { s with heap:=h' }:=I.turned (t':=s.toks) (fun b o hb e=>(sb.2 b hb).trans e) f0 f1 f3 f4 f5
  obtain ⟨o,e,c,d⟩:=id st'
  exact ⟨u,rfl,go_of (s:={ s with heap:=h' }) e c d (by decide) ⟨x,H,I1,ru,⟨rfl,fun ys hy=>by rw [I.tuple_inj hy hq];exact hx⟩,st',fun b hb=>(hf b hb).1⟩⟩
 done:=by
  intro X hP hw hK hc i pins s σ H E I hf st hg
  subst hP hw hK
  obtain ⟨xs,hq,hx⟩:=hg
  obtain ⟨its,rv,p,hz⟩:=I.tuple hq
  obtain ⟨f0,f1,f2,f3,f4,f5⟩:=hf it (by simp)
  have hl:=rv.length
  exact wpAny_pyNext_tuple_end (I.ok.hd hc) st (show s.heap.IsTuple a its.toArray from p) (by simp;omega) fun h' eb=>⟨rfl,I.turned (t':=s.toks) (fun b o hb e=>eb b o hb e) f0 f1 f3 f4 f5⟩
 self:=fun _ _ _ _ _ st h=>wpAny_pyIter_tupleiter st h
theorem turn_range {P:Program} {w:World} {K:PySem.W.Frag} {tg:Expr} (it:Addr) (lo:Int) (n:Nat):Turn P w K tg (Itr lo n) [it] it (fun i h=>IsRangeIter h it (lo+(i:Nat) * 1) ((n:Int) - (i:Nat)) 1) where
 mem:=by simp
 obj:=fun i h st b hb=>by
  have e:b=it:=by simpa using hb
  subst e
  exact ⟨_,st,fun v z=>by
   have z':Data.fields _=Data.cell v:=z
   cases z'⟩
 keep:=fun i h h' st k=>k it (by simp) _ st
 item:=by
  intro X hP hw hK hc i pins s σ H E I hf st hg
  subst hP hw hK
  obtain ⟨f0,f1,f2,f3,f4,f5⟩:=hf it (by simp)
  have W:=Walks.range (prog:=X.prog) (w:=X.w) (I.ok.hd hc) it lo 1 n
  refine W.item i s _ _ hg st fun v h' tk hv st' kk=>?_
  obtain ⟨t,rfl⟩:=hv
  have I1:Inv X pins σ H { s with heap:=h',toks:=tk }:=I.turned (fun b o hb e=>kk b o (by simpa using hb) e) f0 f1 f3 f4 f5
  refine ⟨_,rfl,go_of (s:={ s with heap:=h',toks:=tk }) (n := "range_iterator") st' rfl rfl (by decide) ⟨.int (lo+i),H,I1,⟨t,?_⟩,⟨rfl,rfl⟩,st',fun b hb=>(hf b hb).1⟩⟩
  rw [Int.mul_one]
 done:=by
  intro X hP hw hK hc i pins s σ H E I hf st hg
  subst hP hw hK
  obtain ⟨f0,f1,f2,f3,f4,f5⟩:=hf it (by simp)
  exact wpAny_pyNext_range_end (I.ok.hd hc) st (by have:n<=i:=hg;omega) fun h' eb=>⟨rfl,I.turned (t':=s.toks) (fun b o hb e=>eb b o hb e) f0 f1 f3 f4 f5⟩
 self:=fun _ _ _ _ _ st h=>wpAny_pyIter_rangeiter st h
section
variable {X:Cx} {tg:Expr}
def iList (K:PySem.W.Frag) (tl:TE):TI:=fun σ H R=>tl σ H fun x H1=>∃ a,x=.ref a/\(∃ xs,SqL K H1 a xs)/\R (Itl K a) H1
def iTup (K:PySem.W.Frag) (tl:TE):TI:=fun σ H R=>tl σ H fun x H1=>∃ a,x=.ref a/\(∃ xs,SqT K H1 a xs)/\R (Itt K a) H1
theorem pi_list {l:Expr} {tl:TE} (hl:PE X l tl):PI X tg l (iList X.K tl):=by
 intro pins s σ H R I h
 refine thn (hl pins s σ H _ I h) ?_
 rintro v s1 ⟨x,H1,I1,r1,q1⟩
 obtain ⟨a,e,⟨xs,hq⟩,q⟩:=q1
 subst e
 cases r1
 obtain ⟨its,rv,p,hz⟩:=I1.list hq
 refine wpAny_pyIter_list p.isList ?_
 refine ⟨s1.heap.objs.size,[s1.heap.objs.size],_,_,H1,rfl,I1.kept (t':=s1.toks) fun b o e=>zqc _ e,turn_list a _,⟨_,zqn _ rfl,rfl,rfl⟩,fun b hb=>?_,q⟩
 have e:b=s1.heap.objs.size:=by simpa using hb
 subst e
 exact I1.fpOk (zqg _) (I1.hok.fresh (zqg _))
theorem pi_tup {l:Expr} {tl:TE} (hl:PE X l tl):PI X tg l (iTup X.K tl):=by
 intro pins s σ H R I h
 refine thn (hl pins s σ H _ I h) ?_
 rintro v s1 ⟨x,H1,I1,r1,q1⟩
 obtain ⟨a,e,⟨xs,hq⟩,q⟩:=q1
 subst e
 cases r1
 obtain ⟨its,rv,p,hz⟩:=I1.tuple hq
 refine wpAny_pyIter_tuple (show s1.heap.IsTuple a its.toArray from p) ?_
 refine ⟨s1.heap.objs.size,[s1.heap.objs.size],_,_,H1,rfl,I1.kept (t':=s1.toks) fun b o e=>zqc _ e,turn_tuple a _,⟨_,zqn _ rfl,rfl,rfl⟩,fun b hb=>?_,q⟩
 have e:b=s1.heap.objs.size:=by simpa using hb
 subst e
 exact I1.fpOk (zqg _) (I1.hok.fresh (zqg _))
theorem range_it {pins : List (Addr × Obj)} {σ : St} {H : Hp} {s : Shared} {R : It -> Hp -> Prop} {E : Value -> Shared -> Prop} {lo hi : Int} {t u v : Tok} {tk : Nat} (I : Inv X pins σ H s) (h1 : -(2 ^ 62) <= lo) (h2 : lo < 2 ^ 62) (h3 : -(2 ^ 62) <= hi) (h4 : hi < 2 ^ 62)
    (q:R (Itr lo (hi - lo).toNat) H):wpAny (model X.prog X.w) X.A (pyIter (.ref s.heap.objs.size)) (PIE X pins σ tg R) E { s with heap:=s.heap.push { cls:=.type "range",data:=.fields #[.int lo t,.int hi u,.int 1 v] },toks:=tk }:=by
  refine wpAny_pyIter_range (IsRange.new ..) (small_one h1 h2 h3 h4) ?_
  have I1:Inv X pins σ H { s with heap:=s.heap.push { cls:=.type "range",data:=.fields #[.int lo t,.int hi u,.int 1 v] },toks:=tk }:=I.kept fun b o e=>zqc _ e
  refine ⟨(s.heap.push { cls:=.type "range",data:=.fields #[.int lo t,.int hi u,.int 1 v] }).objs.size,[(s.heap.push { cls:=.type "range",data:=.fields #[.int lo t,.int hi u,.int 1 v] }).objs.size],_,_,H,rfl,
    I1.kept (t':=tk) fun b o e=>zqc _ e,turn_range _ lo (hi - lo).toNat,?_,fun b hb=>?_,q⟩
  · have e1:lo+((0:Nat):Int) * 1=lo:=by simp
    have e2:(((hi - lo).toNat:Nat):Int) - ((0:Nat):Int)=Builtin.Range.rangeSize lo hi 1:=by rw [rangeSize_one];split <;> omega
    show IsRangeIter _ _ (lo+((0:Nat):Int) * 1) ((((hi - lo).toNat:Nat):Int) - ((0:Nat):Int)) 1
    rw [e1,e2]
    exact zqn _ rfl
  · have e:b=(s.heap.push { cls:=.type "range",data:=.fields #[.int lo t,.int hi u,.int 1 v] }).objs.size:=by simpa using hb
    subst e
    exact I1.fpOk (zqg _) (I1.hok.fresh (zqg _))
def iRng1 (ta:TA):TI:=fun σ H R=>ta σ H fun vs H1=>∃ j:Int,vs=[.int j]/\-(2 ^ 62)<=j/\j < 2 ^ 62/\R (Itr 0 j.toNat) H1
theorem pi_range1 {a:Expr} {ta:TA} {p pos:Pos} (hg:Gl X "range") (hm:X.mg "range" = none) (ha:PA X [a] ta) (hs:starEach [a] X.env=[(false,eval a X.env)]:=by rfl):PI X tg (.Call (.Name "range" p) [a] [] pos) (iRng1 ta):=by
 intro pins s σ H R I h
 refine Call_ (ld_blt I hg hm boot_range (PyProof.Rows.callWith_type1 (thn (ha pos pins s σ H _ I h) ?_) hs rfl))
 rintro us s1 ⟨vs,H1,I1,r1,q1⟩
 obtain ⟨j,e,q1,q2,q⟩:=q1
 subst e
 cases r1 with
 | cons r rr =>
  cases rr
  obtain ⟨t,rfl⟩:=r
  exact call_range_1 (range_it I1 (by omega) (by omega) q1 q2 (by simpa using q))
def tFor (wi:TI) (g:TG) (tb:TS):TS:=fun D σ H=>wi σ H fun J H1=>∃ W:Nat->Nat->St->Hp->Prop,(∃ m,W 0 m σ H1)/\∀ i m σ H,W i m σ H ->
 (J.stop i H/\D.nx σ H)\/(J.go i H/\∃ N:St->Hp->Prop,(∀ σ' H',N σ' H'->∃ m',m' < m/\W (i+1) m' σ' H')/\∀ x H',J.yld i H x H'->g x σ H' fun σ2 H2=>tb { D with nx:=N,ct:=N,bk:=D.nx } σ2 H2)
def pinsAt (fp:List Addr) (h:Heap):List (Addr×Obj):=fp.filterMap fun b=>(h.get? b).map fun o=>(b,o)
theorem mem_pinsAt {fp:List Addr} {h:Heap} {b:Addr} {o:Obj} (hb:b∈fp) (e:h.get? b=some o):(b,o)∈pinsAt fp h:=List.mem_filterMap.mpr ⟨b,hb,by rw [e];rfl⟩
theorem of_pinsAt {fp:List Addr} {h:Heap} {p:Addr×Obj} (hp:p∈pinsAt fp h):p.1∈fp/\h.get? p.1=some p.2:=by
 obtain ⟨b,hb,e⟩:=List.mem_filterMap.mp hp
 cases q:h.get? b with
 | none=>rw [q] at e;cases e
 | some o =>
  rw [q] at e
  have e':(b,o)=p:=zql e
  subst e'
  exact ⟨hb,q⟩
theorem Inv.pinned {pins:List (Addr×Obj)} {σ:St} {H:Hp} {s:Shared} {fp:List Addr} (I:Inv X pins σ H s) (hf:∀ b∈fp,FpOk X pins H b) (ho:∀ b∈fp,∃ o,s.heap.get? b=some o/\∀ v,o.data≠.cell v):Inv X (pins++pinsAt fp s.heap) σ H s :=
 I.pins_of fun p hp=>(zqr.mp hp).elim (fun z=>I.pin p (List.mem_append_right _ z)) fun z=>by
  obtain ⟨hb,e⟩:=of_pinsAt z
  obtain ⟨f0,f1,f2,_⟩:=hf p.1 hb
  obtain ⟨o,e',d⟩:=ho p.1 hb
  rw [e] at e';cases e'
  exact ⟨e,f0,f1,f2,d⟩
theorem Inv.unpinned {pins pl:List (Addr×Obj)} {σ:St} {H:Hp} {s:Shared} (I:Inv X (pins++pl) σ H s):Inv X pins σ H s:=I.pins_of fun p hp=>I.pin p (List.mem_append_right _ (List.mem_append_left _ hp))
theorem ps_for {iter : Expr} {body : List Stmt} {wi : TI} {g : TG} {tb : TS} {pos : Pos} (hp : PassesOwn (model X.prog X.w) X.A X.env X.xe) (hc : X.calm = true) (hi : PI X tg iter wi) (hg : PG X tg g) (hb : PSs X body tb)
    (hs:∀ x,foldedSetIterable iter X.env x=pure x:=by intro _;rfl):PS X (.For tg iter body [] pos) (tFor wi g tb):=by
  intro pins s σ H D I h
  refine wpAny_For (thn (hi pins s σ H _ I h) fun v s1 h1=>thn h1 fun itv s2 h2=>?_) hs
  obtain ⟨it,fp,tn,J,H2,e,I2,T,st2,f2,W,⟨m0,w0⟩,turn⟩:=h2
  subst e
  have stat:∀ {H':Hp},(∀ b∈fp,H' b=none)->∀ b∈fp,FpOk X pins H' b:=fun hn b hb=>⟨hn b hb,(f2 b hb).2⟩
  refine codeAny_forLoop_any (fun n s'=>∃ i σ' H',Inv X pins σ' H' s'/\tn i s'.heap/\(∀ b∈fp,H' b=none)/\W i n σ' H') ?_ m0 ⟨0,σ,H2,I2,st2,fun b hb=>(f2 b hb).1,w0⟩
  rintro n s3 ⟨i,σ3,H3,I3,st3,fr3,w3⟩
  rcases turn i n σ3 H3 w3 with ⟨stop,qn⟩|⟨go,N,hN,step⟩
  · refine wpAny_passesOwn hp (thn (T.done X rfl rfl rfl hc i pins s3 σ3 H3 X.xe I3 (stat fr3) st3 stop) ?_)
    rintro r s4 ⟨rfl,I4⟩
    exact wpAny_execs_nil ⟨σ3,H3,I4,qn⟩
  · refine wpAny_passesOwn hp (thn (T.item X rfl rfl rfl hc i pins s3 σ3 H3 X.xe I3 (stat fr3) st3 go) ?_)
    rintro r s4 ⟨u,rfl,h4⟩
    refine wpAny_passesOwn hp (thn h4 ?_)
    rintro _ s5 ⟨x,H5,I5,r5,y5,st5,fr5⟩
    have I5':=I5.pinned (stat fr5) (T.obj _ _ st5)
    refine wpAny_passesOwn hp (thn (hg _ s5 σ3 H5 x u _ I5' r5 (step x H5 y5)) ?_)
    rintro _ s6 ⟨σ6,H6,I6,q6⟩
    refine wpAny_passesOwn hp (thn (hb _ s6 σ6 H6 _ I6 q6) fun f s7 q7=>?_)
    have again:∀ {σ7:St} {H7:Hp},Inv X (pins++pinsAt fp s5.heap) σ7 H7 s7->N σ7 H7->∃ m,m < n/\∃ i σ' H',Inv X pins σ' H' s7/\tn i s7.heap/\(∀ b∈fp,H' b=none)/\W i m σ' H':=fun {σ7 H7} I7 n7=>by
      obtain ⟨m',hm,w7⟩:=hN σ7 H7 n7
      refine ⟨m',hm,i+1,σ7,H7,I7.unpinned,T.keep _ _ _ st5 fun b hb o e=>(I7.pin (b,o) (List.mem_append_right _ (List.mem_append_right _ (mem_pinsAt hb e)))).1,fun b hb=>?_,w7⟩
      obtain ⟨o,e,d⟩:=T.obj _ _ st5 b hb
      exact (I7.pin (b,o) (List.mem_append_right _ (List.mem_append_right _ (mem_pinsAt hb e)))).2.1
    cases f with
    | next=>obtain ⟨σ7,H7,I7,n7⟩:=q7;exact again I7 n7
    | cont=>obtain ⟨σ7,H7,I7,n7⟩:=q7;exact again I7 n7
    | brk=>obtain ⟨σ7,H7,I7,q7⟩:=q7;exact ⟨σ7,H7,I7.unpinned,q7⟩
    | ret v=>obtain ⟨x7,σ7,H7,I7,r7,q7⟩:=q7;exact ⟨x7,σ7,H7,I7.unpinned,r7,q7⟩
end
abbrev R2:=V->V->Hp->VK->Prop
def OpR (X:Cx) (f:Value->Value->Sem Value) (r:R2):Prop :=
 ∀ (pins:List (Addr×Obj)) (s:Shared) (σ:St) (H:Hp) (x y:V) (v u:Value) (Q:VK),Inv X pins σ H s->RelV x v->RelV y u->r x y H Q ->
  wpAny (model X.prog X.w) X.A (f v u) (EP X pins σ Q) X.xe s
def UnR (X:Cx) (f:Value->Sem Value) (r:V->Hp->VK->Prop):Prop :=
 ∀ (pins:List (Addr×Obj)) (s:Shared) (σ:St) (H:Hp) (x:V) (v:Value) (Q:VK),Inv X pins σ H s->RelV x v->r x H Q ->
  wpAny (model X.prog X.w) X.A (f v) (EP X pins σ Q) X.xe s
def CallR (X:Cx) (f:Value) (r:List V->Hp->VK->Prop):Prop :=
 ∀ (pins:List (Addr×Obj)) (s:Shared) (σ:St) (H:Hp) (xs:List V) (us:List Value) (Q:VK),Inv X pins σ H s->Vals xs us->r xs H Q ->
  wpAny (model X.prog X.w) X.A (call f us) (EP X pins σ Q) X.xe s
def TruR (X:Cx) (r:V->Hp->(Bool->Hp->Prop)->Prop):Prop :=
 ∀ (pins:List (Addr×Obj)) (s:Shared) (σ:St) (H:Hp) (x:V) (v:Value) (Q:Bool->Hp->Prop),Inv X pins σ H s->RelV x v->r x H Q ->
  wpAny (model X.prog X.w) X.A (truthy v) (TP X pins σ Q) X.xe s
def tOp (r:R2) (ta tb:TE):TE:=fun σ H Q=>ta σ H fun x H1=>tb σ H1 fun y H2=>r x y H2 Q
def tUn (r:V->Hp->VK->Prop) (ta:TE):TE:=fun σ H Q=>ta σ H fun x H1=>r x H1 Q
def rI (C:Int->Int->Prop) (g:Int->Int->V):R2:=fun x y H Q=>∃ i j,x=.int i/\y=.int j/\C i j/\Q (g i j) H
def rI0 (g:Int->Int->V):R2:=fun x y H Q=>∃ i j,x=.int i/\y=.int j/\Q (g i j) H
def rU (g:Int->V):V->Hp->VK->Prop:=fun x H Q=>∃ i,x=.int i/\Q (g i) H
section
variable {X:Cx} {a b c:Expr} {ta tb tc:TE} {pos:Pos}
theorem binT (ha : PE X a ta) (hb : PE X b tb) {pins : List (Addr × Obj)} {s : Shared} {σ : St} {H : Hp} {R : V -> V -> Hp -> Prop} (I : Inv X pins σ H s)
    (h:ta σ H fun x H1=>tb σ H1 fun y H2=>R x y H2) {Q:Value->Shared->Prop} {f:Value->Value->Sem Value}
    (hf:∀ v u s2 x y H2,Inv X pins σ H2 s2->RelV x v->RelV y u->R x y H2->wpAny (model X.prog X.w) X.A (f v u) Q X.xe s2) :
    wpAny (model X.prog X.w) X.A (eval a X.env) (fun v s₁=>wpAny (model X.prog X.w) X.A (eval b X.env) (fun u s₂=>wpAny (model X.prog X.w) X.A (f v u) Q X.xe s₂) X.xe s₁) X.xe s:=by
  refine thn (ha pins s σ H _ I h) ?_
  rintro v s1 ⟨x,H1,I1,r1,q1⟩
  refine thn (hb pins s1 σ H1 _ I1 q1) ?_
  rintro u s2 ⟨y,H2,I2,r2,q2⟩
  exact hf v u s2 x y H2 I2 r1 r2 q2
theorem pe_op {op:Operator} {r:R2} (ho:OpR X (binaryOp op) r) (ha:PE X a ta) (hb:PE X b tb):PE X (.BinOp a op b pos) (tOp r ta tb):=by
 intro pins s σ H Q I h
 exact wpAny_BinOp (binT ha hb I h fun v u s2 x y H2 I2 rx ry q=>ho pins s2 σ H2 x y v u Q I2 rx ry q)
theorem pe_un {op:UnaryOp} {r:V->Hp->VK->Prop} (ho:UnR X (unaryOp op) r) (ha:PE X a ta):PE X (.UnaryOp op a pos) (tUn r ta):=by
 intro pins s σ H Q I h
 exact UnaryOp_ (thn (ha pins s σ H _ I h) fun v s1 ⟨x,H1,I1,r1,q1⟩=>ho pins s1 σ H1 x v Q I1 r1 q1)
theorem opI {f : Value -> Value -> Sem Value} {C : Int -> Int -> Prop} {g : Int -> Int -> Int}
    (rule:∀ (i j:Int) (t u:Tok) (s:Shared) (Q:Value->Shared->Prop) (E:Value->Shared->Prop),C i j->Q (.int (g i j) s.toks) { s with toks:=s.toks+1 }->wpAny (model X.prog X.w) X.A (f (.int i t) (.int j u)) Q E s) :
    OpR X f (rI C fun i j=>.int (g i j)):=by
  intro pins s σ H x y v u Q I rx ry h
  obtain ⟨i,j,rfl,rfl,hc,q⟩:=h
  obtain ⟨t,rfl⟩:=rx
  obtain ⟨t',rfl⟩:=ry
  exact rule i j t t' s _ _ hc ⟨.int (g i j),H,I.tok _,⟨_,rfl⟩,q⟩
theorem opI0 {f : Value -> Value -> Sem Value} {g : Int -> Int -> Int}
    (rule:∀ (i j:Int) (t u:Tok) (s:Shared) (Q:Value->Shared->Prop) (E:Value->Shared->Prop),Q (.int (g i j) s.toks) { s with toks:=s.toks+1 }->wpAny (model X.prog X.w) X.A (f (.int i t) (.int j u)) Q E s) :
    OpR X f (rI0 fun i j=>.int (g i j)):=by
  intro pins s σ H x y v u Q I rx ry h
  obtain ⟨i,j,rfl,rfl,q⟩:=h
  obtain ⟨t,rfl⟩:=rx
  obtain ⟨t',rfl⟩:=ry
  exact rule i j t t' s _ _ ⟨.int (g i j),H,I.tok _,⟨_,rfl⟩,q⟩
theorem opB0 {f : Value -> Value -> Sem Value} {g : Int -> Int -> Bool}
    (rule:∀ (i j:Int) (t u:Tok) (s:Shared) (Q:Value->Shared->Prop) (E:Value->Shared->Prop),Q (.bool (g i j)) s->wpAny (model X.prog X.w) X.A (f (.int i t) (.int j u)) Q E s) :
    OpR X f (rI0 fun i j=>.bl (g i j)):=by
  intro pins s σ H x y v u Q I rx ry h
  obtain ⟨i,j,rfl,rfl,q⟩:=h
  obtain ⟨t,rfl⟩:=rx
  obtain ⟨t',rfl⟩:=ry
  exact rule i j t t' s _ _ ⟨.bl (g i j),H,I,rfl,q⟩
def CDiv (i j:Int):Prop:=0 < j/\j < 1073741824
def CPow (i j:Int):Prop:=0<=j/\j<=1000000/\i.natAbs < 2 ^ 64
def CMul (i j:Int):Prop:=(-(2 ^ 64) < i/\i < 2 ^ 64)\/(-(2 ^ 64) < j/\j < 2 ^ 64)
theorem CMul.ok {i j:Int} (h:CMul i j):IntMulOk i j:=by
 rcases h with ⟨h1,h2⟩|⟨h1,h2⟩
 ·exact .of_left (intBits_le_64 h1 h2)
 ·exact .of_right (intBits_le_64 h1 h2)
theorem op_add:OpR X (binaryOp .Add) (rI0 fun i j=>.int (i+j)):=opI0 fun _ _ _ _ _ _ _ q=>add_int q
theorem op_sub:OpR X (binaryOp .Sub) (rI0 fun i j=>.int (i - j)):=opI0 fun _ _ _ _ _ _ _ q=>sub_int q
theorem op_mul:OpR X (binaryOp .Mult) (rI CMul fun i j=>.int (i * j)):=opI fun _ _ _ _ _ _ _ hc q=>mul_int q hc.ok
theorem op_fdiv:OpR X (binaryOp .FloorDiv) (rI CDiv fun i j=>.int (i / j)):=opI fun i j _ _ _ _ _ hc q=>by
 have h1:(0:Int) < j:=hc.1
 have h2:j < 1073741824:=hc.2
 exact floordiv_int (by omega) (by rw [Int.fdiv_eq_ediv_of_nonneg i (by omega)];exact q) (.inl (PyProof.noPylong_small (by omega)))
theorem op_mod:OpR X (binaryOp .Mod) (rI (fun _ j=>0 < j) fun i j=>.int (i % j)):=opI fun i j _ _ _ _ _ hc q=>by
 have h1:(0:Int) < j:=hc
 exact mod_int' (by omega) (by rw [Int.fmod_eq_emod_of_nonneg i (by omega)];exact q)
theorem op_pow:OpR X (binaryOp .Pow) (rI CPow fun i j=>.int (i ^ j.toNat)):=opI fun _ _ _ _ _ _ _ hc q=>pow_int_small hc.1 hc.2.1 hc.2.2 q
theorem unI {f : Value -> Sem Value} {g : Int -> Int}
    (rule:∀ (i:Int) (t:Tok) (s:Shared) (Q:Value->Shared->Prop) (E:Value->Shared->Prop),Q (.int (g i) s.toks) { s with toks:=s.toks+1 }->wpAny (model X.prog X.w) X.A (f (.int i t)) Q E s) :
    UnR X f (rU fun i=>.int (g i)):=by
  intro pins s σ H x v Q I rx h
  obtain ⟨i,rfl,q⟩:=h
  obtain ⟨t,rfl⟩:=rx
  exact rule i t s _ _ ⟨.int (g i),H,I.tok _,⟨_,rfl⟩,q⟩
theorem un_neg:UnR X (unaryOp .USub) (rU fun i=>.int (-i)):=unI fun _ _ _ _ _ q=>neg_int q
end
section
variable {X:Cx} {a b c:Expr} {ta tb tc:TE} {pos:Pos}
theorem fin_bl {pins:List (Addr×Obj)} {σ:St} {H:Hp} {s:Shared} {Q:VK} {k k':Bool} (I:Inv X pins σ H s) (q:Q (.bl k) H) (e:k=k'):EP X pins σ Q (.bool k') s:=by
 subst e
 exact ⟨.bl k,H,I,rfl,q⟩
theorem op_lt:OpR X (compareOp .Lt) (rI0 fun i j=>.bl (decide (i < j))):=opB0 fun _ _ _ _ _ _ _ q=>lt_int q
theorem op_le:OpR X (compareOp .LtE) (rI0 fun i j=>.bl (decide (i<=j))):=opB0 fun _ _ _ _ _ _ _ q=>le_int q
theorem op_gt:OpR X (compareOp .Gt) (rI0 fun i j=>.bl (decide (j < i))):=opB0 fun _ _ _ _ _ _ _ q=>gt_int q
theorem op_ge:OpR X (compareOp .GtE) (rI0 fun i j=>.bl (decide (j<=i))):=opB0 fun _ _ _ _ _ _ _ q=>ge_int q
theorem op_lt_str:OpR X (compareOp .Lt) (fun x y H Q=>∃ i j,x=.str i/\y=.str j/\Q (.bl (decide (i.cps.toList < j.cps.toList))) H):=by
 intro pins s σ H x y v u Q I rx ry h
 obtain ⟨i,j,rfl,rfl,q⟩:=h
 obtain ⟨t,rfl⟩:=rx
 obtain ⟨t',rfl⟩:=ry
 exact lt_str (fin_bl I q rfl)
theorem op_isN:OpR X (compareOp .Is) (fun x y H Q=>y=.non/\Q (.bl (decide (x=.non))) H):=by
 intro pins s σ H x y v u Q I rx ry h
 obtain ⟨rfl,q⟩:=h
 cases ry
 refine is_none_gen (fin_bl I q ?_)
 cases x <;> first
  | (cases rx;rfl)
  | (obtain ⟨t,rfl⟩:=rx;rfl)
theorem op_notN:OpR X (compareOp .IsNot) (fun x y H Q=>y=.non/\Q (.bl (!decide (x=.non))) H):=by
 intro pins s σ H x y v u Q I rx ry h
 obtain ⟨rfl,q⟩:=h
 cases ry
 refine isnot_none_gen (fin_bl I q ?_)
 cases x <;> first
  | (cases rx;rfl)
  | (obtain ⟨t,rfl⟩:=rx;rfl)
theorem pe_cmpR {op:CmpOp} {r:R2} (ho:OpR X (compareOp op) r) (ha:PE X a ta) (hb:PE X b tb) (hm:behindInMarks op b=false):PE X (.Compare a [op] [b] pos) (tOp r ta tb):=by
 intro pins s σ H Q I h
 exact wpAny_Compare1 (binT ha hb I h fun v u s2 x y H2 I2 rx ry q=>ho pins s2 σ H2 x y v u Q I2 rx ry q) hm
def tTest (t:TE):TT:=fun σ H Q=>t σ H fun x H'=>∃ k,x=.bl k/\Q k H'
theorem pt_cmpR {op:CmpOp} {r:R2} (ho:OpR X (compareOp op) r) (ha:PE X a ta) (hb:PE X b tb) (hm:behindInMarks op b=false):PT X (.Compare a [op] [b] pos) (tTest (tOp r ta tb)):=by
 intro pins s σ H Q I h
 refine wpAny_isTrue_Compare1 (thn (ha pins s σ H _ I h) fun v s1 ⟨x,H1,I1,r1,q1⟩=>thn (hb pins s1 σ H1 _ I1 q1) fun u s2 ⟨y,H2,I2,r2,q2⟩ =>
  thn (ho pins s2 σ H2 x y v u _ I2 r1 r2 q2) fun c s3 ⟨z,H3,I3,r3,k,e,q3⟩=>?_) hm
 subst e
 cases r3
 exact wpAny_truthy_bool ⟨H3,I3,q3⟩
def tChain (r r':R2) (ta tb tc:TE):TE:=fun σ H Q=>ta σ H fun x H1=>tb σ H1 fun y H2=>r x y H2 fun z H3=>∃ k,z=.bl k /\
 (if k=true then tc σ H3 fun w' H4=>r' y w' H4 Q else Q (.bl false) H3)
theorem pe_chain {op op' : CmpOp} {r r' : R2} (ho : OpR X (compareOp op) r) (ho' : OpR X (compareOp op') r') (ha : PE X a ta) (hb : PE X b tb) (hc : PE X c tc)
    (hm:lastMarks [op,op'] [b,c]=false:=by with_unfolding_all rfl):PE X (.Compare a [op,op'] [b,c] pos) (tChain r r' ta tb tc):=by
  intro pins s σ H Q I h
  refine Compare_chain (thn (ha pins s σ H _ I h) fun v s1 ⟨x,H1,I1,r1,q1⟩=>chain_link (thn (hb pins s1 σ H1 _ I1 q1) fun u s2 ⟨y,H2,I2,r2,q2⟩ =>
    thn (ho pins s2 σ H2 x y v u _ I2 r1 r2 q2) fun d s3 ⟨z,H3,I3,r3,k,e,q3⟩=>?_)) hm
  subst e
  cases r3
  refine wpAny_truthy_bool ?_
  cases k with
  | false=>exact ite_ff ⟨.bl false,H3,I3,rfl,q3⟩
  | true=>exact ite_tt (chain_last (thn (hc pins s3 σ H3 _ I3 q3) fun w' s4 ⟨z',H4,I4,r4,q4⟩=>ho' pins s4 σ H4 y z' u w' Q I4 r2 r4 q4))
theorem pt_chain {op op' : CmpOp} {r r' : R2} (ho : OpR X (compareOp op) r) (ho' : OpR X (compareOp op') r') (ha : PE X a ta) (hb : PE X b tb) (hc : PE X c tc)
    (hm:lastMarks [op,op'] [b,c]=false:=by with_unfolding_all rfl):PT X (.Compare a [op,op'] [b,c] pos) (tTest (tChain r r' ta tb tc)):=by
  intro pins s σ H Q I h
  refine isTrue_chain (thn (ha pins s σ H _ I h) fun v s1 ⟨x,H1,I1,r1,q1⟩=>test_link (thn (hb pins s1 σ H1 _ I1 q1) fun u s2 ⟨y,H2,I2,r2,q2⟩ =>
    thn (ho pins s2 σ H2 x y v u _ I2 r1 r2 q2) fun d s3 ⟨z,H3,I3,r3,k,e,q3⟩=>?_)) hm
  subst e
  cases r3
  refine wpAny_truthy_bool ?_
  cases k with
  | false =>
    obtain ⟨k',e',q'⟩:=q3
    cases e'
    exact ite_ff ⟨H3,I3,q'⟩
  | true =>
    refine ite_tt (test_last (thn (hc pins s3 σ H3 _ I3 q3) fun w' s4 ⟨z',H4,I4,r4,q4⟩=>thn (ho' pins s4 σ H4 y z' u w' _ I4 r2 r4 q4) fun d' s5 ⟨z2,H5,I5,r5,k2,e2,q5⟩=>?_))
    subst e2
    cases r5
    exact wpAny_truthy_bool ⟨H5,I5,q5⟩
def TruV (K:PySem.W.Frag) (x:V) (H:Hp) (k:Bool):Prop :=
 match x with
 | .non=>k=false
 | .bl b=>k=b
 | .int i=>k=(i != 0)
 | .str y=>y.length<=sizeLine/\k=((y.length:Int) != 0)
 | .byt y=>y.size<=sizeLine/\k=((y.size:Int) != 0)
 | .ref p=>(∃ xs,SqL K H p xs/\k=!xs.isEmpty)\/(∃ xs,SqT K H p xs/\k=!xs.isEmpty)\/∃ kvs,H p=some (.dK kvs)/\k=!kvs.isEmpty
 | _=>False
theorem isEmpty_kv {κ:Type} {kvs:List (κ×V)} {vs:List (κ×Value)} (r:KV kvs vs):(!vs.isEmpty)=!kvs.isEmpty:=by
 cases r <;> rfl
theorem isEmpty_of {xs:List V} {its:List Value} (r:Vals xs its):(!its.toArray.isEmpty)=!xs.isEmpty:=by
 cases r <;> simp
theorem line63:(sizeLine:Nat) < 2 ^ 63:=by rw [sizeLine_eq];decide
theorem tru_ok:TruR X (fun x H Q=>∃ k,TruV X.K x H k/\Q k H):=by
 intro pins s σ H x v Q I rx h
 obtain ⟨k,e,q⟩:=h
 have hl:=line63
 have hs:sizeLine=16777216:=sizeLine_eq
 cases x with
 | non =>
  cases rx
  have e':k=false:=e
  subst e'
  exact truthy_none ⟨H,I,q⟩
 | bl b =>
  cases rx
  have e':k=b:=e
  subst e'
  exact wpAny_truthy_bool ⟨H,I,q⟩
 | int i =>
  obtain ⟨t,rfl⟩:=rx
  have e':k=(i != 0):=e
  subst e'
  exact PySem.P.truthy_int ⟨H,I,q⟩
 | str y =>
  obtain ⟨t,rfl⟩:=rx
  obtain ⟨hy,e'⟩:y.length<=sizeLine/\k=((y.length:Int) != 0):=e
  subst e'
  exact PySem.P.truthy_str (by omega) ⟨H,I.tok _,q⟩
 | byt y =>
  obtain ⟨t,rfl⟩:=rx
  obtain ⟨hy,e'⟩:y.size<=sizeLine/\k=((y.size:Int) != 0):=e
  subst e'
  exact PySem.W.truthy_bytes (by omega) ⟨H,I.tok _,q⟩
 | ref p =>
  cases rx
  have e':(∃ xs,SqL X.K H p xs/\k=!xs.isEmpty)\/(∃ xs,SqT X.K H p xs/\k=!xs.isEmpty)\/∃ kvs,H p=some (.dK kvs)/\k=!kvs.isEmpty:=e
  rcases e' with ⟨xs,hx,e'⟩|⟨xs,hx,e'⟩|⟨kvs,hx,e'⟩
  ·subst e'
   obtain ⟨its,r,pl,hz⟩:=I.list hx
   have hlen:=r.length
   exact wpAny_truthy_list pl.isList (by simp only [zqq];omega) ⟨H,I.tok _,by rw [isEmpty_of r];exact q⟩
  ·subst e'
   obtain ⟨its,r,pl,hz⟩:=I.tuple hx
   have hlen:=r.length
   exact truthy_tuple pl (by simp only [zqq];omega) ⟨H,I.tok _,by rw [isEmpty_of r];exact q⟩
  ·subst e'
   obtain ⟨hz,hS,vs,r,m⟩:kvs.length<=sizeLine/\(p == sysModules)=false/\∃ vs,KV kvs vs/\s.heap.DictOf (mixKind X.prog X.w) p vs:=I.hok p _ hx
   have hlen:kvs.length=vs.length:=Paired.length r
   exact wpAny_truthy_dict hS m (by omega) ⟨H,I.tok _,by rw [isEmpty_kv r];exact q⟩
 | _=>exact (show False from e).elim
theorem pt_truth (ha : PE X a ta) (he : ∀ whole, isTrue a X.env whole = (do let v <- whole; standAt a.pos; holding [v] (truthy v))) :
    PT X a (fun σ H Q=>ta σ H fun x H'=>∃ k,TruV X.K x H' k/\Q k H'):=by
  intro pins s σ H Q I h
  exact isTrue_plain (thn (ha pins s σ H _ I h) fun v s1 ⟨x,H1,I1,r1,q1⟩=>tru_ok pins s1 σ H1 x v Q I1 r1 q1) (he _)
theorem vals1 {x:V} {us:List Value} (r:Vals [x] us):∃ u,us=[u]/\RelV x u:=by
 cases r with
 | cons r1 r2=>cases r2;exact ⟨_,rfl,r1⟩
theorem vals2 {x y:V} {us:List Value} (r:Vals [x,y] us):∃ u w',us=[u,w']/\RelV x u/\RelV y w':=by
 cases r with
 | cons r1 r2 =>
  cases r2 with
  | cons r3 r4=>cases r4;exact ⟨_,_,rfl,r1,r3⟩
theorem call_max2 (hc:X.calm=true):CallR X (.builtin "max") (fun xs H Q=>∃ i j,xs=[.int i,.int j]/\Q (.int (if j > i then j else i)) H):=by
 intro pins s σ H xs us Q I r h
 obtain ⟨i,j,rfl,q⟩:=h
 obtain ⟨u,w',rfl,⟨t,rfl⟩,⟨t',rfl⟩⟩:=vals2 r
 refine max_two_ints (I.ok.hd hc) fun h' tk k=>⟨_,H,I.kept k,?_,q⟩
 by_cases hj:j > i
 ·rw [if_pos hj,if_pos hj];exact ⟨_,rfl⟩
 ·rw [if_neg hj,if_neg hj];exact ⟨_,rfl⟩
theorem call_min2 (hc:X.calm=true):CallR X (.builtin "min") (fun xs H Q=>∃ i j,xs=[.int i,.int j]/\Q (.int (if j < i then j else i)) H):=by
 intro pins s σ H xs us Q I r h
 obtain ⟨i,j,rfl,q⟩:=h
 obtain ⟨u,w',rfl,⟨t,rfl⟩,⟨t',rfl⟩⟩:=vals2 r
 refine min_two_ints (I.ok.hd hc) fun h' tk k=>⟨_,H,I.kept k,?_,q⟩
 by_cases hj:j < i
 ·rw [if_pos hj,if_pos hj];exact ⟨_,rfl⟩
 ·rw [if_neg hj,if_neg hj];exact ⟨_,rfl⟩
theorem call_int1:CallR X (.type "int") (fun xs H Q=>(∃ i,xs=[.int i]/\Q (.int i) H)\/∃ k,xs=[.bl k]/\Q (.int (if k then 1 else 0)) H):=by
 intro pins s σ H xs us Q I r h
 rcases h with ⟨i,rfl,q⟩|⟨k,rfl,q⟩
 ·obtain ⟨u,rfl,t,rfl⟩:=vals1 r
  exact call_int_int ⟨.int i,H,I,⟨_,rfl⟩,q⟩
 ·obtain ⟨u,rfl,r1⟩:=vals1 r
  cases r1
  exact call_int_bool ⟨.int (if k then 1 else 0),H,I.tok _,⟨_,rfl⟩,q⟩
end
structure ObjM (h:Heap) (x dx C:Addr) (mA:Str->Option Value):Prop where
 obj:h.get? x=some (PySem.W.instObj C dx)
 ns:h.Ns1 dx mA
 ne:dx≠x
theorem lookIn_ns {h:Heap} {dx:Addr} {mA:Str->Option Value} (n:h.Ns1 dx mA):∃ od,h.get? dx=some od/\∀ name,PySem.W.lookIn name od=some (mA name):=by
 obtain ⟨o,es,ep,ho,hd,hk,_,hm⟩:=n
 refine ⟨o,ho,fun name=>?_⟩
 have e:=hm name
 unfold nsFind findBy at e
 rw [<- Array.find?_toList] at e
 unfold PySem.W.lookIn
 rw [hd]
 dsimp only
 split
 ·rename_i y q
  rw [q] at e
  exact congrArg some e
 ·rename_i q
  rw [q] at e
  have a:es.toList.any (·.refKey)=false:=by
   rw [List.any_eq_false]
   intro y hy
   obtain ⟨z,t,hkey⟩:=hk y (Array.mem_toList_iff.mp hy)
   simp [DictEntry.refKey,hkey]
  have a':¬ es.toList.any (·.refKey)=true:=by rw [a];exact zqd
  rw [if_neg a']
  exact congrArg some e
theorem ObjM.look {h:Heap} {x dx C:Addr} {mA:Str->Option Value} (I:ObjM h x dx C mA):∃ od,PySem.W.InstAt h x (PySem.W.instObj C dx) C (some od)/\∀ name,PySem.W.lookIn name od=some (mA name) :=
 let ⟨od,ho,hl⟩:=lookIn_ns I.ns
 ⟨od,⟨I.obj,rfl,rfl,ho⟩,hl⟩
theorem RelO.some_of {v:V} {o:Option Value} (r:RelO (some v) o):∃ u,o=some u/\RelV v u:=by
 cases o with
 | none=>exact (show False from r).elim
 | some u=>exact ⟨u,rfl,r⟩
theorem RelO.none_of {o:Option Value} (r:RelO none o):o=none:=by
 cases o with
 | none=>rfl
 | some u=>exact (show False from r).elim
section
variable {P:Program} {w:World} {H H':Hp} {h h':Heap} {a C dx:Addr} {fs fs':List (Str×V)}
theorem ins_get (hok:HOk P w H h) (e:H a=some (.ins C dx fs)):∃ mA,ObjM h a dx C mA/\(∀ f,RelO (fs.lookup f) (mA f))/\PySem.Within mA (fs.map (·.1))/\fs.length<=1000/\H dx=some (.own a):=by
 obtain ⟨d,z,ne,ob,mA,n,r,q⟩:=(show ObjOk P w H h a (.ins C dx fs) from hok a _ e)
 exact ⟨mA,⟨ob,n,ne⟩,r,q,z,d⟩
end
structure Cls (K:PySem.W.Frag) (C:Addr):Prop where
 pg:PySem.W.plainGet K C Str.empty=true
 hd:PySem.W.hasDictIn K C=true
 po:PySem.W.plainOver K C=true
 sa:PySem.W.findIn K (.ref C) "__setattr__" = some (some (.builtin "object.__setattr__"))
theorem Cls.get {K:PySem.W.Frag} {C:Addr} (c:Cls K C) (f:Str):PySem.W.plainGet K C f=true:=c.pg
section
variable {X:Cx} {o e value:Expr} {f:Str} {pos pos' tpos:Pos} {ta tv:TE}
def rSub:V->V->Hp->VK->Prop:=fun x y H Q=>∃ i j,x=.int i/\y=.int j/\Q (.int (i - j)) H
end
section
variable {X:Cx} {pins:List (Addr×Obj)} {σ:St} {H:Hp} {s:Shared} {A:Around} {E:Value->Shared->Prop} {Q:Value->Shared->Prop} {c:Value} {b:Bool}
inductive TyOf (K:PySem.W.Frag) (H:Hp):V->Value->Prop where
  | non:TyOf K H .non (.type "NoneType")
  | bl (x:Bool):TyOf K H (.bl x) (.type "bool")
  | int (i:Int):TyOf K H (.int i) (.type "int")
  | str (x:Str):TyOf K H (.str x) (.type "str")
  | flt (x:UInt64):TyOf K H (.flt x) (.type "float")
  | lst {a:Addr} {xs:List V} (e:H a=some (.lst xs)):TyOf K H (.ref a) (.type "list")
  | frz {a:Addr} {o:Obj} {xs:List V} (e:H a=some (.frz o (.lst xs))):TyOf K H (.ref a) (.type "list")
  | tup {a:Addr} {xs:List V} (e:H a=some (.tup xs)):TyOf K H (.ref a) (.type "tuple")
  | dK {a:Addr} {kvs:List (Key×V)} (e:H a=some (.dK kvs)):TyOf K H (.ref a) (.type "dict")
  | dT {a:Addr} {kvs:List (List Key×V)} (e:H a=some (.dT kvs)):TyOf K H (.ref a) (.type "dict")
  | ins {a C dx : Addr} {fs : List (Str × V)} (e : H a = some (.ins C dx fs)) (cl : Cls K C) (ha : PySem.W.findIn K (.ref C) "__class__" = some (some (.builtin "object.__class__")))
      (hn:PySem.W.specialIn K (.builtin "object.__class__") "__get__" = some (some (.builtin "getset_descriptor.__get__"))) (htk:PySem.W.takesIn K (.builtin "object.__class__")=some true)
      (hm:PySem.W.mroIn K C (.type "object")=some true):TyOf K H (.ref a) (.ref C)
theorem isinst_ok {x : V} {u t : Value} (I : Inv X pins σ H s) (rx : RelV x u) (ty : TyOf X.K H x t) (e : PySem.W.kitOne X.K t c = some b) (h : ∀ tk, Q (.bool b) { s with toks := tk }) :
    wpAny (model X.prog X.w) A (call (.builtin "isinstance") [u,c]) Q E s:=by
  cases ty with
  | non=>cases (show u=Value.none from rx);exact PySem.W.kia_one PySem.W.kitx_none I.kIn True.intro e (fun z=>nomatch z) h
  | bl y=>cases (show u=Value.bool y from rx);exact PySem.W.kia_one PySem.W.kitx_bool I.kIn True.intro e (fun z=>nomatch z) h
  | int i=>obtain ⟨t,q⟩:=(show ∃ t,u=Value.int i t from rx);cases q;exact PySem.W.kia_one PySem.W.kitx_int I.kIn True.intro e (fun z=>nomatch z) h
  | str y=>obtain ⟨t,q⟩:=(show ∃ t,u=Value.str y t from rx);cases q;exact PySem.W.kia_one PySem.W.kitx_str I.kIn True.intro e (fun z=>nomatch z) h
  | flt y=>obtain ⟨t,q⟩:=(show ∃ t,u=Value.float y t from rx);cases q;exact PySem.W.kia_one PySem.W.kitx_float I.kIn True.intro e (fun z=>nomatch z) h
  | @lst a xs ea =>
    cases (show u=Value.ref a from rx)
    obtain ⟨_,_,n,_,h1⟩:=(show ObjOk X.prog X.w H s.heap a (.lst xs) from I.hok a _ ea)
    exact PySem.W.kia_one PySem.W.kitx_list I.kIn ⟨_,h1,rfl⟩ e (fun z=>nomatch z) h
  | @frz a ob xs ea =>
    cases (show u=Value.ref a from rx)
    obtain ⟨_,_,_,n,_,h1⟩:=(show ObjOk X.prog X.w H s.heap a (.frz ob (.lst xs)) from I.hok a _ ea)
    exact PySem.W.kia_one PySem.W.kitx_list I.kIn ⟨_,h1,rfl⟩ e (fun z=>nomatch z) h
  | @tup a xs ea =>
    cases (show u=Value.ref a from rx)
    obtain ⟨_,_,_,p⟩:=(show ObjOk X.prog X.w H s.heap a (.tup xs) from I.hok a _ ea)
    obtain ⟨o,h1,h2,_⟩:=p
    exact PySem.W.kia_one PySem.W.kitx_tuple I.kIn ⟨o,h1,h2⟩ e (fun z=>nomatch z) h
  | @dK a kvs ea =>
    cases (show u=Value.ref a from rx)
    obtain ⟨_,_,vs,_,p⟩:=(show ObjOk X.prog X.w H s.heap a (.dK kvs) from I.hok a _ ea)
    obtain ⟨o,es,ep,h1,h2,_⟩:=p
    exact PySem.W.kia_one PySem.W.kitx_dict I.kIn ⟨o,h1,h2.1⟩ e (fun z=>nomatch z) h
  | @dT a kvs ea =>
    cases (show u=Value.ref a from rx)
    obtain ⟨_,_,xs,_,o,es,ep,h1,h2,_⟩:=(show ObjOk X.prog X.w H s.heap a (.dT kvs) from I.hok a _ ea)
    exact PySem.W.kia_one PySem.W.kitx_dict I.kIn ⟨o,h1,h2.1⟩ e (fun z=>nomatch z) h
  | @ins a C dx fs ea cl ha hn htk hm =>
    cases (show u=Value.ref a from rx)
    obtain ⟨mA,O,_⟩:=ins_get I.hok ea
    obtain ⟨od,J,_⟩:=O.look
    exact PySem.W.kia_one (PySem.W.kitx_own (cl.get _) cl.hd ha hn htk hm) I.kIn J e (fun z=>nomatch z) h
end
structure Room (k:Nat) (A:Around):Prop where
 hd:A.handled=none
 dp:A.depth+3 * k+5 < recursionLimit
 un:A.units+16 * k+200 < cLine
 gd:A.guards=some []
theorem Room.mono {j k:Nat} {A:Around} (r:Room k A) (h:j<=k):Room j A:=⟨r.hd,by have:=r.dp;omega,by have:=r.un;omega,r.gd⟩
theorem Room.deeper {k:Nat} {A:Around} (r:Room (k+1) A) (env:Env):Room k (A.deeper env) :=
 ⟨r.hd,by have:=r.dp;show A.depth+1+3 * k+5 < _;omega,by have:=r.un;show A.units+3+16 * k+200 < _;omega,r.gd⟩
theorem Room.depth {k:Nat} {A:Around} (r:Room k A):A.depth < recursionLimit:=by have:=r.dp;omega
def tNil:TA:=fun _ H Q=>Q [] H
def tCons (ta:TE) (tr:TA):TA:=fun σ H Q=>ta σ H fun x H1=>tr σ H1 fun xs H2=>Q (x::xs) H2
section
variable {X:Cx} {e:Expr} {es:List Expr} {te:TE} {t:TA} {pos:Pos}
theorem pa_nil:PA X [] tNil:=fun _ _ _ _ H Q I h=>Calls.spliced_nil ⟨[],H,I,.nil,h⟩
theorem pa_cons (ha:PE X e te) (hr:PA X es t) (hs:starEach (e::es) X.env=(false,eval e X.env)::starEach es X.env:=by rfl):PA X (e::es) (tCons te t):=by
 intro pos pins s σ H Q I h
 rw [hs]
 show wpAny _ _ (spliced ((false,eval e X.env)::backTo pos (starEach es X.env))) _ _ s
 refine Calls.spliced_cons (thn (ha pins s σ H _ I h) ?_)
 rintro u s1 ⟨x,H1,I1,r1,q1⟩
 exact thn (hr pos pins s1 σ H1 _ I1 q1) fun us s2 ⟨xs,H2,I2,r2,q2⟩=>⟨x::xs,H2,I2,.cons r1 r2,q2⟩
def tTup (t:TA):TE:=fun σ H Q=>t σ H fun xs H1=>xs.length<=sizeLine/\∀ p,H1 p=none->Q (.ref p) (upd H1 p (.tup xs))
def tLst (t:TA):TE:=fun σ H Q=>t σ H fun xs H1=>xs.length<=sizeLine/\∀ p,H1 p=none->Q (.ref p) (upd H1 p (.lst xs))
theorem pe_tup {x1} (h:PA X es t):PE X (.Tuple es x1 pos) (tTup t):=by
 intro pins s σ H Q I hq
 refine wpAny_Tuple_spliced (thn (h pos pins s σ H _ I hq) fun us s1 ⟨xs,H1,I1,r,z,q⟩=>⟨by rw [<- r.length];exact z,?_⟩)
 have hf:H1 s1.heap.objs.size=none:=I1.hok.fresh (zqg _)
 refine ⟨.ref s1.heap.objs.size,upd H1 s1.heap.objs.size (.tup xs),I1.laid (t':=s1.toks) (fun b u e=>zqc _ e) (zqg _) ?_,rfl,q _ hf⟩
 exact ⟨z,us,r,⟨_,zqn _ rfl,rfl,_,rfl⟩⟩
theorem pe_lst (h:PA X es t):PE X (.List es pos) (tLst t):=by
 intro pins s σ H Q I hq
 refine wpAny_List_spliced (thn (h pos pins s σ H _ I hq) fun us s1 ⟨xs,H1,I1,r,z,q⟩=>⟨by rw [<- r.length];exact z,?_⟩)
 have hf:H1 s1.heap.objs.size=none:=I1.hok.fresh (zqg _)
 refine ⟨.ref s1.heap.objs.size,upd H1 s1.heap.objs.size (.lst xs),I1.laid (t':=s1.toks) (fun b u e=>zqc _ e) (zqg _) ?_,rfl,q _ hf⟩
 exact ⟨z,us,0,r,zqn _ rfl⟩
end
abbrev Sp:=List V->Hp->VK->XK->Prop
abbrev CXT:=List Env->Hp->Shared->XK->Value->Shared->Prop
structure Env0 (P:Program) (w:World) (K:PySem.W.Frag) (mg:Str->Option Value) (base:Heap) (A:Around) (outer:List Env) (s:Shared) (H:Hp):Prop where
 frames:A.frames=some outer
 mod:Mod K mg base
 bs:∀ b o,base.get? b=some o->s.heap.get? b=some o/\H b=none
 bsz:base.objs.size<=s.heap.objs.size
 funs:s.heap.FunFrames base outer
 frf:∀ b∈frs outer,H b=none
 hok:HOk P w H s.heap
 bare:AllBare s.gens
def CE (outer:List Env) (P:Program) (w:World) (H:Hp) (s:Shared) (Q:VK) (u:Value) (s':Shared):Prop :=
 ∃ v H',s'.os=s.os/\AllBare s'.gens/\Un (frs outer) [] H H' s.heap s'.heap/\HOk P w H' s'.heap/\RelV v u/\Q v H'
def CR (CX:CXT) (outer:List Env) (P:Program) (w:World) (H:Hp) (s:Shared) (Q:VK) (E:XK) (r:Result) (s':Shared):Prop :=
 match r with
 | .ok (.ret u)=>CE outer P w H s Q u s'
 | .ok _=>False
 | .error e=>CX outer H s E e s'
structure FnOk (P:Program) (w:World) (K:PySem.W.Frag) (mg:Str->Option Value) (base:Heap) (CX:CXT) (k:Nat) (f:Addr) (fd:FuncData) (ps:List Str) (sp:Sp):Prop where
 len:∀ vs H Q E,sp vs H Q E->vs.length=ps.length
 run:∀ (A:Around) (outer:List Env) (s:Shared) (H:Hp) (args:Args) (us:List Value) (vs:List V) (Q:VK) (E:XK),Room k A->Env0 P w K mg base A outer s H->BindsTo s fd args (ps.zip us)->Vals vs us->sp vs H Q E ->
  codeAny (model P w) A (.call (.ref f) args) (CR CX outer P w H s Q E) s
theorem FnOk.mono {P : Program} {w : World} {K : PySem.W.Frag} {mg : Str -> Option Value} {base : Heap} {CX : CXT} {j k : Nat} {f : Addr} {fd : FuncData} {ps : List Str} {sp : Sp} (F : FnOk P w K mg base CX j f fd ps sp) (h : j <= k) :
    FnOk P w K mg base CX k f fd ps sp:=⟨F.len,fun A outer s H args us vs Q E hr=>F.run A outer s H args us vs Q E (hr.mono h)⟩
section
variable {X:Cx} {pins:List (Addr×Obj)} {σ:St} {H:Hp} {s s':Shared}
theorem Inv.env0 (I:Inv X pins σ H s):Env0 X.prog X.w X.K X.mg X.base X.A X.stack s H :=
 ⟨I.ok.frames,I.ok.mod,I.bs,Nat.le_trans I.ok.bsz I.sz,I.stack,I.stkFree,I.hok,I.bare⟩
theorem Inv.after {Q:VK} {u:Value} (I:Inv X pins σ H s) (h:CE X.stack X.prog X.w H s Q u s'):EP X pins σ Q u s':=by
 obtain ⟨v,H',os,bare,un,hok,r,q⟩:=h
 obtain ⟨hh,g,d,t,os'⟩:=s'
 obtain rfl:os'=s.os:=os
 exact ⟨v,H',I.call (h':=hh) (g':=g) (d':=d) (t':=t) (ch:=[]) un hok bare (fun b z=>absurd z (by simp)),r,q⟩
end
def tCall (sp:Sp) (dvs:List V) (E:XK) (t:TA):TE:=fun σ H Q=>t σ H fun vs H1=>sp (vs++dvs) H1 Q E
def Binds (K:PySem.W.Frag) (fd:FuncData) (ps:List Str) (ds:List Value):Prop :=
 ∀ (s:Shared) (us:List Value),K.In s.heap->(us++ds).length=ps.length->BindsTo s fd ⟨us,[]⟩ (ps.zip (us++ds))
theorem Binds.all {K:PySem.W.Frag} {fd:FuncData} {ps:List Str} (h:∀ us:List Value,us.length=ps.length->bindArgs fd ⟨us,[]⟩=pure (ps.zip us)):Binds K fd ps []:=fun s us _ hl=>by
 rw [List.append_nil] at hl ⊢
 exact .of_eq (h us hl)
def Passes (CX:CXT) (X:Cx) (E:XK):Prop:=∀ (pins:List (Addr×Obj)) (σ:St) (H:Hp) (s:Shared) (e:Value) (s':Shared),Inv X pins σ H s->CX X.stack H s E e s'->X.xe e s'
section
variable {X:Cx} {CX:CXT} {k:Nat} {f C:Addr} {fd:FuncData} {ps:List Str} {sp:Sp} {dvs:List V} {ds:List Value} {E:XK} {x m:Str} {p pos apos:Pos} {e o:Expr} {es:List Expr} {ta:TE} {t:TA}
theorem run_fn {pins : List (Addr × Obj)} {σ : St} {H : Hp} {s : Shared} {Q : VK} {us : List Value} {vs : List V} (F : FnOk X.prog X.w X.K X.mg X.base CX k f fd ps sp) (hr : Room k X.A) (hb : Binds X.K fd ps ds) (hd : Vals dvs ds) (hx : Passes CX X E)
    (I:Inv X pins σ H s) (r:Vals vs us) (h:sp (vs++dvs) H Q E):wpAny (model X.prog X.w) X.A (call (.ref f) us) (EP X pins σ Q) X.xe s:=by
  have r2:Vals (vs++dvs) (us++ds):=r.append hd
  have hl:(us++ds).length=ps.length:=by rw [<- r2.length];exact F.len _ _ _ _ h
  refine wpAny_call (codeAny_mono (F.run X.A X.stack s H ⟨us,[]⟩ (us++ds) (vs++dvs) Q E hr I.env0 (hb s us I.kIn hl) r2 h) fun r s' hq=>?_)
  cases r with
  | error e=>exact hx pins σ H s e s' I hq
  | ok fl =>
    cases fl with
    | ret u=>exact I.after hq
    | next=>exact False.elim hq
    | brk=>exact False.elim hq
    | cont=>exact False.elim hq
theorem pe_call (F : FnOk X.prog X.w X.K X.mg X.base CX k f fd ps sp) (hr : Room k X.A) (hg : Gl X x) (hm : X.mg x = some (.ref f)) (hk : PySem.W.keepIn X.K (.ref f) = true) (hb : Binds X.K fd ps ds) (hd : Vals dvs ds) (hx : Passes CX X E)
    (ha:PA X (e::es) t) (hdb:(x == ("__debug__" : Str))=false:=by decide) (he:starEach (e::es) X.env=(false,eval e X.env)::starEach es X.env:=by rfl) (hpl:(backTo pos (starEach es X.env)).any (·.1)=false:=by rfl) :
    PE X (.Call (.Name x p) (e::es) [] pos) (tCall sp dvs E t):=by
  intro pins s σ H Q I h
  refine wpAny_Call_Name_kw (ld_glob I hg hm ?_ hdb)
  refine PySem.W.callWith_K (h₀:=X.base) I.ok.mod.kin hk (thn (ha pos pins s σ H _ I h) fun us s1 ⟨vs,H1,I1,r,q⟩=>⟨I1.kIn,?_⟩) he hpl
  exact run_fn F hr hb hd hx I1 r q
end
structure FnScope (N P:List Str) (sc:Scope):Prop where
 kind:sc.kind=.function
 co:sc.isCoroutine=false
 gen:sc.isGenerator=false
 nd:N.Nodup
 pre:N.take P.length=P
 par:∀ x∈P,sc.names.lookup x=some .local\/sc.names.lookup x=some .cell
 nofree:∀ y∈sc.names,y.2≠.free
theorem bindL_out {kindOf:Str->Option NameKind} {x:Str}:∀ {binds:List (Str×Value)} {m:Str->Option Value},(∀ v,(x,v)∉binds)->bindL kindOf binds m x=m x
 | [],_,_=>rfl
 | (n,v)::r,m,h=>by
  unfold bindL
  rw [bindL_out fun w hw=>h w (zqi _ hw)]
  split
  ·have:x≠n:=by rintro rfl;exact h v List.mem_cons_self
   simp [this]
  ·rfl
theorem bindC_out {kindOf:Str->Option NameKind} {x:Str}:∀ {binds:List (Str×Value)} {m:Str->Option Value},(∀ v,(x,v)∉binds)->bindC kindOf binds m x=m x
 | [],_,_=>rfl
 | (n,v)::r,m,h=>by
  unfold bindC
  rw [bindC_out fun w hw=>h w (zqi _ hw)]
  split
  ·rfl
  ·have:x≠n:=by rintro rfl;exact h v List.mem_cons_self
   simp [this]
theorem bindL_get {kindOf : Str -> Option NameKind} {x : Str} {v : Value} : ∀ {P : List Str} {vs : List Value} {i : Nat} {m : Str -> Option Value}, P.Nodup -> P[i]? = some x -> vs[i]? = some v -> kindOf x = some .local ->
    bindL kindOf (P.zip vs) m x=some v
  | [],_,_,_,_,h,_,_=>by simp at h
  | _::_,[],_,_,_,_,h,_=>by simp at h
  | p::P,w::vs,0,m,nd,h1,h2,hk=>by
    simp at h1 h2;subst h1;subst h2
    show bindL kindOf ((p,w)::P.zip vs) m p=_
    unfold bindL
    rw [bindL_out fun v hv=>(List.nodup_cons.mp nd).1 (List.of_mem_zip hv).1,if_pos hk]
    simp
  | p::P,w::vs,i+1,m,nd,h1,h2,hk=>by
    show bindL kindOf ((p,w)::P.zip vs) m x=_
    unfold bindL
    exact bindL_get (i:=i) (List.nodup_cons.mp nd).2 (by simpa using h1) (by simpa using h2) hk
theorem bindC_get {kindOf : Str -> Option NameKind} {x : Str} {v : Value} : ∀ {P : List Str} {vs : List Value} {i : Nat} {m : Str -> Option Value}, P.Nodup -> P[i]? = some x -> vs[i]? = some v -> kindOf x ≠ some .local ->
    bindC kindOf (P.zip vs) m x=some v
  | [],_,_,_,_,h,_,_=>by simp at h
  | _::_,[],_,_,_,_,h,_=>by simp at h
  | p::P,w::vs,0,m,nd,h1,h2,hk=>by
    simp at h1 h2;subst h1;subst h2
    show bindC kindOf ((p,w)::P.zip vs) m p=_
    unfold bindC
    rw [bindC_out fun v hv=>(List.nodup_cons.mp nd).1 (List.of_mem_zip hv).1,if_neg hk]
    simp
  | p::P,w::vs,i+1,m,nd,h1,h2,hk=>by
    show bindC kindOf ((p,w)::P.zip vs) m x=_
    unfold bindC
    exact bindC_get (i:=i) (List.nodup_cons.mp nd).2 (by simpa using h1) (by simpa using h2) hk
def start (N:List Str) (vs:List V):St:=vs.map some++List.replicate (N.length - vs.length) none
def cxOf (CX:CXT) (P:Program) (w:World) (K:PySem.W.Frag) (mg:Str->Option Value) (base:Heap) (N:List Str) (qual:Str) (scope:Scope) (f:Addr) (cd:Value) (A:Around) (outer:List Env) (s:Shared) (H:Hp) (E:XK):Cx where
 prog:=P
 w:=w
 K:=K
 mg:=mg
 base:=base
 A:=A.deeper (envOfC qual scope s.heap.objs.size f cd)
 N:=N
 s₀:=s
 H₀:=H
 env:=envOfC qual scope s.heap.objs.size f cd
 outer:=outer
 stack:=envOfC qual scope s.heap.objs.size f cd::outer
 ex:=[]
 calm:=true
 fn:=fun _=>true
 pn:=[]
 xe:=fun e s'=>wpAny (model P w) (A.deeper (envOfC qual scope s.heap.objs.size f cd)) (leaving (envOfC qual scope s.heap.objs.size f cd) e) (fun _ s''=>CX outer H s E e s'') (fun e' s''=>CX outer H s E e' s'') s'
theorem cell_has {sc:Scope} {n:Nat} {x:Str} (h:sc.names.lookup x=some .cell):∃ c,(cellsFrom n sc.names []).lookup x=some c:=by
 have q:=PySem.W.cellsFrom_some sc.names n [] (.inl h)
 exact Option.isSome_iff_exists.mp q
theorem inv_start {CX : CXT} {P : Program} {w : World} {K : PySem.W.Frag} {mg : Str -> Option Value} {base : Heap} {N ps : List Str} {qual : Str} {scope : Scope} {f : Addr} {cd : Value} {A : Around} {outer : List Env} {s s1 : Shared} {H : Hp} {E : XK} {us : List Value} {vs : List V}
    (S:FnScope N ps scope) (hd:A.handled=none) (e0:Env0 P w K mg base A outer s H) (hl:vs.length=ps.length) (r:Vals vs us)
    (x:InCallC s s.heap.objs.size (bindL (envOfC qual scope s.heap.objs.size f cd).kindOf (ps.zip us) fun _=>none) (cellsFrom (s.heap.objs.size+1) scope.names []) (bindC (envOfC qual scope s.heap.objs.size f cd).kindOf (ps.zip us) fun _=>none) s1) :
    Inv (cxOf CX P w K mg base N qual scope f cd A outer s H E) [] (start N vs) H s1:=by
  have hpl:ps.length<=N.length:=by have:=congrArg List.length S.pre;rw [List.length_take] at this;omega
  obtain ⟨h1,tk,rfl,hk⟩:=x.done
  have noA:∀ b:Addr,b∉(cxOf CX P w K mg base N qual scope f cd A outer s H E).ex:=fun b z=>absurd (show b∈([]:List Addr) from z) (by simp)
  refine ⟨⟨e0.mod,S.kind,rfl,rfl,zqg _,fun y z c h1 h2=>?_,fun y hy=>?_,fun y c _ h=>?_,fun _=>hd,Around.frames_deeper e0.frames,.inr ⟨rfl,rfl⟩,fun b z=>absurd z (noA b),e0.bs,e0.bsz,fun b _ _=>noA b,fun b z=>absurd z (noA b),e0.funs,e0.frf⟩,
    rfl,e0.bare,Un.kept hk,⟨_,x.toInCall.ns,fun i y v h1 h2 h3=>?_⟩,fun y c h=>⟨_,x.cell y c h⟩,e0.hok.fresh (zqg _),fun y c h=>?_,fun p hp=>absurd (show p∈([]:List (Addr×Obj)) from hp) (by simp),e0.hok.kept hk,?_⟩
  · exact name_of_addr x.apart (PySem.mem_of_lookup h1) (PySem.mem_of_lookup h2)
  · have hy:scope.names.lookup y=some .cell\/scope.names.lookup y=some .free:=hy
    rcases hy with hy | hy
    · exact cell_has hy
    · exact absurd rfl (S.nofree _ (PySem.mem_of_lookup hy))
  · exact Nat.le_of_lt (x.above y c (PySem.mem_of_lookup h))
  · have hi : i < vs.length := by
      unfold start at h2
      by_cases hi:i < vs.length
      · exact hi
      · rw [List.getElem?_append_right (by simpa using hi)] at h2
        rw [List.getElem?_replicate] at h2
        split at h2 <;> cases h2
    have ha:vs[i]?=some v:=by
      unfold start at h2
      rw [zqt (by simpa using hi),zqk] at h2
      cases e:vs[i]? with
      | none=>rw [e] at h2;cases h2
      | some a=>rw [e] at h2;cases h2;rfl
    obtain ⟨u,hu,rv⟩:=r.get ha
    have hp:ps[i]?=some y:=by
      rw [<- S.pre,List.getElem?_take_of_lt (by omega)];exact h1
    have ndP:ps.Nodup:=by rw [<- S.pre];exact S.nd.sublist (List.take_sublist _ _)
    refine ⟨u,rv,?_⟩
    rcases S.par y (zqj hp) with k | k
    · exact .inl ⟨k,bindL_get ndP hp hu k⟩
    · obtain ⟨c,e⟩:=cell_has (n:=s.heap.objs.size+1) k
      refine .inr ⟨.inl k,c,e,?_⟩
      have q:=x.cell y c e
      rw [bindC_get ndP hp hu (by show scope.names.lookup y≠_;rw [k];decide)] at q
      exact q
  · exact e0.hok.fresh (Nat.le_of_lt (x.above y c (PySem.mem_of_lookup h)))
  · unfold start
    show _=N.length
    rw [zqp,zqe,List.length_replicate]
    omega
theorem fn_of {CX : CXT} {P : Program} {w : World} {K : PySem.W.Frag} {mg : Str -> Option Value} {base : Heap} {k : Nat} {f : Addr} {name qual : Str} {params : Arguments} {body : List Stmt} {scope : Scope} {dV kV doc pm cdv ct oc : Value} {an od : Option Addr}
    {osl:Array (Option Value)} {N ps:List Str} {sp:Sp} (lk:K.lookup f=some ⟨oc,od,.func (PySem.W.fnOf name qual params body scope dV kV doc pm an cdv ct),osl⟩) (hcd:PySem.W.codeIn K cdv qual=true) (S:FnScope N ps scope)
    (len:∀ vs H Q E,sp vs H Q E->vs.length=ps.length)
    (hbody:∀ (A:Around) (outer:List Env) (s:Shared) (H:Hp) (vs:List V) (Q:VK) (E:XK),Room k (A.deeper (envOfC qual scope s.heap.objs.size f cdv))->sp vs H Q E ->
      ∃ t,PSs (cxOf CX P w K mg base N qual scope f cdv A outer s H E) body t/\t { nx:=fun _ H'=>Q .non H',rt:=Q } (start N vs) H) :
    FnOk P w K mg base CX (k+1) f (PySem.W.fnOf name qual params body scope dV kV doc pm an cdv ct) ps sp:=by
  refine ⟨len,fun A outer s H args us vs Q E hr e0 hb r hsp=>?_⟩
  have hl:=len _ _ _ _ hsp
  have KX:K.In s.heap:=e0.mod.kin.keeps fun b o e=>(e0.bs b o e).1
  have lim:s.heap.NoLimit:=e0.mod.nolimit.keeps fun b o e=>(e0.bs b o e).1
  have hkind:∀ y∈ps.zip us,scope.names.lookup y.1=some .local\/(scope.names.lookup y.1=some .cell/\((cellsFrom (s.heap.objs.size+1) scope.names []).lookup y.1).isSome=true):=fun ⟨n,v⟩ hy=>by
    rcases S.par n (List.of_mem_zip hy).1 with q | q
    · exact .inl q
    · exact .inr ⟨q,PySem.W.cellsFrom_some _ _ _ (.inl q)⟩
  refine codeAny_call_function hr.depth (KX _ _ lk) rfl S.co S.gen rfl (PySem.W.codeRec_of KX hcd) (hb _ _ _ _ ?_)
  refine wpAny_newFunctionEnv_cells S.kind hkind fun env he s1 x=>?_
  subst he
  refine ⟨lim.keeps x.toInCall.keep,codeAny_func ?_⟩
  obtain ⟨t,ht,hq⟩:=hbody A outer s H vs Q E (hr.deeper _) hsp
  have I:Inv (cxOf CX P w K mg base N qual scope f cdv A outer s H E) [] (start N vs) H s1:=inv_start S hr.hd e0 hl r x
  refine wpAny_mono (ht [] s1 (start N vs) H _ I hq) (fun fl s' hs=>?_) fun e s' hs=>hs
  have fin:∀ {σ':St} {H':Hp} {v:V} {u:Value},Inv (cxOf CX P w K mg base N qual scope f cdv A outer s H E) [] σ' H' s'->RelV v u->Q v H'->CE outer P w H s Q u s' :=
    fun {σ' H' v u} J rv q=>⟨v,H',J.os,J.bare,J.base,J.hok,rv,q⟩
  cases fl with
  | ret u =>
    obtain ⟨v,σ',H',J,rv,q⟩:=hs
    exact fin J rv q
  | next =>
    obtain ⟨σ',H',J,q⟩:=hs
    exact fin (v:=V.non) (u:=Value.none) J rfl q
  | brk =>
    obtain ⟨_,_,_,q⟩:=hs
    exact False.elim q
  | cont =>
    obtain ⟨_,_,_,q⟩:=hs
    exact False.elim q
section
variable {X:Cx} {x:Str} {p pos:Pos} {e:Expr} {es:List Expr} {t:TA} {id T:String} {r:List V->Hp->VK->Prop}
def tCB (r:List V->Hp->VK->Prop) (t:TA):TE:=fun σ H Q=>t σ H fun vs H1=>r vs H1 Q
theorem pe_callB (hc : CallR X (.builtin id) r) (hg : Gl X x) (hm : X.mg x = none) (hv : bootBuiltins x = some (.builtin id)) (ha : PA X (e :: es) t) (hn : x ≠ "__name__" := by decide) (hdb : (x == ("__debug__" : Str)) = false := by decide)
    (he:starEach (e::es) X.env=(false,eval e X.env)::starEach es X.env:=by rfl) (hpl:(backTo pos (starEach es X.env)).any (·.1)=false:=by rfl):PE X (.Call (.Name x p) (e::es) [] pos) (tCB r t):=by
  intro pins s σ H Q I h
  refine wpAny_Call_Name_kw (ld_blt I hg hm hv ?_ hn hdb)
  exact PyProof.Rows.callWith_builtin1 (thn (ha pos pins s σ H _ I h) fun us s1 ⟨vs,H1,I1,r1,q1⟩=>hc pins s1 σ H1 vs us Q I1 r1 q1) he hpl
theorem pe_callTy (hc : CallR X (.type T) r) (hg : Gl X x) (hm : X.mg x = none) (hv : bootBuiltins x = some (.type T)) (ha : PA X (e :: es) t) (hn : x ≠ "__name__" := by decide) (hdb : (x == ("__debug__" : Str)) = false := by decide)
    (he:starEach (e::es) X.env=(false,eval e X.env)::starEach es X.env:=by rfl) (hpl:(backTo pos (starEach es X.env)).any (·.1)=false:=by rfl):PE X (.Call (.Name x p) (e::es) [] pos) (tCB r t):=by
  intro pins s σ H Q I h
  refine wpAny_Call_Name_kw (ld_blt I hg hm hv ?_ hn hdb)
  exact PyProof.Rows.callWith_type1 (thn (ha pos pins s σ H _ I h) fun us s1 ⟨vs,H1,I1,r1,q1⟩=>hc pins s1 σ H1 vs us Q I1 r1 q1) he hpl
end
section
variable {κ:Type} [DecidableEq κ]
def valV (kvs:List (κ×V)) (k:κ):Option V:=(kvs.find? fun kv=>decide (kv.1=k)).map (·.2)
def putK (kvs:List (κ×V)) (k:κ) (v:V):List (κ×V) :=
 if (kvs.any fun kv=>decide (kv.1=k))=true then kvs.map (fun kv=>if kv.1=k then (kv.1,v) else kv) else kvs++[(k,v)]
theorem valV_pos {p:κ×V} {r:List (κ×V)} {k:κ} (e:p.1=k):valV (p::r) k=some p.2:=by simp [valV,List.find?_cons,e]
theorem valV_neg {p:κ×V} {r:List (κ×V)} {k:κ} (e:¬ p.1=k):valV (p::r) k=valV r k:=by simp [valV,List.find?_cons,e]
theorem valV_any (k:κ):∀ kvs:List (κ×V),(kvs.any fun kv=>decide (kv.1=k))=(valV kvs k).isSome
 | []=>rfl
 | p::r=>by
  rw [List.any_cons]
  by_cases e:p.1=k
  ·simp only [valV_pos e,decide_eq_true e,Bool.true_or,Option.isSome_some]
  ·rw [valV_neg e,decide_eq_false e,Bool.false_or];exact valV_any k r
theorem length_putK (kvs:List (κ×V)) (k:κ) (v:V):(putK kvs k v).length<=kvs.length+1:=by
 unfold putK
 split
 ·rw [zqe];omega
 ·rw [zqp,List.length_cons,List.length_nil];omega
theorem RelO.isSome_eq {o:Option V} {u:Option Value} (r:RelO o u):o.isSome=u.isSome:=by
 cases o with
 | none=>cases u with
  | none=>rfl
  | some _=>exact (show False from r).elim
 | some _=>cases u with
  | none=>exact (show False from r).elim
  | some _=>rfl
theorem KV.val {kvs:List (κ×V)} {vs:List (κ×Value)} (r:KV kvs vs) (k:κ):RelO (valV kvs k) (valueAt vs k):=by
 unfold KV at r
 induction r with
 | nil=>exact True.intro
 | @cons p q ps qs h t ih =>
  obtain ⟨h1,h2⟩:=h
  by_cases e:p.1=k
  ·have e':q.1=k:=h1.symm.trans e
   have b:valueAt (q::qs) k=some q.2:=by simp [valueAt,List.find?_cons,e']
   rw [valV_pos e,b];exact h2
  ·have e':¬ q.1=k:=fun z=>e (h1.trans z)
   have b:valueAt (q::qs) k=valueAt qs k:=by simp [valueAt,List.find?_cons,e']
   rw [valV_neg e,b];exact ih
theorem KV.any {kvs:List (κ×V)} {vs:List (κ×Value)} (r:KV kvs vs) (k:κ):(kvs.any fun kv=>decide (kv.1=k))=vs.any fun kv=>decide (kv.1=k):=by
 unfold KV at r
 induction r with
 | nil=>rfl
 | cons h t ih=>rw [List.any_cons,List.any_cons,ih,h.1]
theorem KV.repl {kvs : List (κ × V)} {vs : List (κ × Value)} (r : KV kvs vs) (k : κ) {y : V} {u : Value} (ry : RelV y u) :
    KV (kvs.map fun kv=>if kv.1=k then (kv.1,y) else kv) (vs.map fun kv=>if kv.1=k then (kv.1,u) else kv):=by
  unfold KV at r ⊢
  induction r with
  | nil=>exact .nil
  | @cons p q ps qs h t ih =>
    rw [List.map_cons,List.map_cons]
    refine .cons ?_ ih
    obtain ⟨h1,h2⟩:=h
    by_cases e:p.1=k
    · rw [if_pos e,if_pos (h1.symm.trans e)];exact ⟨h1,ry⟩
    · rw [if_neg e,if_neg (fun z=>e (h1.trans z))];exact ⟨h1,h2⟩
theorem KV.put {kvs:List (κ×V)} {vs:List (κ×Value)} (r:KV kvs vs) (k:κ) {y:V} {u:Value} (ry:RelV y u):KV (putK kvs k y) (stored vs k u):=by
 unfold putK stored
 rw [r.any k]
 by_cases e:(vs.any fun kv=>decide (kv.1=k))=true
 ·rw [if_pos e,if_pos e];exact r.repl k ry
 ·rw [if_neg e,if_neg e];exact Paired.snoc r ⟨rfl,ry⟩
theorem KV.length {kvs:List (κ×V)} {vs:List (κ×Value)} (r:KV kvs vs):kvs.length=vs.length:=Paired.length r
end
theorem kV_is {P:Program} {w:World} {k:Key} {u:Value} (r:RelV (kV k) u):(mixKind P w).is k u=true:=by
 cases k with
 | inl i=>obtain ⟨t,e⟩:=(show ∃ t,u=Value.int i t from r);subst e;exact mixKind_int P w i t
 | inr x=>obtain ⟨t,e⟩:=(show ∃ t,u=Value.str x t from r);subst e;exact mixKind_str P w x t
theorem items_are {P:Program} {w:World}:∀ {ks:List Key} {us:List Value},Vals (ks.map kV) us->ItemsAre (mixKind P w) ks us
 | [],_,r=>by rw [List.map_nil] at r;cases r;exact .nil
 | k::ks,_,r=>by
  rw [List.map_cons] at r
  cases r with
  | cons h t=>exact .cons (kV_is h) (items_are t)
abbrev KT (H:Hp):List (List Key×V)->List (List Key×Addr×Value)->Prop:=Paired fun p q=>p.1=q.1/\H q.2.1=some (.tup (p.1.map kV))/\RelV p.2 q.2.2
theorem KT.val {H:Hp} {kvs:List (List Key×V)} {xs:List (List Key×Addr×Value)} (r:KT H kvs xs) (k:List Key):RelO (valV kvs k) ((atKey xs k).map (·.2)):=by
 induction r with
 | nil=>exact True.intro
 | @cons p q ps qs h t ih =>
  obtain ⟨h1,_,h2⟩:=h
  by_cases e:p.1=k
  ·have e':q.1=k:=h1.symm.trans e
   have b:atKey (q::qs) k=some q.2:=by simp [atKey,List.find?_cons,e']
   rw [valV_pos e,b];exact h2
  ·have e':¬ q.1=k:=fun z=>e (h1.trans z)
   have b:atKey (q::qs) k=atKey qs k:=by simp [atKey,List.find?_cons,e']
   rw [valV_neg e,b];exact ih
theorem KT.repl {H : Hp} {kvs : List (List Key × V)} {xs : List (List Key × Addr × Value)} (r : KT H kvs xs) (k : List Key) {y : V} {u : Value} (ry : RelV y u) :
    KT H (kvs.map fun kv=>if kv.1=k then (kv.1,y) else kv) (xs.map (putAt k u)):=by
  induction r with
  | nil=>exact .nil
  | @cons p q ps qs h t ih =>
    rw [List.map_cons,List.map_cons]
    refine .cons ?_ ih
    obtain ⟨h1,h2,h3⟩:=h
    unfold putAt
    by_cases e:p.1=k
    · rw [if_pos e,if_pos (h1.symm.trans e)];exact ⟨h1,h2,ry⟩
    · rw [if_neg e,if_neg (fun z=>e (h1.trans z))];exact ⟨h1,h2,h3⟩
theorem KT.put {H : Hp} {kvs : List (List Key × V)} {xs : List (List Key × Addr × Value)} (r : KT H kvs xs) (k : List Key) {b : Addr} {y : V} {u : Value} (hb : H b = some (.tup (k.map kV))) (ry : RelV y u) :
    KT H (putK kvs k y) (storedH xs k b u):=by
  have e:(kvs.any fun kv=>decide (kv.1=k))=(atKey xs k).isSome:=by
    rw [valV_any,(r.val k).isSome_eq,Option.isSome_map]
  unfold putK storedH
  rw [e]
  by_cases q:(atKey xs k).isSome=true
  · rw [if_pos q,if_pos q];exact r.repl k ry
  · rw [if_neg q,if_neg q];exact Paired.snoc r ⟨rfl,hb,ry⟩
theorem KT.keeps {H H':Hp} {kvs:List (List Key×V)} {xs:List (List Key×Addr×Value)} (r:KT H kvs xs) (ht:∀ b ys,H b=some (.tup ys)->H' b=some (.tup ys)):KT H' kvs xs :=
 Paired.mapP r fun _ _ z=>⟨z.1,ht _ _ z.2.1,z.2.2⟩
section
variable {P:Program} {w:World} {H:Hp} {h:Heap} {a:Addr}
theorem rd_of {u:HO} (ok:HOk P w H h) (e:Rd H a u):ObjOk P w H h a u:=e.ok ok
theorem dk_rd {kvs:List (Key×V)} (ok:HOk P w H h) (e:Rd H a (.dK kvs)):kvs.length<=sizeLine/\(a == sysModules)=false/\∃ vs,KV kvs vs/\h.DictOf (mixKind P w) a vs :=
 show ObjOk P w H h a (.dK kvs) from rd_of ok e
theorem dk_of {kvs:List (Key×V)} (ok:HOk P w H h) (e:H a=some (.dK kvs)):kvs.length<=sizeLine/\(a == sysModules)=false/\∃ vs,KV kvs vs/\h.DictOf (mixKind P w) a vs:=dk_rd ok (.inl e)
theorem key_of {ks:List Key} (ok:HOk P w H h) (e:H a=some (.tup (ks.map kV))):(tupleKind (mixKind P w)).is h ks a:=by
 obtain ⟨_,its,r,o,h1,h2,n,h3⟩:=(show ObjOk P w H h a (.tup (ks.map kV)) from ok a _ e)
 exact ⟨o,its.toArray,n,h1,h2,h3,by simpa using items_are r⟩
theorem dt_rd {kvs : List (List Key × V)} (ok : HOk P w H h) (e : Rd H a (.dT kvs)) : kvs.length <= sizeLine /\ (a == sysModules) = false /\
    ∃ xs,KT H kvs xs/\h.DictOfH (tupleKind (mixKind P w)) a xs:=by
  obtain ⟨z,y,xs,r,o,es,ep,h1,h2,h3,h4,h5⟩:=(show ObjOk P w H h a (.dT kvs) from rd_of ok e)
  refine ⟨z,y,xs,r,o,es,ep,h1,h2,h3,h4,fun x hx=>?_,h5⟩
  have all:∀ {l:List (List Key×V)} {m:List (List Key×Addr×Value)},KT H l m->∀ x∈m,(tupleKind (mixKind P w)).is h x.1 x.2.1:=by
    intro l m q
    induction q with
    | nil=>intro x hx;exact nomatch hx
    | @cons p q ps qs hq t ih =>
      intro x hx
      rcases List.mem_cons.mp hx with e | hx
      · subst e
        exact key_of ok (by rw [<- hq.1];exact hq.2.1)
      · exact ih x hx
  exact all r x hx
theorem dt_of {kvs : List (List Key × V)} (ok : HOk P w H h) (e : H a = some (.dT kvs)) : kvs.length <= sizeLine /\ (a == sysModules) = false /\
    ∃ xs,KT H kvs xs/\h.DictOfH (tupleKind (mixKind P w)) a xs:=dt_rd ok (.inl e)
end
def DGet (H:Hp) (a:Addr) (y:V) (r:Option V):Prop :=
 (∃ kvs k,Rd H a (.dK kvs)/\y=kV k/\r=valV kvs k)\/∃ kvs k b,Rd H a (.dT kvs)/\y=.ref b/\H b=some (.tup (k.map kV))/\r=valV kvs k
def DPut (H:Hp) (a:Addr) (y v:V) (H':Hp):Prop :=
 (∃ kvs k,H a=some (.dK kvs)/\y=kV k/\kvs.length < sizeLine/\H'=upd H a (.dK (putK kvs k v))) \/
 ∃ kvs k b,H a=some (.dT kvs)/\y=.ref b/\H b=some (.tup (k.map kV))/\kvs.length < sizeLine/\H'=upd H a (.dT (putK kvs k v))
theorem DGet.k {H:Hp} {a:Addr} {kvs:List (Key×V)} {k:Key} (e:H a=some (.dK kvs)):DGet H a (kV k) (valV kvs k):=.inl ⟨kvs,k,.inl e,rfl,rfl⟩
theorem DPut.k {H:Hp} {a:Addr} {kvs:List (Key×V)} {k:Key} {v:V} (e:H a=some (.dK kvs)) (hl:kvs.length < sizeLine):DPut H a (kV k) v (upd H a (.dK (putK kvs k v))):=.inl ⟨kvs,k,e,rfl,hl,rfl⟩
section
variable {X:Cx} {pins:List (Addr×Obj)} {σ:St} {H:Hp} {s:Shared} {a:Addr} {y v:V} {u r:Value} {o:Option V} {A:Around} {E:Value->Shared->Prop}
theorem Inv.big (I:Inv X pins σ H s):sysModules < s.heap.objs.size:=by
 have h:mainGlobals < s.heap.objs.size:=(I.mod.glob.keeps I.bk).lt
 exact Nat.lt_trans (by decide) h
theorem d_getItem {Q : Value -> Shared -> Prop} (hu : A.units + 1 < cLine) (I : Inv X pins σ H s) (g : DGet H a y (some v)) (ry : RelV y u) (h : ∀ w' s', Inv X pins σ H s' -> RelV v w' -> Q w' s') :
    wpAny (model X.prog X.w) A (getItem (.ref a) u) Q E s:=by
  rcases g with ⟨kvs,k,e,ey,l⟩|⟨kvs,k,b,e,ey,eb,l⟩
  · subst ey
    obtain ⟨z,hd,vs,rel,dd⟩:=dk_rd I.hok e
    obtain ⟨w',hw,rw'⟩:=RelO.some_of (v:=v) (o:=valueAt vs k) (by rw [l];exact rel.val k)
    exact wpAny_getItem_of (kV_is ry) dd.mapOf hw (h w' _ (I.tok _) rw')
  · subst ey
    cases (show u=Value.ref b from ry)
    obtain ⟨z,hd,xs,rel,dd⟩:=dt_rd I.hok e
    obtain ⟨w',hw,rw'⟩:=RelO.some_of (v:=v) (o:=(atKey xs k).map (·.2)) (by rw [l];exact rel.val k)
    obtain ⟨p,hp,hp2⟩:=Option.map_eq_some_iff.mp hw
    refine wpAny_getItem_heap (tupleKind_room_in1 hu) (key_of I.hok eb) dd hp ?_
    rw [hp2]
    exact h w' _ (I.tok _) rw'
theorem d_in {Q : Value -> Shared -> Prop} (hu : A.units + 1 < cLine) (I : Inv X pins σ H s) (g : DGet H a y o) (ry : RelV y u) (h : ∀ s', Inv X pins σ H s' -> Q (.bool o.isSome) s') :
    wpAny (model X.prog X.w) A (compareOp .In u (.ref a)) Q E s:=by
  rcases g with ⟨kvs,k,e,ey,l⟩|⟨kvs,k,b,e,ey,eb,l⟩
  · subst ey
    obtain ⟨z,hd,vs,rel,dd⟩:=dk_rd I.hok e
    refine wpAny_in_of (kV_is ry) hd dd.mapOf ?_
    rw [<- (rel.val k).isSome_eq,<- l]
    exact h _ (I.tok _)
  · subst ey
    cases (show u=Value.ref b from ry)
    obtain ⟨z,hd,xs,rel,dd⟩:=dt_rd I.hok e
    refine wpAny_in_heap (tupleKind_room_in1 hu) (key_of I.hok eb) hd dd ?_
    have q:=(rel.val k).isSome_eq
    rw [Option.isSome_map] at q
    rw [<- q,<- l]
    exact h _ (I.tok _)
theorem d_notIn {Q : Value -> Shared -> Prop} (hu : A.units + 1 < cLine) (I : Inv X pins σ H s) (g : DGet H a y o) (ry : RelV y u) (h : ∀ s', Inv X pins σ H s' -> Q (.bool (!o.isSome)) s') :
    wpAny (model X.prog X.w) A (compareOp .NotIn u (.ref a)) Q E s:=by
  rcases g with ⟨kvs,k,e,ey,l⟩|⟨kvs,k,b,e,ey,eb,l⟩
  · subst ey
    obtain ⟨z,hd,vs,rel,dd⟩:=dk_rd I.hok e
    refine wpAny_notIn_of (kV_is ry) hd dd.mapOf ?_
    rw [<- (rel.val k).isSome_eq,<- l]
    exact h _ (I.tok _)
  · subst ey
    cases (show u=Value.ref b from ry)
    obtain ⟨z,hd,xs,rel,dd⟩:=dt_rd I.hok e
    refine wpAny_notIn_heap (tupleKind_room_in1 hu) (key_of I.hok eb) hd dd ?_
    have q:=(rel.val k).isSome_eq
    rw [Option.isSome_map] at q
    rw [<- q,<- l]
    exact h _ (I.tok _)
theorem d_write {h' : Heap} {t' : Nat} {ob : HO} (I : Inv X pins σ H s) (mu : Mut (H a)) (hs : Heap.SameBut a s.heap h') (he : ∃ q, h'.get? a = some q) (new : ObjOk X.prog X.w (upd H a ob) h' a ob) :
    Inv X pins σ (upd H a ob) { s with heap:=h',toks:=t' } :=
  I.write (x:=a) (e:=a) mu (.inl rfl) (fun b q hb z=>(hs.2 b hb).trans z) he new
theorem dk_new {P : Program} {w : World} {H' : Hp} {h' : Heap} {kvs : List (Key × V)} {vs : List (Key × Value)} (z : kvs.length <= sizeLine) (hd : (a == sysModules) = false) (rel : KV kvs vs) (dd : h'.DictOf (mixKind P w) a vs) :
    ObjOk P w H' h' a (.dK kvs):=⟨z,hd,vs,rel,dd⟩
theorem d_setItem {H' : Hp} {Q : Unit -> Shared -> Prop} (hu : A.units + 1 < cLine) (I : Inv X pins σ H s) (g : DPut H a y v H') (ry : RelV y u) (rv : RelV v r) (h : ∀ s', Inv X pins σ H' s' -> Q () s') :
    wpAny (model X.prog X.w) A (setItem (.ref a) u r) Q E s:=by
  rcases g with ⟨kvs,k,e,ey,l,eH⟩|⟨kvs,k,b,e,ey,eb,l,eH⟩
  · subst ey eH
    obtain ⟨z,hd,vs,rel,dd⟩:=dk_of I.hok e
    have hz:vs.length<=sizeLine:=by rw [<- rel.length];exact z
    have hl:(putK kvs k v).length<=sizeLine:=by have:=length_putK kvs k v;omega
    refine wpAny_setItem_pairs (hsz:=hz) (kV_is ry) dd fun h' dd' hs=>h _ ?_
    have he:∃ q,h'.get? a=some q:=let ⟨q,_,_,hq,_⟩:=dd';⟨q,hq⟩
    exact d_write I (by rw [e];exact True.intro) hs he (dk_new hl hd (rel.put k rv) dd')
  · subst ey eH
    cases (show u=Value.ref b from ry)
    obtain ⟨z,hd,xs,rel,dd⟩:=dt_of I.hok e
    have hz:xs.length<=sizeLine:=by rw [<- Paired.length rel];exact z
    have hl:(putK kvs k v).length<=sizeLine:=by have:=length_putK kvs k v;omega
    refine wpAny_setItem_heap (hsz:=hz) (tupleKind_room_in1 hu) (key_of I.hok eb) dd fun h' dd' hs=>h _ ?_
    obtain ⟨q,es,ep,hq,h2,h3,h4,_,h5⟩:=dd'
    refine d_write I (by rw [e];exact True.intro) hs ⟨q,hq⟩ ⟨hl,hd,_,(rel.put k eb rv).keeps fun c ys ec=>?_,q,es,ep,hq,h2,h3,h4,h5⟩
    rw [upd_ne (ne_of ec e (fun z=>nomatch z))]
    exact ec
end
theorem dict_typeIs {X:Cx} {pins:List (Addr×Obj)} {σ:St} {H:Hp} {s:Shared} {a:Addr} {y:V} {o:Option V} (I:Inv X pins σ H s) (g:DGet H a y o):s.TypeIs (.ref a) "dict" := by
 rcases g with ⟨kvs,k,e,_,_⟩|⟨kvs,k,b,e,_,_,_⟩
 ·obtain ⟨_,_,vs,_,dd⟩:=dk_rd I.hok e
  exact dd.typeIs
 ·obtain ⟨_,_,xs,_,dd⟩:=dt_rd I.hok e
  exact dd.typeIs
theorem dk_empty {P:Program} {w:World} {H:Hp} (h:Heap) (hb:sysModules < h.objs.size):ObjOk P w H (h.push { cls:=.type "dict",data:=.dict #[] }) h.objs.size (.dK []) :=
 ⟨Nat.zero_le _,beq_eq_false_iff_ne.mpr (Ne.symm (Nat.ne_of_lt hb)),[],.nil,Heap.DictOf.new h⟩
def tDNewK:TE:=fun _ H Q=>∀ p,H p=none->Q (.ref p) (upd H p (.dK []))
section
variable {X:Cx} {pos:Pos}
theorem pe_dnewK:PE X (.Dict [] [] pos) tDNewK:=fun pins s σ H Q I h =>
 wpAny_Dict_empty ⟨.ref s.heap.objs.size,_,I.laid (a:=s.heap.objs.size) (o:=.dK []) (t':=s.toks) (fun _ _ q=>zqc _ q) (zqg _) (dk_empty s.heap I.big),rfl,h _ (I.hok.fresh (zqg _))⟩
end
def tPairs:List (TE×TE)->St->Hp->(List (V×V)->Hp->Prop)->Prop
 | [],_,H,Q=>Q [] H
 | (tk,tv)::r,σ,H,Q=>tk σ H fun x H1=>tv σ H1 fun y H2=>tPairs r σ H2 fun ps H3=>Q ((x,y)::ps) H3
abbrev VV:List (V×V)->List (Value×Value)->Prop:=Paired fun p q=>RelV p.1 q.1/\RelV p.2 q.2
def PPs (X:Cx) (pos:Pos) (keys:List (Option Expr)) (values:List Expr) (trs:List (TE×TE)):Prop :=
 ∀ (pins:List (Addr×Obj)) (s:Shared) (σ:St) (H:Hp) (Q:List (V×V)->Hp->Prop),Inv X pins σ H s->tPairs trs σ H Q ->
  wpAny (model X.prog X.w) X.A (evalPairs (pairTrees keys values X.env pos)) (fun vs s'=>∃ ps H',Inv X pins σ H' s'/\VV ps vs/\Q ps H') X.xe s
theorem pps_nil {X:Cx} {pos:Pos}:PPs X pos [] [] []:=fun pins s σ H Q I h=>pairTrees_nil_walk ⟨[],H,I,.nil,h⟩
theorem pps_cons {X : Cx} {pos : Pos} {k v : Expr} {ks : List (Option Expr)} {vs : List Expr} {tk tv : TE} {trs : List (TE × TE)} (hk : PE X k tk) (hv : PE X v tv) (hr : PPs X pos ks vs trs) :
    PPs X pos (some k::ks) (v::vs) ((tk,tv)::trs):=fun pins s σ H Q I h =>
  pairTrees_cons_walk (thn (hk pins s σ H _ I h) fun u s1 ⟨x,H1,I1,rx,q1⟩=>thn (hv pins s1 σ H1 _ I1 q1) fun w2 s2 ⟨y,H2,I2,ry,q2⟩ =>
    thn (hr pins s2 σ H2 _ I2 q2) fun ws s3 ⟨ps,H3,I3,rel,q3⟩=>⟨(x,y)::ps,H3,I3,.cons ⟨rx,ry⟩ rel,q3⟩)
def mergeK (kvs more:List (Key×V)):List (Key×V):=more.foldl (fun acc kv=>putK acc kv.1 kv.2) kvs
theorem KV.merge:∀ {more:List (Key×V)} {rs:List (Key×Value)} {kvs:List (Key×V)} {vs:List (Key×Value)},KV more rs->KV kvs vs->KV (mergeK kvs more) (merged vs rs):=by
 intro more rs kvs vs r
 unfold KV at r
 induction r generalizing kvs vs with
 | nil=>intro q;exact q
 | @cons p q ps qs h t ih =>
  intro r0
  have e:KV (putK kvs p.1 p.2) (stored vs q.1 q.2):=by
   have:=r0.put p.1 h.2
   rw [<- h.1];exact this
  exact ih e
theorem length_mergeK:∀ (more kvs:List (Key×V)),(mergeK kvs more).length<=kvs.length+more.length
 | [],kvs=>by show kvs.length<=kvs.length+0;omega
 | p::r,kvs=>by
  have h1:=length_mergeK r (putK kvs p.1 p.2)
  have h2:=length_putK kvs p.1 p.2
  show (mergeK (putK kvs p.1 p.2) r).length<=_
  rw [List.length_cons];omega
theorem carries_of {P:Program} {w:World}:∀ {kvs:List (Key×V)} {ws:List (Value×Value)},VV (kvs.map fun kv=>(kV kv.1,kv.2)) ws->∃ rs,Carries (mixKind P w) ws rs/\KV kvs rs
 | [],_,r=>by rw [List.map_nil] at r;cases r;exact ⟨[],True.intro,.nil⟩
 | p::kvs,_,r=>by
  rw [List.map_cons] at r
  cases r with
  | @cons a b as bs h t =>
   obtain ⟨rs,c,q⟩:=carries_of (P:=P) (w:=w) t
   obtain ⟨b1,b2⟩:=b
   exact ⟨(p.1,b2)::rs,⟨kV_is h.1,rfl,c⟩,.cons ⟨rfl,h.2⟩ q⟩
def tDisp (trs:List (TE×TE)):TE:=fun σ H Q=>∀ p,H p=none->tPairs trs σ (upd H p (.dK [])) fun ps H2=>H2 p=some (.dK [])/\∃ kvs:List (Key×V),ps=kvs.map (fun kv=>(kV kv.1,kv.2))/\kvs.length<=15/\Q (.ref p) (upd H2 p (.dK (mergeK [] kvs)))
theorem pe_disp {X : Cx} {pos : Pos} {keys : List (Option Expr)} {values : List Expr} {trs : List (TE × TE)} (h : PPs X pos keys values trs) (hall : keys.all (·.isSome) = true) (hl : keys.length = values.length) (h0 : keys ≠ [])
    (h15:keys.length<=15):PE X (.Dict keys values pos) (tDisp trs):=by
  intro pins s σ H Q I q
  have hn:=I.hok.fresh (zqg s.heap.objs.size)
  have I1:=I.laid (a:=s.heap.objs.size) (o:=.dK []) (h':=s.heap.push { cls:=.type "dict",data:=.dict #[] }) (t':=s.toks) (fun _ _ q=>zqc _ q) (zqg _) (dk_empty s.heap I.big)
  refine wpAny_Dict_walk (knd:=mixKind X.prog X.w) hall hl h0 h15 (thn (h pins _ σ _ _ I1 (q _ hn)) ?_)
  rintro ws s2 ⟨ps,H2,I2,rel,e,kvs,rfl,lk,q2⟩
  obtain ⟨rs,c,rk⟩:=carries_of (P:=X.prog) (w:=X.w) rel
  obtain ⟨z,hd,vs0,r0,dd⟩:=dk_of I2.hok e
  cases r0
  refine ⟨rs,c,dd,fun h' dd' hs=>⟨.ref s.heap.objs.size,_,?_,rfl,q2⟩⟩
  have hz:(mergeK [] kvs).length<=sizeLine:=by
    have h1:=length_mergeK kvs []
    rw [List.length_nil] at h1
    rw [sizeLine_eq];omega
  have he:∃ q,h'.get? s.heap.objs.size=some q:=let ⟨q,_,_,hq,_⟩:=dd';⟨q,hq⟩
  exact d_write I2 (by rw [e];exact True.intro) hs he (dk_new hz hd (rk.merge .nil) dd')
structure M1 (X:Cx) (o:Expr) (m:Str) (apos:Pos) (e:Expr) (cpos:Pos):Prop where
 base:attributeBase o m X.env (eval o X.env)=eval o X.env
 few:((backTo cpos (starEach [e] X.env)).all (fun x=>!x.1) && (backToKw cpos (keywordEach [] X.env)).all (fun x=>x.1.isSome)
  && decide (([e]:List Expr).length+([]:List Keyword).length+(if ([]:List Keyword).isEmpty then 0 else 1) < 30))=true
 line:(apos.endLine == cpos.line)=true
 trees:backTo cpos (starEach [e] X.env)=[(false,eval e X.env)]
structure M2 (X:Cx) (o:Expr) (m:Str) (apos:Pos) (e f:Expr) (cpos:Pos):Prop where
 base:attributeBase o m X.env (eval o X.env)=eval o X.env
 few:((backTo cpos (starEach [e,f] X.env)).all (fun x=>!x.1) && (backToKw cpos (keywordEach [] X.env)).all (fun x=>x.1.isSome)
  && decide (([e,f]:List Expr).length+([]:List Keyword).length+(if ([]:List Keyword).isEmpty then 0 else 1) < 30))=true
 line:(apos.endLine == cpos.line)=true
 trees:backTo cpos (starEach [e,f] X.env)=[(false,eval e X.env),(false,eval f X.env)]
end L2
namespace HT
open PySem PyProof.Rows
section
open PySem.SeqAt
open PySem.AutoSeq1 (wpAny_loadPart')
open PySem.MeetsSeq PySem.MeetsSeq2 PySem.MeetsSeq3
end
section
variable {prog:Program} {w:World} {A:Around} {E:Value->Shared->Prop} {s:Shared}
theorem cat_tup {t b : Addr} {vs ws : List Value} {Q : Value -> Shared -> Prop} (ht : IsTup s.heap t vs.toArray) (hb : IsTup s.heap b ws.toArray) (hv : vs ≠ [])
    (h1:ws=[]->Q (.ref t) s) (h2:ws≠[]->Q (.ref s.heap.objs.size) { s with heap:=s.heap.push { cls:=.type "tuple",data:=.seq (vs++ws).toArray } })
    (hsz:vs.length+ws.length<=sizeLine):wpAny (model prog w) A (binaryOp .Add (.ref t) (.ref b)) Q E s:=by
  obtain ⟨⟨cls,dd,data,sl⟩,ho,hc,n,hd⟩:=id ht
  obtain ⟨⟨cls2,dd2,data2,sl2⟩,ho2,hc2,n2,hd2⟩:=id hb
  simp only at hc hd hc2 hd2
  subst hc hd hc2 hd2
  have e:vs.toArray++ws.toArray=(vs++ws).toArray:=by simp
  by_cases hw:ws=[]
  · exact concat_meets ⟨_, ho, rfl⟩ ⟨_, ho2, rfl⟩ noFill_tuple_add seq_tuple_add PySem.F.slot_tuple_add PySem.F.entry_tuple_add (PySem.F.args_tuple_add_2 _ _)
      (tuple_addW1 t b vs.toArray ws.toArray n n2 dd dd2 sl sl2 (by simpa using hv) (by simp [hw])) ⟨ho,ho2,h1 hw⟩
  · refine concat_meets ⟨_, ho, rfl⟩ ⟨_, ho2, rfl⟩ noFill_tuple_add seq_tuple_add PySem.F.slot_tuple_add PySem.F.entry_tuple_add (PySem.F.args_tuple_add_2 _ _)
      (tuple_addW2 t b vs.toArray ws.toArray n n2 dd dd2 sl sl2 (by simpa using hv) (by simpa using hw) (by rw [zqq,zqq];exact hsz)) ⟨ho,ho2,?_⟩
    rw [e]
    exact h2 hw
def sIx (n d:Nat):Option Int->Nat
 | none=>d
 | some v=>if v < 0 then (v+(n:Int)).toNat else min v.toNat n
theorem sIx_le (n d:Nat) (hd:d<=n) (o:Option Int):sIx n d o<=n:=by
 cases o with
 | none=>exact hd
 | some v =>
  show (if v < 0 then (v+(n:Int)).toNat else min v.toNat n)<=n
  by_cases hv:v < 0
  ·rw [if_pos hv];omega
  ·rw [if_neg hv];exact Nat.min_le_right _ _
theorem clip_eq (v:Int) (n d:Nat):(if v < 0 then max (v+(n:Int)) 0 else min v (n:Int))=((sIx n d (some v):Nat):Int):=by
 show (if v < 0 then max (v+(n:Int)) 0 else min v (n:Int))=(((if v < 0 then (v+(n:Int)).toNat else min v.toNat n):Nat):Int)
 by_cases hv:v < 0
 ·simp only [if_pos hv];omega
 ·simp only [if_neg hv];omega
theorem adjust_gen (lo hi:Option Int) (n:Nat):Builtin.Slice.sliceAdjust lo hi 1 (n:Int)=(((sIx n 0 lo:Nat):Int),((sIx n n hi:Nat):Int)):=by
 have h1:¬ ((1:Int) < 0):=by omega
 unfold Builtin.Slice.sliceAdjust
 simp only [h1,if_false]
 refine Prod.ext ?_ ?_
 ·cases lo with
  | none=>rfl
  | some v=>exact clip_eq v n 0
 ·cases hi with
  | none=>rfl
  | some v=>exact clip_eq v n n
theorem places_gen (i j:Nat):Builtin.Slice.slicePlaces (i:Int) (j:Int) 1=j - i:=by
 unfold Builtin.Slice.slicePlaces
 have h1:(1:Int) > 0:=by omega
 simp only [h1,if_true,Int.ediv_one]
 split <;> omega
theorem slicePart_ {v:Value} {o:Option Int} {Q:Option Int->Shared->Prop} (p:IsPart v o) (h:Q o s):wpAny (model prog w) A (Builtin.Slice.slicePartIndex v) Q E s:=by
 cases p with
 | none=>exact slicePart_none h
 | int i t=>exact slicePart_int h
theorem sliceApplied_gen {sl : Addr} {vl vu : Value} {lo hi : Option Int} {n : Nat} {Q : Int × Int × Nat -> Shared -> Prop} (hs : s.heap.IsSliceOf sl vl vu .none) (pl : IsPart vl lo) (pu : IsPart vu hi)
    (h:Q (((sIx n 0 lo:Nat):Int),1,sIx n n hi - sIx n 0 lo) s):wpAny (model prog w) A (Builtin.Slice.sliceApplied (.ref sl) (pure (n:Int))) Q E s:=by
  obtain ⟨os,hos,hcs,hds⟩:=id hs
  unfold Builtin.Slice.sliceApplied Builtin.Slice.sliceFields
  refine wpAny_bind (wpAny_bind (wpAny_field hos hds (x:=vl) rfl (wpAny_bind (wpAny_field hos hds (x:=vu) rfl (wpAny_bind (wpAny_field hos hds (x:=.none) rfl (wpAny_pure ?_)))))))
  refine wpAny_bind (slicePart_none ?_)
  show wpAny _ _ (if ((1:Int) == 0)=true then _ else _) _ _ s
  rw [if_neg (by decide)]
  refine wpAny_bind (slicePart_ pl (wpAny_bind (slicePart_ pu (wpAny_bind (wpAny_pure ?_)))))
  show wpAny _ _ (match Builtin.Slice.sliceAdjust lo hi 1 (n:Int) with | (lo,hi)=>pure (lo,(1:Int),Builtin.Slice.slicePlaces lo hi 1)) _ _ s
  rw [adjust_gen lo hi n]
  show wpAny _ _ (pure (((sIx n 0 lo:Nat):Int),(1:Int),Builtin.Slice.slicePlaces ((sIx n 0 lo:Nat):Int) ((sIx n n hi:Nat):Int) 1)) _ _ s
  rw [places_gen]
  exact wpAny_pure h
theorem pick_gen (xs:Array Value) (i k:Nat):((List.range k).filterMap fun (m:Nat)=>xs[((i:Int)+(m:Int) * 1).toNat]?).toArray=((xs.toList.drop i).take k).toArray:=by
 have e:(fun (m:Nat)=>xs[((i:Int)+(m:Int) * 1).toNat]?)=fun m=>xs[i+m]?:=by
  funext m
  have:((i:Int)+(m:Int) * 1).toNat=i+m:=by omega
  rw [this]
 rw [e]
 have:=pick_run xs i k
 rw [List.filterMap_map] at this
 have e2:((fun x=>xs[x]?)∘fun x=>i+x)=fun m=>xs[i+m]?:=rfl
 rw [e2] at this
 rw [this]
theorem getItem_tuple_cut {t sl : Addr} {items : Array Value} {vl vu : Value} {lo hi : Option Int} {Q : Value -> Shared -> Prop} (ht : IsTup s.heap t items) (hs : s.heap.IsSliceOf sl vl vu .none) (pl : IsPart vl lo) (pu : IsPart vu hi)
    (hw:¬ (sIx items.size 0 lo=0/\sIx items.size items.size hi=items.size))
    (h:Q (.ref s.heap.objs.size) { s with heap:=s.heap.push { cls:=.type "tuple",data:=.seq ((items.toList.drop (sIx items.size 0 lo)).take (sIx items.size items.size hi - sIx items.size 0 lo)).toArray } })
    (hsz:items.size<=sizeLine):wpAny (model prog w) A (getItem (.ref t) (.ref sl)) Q E s:=by
  have htake:sizeOk (.seq ((items.toList.drop (sIx items.size 0 lo)).take (sIx items.size items.size hi - sIx items.size 0 lo)).toArray):=by
    show ((items.toList.drop (sIx items.size 0 lo)).take (sIx items.size items.size hi - sIx items.size 0 lo)).toArray.size<=sizeLine
    rw [zqq,List.length_take,List.length_drop,Array.length_toList]
    omega
  have hj:sIx items.size items.size hi<=items.size:=sIx_le _ _ (zqg _) hi
  obtain ⟨os,hos,hcs,hds⟩:=id hs
  have hTs:s.TypeIs (.ref sl) "slice" := ⟨os,hos,hcs⟩
  unfold getItem
  try with_reducible refine wpAny_holding ?_
  first | refine wpAny_bind (wpAny_pure ?_) | skip
  refine wpAny_bind (wpAny_sequenceKey ht.typeIs (by decide) ?_)
  refine wpAny_bind (wpAny_callSpecial?_slot (name:=Str.ofString "__getitem__") ht.typeIs PyProof.Rows.slot_tuple_getitem
    (wpAny_call_entry PyProof.Rows.slot_tuple_getitem ht.typeIs entry_tuple_getitem ?_ (args_tuple_getitem _ _)))
  show wpAny _ _ (Builtin.Tuple.tupleItemsOf (.ref t) >>= _) _ _ s
  refine wpAny_bind (tupleItemsOf_ ht ?_)
  refine wpAny_bind (wpAny_typeOf hTs ?_)
  rw [if_pos (by decide)]
  refine wpAny_bind (sliceApplied_gen hs pl pu ?_)
  have hno:¬ ((((sIx items.size 0 lo:Nat):Int) == 0 && (1:Int) == 1 && (sIx items.size items.size hi - sIx items.size 0 lo) == items.size)=true):=by
    intro q
    rw [zqf,zqf] at q
    have q1:((sIx items.size 0 lo:Nat):Int)=0:=eq_of_beq q.1.1
    have q2:sIx items.size items.size hi - sIx items.size 0 lo=items.size:=eq_of_beq q.2
    exact hw ⟨by omega,by omega⟩
  show wpAny _ _ (if (((sIx items.size 0 lo:Nat):Int) == 0 && (1:Int) == 1 && (sIx items.size items.size hi - sIx items.size 0 lo) == items.size)=true then _ else _) _ _ s
  rw [if_neg hno,pick_gen]
  first
    | exact wpAny_bind (m:=Builtin.Tuple.tupleExact _) (wpAny_newObj_type (wpAny_pure ⟨_,rfl,wpAny_pure h⟩) htake)
    | exact wpAny_bind (m:=Builtin.Tuple.tupleExact _) (wpAny_newObj_type (wpAny_bind (wpAny_pure (wpAny_pure ⟨_,rfl,wpAny_pure h⟩))) htake)
    | exact wpAny_bind (wpAny_bind (m:=Builtin.Tuple.tupleExact _) (wpAny_newObj_type (wpAny_pure (wpAny_pure ⟨_,rfl,wpAny_pure h⟩)) htake))
    | exact wpAny_bind (wpAny_bind (m:=Builtin.Tuple.tupleExact _) (wpAny_newObj_type (wpAny_pure ⟨_,rfl,wpAny_pure h⟩) htake))
end
end HT
namespace L2
open PySem PySem.Spec PyProof.Rows
abbrev TO:=St->Hp->(Option Int->Hp->Prop)->Prop
def PO (X:Cx) (e:Option Expr) (t:TO):Prop :=
 ∀ (pins:List (Addr×Obj)) (s:Shared) (σ:St) (H:Hp) (Q:Option Int->Hp->Prop),Inv X pins σ H s->t σ H Q ->
  wpAny (model X.prog X.w) X.A (evalPart e X.env) (fun u s'=>∃ o H',Inv X pins σ H' s'/\IsPart u o/\Q o H') X.xe s
def tNoPart:TO:=fun _ H Q=>Q none H
def tPart (t:TE):TO:=fun σ H Q=>t σ H fun x H1=>∃ i,x=.int i/\Q (some i) H1
section
variable {X:Cx} {e:Expr} {te:TE} {lo hi:Option Expr} {tl th:TO} {pos p2:Pos}
theorem po_none:PO X none tNoPart:=by
 intro pins s σ H Q I h
 rw [evalPart_none]
 exact wpAny_pure ⟨none,H,I,.none,h⟩
theorem po_some (h:PE X e te):PO X (some e) (tPart te):=by
 intro pins s σ H Q I hw
 rw [evalPart_some]
 refine thn (h pins s σ H _ I hw) ?_
 rintro u s1 ⟨x,H1,I1,r1,q1⟩
 obtain ⟨i,rfl,q⟩:=q1
 obtain ⟨t,rfl⟩:=r1
 exact ⟨some i,H1,I1,.int i t,q⟩
def SlR (X:Cx) (r:V->Option Int->Option Int->Hp->VK->Prop):Prop :=
 ∀ (pins:List (Addr×Obj)) (s:Shared) (σ:St) (H:Hp) (x:V) (v vl vu:Value) (lo hi:Option Int) (sl:Addr) (Q:VK),Inv X pins σ H s->RelV x v->s.heap.IsSliceOf sl vl vu .none->IsPart vl lo->IsPart vu hi->r x lo hi H Q ->
  ∃ T id,typeLookup (.type T) "__getitem__" = pure (some (.builtin id))/\s.TypeIs v T/\wpAny (model X.prog X.w) X.A (getItem v (.ref sl)) (EP X pins σ Q) X.xe s
def tSl (r:V->Option Int->Option Int->Hp->VK->Prop) (te:TE) (tl th:TO):TE:=fun σ H Q=>te σ H fun x H1=>tl σ H1 fun l H2=>th σ H2 fun u H3=>r x l u H3 Q
theorem pe_slice {r:V->Option Int->Option Int->Hp->VK->Prop} (hr:SlR X r) (he:PE X e te) (hl:PO X lo tl) (hu:PO X hi th):PE X (.Subscript e (.Slice lo hi none p2) pos) (tSl r te tl th):=by
 intro pins s σ H Q I h
 refine Subscript_ (thn (he pins s σ H _ I h) ?_)
 rintro v s1 ⟨x,H1,I1,r1,q1⟩
 refine wpAny_Slice (thn (hl pins s1 σ H1 _ I1 q1) fun vl s2 ⟨l,H2,I2,pl,q2⟩=>thn (hu pins s2 σ H2 _ I2 q2) fun vu s3 ⟨u,H3,I3,pu,q3⟩=>?_)
 rw [evalPart_none]
 refine wpAny_pure ?_
 have I4:Inv X pins σ H3 { s3 with heap:=s3.heap.push { cls:=.type "slice",data:=.fields #[vl,vu,.none] } }:=I3.kept (t':=s3.toks) fun b ob q=>zqc _ q
 obtain ⟨T,id,hT,ht,hg⟩:=hr pins { s3 with heap:=s3.heap.push { cls:=.type "slice",data:=.fields #[vl,vu,.none] } } σ H3 x v vl vu l u s3.heap.objs.size Q I4 r1 (Heap.IsSliceOf.new ..) pl pu q3
 show wpAny (model X.prog X.w) X.A (subscriptTail e (.Slice lo hi none p2) v (.ref s3.heap.objs.size)) (EP X pins σ Q) X.xe { s3 with heap:=s3.heap.push { cls:=.type "slice",data:=.fields #[vl,vu,.none] } }
 exact tail_any (ops:=[.ref s3.heap.objs.size,v]) ht hT hg (by with_unfolding_all rfl)
def cutV (xs:List V) (lo hi:Option Int):List V:=(xs.drop (HT.sIx xs.length 0 lo)).take (HT.sIx xs.length xs.length hi - HT.sIx xs.length 0 lo)
theorem cutV_length (xs:List V) (lo hi:Option Int):(cutV xs lo hi).length<=xs.length:=by
 unfold cutV
 rw [List.length_take,List.length_drop]
 omega
def rSlT (K:PySem.W.Frag):V->Option Int->Option Int->Hp->VK->Prop:=fun x lo hi H Q=>∃ a xs,x=.ref a/\SqT K H a xs /\
 ¬ (HT.sIx xs.length 0 lo=0/\HT.sIx xs.length xs.length hi=xs.length)/\∀ p,H p=none->Q (.ref p) (upd H p (.tup (cutV xs lo hi)))
theorem sl_tup:SlR X (rSlT X.K):=by
 intro pins s σ H x v vl vu lo hi sl Q I rx hs pl pu h
 obtain ⟨a,xs,rfl,hx,hw,q⟩:=h
 cases rx
 obtain ⟨its,r,ht,hz⟩:=I.tuple hx
 have hlen:its.toArray.size=xs.length:=by rw [zqq];exact r.length.symm
 refine ⟨"tuple",_,PyProof.Rows.slot_tuple_getitem.lookup,ht.typeIs,?_⟩
 refine HT.getItem_tuple_cut ht hs pl pu (by rw [hlen];exact hw) ?_ (by rw [hlen];exact hz)
 rw [hlen]
 refine ⟨.ref s.heap.objs.size,_,I.laid (t':=s.toks) (o:=.tup (cutV xs lo hi)) (fun b ob q=>zqc _ q) (zqg _) ?_,rfl,q _ (I.hok.fresh (zqg _))⟩
 exact ⟨Nat.le_trans (cutV_length xs lo hi) hz,_,(r.drop (HT.sIx xs.length 0 lo)).take (HT.sIx xs.length xs.length hi - HT.sIx xs.length 0 lo),IsTup.new _ _⟩
def rCatT (K:PySem.W.Frag):R2:=fun x y H Q=>∃ a b xs ys,x=.ref a/\y=.ref b/\SqT K H a xs/\SqT K H b ys/\xs≠[]/\xs.length+ys.length<=sizeLine /\
 (ys=[]->Q (.ref a) H)/\(ys≠[]->∀ p,H p=none->Q (.ref p) (upd H p (.tup (xs++ys))))
theorem Vals.nil_iff {xs:List V} {us:List Value} (r:Vals xs us):us=[]↔xs=[]:=by
 cases r with
 | nil=>simp
 | cons _ _=>simp
theorem op_catT:OpR X (binaryOp .Add) (rCatT X.K):=by
 intro pins s σ H x y v u Q I rx ry h
 obtain ⟨a,b,xs,ys,rfl,rfl,ha,hb,hx,hz,q1,q2⟩:=h
 cases rx
 cases ry
 obtain ⟨its,r1,p1,_⟩:=I.tuple ha
 obtain ⟨its2,r2,p2,_⟩:=I.tuple hb
 refine HT.cat_tup p1 p2 (fun z=>hx (r1.nil_iff.mp z)) (fun z=>⟨.ref a,H,I,rfl,q1 (r2.nil_iff.mp z)⟩) (fun z=>?_) (by rw [<- r1.length,<- r2.length];exact hz)
 refine ⟨.ref s.heap.objs.size,_,I.laid (t':=s.toks) (o:=.tup (xs++ys)) (fun b ob q=>zqc _ q) (zqg _) ?_,rfl,q2 (fun w=>z (r2.nil_iff.mpr w)) _ (I.hok.fresh (zqg _))⟩
 exact ⟨by rw [zqp];exact hz,_,r1.append r2,IsTup.new _ _⟩
end
def ixN (n:Nat) (i:Int):Option Nat:=if 0<=i then (if i < n then some i.toNat else none) else if -(n:Int)<=i then some (i+n).toNat else none
def atI {α:Type} (xs:List α) (i:Int):Option α:=(ixN xs.length i).bind fun j=>xs[j]?
theorem ixN_seq {n:Nat} {i:Int} {j:Nat} (h:ixN n i=some j):seqIndex? i n=some j/\j < n/\-(n:Int)<=i/\i < n:=by
 unfold ixN at h
 by_cases h0:0<=i
 ·rw [if_pos h0] at h
  by_cases h1:i < n
  ·rw [if_pos h1] at h
   have e:i.toNat=j:=zql h
   exact ⟨by rw [seqIndex_of h0 h1,e],by omega,by omega,h1⟩
  ·rw [if_neg h1] at h;cases h
 ·rw [if_neg h0] at h
  by_cases h1:-(n:Int)<=i
  ·rw [if_pos h1] at h
   have e:(i+n).toNat=j:=zql h
   exact ⟨by rw [seqIndex_neg (by omega) h1,e],by omega,h1,by omega⟩
  ·rw [if_neg h1] at h;cases h
theorem atI_get {α:Type} {xs:List α} {i:Int} {v:α} (h:atI xs i=some v):∃ j,seqIndex? i xs.length=some j/\xs[j]?=some v/\j < xs.length/\-(xs.length:Int)<=i/\i < xs.length:=by
 unfold atI at h
 cases e:ixN xs.length i with
 | none=>rw [e] at h;cases h
 | some j =>
  rw [e] at h
  obtain ⟨h1,h2,h3,h4⟩:=ixN_seq e
  exact ⟨j,h1,h,h2,h3,h4⟩
def PlainIx (b:Expr):Prop:=∀ o i,subscripted b false o i=operate [o,i] (getItem o i)
def IxR (X:Cx) (r:R2):Prop :=
 ∀ (value slice:Expr) (pins:List (Addr×Obj)) (s:Shared) (σ:St) (H:Hp) (x y:V) (v u:Value) (Q:VK),Inv X pins σ H s->RelV x v->RelV y u->r x y H Q ->
  subscripted slice false v u=operate [v,u] (getItem v u)->wpAny (model X.prog X.w) X.A (subscriptTail value slice v u) (EP X pins σ Q) X.xe s
def MtR (X:Cx) (id:String) (r:V->List V->Hp->VK->Prop):Prop :=
 ∀ (pins:List (Addr×Obj)) (s:Shared) (σ:St) (H:Hp) (x:V) (xs:List V) (v:Value) (us:List Value) (Q:VK),Inv X pins σ H s->RelV x v->Vals xs us->r x xs H Q ->
  wpAny (model X.prog X.w) X.A (call (.builtin id) (v::us)) (EP X pins σ Q) X.xe s
section
variable {X:Cx} {a b:Expr} {ta tb:TE} {pos:Pos}
theorem pe_ix {r:R2} (hr:IxR X r) (ha:PE X a ta) (hb:PE X b tb) (hs:PlainIx b):PE X (.Subscript a b pos) (tOp r ta tb):=by
 intro pins s σ H Q I h
 exact Subscript_ (binT ha hb I h fun v u s2 x y H2 I2 rx ry q=>hr a b pins s2 σ H2 x y v u Q I2 rx ry q (hs _ _))
def rIxL (K:PySem.W.Frag):R2:=fun x y H Q=>∃ p xs i v,x=.ref p/\y=.int i/\SqL K H p xs/\atI xs i=some v/\Q v H
def rIxT (K:PySem.W.Frag):R2:=fun x y H Q=>∃ p xs i v,x=.ref p/\y=.int i/\SqT K H p xs/\atI xs i=some v/\Q v H
def rIxS:R2:=fun x y H Q=>∃ z i c,x=.str z/\y=.int i/\z.length<=sizeLine/\atI z.cps.toList i=some c/\Q (.str ⟨#[c]⟩) H
theorem ix_list:IxR X (rIxL X.K):=by
 intro value slice pins s σ H x y v u Q I rx ry h hs
 obtain ⟨p,xs,i,z,rfl,rfl,hq,he,q⟩:=h
 cases rx
 obtain ⟨t,rfl⟩:=ry
 obtain ⟨its,r,pl,hz⟩:=I.list hq
 obtain ⟨j,h1,h2,h3,h4,h5⟩:=atI_get he
 obtain ⟨w,ew,rw'⟩:=r.get h2
 have hl:=r.length
 have hn:=line63
 have fin:EP X pins σ Q w s:=⟨z,H,I,rw',q⟩
 by_cases h0:0<=i
 ·have hj:i.toNat=j:=by
   rw [seqIndex_of h0 h5] at h1
   exact zql h1
  exact item_listR pl.isList h0 (by omega) (by rw [hj];simpa using ew) fin hs
 ·have hj:(i+(its.toArray.size:Int)).toNat=j:=by
   rw [seqIndex_neg (by omega) h4] at h1
   rw [zqq,<- hl]
   exact zql h1
  exact subscriptTail_builtinR (x:=w) pl.isList.typeIs slot_list_getitem.lookup
   (wpAny_getItem_list_neg (Q:=fun r s'=>r=w/\EP X pins σ Q r s') pl.isList (by omega) (by rw [zqq] <;> omega) (by omega) (by rw [hj];simpa using ew) ⟨rfl,fin⟩) hs
theorem ix_tup:IxR X (rIxT X.K):=by
 intro value slice pins s σ H x y v u Q I rx ry h hs
 obtain ⟨p,xs,i,z,rfl,rfl,hq,he,q⟩:=h
 cases rx
 obtain ⟨t,rfl⟩:=ry
 obtain ⟨its,r,pl,hz⟩:=I.tuple hq
 obtain ⟨j,h1,h2,h3,h4,h5⟩:=atI_get he
 obtain ⟨w,ew,rw'⟩:=r.get h2
 have hl:=r.length
 have hn:=line63
 have fin:EP X pins σ Q w s:=⟨z,H,I,rw',q⟩
 exact subscriptTail_builtinR (x:=w) pl.typeIs slot_tuple_getitem.lookup
  (getItem_tuple (j:=j) (Q:=fun r s'=>r=w/\EP X pins σ Q r s') pl (by omega) (by omega) (by rw [zqq,<- hl];exact h1) (by simpa using ew) ⟨rfl,fin⟩) hs
theorem ix_str:IxR X rIxS:=by
 intro value slice pins s σ H x y v u Q I rx ry h hs
 obtain ⟨z,i,c,rfl,rfl,hz,he,q⟩:=h
 obtain ⟨t,rfl⟩:=rx
 obtain ⟨t',rfl⟩:=ry
 obtain ⟨j,h1,h2,h3,h4,h5⟩:=atI_get he
 have hl:z.cps.toList.length=z.length:=by simp [Str.length]
 rw [hl] at h1 h4 h5
 have hn:=line63
 exact tail_any (typeIs_str s z t) slot_str_getitem.lookup (getItem_str (c:=c) (by
  have e1:decide (i < -(2 ^ 63:Int))=false:=decide_eq_false (by omega)
  have e2:decide (i ≥ 2 ^ 63)=false:=decide_eq_false (by omega)
  rw [e1,e2,Bool.or_false]) (by rw [h1];simpa using h2) ⟨.str ⟨#[c]⟩,H,I.tok _,⟨_,rfl⟩,q⟩) hs
theorem mapSeq_set (its:List Value) (n j:Nat) (u:Value):Obj.mapSeq (·.setIfInBounds j u) { cls:=.type "list",data:=.seq its.toArray n }={ cls:=.type "list",data:=.seq (its.set j u).toArray n }:=by
 simp [Obj.mapSeq]
theorem Inv.lst {pins : List (Addr × Obj)} {σ : St} {H : Hp} {s : Shared} {p : Addr} {xs : List V} (I : Inv X pins σ H s) (h : H p = some (.lst xs)) :
    ∃ (its:List Value) (n:Nat),Vals xs its/\s.heap.get? p=some { cls:=.type "list",data:=.seq its.toArray n }/\xs.length<=sizeLine:=by
  obtain ⟨z,its,n,r,e⟩:=I.hok p _ h
  exact ⟨its,n,r,e,z⟩
theorem Inv.lstUpd {pins : List (Addr × Obj)} {σ : St} {H : Hp} {s : Shared} {p : Addr} {xs ys : List V} {its its' : List Value} {n n' : Nat} {f : Obj -> Obj} (I : Inv X pins σ H s) (h : H p = some (.lst xs))
    (ho:s.heap.get? p=some { cls:=.type "list",data:=.seq its.toArray n }) (hf:f { cls:=.type "list",data:=.seq its.toArray n }={ cls:=.type "list",data:=.seq its'.toArray n' }) (r:Vals ys its') (hz:ys.length<=sizeLine) (t:Nat) :
    Inv X pins σ (upd H p (.lst ys)) { s with heap:=s.heap.update p f,toks:=t }:=by
  have e:(s.heap.update p f).get? p=some { cls:=.type "list",data:=.seq its'.toArray n' }:=by
    rw [Heap.get?_update_self f ho (by rw [hf] <;> rfl),hf]
  refine I.write (x:=p) (e:=p) (by rw [h];trivial) (.inl rfl) (fun b u hb q=>(Heap.get?_update_other _ _ (Ne.symm hb)).trans q) ⟨_,e⟩ ?_
  exact ⟨hz,its',n',r,e⟩
def rSetL:V->V->V->Hp->(Hp->Prop)->Prop:=fun o i v H Q=>∃ p xs k j,o=.ref p/\i=.int k/\H p=some (.lst xs)/\ixN xs.length k=some j/\Q (upd H p (.lst (xs.set j v)))
theorem set_list:PSet X rSetL:=by
 intro pins s σ H o i v ov iv u Q I ro ri rv h
 obtain ⟨p,xs,k,j,rfl,rfl,hp,hj,q⟩:=h
 cases ro
 obtain ⟨t,rfl⟩:=ri
 obtain ⟨its,n,r,ho,hz⟩:=I.lst hp
 obtain ⟨h1,h2,h3,h4⟩:=ixN_seq hj
 have hl:=r.length
 have hn:=line63
 have I':Inv X pins σ (upd H p (.lst (xs.set j v))) { s with heap:=s.heap.update p (Obj.mapSeq (·.setIfInBounds j u)) } :=
  I.lstUpd hp ho (mapSeq_set its n j u) (r.set rv j) (by rw [List.length_set];exact hz) s.toks
 by_cases h0:0<=k
 ·have hk:k.toNat=j:=by
   rw [seqIndex_of h0 h4] at h1
   exact zql h1
  exact PySem.W.ki_setAt ho h0 (by omega) (by rw [zqq,<- hl];exact h4) (by rw [hk];exact ⟨_,I',q⟩)
 ·have hk:(k+(its.toArray.size:Int)).toNat=j:=by
   rw [seqIndex_neg (by omega) h3] at h1
   rw [zqq,<- hl]
   exact zql h1
  exact PySem.W.ki_setBack ho (by omega) (by rw [zqq,<- hl];exact h3) (by omega) (by rw [hk];exact ⟨_,I',q⟩)
theorem slice_bounds (lo hi:Option Int) (n:Nat):(sliceBounds lo hi none n).1=((HT.sIx n 0 lo:Nat):Int)/\(sliceBounds lo hi none n).2.1=((HT.sIx n n hi:Nat):Int)/\(sliceBounds lo hi none n).2.2=1:=by
 refine ⟨?_,?_,rfl⟩
 ·cases lo with
  | none=>simp [sliceBounds,HT.sIx]
  | some i =>
   simp only [sliceBounds,HT.sIx,Option.getD_none,show (1:Int) > 0 by decide,if_true]
   by_cases h:i < 0
   ·simp only [h,if_true] <;> omega
   ·simp only [h,if_false] <;> omega
 ·cases hi with
  | none=>simp [sliceBounds,HT.sIx]
  | some i =>
   simp only [sliceBounds,HT.sIx,Option.getD_none,show (1:Int) > 0 by decide,if_true]
   by_cases h:i < 0
   ·simp only [h,if_true] <;> omega
   ·simp only [h,if_false] <;> omega
theorem slicePick_cut (its:List Value) (lo hi:Option Int):slicePick its.toArray lo hi none=((its.drop (HT.sIx its.length 0 lo)).take (HT.sIx its.length its.length hi - HT.sIx its.length 0 lo)).toArray:=by
 obtain ⟨h1,h2,h3⟩:=slice_bounds lo hi its.toArray.size
 unfold slicePick
 rw [h1,h2,h3]
 simp only [sliceRange_one,pick_run,zqq] <;> rfl
def rSlL (K:PySem.W.Frag):V->Option Int->Option Int->Hp->VK->Prop:=fun x lo hi H Q=>∃ a xs,x=.ref a/\SqL K H a xs/\∀ p,H p=none->Q (.ref p) (upd H p (.lst (cutV xs lo hi)))
theorem sl_list:SlR X (rSlL X.K):=by
 intro pins s σ H x v vl vu lo hi sl Q I rx hs pl pu h
 obtain ⟨a,xs,rfl,hx,q⟩:=h
 cases rx
 obtain ⟨its,r,ht,hz⟩:=I.list hx
 have hlen:=r.length
 refine ⟨"list",_,slot_list_getitem.lookup,ht.isList.typeIs,?_⟩
 refine wpAny_getItem_list_slice ht.isList hs pl pu .none (by simp) ?_ (by rw [zqq] <;> omega)
 rw [slicePick_cut,<- hlen]
 refine ⟨.ref s.heap.objs.size,_,I.laid (t':=s.toks) (o:=.lst (cutV xs lo hi)) (fun b ob q=>zqc _ q) (zqg _) ?_,rfl,q _ (I.hok.fresh (zqg _))⟩
 exact ⟨Nat.le_trans (cutV_length xs lo hi) hz,_,0,(r.drop (HT.sIx xs.length 0 lo)).take (HT.sIx xs.length xs.length hi - HT.sIx xs.length 0 lo),zqn _ rfl⟩
theorem call_len_seq:CallR X (.builtin "len") (fun xs H Q=>∃ p ys,xs=[.ref p]/\(SqL X.K H p ys\/SqT X.K H p ys)/\Q (.int ys.length) H):=by
 intro pins s σ H xs us Q I r h
 obtain ⟨p,ys,rfl,hq,q⟩:=h
 obtain ⟨u,rfl,rx⟩:=vals1 r
 cases rx
 have hn:=line63
 rcases hq with hq | hq
 ·obtain ⟨its,r',pl,hz⟩:=I.list hq
  have hlen:=r'.length
  exact Calls.call_len_list pl.isList (by simp only [zqq] <;> omega) ⟨.int ys.length,H,I.tok _,⟨s.toks+1,by rw [zqq,hlen]⟩,q⟩
 ·obtain ⟨its,r',pl,hz⟩:=I.tuple hq
  have hlen:=r'.length
  exact len_tuple pl (by simp only [zqq] <;> omega) ⟨.int ys.length,H,I.tok _,⟨s.toks+1,by rw [zqq,hlen]⟩,q⟩
theorem call_len_str:CallR X (.builtin "len") (fun xs H Q=>∃ z,xs=[.str z]/\z.length<=sizeLine/\Q (.int z.length) H):=by
 intro pins s σ H xs us Q I r h
 obtain ⟨z,rfl,hz,q⟩:=h
 obtain ⟨u,rfl,t,rfl⟩:=vals1 r
 have hn:=line63
 exact len_str (by omega) ⟨.int z.length,H,I.tok _,⟨_,rfl⟩,q⟩
theorem call_list_of:CallR X (.type "list") (fun xs H Q=>∃ p ys,xs=[.ref p]/\(SqL X.K H p ys\/SqT X.K H p ys)/\∀ l,H l=none->Q (.ref l) (upd H l (.lst ys))):=by
  intro pins s σ H xs us Q I r h
  obtain ⟨p,ys,rfl,hq,q⟩:=h
  obtain ⟨u,rfl,rx⟩:=vals1 r
  cases rx
  have fin : ∀ (its : List Value), Vals ys its -> ys.length <= sizeLine -> ∀ (h' : Heap) (c' : Nat), (∀ b o', s.heap.get? b = some o' -> h'.get? b = some o') ->
      h'.get? s.heap.objs.size=some { cls:=.type "list",dict:=none,data:=.seq its.toArray c',slots:=#[] }->EP X pins σ Q (.ref s.heap.objs.size) { s with heap:=h' }:=fun its r' hz h' c' kp e =>
    ⟨.ref s.heap.objs.size,_,I.laid (t':=s.toks) kp (zqg _) (show ObjOk X.prog X.w _ h' _ (.lst ys) from ⟨hz,its,c',r',e⟩),rfl,q _ (I.hok.fresh (zqg _))⟩
  rcases hq with hq | hq
  · obtain ⟨its,r',pl,hz⟩:=I.list hq
    have hlen:=r'.length
    obtain ⟨o,ho,hc,n,hd⟩:=pl.isList
    exact call_list_seq p (.inl rfl) ho hc hd (fun h' c' kp e=>fin its r' hz h' c' kp e) (by simp only [zqq] <;> omega)
  · obtain ⟨its,r',pl,hz⟩:=I.tuple hq
    have hlen:=r'.length
    obtain ⟨o,ho,hc,n,hd⟩:=pl
    exact call_list_seq p (.inr rfl) ho hc hd (fun h' c' kp e=>fin its r' hz h' c' kp e) (by simp only [zqq] <;> omega)
theorem call_tuple_of:CallR X (.type "tuple") (fun xs H Q=>∃ p ys,xs=[.ref p]/\((SqL X.K H p ys/\∀ l,H l=none->Q (.ref l) (upd H l (.tup ys)))\/(SqT X.K H p ys/\Q (.ref p) H))):=by
 intro pins s σ H xs us Q I r h
 obtain ⟨p,ys,rfl,h⟩:=h
 obtain ⟨u,rfl,rx⟩:=vals1 r
 cases rx
 rcases h with ⟨hq,q⟩|⟨hq,q⟩
 ·obtain ⟨its,r',pl,hz⟩:=I.list hq
  have hlen:=r'.length
  refine call_tuple_list pl.isList (fun h' kp=>?_) (by simp only [zqq] <;> omega)
  have I1:Inv X pins σ H { s with heap:=h' }:=I.kept (t':=s.toks) kp
  have I2:Inv X pins σ (upd H h'.objs.size (.tup ys)) { s with heap:=h'.push { cls:=.type "tuple",data:=.seq its.toArray } } :=
   I1.laid (t':=s.toks) (fun b o e=>zqc _ e) (zqg _) (show ObjOk X.prog X.w _ _ _ (.tup ys) from ⟨hz,its,r',IsTup.new _ _⟩)
  exact ⟨.ref h'.objs.size,_,I2,rfl,q _ (I1.hok.fresh (zqg _))⟩
 ·obtain ⟨its,r',pl,hz⟩:=I.tuple hq
  exact call_tuple_same pl ⟨.ref p,H,I,rfl,q⟩
def tyV (K:PySem.W.Frag) (T:String) (x:V) (H:Hp):Prop:=match x with
  | .str _=>T = "str"
  | .int _=>T = "int"
  | .ref p => (T = "list" /\ ∃ xs, SqL K H p xs) \/ (T = "tuple" /\ ∃ o, K.lookup p = some o /\ o.cls = .type "tuple" /\ o.dict = none) \/
      (T = "dict" /\ ((∃ kvs,H p=some (.dK kvs))\/∃ kvs,H p=some (.dT kvs)))\/(T = "set" /\ ∃ S n,H p=some (.set S n))
  | _=>False
theorem tyV_is {pins : List (Addr × Obj)} {σ : St} {H : Hp} {s : Shared} {T : String} {x : V} {v : Value} (I : Inv X pins σ H s) (r : RelV x v) (ty : tyV X.K T x H) :
    s.TypeIs v T/\∀ a,v=.ref a->∃ ob,s.heap.get? a=some ob/\ob.dict=none:=by
  cases x with
  | str z =>
    obtain ⟨t,rfl⟩:=r
    cases (show T = "str" from ty)
    exact ⟨typeIs_str s z t,fun _ e=>nomatch e⟩
  | int i =>
    obtain ⟨t,rfl⟩:=r
    cases (show T = "int" from ty)
    exact ⟨typeIs_int s i t,fun _ e=>nomatch e⟩
  | ref p =>
    cases r
    rcases ty with ⟨rfl,xs,hq⟩|⟨rfl,o,hk,hc,hd⟩|⟨rfl,hk⟩|⟨rfl,S,n,hk⟩
    · obtain ⟨its,_,pl,_⟩:=I.list hq
      refine ⟨pl.isList.typeIs,fun a e=>?_⟩
      cases e
      obtain ⟨o,n,e,c,hd,_⟩:=pl
      exact ⟨o,e,hd⟩
    · refine ⟨⟨o,I.kIn p o hk,hc⟩,fun a e=>?_⟩
      cases e
      exact ⟨o,I.kIn _ o hk,hd⟩
    · have z : ∃ o, s.heap.get? p = some o /\ o.ExactDict := by
        rcases hk with ⟨kvs,hk⟩|⟨kvs,hk⟩
        · obtain ⟨_,_,_,_,o,_,_,e,ex,_⟩:=I.hok p _ hk
          exact ⟨o,e,ex⟩
        · obtain ⟨_,_,_,_,o,_,_,e,ex,_⟩:=I.hok p _ hk
          exact ⟨o,e,ex⟩
      obtain ⟨o,e,ex⟩:=z
      refine ⟨⟨o,e,ex.1⟩,fun a e2=>?_⟩
      cases e2
      exact ⟨o,e,ex.2.1⟩
    · obtain ⟨o,_,_,_,e,ex,_⟩:=I.hok p _ hk
      refine ⟨⟨o,e,ex.1⟩,fun a e2=>?_⟩
      cases e2
      exact ⟨o,e,ex.2.1⟩
  | _=>exact False.elim ty
def tBM0 (K:PySem.W.Frag) (T:String) (r:V->List V->Hp->VK->Prop) (to:TE):TE:=fun σ H Q=>to σ H fun x H1=>tyV K T x H1/\r x [] H1 Q
def tBM (K:PySem.W.Frag) (T:String) (r:V->List V->Hp->VK->Prop) (to:TE) (t:TA):TE:=fun σ H Q=>to σ H fun x H1=>tyV K T x H1/\t σ H1 fun xs H2=>r x xs H2 Q
variable {o e:Expr} {es:List Expr} {to:TE} {t:TA} {name:Str} {apos cpos:Pos} {T id:String} {r:V->List V->Hp->VK->Prop}
theorem pe_bm0 (pa : PlainAttrs T) (slot : Slot T name id) (hty : typeOf (.builtin id) = pure (.type "method_descriptor")) (hm : MtR X id r) (ho : PE X o to)
    (hbase:attributeBase o name X.env (eval o X.env)=eval o X.env:=by rfl) (hline:(apos.endLine == cpos.line)=true:=by rfl):PE X (.Call (.Attribute o name apos) [] [] cpos) (tBM0 X.K T r to):=by
  intro pins s σ H Q I h
  refine wpAny_Call_method0_late hbase hline (thn (ho pins s σ H _ I h) ?_)
  rintro v s1 ⟨x,H1,I1,r1,ty,q1⟩
  obtain ⟨h1,h2⟩:=tyV_is I1 r1 ty
  exact ⟨T,id,pa,slot,hty,h1,h2,Calls.callWith_builtin rfl (PySem.evalArgs_none (hm pins s1 σ H1 x [] v [] Q I1 r1 .nil q1))⟩
theorem pe_bm (pa : PlainAttrs T) (slot : Slot T name id) (hty : typeOf (.builtin id) = pure (.type "method_descriptor")) (hm : MtR X id r) (ho : PE X o to) (ha : PA X (e :: es) t)
    (hbase:attributeBase o name X.env (eval o X.env)=eval o X.env:=by rfl)
    (hfew:((backTo cpos (starEach (e::es) X.env)).all (fun x=>!x.1) && (backToKw cpos (keywordEach [] X.env)).all (fun x=>x.1.isSome)
      && decide ((e::es).length+([]:List Keyword).length+(if ([]:List Keyword).isEmpty then 0 else 1) < 30))=true:=by rfl)
    (hline:(apos.endLine == cpos.line)=true:=by rfl) (hs:starEach (e::es) X.env=(false,eval e X.env)::starEach es X.env:=by rfl) (hplain:(backTo cpos (starEach es X.env)).any (·.1)=false:=by rfl) :
    PE X (.Call (.Attribute o name apos) (e::es) [] cpos) (tBM X.K T r to t):=by
  intro pins s σ H Q I h
  refine wpAny_Call_method_late hbase hfew hline rfl (thn (ho pins s σ H _ I h) ?_)
  rintro v s1 ⟨x,H1,I1,r1,ty,q1⟩
  obtain ⟨h1,h2⟩:=tyV_is I1 r1 ty
  refine ⟨T,id,pa,slot,hty,h1,h2,?_⟩
  have hA:=ha cpos pins s1 σ H1 _ I1 q1
  rw [hs] at hA ⊢
  refine Calls.callWith_builtin (by show (false || (backTo cpos (starEach es X.env)).any (·.1))=false;rw [hplain] <;> rfl) (Calls.evalArgs_plain ?_)
  exact thn hA fun us s2 ⟨vs,H2,I2,r2,q2⟩=>hm pins s2 σ H2 x vs v us Q I2 r1 r2 q2
end
def MtM (X:Cx) (id:String) (r:V->List V->Hp->VK->Prop):Prop :=
 ∀ (pins:List (Addr×Obj)) (s:Shared) (σ:St) (H:Hp) (x:V) (xs:List V) (v:Value) (us:List Value) (Q:VK),Inv X pins σ H s->RelV x v->Vals xs us->r x xs H Q ->
  wpAny (model X.prog X.w) X.A (call (.builtin id) (v::us)) (EP X pins σ Q) X.xe s
theorem Vals.one:∀ {x:V} {us:List Value},Vals [x] us->∃ u,us=[u]/\RelV x u
 | _,_,.cons r .nil=>⟨_,rfl,r⟩
theorem Vals.two:∀ {x y:V} {us:List Value},Vals [x,y] us->∃ u v,us=[u,v]/\RelV x u/\RelV y v
 | _,_,_,.cons r (.cons q .nil)=>⟨_,_,rfl,r,q⟩
theorem Vals.dropLast {xs:List V} {us:List Value} (h:Vals xs us):Vals xs.dropLast us.dropLast:=by
 induction h with
 | nil=>exact .nil
 | cons r t ih =>
  cases t with
  | nil=>exact .nil
  | cons q t'=>exact .cons r ih
theorem Vals.rep {xs:List V} {us:List Value} (h:Vals xs us):∀ k:Nat,Vals (List.replicate k xs).flatten (List.replicate k us).flatten
 | 0=>.nil
 | k+1=>by
  rw [List.replicate_succ,List.replicate_succ,List.flatten_cons,List.flatten_cons]
  exact Vals.append h (Vals.rep h k)
theorem foldl_rep (its : List Value) : ∀ (k : Nat) (acc : List Value),
    List.foldl (fun x1 x2=>x1++x2) acc.toArray (List.replicate k its.toArray)=(acc++(List.replicate k its).flatten).toArray
  | 0,acc=>by simp
  | k+1,acc=>by
    have e:acc.toArray++its.toArray=(acc++its).toArray:=by simp
    have e2:(acc++its)++(List.replicate k its).flatten=acc++(List.replicate (k+1) its).flatten:=by
      rw [List.replicate_succ,List.flatten_cons,List.append_assoc]
    rw [<- e2,<- foldl_rep its k (acc++its),<- e,List.replicate_succ,List.foldl_cons]
section
variable {X:Cx} {pins:List (Addr×Obj)} {σ:St} {H:Hp} {s:Shared} {l b:Addr} {xs ys zs:List V}
theorem Inv.lset {its its' : List Value} {n : Nat} {f : Array Value -> Array Value} {t' : Nat} (I : Inv X pins σ H s) (hH : H l = some (.lst xs))
    (e:s.heap.get? l=some { cls:=.type "list",data:=.seq its.toArray n }) (hf:f its.toArray=its'.toArray) (hv:Vals ys its') (hz:ys.length<=sizeLine) :
    Inv X pins σ (upd H l (.lst ys)) { s with heap:=s.heap.update l (Obj.mapSeq f),toks:=t' }:=by
  have q:=PySem.IsL.update e f
  rw [hf] at q
  refine I.write (x:=l) (e:=l) (by rw [hH];exact trivial) (.inl rfl) (fun b' u hb hu=>(Heap.get?_update_other s.heap (Obj.mapSeq f) (Ne.symm hb)).trans hu) ⟨_,q⟩ ?_
  exact ⟨hz,its',_,hv,q⟩
theorem Inv.lnew {its : List Value} {t' : Nat} (I : Inv X pins σ H s) (hv : Vals ys its) (hz : ys.length <= sizeLine) :
    Inv X pins σ (upd H s.heap.objs.size (.lst ys)) { s with heap:=s.heap.push { cls:=.type "list",data:=.seq its.toArray },toks:=t' } :=
  I.laid (fun _ _ q=>zqc _ q) (zqg _) ⟨hz,its,0,hv,zqn _ rfl⟩
theorem Inv.fresh (I:Inv X pins σ H s):H s.heap.objs.size=none:=I.hok.fresh (zqg _)
theorem Inv.lstM (I:Inv X pins σ H s) (hH:H l=some (.lst xs)):xs.length<=sizeLine/\∃ (its:List Value) (n:Nat),Vals xs its/\xs.length=its.length/\s.heap.get? l=some { cls:=.type "list",data:=.seq its.toArray n }:=by
 obtain ⟨z,its,n,r,e⟩:=I.hok l _ hH
 exact ⟨z,its,n,r,r.length,e⟩
theorem notLongL {n:Nat} (h:n<=sizeLine):Builtin.List.listTooLong n=false:=by
 unfold Builtin.List.listTooLong
 exact decide_eq_false (by omega)
end
section
variable {X:Cx}
def rAppend:V->List V->Hp->VK->Prop:=fun x vs H Q=>∃ l xs y,x=.ref l/\vs=[y]/\H l=some (.lst xs)/\xs.length < sizeLine/\Q .non (upd H l (.lst (xs++[y])))
theorem mt_append:MtM X "list.append" rAppend:=by
 intro pins s σ H x vs v us Q I rx rv h
 obtain ⟨l,xs,y,rfl,rfl,hH,hz,q⟩:=h
 cases rx
 obtain ⟨u,rfl,ru⟩:=rv.one
 obtain ⟨z,its,n,r,hl,e⟩:=I.lstM hH
 refine call_meets F.slot_list_append ⟨_,e,rfl⟩ F.entry_list_append (F.args_list_append_2 _ _) (PySem.list_append l its.toArray n u (by rw [zqq];omega)) ⟨e,?_⟩
 refine ⟨.non,_,I.lset (its':=its++[u]) hH e (by simp) (r.append (.cons ru .nil)) ?_,rfl,q⟩
 rw [zqp,List.length_singleton]
 omega
def rExtend:V->List V->Hp->VK->Prop:=fun x vs H Q=>∃ l b xs zs,x=.ref l/\vs=[.ref b]/\H l=some (.lst xs)/\H b=some (.lst zs)/\xs.length+zs.length<=sizeLine/\Q .non (upd H l (.lst (xs++zs)))
theorem mt_extend:MtM X "list.extend" rExtend:=by
 intro pins s σ H x vs v us Q I rx rv h
 obtain ⟨l,b,xs,zs,rfl,rfl,hH,hB,hz,q⟩:=h
 cases rx
 obtain ⟨u,rfl,ru⟩:=rv.one
 cases ru
 obtain ⟨z,its,n,r,hl,e⟩:=I.lstM hH
 obtain ⟨z2,its2,n2,r2,hl2,e2⟩:=I.lstM hB
 have hsz:its.toArray.size+its2.toArray.size<=sizeLine:=by rw [zqq,zqq];omega
 have hlong:¬ (!its.toArray.isEmpty && Builtin.List.listTooLong (its.toArray.size+its2.toArray.size))=true:=by
  rw [notLongL hsz,Bool.and_false]
  exact zqd
 refine call_meets F.slot_list_extend ⟨_,e,rfl⟩ F.entry_list_extend (F.args_list_extend_2 _ _)
  (AutoSeq1.list_extend_list_list_0 l its.toArray n b its2.toArray n2 hlong (by rw [zqq];omega) (by omega)) ⟨e,e2,?_⟩
 refine ⟨.non,_,I.lset (its':=its++its2) hH e (by simp) (r.append r2) ?_,rfl,q⟩
 rw [zqp]
 omega
def rCat:R2:=fun x y H Q=>∃ l b xs zs,x=.ref l/\y=.ref b/\H l=some (.lst xs)/\H b=some (.lst zs)/\xs.length+zs.length<=sizeLine/\∀ p,H p=none->Q (.ref p) (upd H p (.lst (xs++zs)))
theorem op_cat:OpR X (binaryOp .Add) rCat:=by
 intro pins s σ H x y v u Q I rx ry h
 obtain ⟨l,b,xs,zs,rfl,rfl,hH,hB,hz,q⟩:=h
 cases rx
 cases ry
 obtain ⟨z,its,n,r,hl,e⟩:=I.lstM hH
 obtain ⟨z2,its2,n2,r2,hl2,e2⟩:=I.lstM hB
 refine PySem.P.add_list e e2 ?_ (by rw [zqq,zqq];omega)
 have ea:its.toArray++its2.toArray=(its++its2).toArray:=by simp
 rw [ea]
 exact ⟨.ref _,_,I.lnew (t':=s.toks) (r.append r2) (by rw [zqp];omega),rfl,q _ I.fresh⟩
def rRep:R2:=fun x y H Q=>∃ l k xs,x=.ref l/\y=.int k/\H l=some (.lst xs)/\-(2 ^ 63)<=k/\k < 2 ^ 63/\xs.length * k.toNat<=sizeLine /\
 ∀ p,H p=none->Q (.ref p) (upd H p (.lst (List.replicate k.toNat xs).flatten))
theorem len_rep {α:Type} (xs:List α) (k:Nat):(List.replicate k xs).flatten.length=k * xs.length:=by
 induction k with
 | zero=>simp
 | succ k ih=>rw [List.replicate_succ,List.flatten_cons,zqp,ih,Nat.succ_mul,Nat.add_comm]
theorem op_rep:OpR X (binaryOp .Mult) rRep:=by
 intro pins s σ H x y v u Q I rx ry h
 obtain ⟨l,k,xs,rfl,rfl,hH,h1,h2,hz,q⟩:=h
 cases rx
 obtain ⟨t,rfl⟩:=ry
 obtain ⟨z,its,n,r,hl,e⟩:=I.lstM hH
 have hlen:its.toArray.size * k.toNat<=sizeLine:=by rw [zqq,<- hl];exact hz
 have hcap:¬ its.toArray.size * k.toNat > (2 ^ 63 - 1) / 8:=by
  have:(sizeLine:Nat)<=(2 ^ 63 - 1) / 8:=by decide
  omega
 have hfit:¬ (!Builtin.List.listFitsIndex k)=true:=by
  rw [fitsIndex_both h1 h2]
  exact zqd
 have hlong:¬ Builtin.List.listTooLong (its.toArray.size * k.toNat)=true:=by
  rw [notLongL hlen]
  exact zqd
 have hnew:List.foldl (fun x1 x2=>x1++x2) #[] (List.replicate (if its.toArray.isEmpty=true then 0 else k.toNat) its.toArray)=(List.replicate k.toNat its).flatten.toArray:=by
  have f0:∀ m:Nat,List.foldl (fun x1 x2=>x1++x2) #[] (List.replicate m its.toArray)=(List.replicate m its).flatten.toArray:=fun m=>by
   have:=foldl_rep its m []
   rw [List.nil_append] at this
   exact this
  rw [f0]
  cases its with
  | nil=>simp
  | cons a r'=>rw [if_neg (by simp)]
 refine wpAny_binaryOp_repeat_ref (T := "list") (U := "int") (by decide) ⟨_,e,rfl⟩ (fun s'=>typeIs_int s' k t) noFill_list_mul F.fills_int_mul F.slot_int_rmul repeat_list F.slot_int_index.lookup
  (call_meets F.slot_int_rmul (typeIs_int s k t) F.entry_int_rmul (F.args_int_rmul_2 _ _) (int___rmul___int_list k t l its.toArray n)
   ⟨e,rfl,⟨_,e,rfl⟩,call_meets F.slot_list_mul ⟨_,e,rfl⟩ F.entry_list_mul (F.args_list_mul_2 _ _) (AutoListH.list___mul___list_int_3 l its.toArray n k t hfit hcap hlong) ⟨e,?_⟩⟩)
 rw [hnew]
 exact ⟨.ref _,_,I.lnew (t':=s.toks) (r.rep k.toNat) (by rw [len_rep,Nat.mul_comm];exact hz),rfl,q _ I.fresh⟩
end
end L2
namespace Att
open PySem PySem.W PySem.Calls PyProof.Rows
theorem ints_of_wellAll {P:Params} {h:Heap}:∀ (ns:List Int) (vs:List Value),WellAll P h vs (ns.map WData.int)->IntsAre vs ns:=by
 intro ns
 induction ns with
 | nil =>
  intro vs w
  rw [List.map_nil] at w
  cases w
  exact .nil
 | cons n ns ih =>
  intro vs w
  rw [List.map_cons] at w
  cases w with
  | cons a b =>
   cases a
   exact .cons _ _ (ih _ b)
theorem script_of {l : OpenLaw} {n : Nat} (hn : l.most = some n) {P : Params} {h : Heap} {args : List WData} {vals : List Value}
    (hpre:l.row.toRowW.claim.pre args=true) (hwl:WellAll P h vals args) :
    ∃ a vs ns,vals=[Value.ref a]/\args=[WData.list (ns.map WData.int)]/\h.get? a=some { cls:=.type "list",data:=.seq vs.toArray }/\IntsAre vs ns/\ns.length<=n:=by
  have hsh:WShape.hasAll [] args [.list .int]=true:=(pre_splitW hpre).1
  have hc:l.pre.holds [] { args:=args }=true:=(pre_splitW hpre).2
  obtain ⟨d,r,rfl,h1,h2⟩:=hasAllW_cons hsh
  obtain rfl:=hasAllW_nil h2
  obtain ⟨xs,rfl,h3⟩:=hasW_list h1
  obtain ⟨ns,rfl⟩:=items_int h3
  have hlen:ns.length<=n:=by
    unfold OpenLaw.pre at hc
    have h4:(WTm.not (.lt (.lit (.int (n:Int))) (.len (.arg 0)))).holds [] { args:=[.list (ns.map .int)] }=true:=by
      have h4:=(holds_andW hc).1
      rw [hn] at h4
      exact h4
    have h5:=condW_of h4 (w_not (w_lt w_lit (w_len_list (w_arg rfl))))
    rw [zqe] at h5
    refine Nat.le_of_not_lt fun q=>?_
    have q':(n:Int) < ((ns.length:Nat):Int):=by omega
    first
      | (rw [decide_eq_true q'] at h5;exact absurd h5 (by decide))
      | (simp at h5;omega)
  cases hwl with
  | cons w1 w2 =>
    cases w2
    cases w1 with
    | list ho hall=>exact ⟨_,_,ns,rfl,rfl,ho,ints_of_wellAll ns _ hall,hlen⟩
theorem post_true (l:OpenLaw) (args:List WData):l.row.toRowW.claim.post args (.bool true) args=true :=
 postW_of (r:=l.row.toRowW) (X:=(true == true))
  (show WShape.has [] (.bool true) .bool=true by first | rfl | decide | simp [WShape.has,WShape.arms,WShape.armsAll])
  (show (WTm.eq .res (.lit (.bool true))).value [] { args:=args,res:=some (.bool true),after:=args }=some (.bool (true == true)) from w_eq_bool (w_res rfl) w_lit) rfl
theorem attach_call {l : OpenLaw} {n : Nat} {q : Program} {loose : List Str} {XP : (Str -> Option Value) -> Heap -> Prop} {YP : World -> Heap -> Prop} {d : DefRec}
    (hn:l.most=some n) (hdf:d.params.defaults=[])
    (call:∀ (w:World) (s₀ s₁:Shared) (mg mb:Str->Option Value) (fa:Addr) (o:Obj) (pm cd doc:Value) (a:Addr) (vs:List Value) (ns:List Int),
      Ground q loose [] XP w s₀ mg mb s₁.heap->YP w s₁.heap ->
      s₁.heap.get? fa=some o->o.data=.func (docDef d.name d.params d.body d.scope pm cd doc)->s₁.heap.CodeRec cd d.name->mg d.name=some (.ref fa) ->
      s₁.heap.get? a=some { cls:=.type "list",data:=.seq vs.toArray }->IntsAre vs ns->ns.length<=n->s₁.gens=#[] ->
      codeAny (model l.prog w) callerA (.call (.ref fa) ⟨[.ref a],[]⟩) (fun r s'=>r=.ok (.ret (.bool true))/\OldK s₁.heap s'.heap/\s'.os=s₁.os/\AllBare s'.gens) s₁) :
    WalkO q loose XP YP l.row.toRowW d [] (fun f vs=>PySem.call f vs):=by
  intro w s₀ s₁ mg mb G Y fa o pm cd doc dV kV ho hd hcd hD hmg hg args vals as hpre hlay hrd hwl hlo
  obtain rfl:dV=.none:=Dflts.none hD hdf
  obtain rfl:kV=.none:=Dflts.noKw hD
  obtain ⟨a,vs,ns,rfl,rfl,hobj,hints,hlen⟩:=script_of hn hpre hwl
  refine enter_call (codeAny_mono (call w s₀ s₁ mg mb fa o pm cd doc a vs ns G Y ho (fd_plain hd) hcd hmg hobj hints hlen hg) fun r s' hq=>?_)
  obtain ⟨rfl,h2,h3,h4⟩:=hq
  exact ⟨.inl ⟨.bool true,.bool true,[],rfl,fun _=>rfl,.bool true,post_true l _,fun _=>⟨List.Pairwise.nil,fun _ hm=>(nomatch hm)⟩⟩,h2,h3,h4⟩
end Att
namespace L2
open PySem PySem.Spec PyProof.Rows
theorem vals_ints:∀ {vs:List Value} {ns:List Int},IntsAre vs ns->Vals (ns.map V.int) vs
 | _,_,.nil=>.nil
 | _,_,.cons n t h=>.cons ⟨t,rfl⟩ (vals_ints h)
def Only (H:Hp):Prop:=∀ b,H b=none\/∃ o xs,H b=some (.frz o (.lst xs))
theorem law_call {P : Program} {w : World} {K : PySem.W.Frag} {mg mb : Str -> Option Value} {CX : CXT} {k : Nat} {fa a : Addr} {fd : FuncData} {x : Str} {sp : Sp} {s₁ : Shared} {vs : List Value} {ns : List Int}
    (KX:K.In s₁.heap) (hns:s₁.heap.Ns mainGlobals mg) (hb:s₁.heap.Ns builtinsNs mb) (hbb:∀ x:Str,x ≠ "__name__" -> mb x=bootBuiltins x) (hlim:s₁.heap.NoLimit) (hg:s₁.gens=#[])
    (ha:s₁.heap.get? a=some { cls:=.type "list",data:=.seq vs.toArray }) (hi:IntsAre vs ns) (hl:ns.length<=sizeLine) (hr:Room k callerA)
    (F:∀ base:Heap,K.In base->base.Ns mainGlobals mg->FnOk P w K mg base CX k fa fd [x] sp) (hbind:∀ (s:Shared) (u:Value),BindsTo s fd ⟨[u],[]⟩ [(x,u)])
    (hsp:∀ H:Hp,Only H->SqL K H a (ns.map V.int)->sp [.ref a] H (fun v _=>v=.bl true) fun _ _ _=>False)
    (hCX:∀ H e s',CX [] H s₁ (fun _ _ _=>False) e s'->False) :
    codeAny (model P w) callerA (.call (.ref fa) ⟨[.ref a],[]⟩) (fun r s'=>r=.ok (.ret (.bool true))/\OldK s₁.heap s'.heap/\s'.os=s₁.os/\AllBare s'.gens) s₁:=by
  have rv:=vals_ints hi
  have lenV:=hi.length
  have core : ∀ H : Hp, Only H -> SqL K H a (ns.map V.int) -> HOk P w H s₁.heap -> (∀ b, H b ≠ none -> b = a) -> (H a ≠ none -> K.lookup a = none) ->
      codeAny (model P w) callerA (.call (.ref fa) ⟨[.ref a],[]⟩) (fun r s'=>r=.ok (.ret (.bool true))/\OldK s₁.heap s'.heap/\s'.os=s₁.os/\AllBare s'.gens) s₁:=by
    intro H hO hS hok hA hK
    have base_of:∀ {b:Addr} {o:Obj},s₁.heap.get? b=some o->H b=none->(hidT s₁.heap H).get? b=some o:=fun e n=>hidT_get e n
    have noA:∀ {b:Addr} {o:Obj} {es:Array DictEntry} {ep:Nat},s₁.heap.get? b=some o->o.data=.dict es ep->H b=none:=fun {b o es ep} e d=>by
      cases q:H b with
      | none=>rfl
      | some u =>
        have e':b=a:=hA b (by rw [q];simp)
        subst e'
        rw [ha] at e;cases e
        have d':Data.seq vs.toArray _=Data.dict es ep:=d
        cases d'
    have nsK:∀ {b:Addr} {m:Str->Option Value},s₁.heap.Ns b m->(hidT s₁.heap H).Ns b m:=fun {b m} ⟨o,es,ep,e,d,r⟩=>⟨o,es,ep,base_of e (noA e d),d,r⟩
    have hKb:K.In (hidT s₁.heap H):=fun b o e=>base_of (KX b o e) (by
      cases q:H b with
      | none=>rfl
      | some u =>
        have e':b=a:=hA b (by rw [q];simp)
        subst e'
        rw [hK (by rw [q];simp)] at e;cases e)
    have hM:Mod K mg (hidT s₁.heap H):=⟨hKb,nsK hns,⟨mb,nsK hb,hbb⟩,let ⟨mc,h1,h2⟩:=hlim;⟨mc,nsK h1,h2⟩⟩
    have e0:Env0 P w K mg (hidT s₁.heap H) callerA [] s₁ H:=⟨rfl,hM,fun b o e=>of_hidT e,Nat.le_of_eq (hidT_size _ _),trivial,fun b hb=>absurd (show b∈([]:List Addr) from hb) (by simp),hok,.of_eq hg⟩
    refine codeAny_mono ((F _ hKb (nsK hns)).run callerA [] s₁ H ⟨[.ref a],[]⟩ [.ref a] [.ref a] _ _ hr e0 (hbind s₁ (.ref a)) (.cons rfl .nil) (hsp H hO hS)) fun r s' h=>?_
    cases r with
    | error e=>exact (hCX H e s' h).elim
    | ok fl =>
      cases fl with
      | next=>exact False.elim h
      | brk=>exact False.elim h
      | cont=>exact False.elim h
      | ret u =>
        obtain ⟨v,H',os,bare,un,hok',r',q⟩:=h
        have q':v=.bl true:=q
        subst q'
        obtain rfl:u=Value.bool true:=r'
        refine ⟨rfl,OldK.of_keep fun b o e=>?_,os,bare⟩
        cases q:H b with
        | none=>exact un.keep b o e q (by intro z;exact absurd (show b∈([]:List Addr) from z) (by simp)) (by simp)
        | some u =>
          rcases hO b with z | ⟨ob,xs,z⟩
          · rw [q] at z;cases z
          · have z2:=un.frzs b ob _ z
            obtain ⟨e1,_⟩:=hok b _ z
            obtain ⟨e2,_⟩:=hok' b _ z2
            rw [e] at e1;cases e1
            exact e2
  cases hk:K.lookup a with
  | some o =>
    have e:=KX a o hk
    rw [ha] at e
    cases e
    refine core (fun _=>none) (fun _=>.inl rfl) (.inr ⟨_,vs.toArray,_,hk,rfl,rfl,rfl,by rw [zqq,lenV];exact hl,by simpa using rv⟩) (fun b u z=>by have z':(none:Option HO)=some u:=z;cases z') (fun b z=>absurd rfl z) fun z=>absurd rfl z
  | none =>
    refine core (fun b=>if b=a then some (.frz { cls:=.type "list",data:=.seq vs.toArray } (.lst (ns.map V.int))) else none) (fun b=>?_) (.inl (.inr ⟨{ cls:=.type "list",data:=.seq vs.toArray },if_pos rfl⟩)) (fun b u z=>?_) (fun b z=>?_) fun _=>hk
    · by_cases hb:b=a
      · exact .inr ⟨_,_,if_pos hb⟩
      · exact .inl (if_neg hb)
    · by_cases hb:b=a
      · have z':=(if_pos hb).symm.trans z
        cases z'
        subst hb
        exact ⟨ha,by rw [zqe];exact hl,vs,_,rv,ha⟩
      · have z':=(if_neg hb).symm.trans z
        cases z'
    · by_cases hb:b=a
      · exact hb
      · exact absurd (if_neg hb) z
theorem walk_of {l : PySem.W.OpenLaw} {n k : Nat} {q : Program} {loose : List Str} {XP : (Str -> Option Value) -> Heap -> Prop} {YP : World -> Heap -> Prop} {d : DefRec} {K : Params -> PySem.W.Frag} {CX : World -> CXT} {sp : World -> Sp} {x : Str}
    (hn:l.most=some n) (hn2:n<=sizeLine) (hdf:d.params.defaults=[]) (hr:Room k callerA)
    (hY:∀ (w:World) (h:Heap),YP w h->(K w.params).In h)
    (F:∀ (w:World) (mg:Str->Option Value) (fa:Addr) (h:Heap),(K w.params).In h->h.Ns mainGlobals mg->mg d.name=some (.ref fa) ->
      ∃ fd:FuncData,(∀ (s:Shared) (u:Value),BindsTo s fd ⟨[u],[]⟩ [(x,u)]) /\
        ∀ base:Heap,(K w.params).In base->base.Ns mainGlobals mg->FnOk l.prog w (K w.params) mg base (CX w) k fa fd [x] (sp w))
    (hsp:∀ (w:World) (H:Hp) (a:Addr) (ns:List Int),ns.length<=n->Only H->SqL (K w.params) H a (ns.map V.int)->sp w [.ref a] H (fun v _=>v=.bl true) fun _ _ _=>False)
    (hCX:∀ (w:World) (H:Hp) (s:Shared) (e:Value) (s':Shared),CX w [] H s (fun _ _ _=>False) e s'->False) :
    PySem.W.WalkO q loose XP YP l.row.toRowW d [] (fun f vs=>PySem.call f vs):=by
  refine Att.attach_call hn hdf fun w s₀ s₁ mg mb fa o pm cd doc a vs ns G Y ho hd hcd hmg hobj hints hlen hg=>?_
  have KX:=hY w _ Y
  obtain ⟨fd,hb,hF⟩:=F w mg fa _ KX G.T.g hmg
  exact law_call KX G.T.g G.T.b G.T.builtins G.T.nolimit hg hobj hints (Nat.le_trans hlen hn2) hr hF hb (fun H hO hS=>hsp w H a ns hlen hO hS) fun H e s'=>hCX w H s₁ e s'
def defArgs (s:Stmt):Arguments:=match s with
 | .FunctionDef _ a _ _ _ _ _ _ _ _=>a
 | _=>{ posonlyargs:=[],args:=[],vararg:=none,kwonlyargs:=[],kw_defaults:=[],kwarg:=none,defaults:=[] }
def defBody (s:Stmt):List Stmt:=match s with
 | .FunctionDef _ _ b _ _ _ _ _ _ _=>b
 | _=>[]
def defScope (s:Stmt):Scope:=match s with
 | .FunctionDef _ _ _ _ _ _ sc _ _ _=>sc
 | _=>{ kind:=.function,names:=[],isGenerator:=false,isCoroutine:=false }
abbrev CX0:CXT:=fun _ _ _ _ _ _=>False
abbrev E0:XK:=fun _ _ _=>False
theorem pass0 {X:Cx}:Passes CX0 X E0:=fun _ _ _ _ _ _ _ h=>h.elim
structure Fun (K:PySem.W.Frag) (x qual:Str) (st:Stmt) (f:Addr) (fd:FuncData):Prop where
 ex:∃ (oc:Value) (od:Option Addr) (kV doc pm:Value) (an:Option Addr) (cdv ct:Value) (osl:Array (Option Value)),
  fd=PySem.W.fnOf x qual (defArgs st) (defBody st) (defScope st) .none kV doc pm an cdv ct/\K.lookup f=some ⟨oc,od,.func fd,osl⟩/\PySem.W.codeIn K cdv qual=true
 kp:PySem.W.keepIn K (.ref f)=true
section
variable {P:Program} {w:World} {K:PySem.W.Frag} {mg:Str->Option Value} {base:Heap}
theorem Fun.ok {x qual : Str} {st : Stmt} {f : Addr} {fd : FuncData} {N ps : List Str} {k : Nat} {sp : Sp} (F : Fun K x qual st f fd) (S : FnScope N ps (defScope st)) (len : ∀ vs H Q E, sp vs H Q E -> vs.length = ps.length)
    (hbody:∀ (cdv:Value) (A:Around) (outer:List Env) (s:Shared) (H:Hp) (vs:List V) (Q:VK) (E:XK),Room k (A.deeper (envOfC qual (defScope st) s.heap.objs.size f cdv))->sp vs H Q E ->
      ∃ t,PSs (cxOf CX0 P w K mg base N qual (defScope st) f cdv A outer s H E).nox (defBody st) t/\t { nx:=fun _ H'=>Q .non H',rt:=Q } (start N vs) H):FnOk P w K mg base CX0 (k+1) f fd ps sp:=by
  obtain ⟨oc,od,kV,doc,pm,an,cdv,ct,osl,rfl,lk,hcd⟩:=F.ex
  refine fn_of lk hcd S len fun A outer s H vs Q E hr hsp=>?_
  obtain ⟨t,h,q⟩:=hbody cdv A outer s H vs Q E hr hsp
  exact ⟨t,h.nox,q⟩
theorem Fun.binds {x qual : Str} {st : Stmt} {f : Addr} {fd : FuncData} {ps : List Str} (F : Fun K x qual st f fd)
    (h:∀ (kV doc pm:Value) (an:Option Addr) (cdv ct:Value) (us:List Value),us.length=ps.length->bindArgs (PySem.W.fnOf x qual (defArgs st) (defBody st) (defScope st) .none kV doc pm an cdv ct) ⟨us,[]⟩=pure (ps.zip us)):Binds K fd ps []:=by
  obtain ⟨oc,od,kV,doc,pm,an,cdv,ct,osl,rfl,lk,hcd⟩:=F.ex
  exact .all (h kV doc pm an cdv ct)
theorem fun_mk {x qual : Str} {st : Stmt} {f : Addr} {oc : Value} {od an : Option Addr} {osl : Array (Option Value)} {kV doc pm cdv ct : Value} (l : K.lookup f = some ⟨oc, od, .func (PySem.W.fnOf x qual (defArgs st) (defBody st) (defScope st) .none kV doc pm an cdv ct), osl⟩)
    (c:PySem.W.codeIn K cdv qual=true) (k:PySem.W.keepIn K (.ref f)=true):Fun K x qual st f (PySem.W.fnOf x qual (defArgs st) (defBody st) (defScope st) .none kV doc pm an cdv ct):=⟨⟨oc,od,kV,doc,pm,an,cdv,ct,osl,rfl,l,c⟩,k⟩
end
end L2
end
section
namespace L2
open PySem PySem.Spec PyProof.Rows
section
variable {prog:Program} {w:World} {A:Around} {R:Result->Shared->Prop} {s:Shared}
theorem compLoop_gen {elt target iter : Expr} {ifs : List Expr} {scope : Scope} {pos : Pos} {it acc : Value} {env : Env} (I : Nat -> Shared -> Prop)
    (turn:∀ n s,I n s->wpAny (model prog w) A (pyNext it) (fun r s₁=>match r with
      | none=>R (.ok .next) s₁
      | some v => wpAny (model prog w) A (letOwnedTupleGo target it v) (fun _ s₁' => wpAny (model prog w) A (assign target env v) (fun _ s₂ =>
          wpAny (model prog w) A (forIn ifs true fun c r=>if r=true then do let ok <- isTrue c env (eval c env);pure (ForInStep.yield ok) else pure (ForInStep.yield r)) (fun ok s₃ =>
            if ok=true then wpAny (model prog w) A (eval elt env) (fun x s₄ =>
              wpAny (model prog w) A (call (.builtin "list.append") [acc,x]) (fun _ s₅=>∃ m,m < n/\I m s₅) (fun _ _=>False) s₄) (fun _ _=>False) s₃
            else ∃ m,m < n/\I m s₃) (fun _ _=>False) s₂) (fun _ _=>False) s₁') (fun _ _=>False) s₁) (fun _ _=>False) s)
    (n:Nat) (h:I n s):codeAny (model prog w) A (.compLoop (.ListComp elt [⟨target,iter,ifs,0⟩] scope pos) 0 it acc env) R s:=by
  refine codeAny_loop rfl I (fun n s hI=>?_) n h
  show wpAny _ A ((compTurn (.ListComp elt [⟨target,iter,ifs,0⟩] scope pos) 0 it acc env).onRaise (fun x=>do noteFrame x env;theTreesLotGoes x)) _ _ s
  refine wpAny_noted ?_
  rw [compTurn_list]
  refine wpAny_bind (wpAny_standAt (wpAny_bind (wpAny_mono (turn n s hI) (fun r s₁ h₁=>?_) fun _ _ h'=>h'.elim)))
  cases r with
  | none=>exact wpAny_pure h₁
  | some v =>
    refine wpAny_bind (wpAny_mono h₁ (fun _ s₁' h₁'=>?_) fun _ _ h'=>h'.elim)
    refine wpAny_bind (wpAny_mono h₁' (fun _ s₂ h₂=>wpAny_bind (wpAny_mono h₂ (fun ok s₃ h₃=>?_) fun _ _ h'=>h'.elim)) fun _ _ h'=>h'.elim)
    cases ok with
    | false=>exact wpAny_pure ⟨rfl,h₃⟩
    | true =>
      exact wpAny_bind (wpAny_bind (wpAny_mono h₃ (fun x s₄ h₄=>wpAny_bind (wpAny_mono h₄ (fun _ s₅ h₅=>wpAny_pure (wpAny_pure ⟨rfl,h₅⟩)) fun _ _ h'=>h'.elim)) fun _ _ h'=>h'.elim))
end
theorem cellsFrom_other {x:Str}:∀ (names:List (Str×NameKind)) (n:Nat) (acc:List (Str×Addr)),(x,NameKind.cell)∉names->(cellsFrom n names acc).lookup x=acc.lookup x
 | [],_,_,_=>rfl
 | (y,k)::r,n,acc,h=>by
  unfold cellsFrom
  split
  ·rename_i hk
   have hk:k=.cell:=eq_of_beq hk
   subst hk
   rw [cellsFrom_other r (n+1) _ (fun z=>h (zqi _ z)),List.lookup_cons]
   have:(x == y)=false:=beq_eq_false_iff_ne.mpr fun z=>h (by subst z;exact List.mem_cons_self)
   rw [this]
  ·exact cellsFrom_other r n acc fun z=>h (zqi _ z)
theorem cellsFrom_low {x:Str} {c:Addr}:∀ (names:List (Str×NameKind)) (n:Nat) (acc:List (Str×Addr)),(x,NameKind.cell)∈names->(cellsFrom n names acc).lookup x=some c->n<=c
 | [],_,_,h,_=>by cases h
 | (y,k)::r,n,acc,h,e=>by
  unfold cellsFrom at e
  split at e
  ·by_cases hr:(x,NameKind.cell)∈r
   ·exact Nat.le_of_succ_le (cellsFrom_low r (n+1) _ hr e)
   ·rw [cellsFrom_other r (n+1) _ hr,List.lookup_cons] at e
    have:x=y:=by
     rcases List.mem_cons.mp h with z | z
     ·exact (Prod.mk.inj z).1
     ·exact absurd z hr
    subst this
    simp at e
    exact Nat.le_of_eq e
  ·rename_i hk
   rcases List.mem_cons.mp h with z | z
   ·exact absurd (by rw [<- (Prod.mk.inj z).2];rfl) hk
   ·exact cellsFrom_low r n acc z e
theorem cellsFrom_has {x:Str}:∀ (names:List (Str×NameKind)) (n:Nat) (acc:List (Str×Addr)),(x,NameKind.cell)∈names->∃ c,(cellsFrom n names acc).lookup x=some c
 | [],_,_,h=>by cases h
 | (y,k)::r,n,acc,h=>by
  unfold cellsFrom
  split
  ·by_cases hr:(x,NameKind.cell)∈r
   ·exact cellsFrom_has r (n+1) _ hr
   ·rw [cellsFrom_other r (n+1) _ hr,List.lookup_cons]
    have:x=y:=by
     rcases List.mem_cons.mp h with z | z
     ·exact (Prod.mk.inj z).1
     ·exact absurd z hr
    subst this
    simp
  ·rename_i hk
   rcases List.mem_cons.mp h with z | z
   ·exact absurd (by rw [<- (Prod.mk.inj z).2];rfl) hk
   ·exact cellsFrom_has r n acc z
theorem cellsFrom_inj : ∀ (names : List (Str × NameKind)) (n : Nat) (acc : List (Str × Addr)), (∀ x c, acc.lookup x = some c -> c < n) -> (∀ x y c, acc.lookup x = some c -> acc.lookup y = some c -> x = y) ->
    ∀ x y c,(cellsFrom n names acc).lookup x=some c->(cellsFrom n names acc).lookup y=some c->x=y
  | [],_,_,_,h=>h
  | (z,k)::r,n,acc,hb,h=>by
    unfold cellsFrom
    split
    · refine cellsFrom_inj r (n+1) _ (fun x c e=>?_) (fun x y c e1 e2=>?_)
      · rw [List.lookup_cons] at e
        split at e
        · cases e;exact Nat.lt_succ_self _
        · exact Nat.lt_succ_of_lt (hb x c e)
      · rw [List.lookup_cons] at e1 e2
        split at e1
        · rename_i hx
          cases e1
          split at e2
          · rename_i hy
            rw [eq_of_beq hx,eq_of_beq hy]
          · exact absurd (hb y _ e2) (Nat.lt_irrefl _)
        · split at e2
          · cases e2
            exact absurd (hb x _ e1) (Nat.lt_irrefl _)
          · exact h x y c e1 e2
    · exact cellsFrom_inj r n acc hb h
theorem cellsFrom_cell {x:Str} {c:Addr}:∀ (names:List (Str×NameKind)) (h:Heap) (acc:List (Str×Addr)),(cellsFrom h.objs.size names acc).lookup x=some c->acc.lookup x=some c\/(h.objs.size<=c/\(pushCells h names).IsCell c none)
 | [],_,_,e=>.inl e
 | (z,k)::r,h,acc,e=>by
  unfold cellsFrom at e
  unfold pushCells
  split at e
  ·rename_i hk
   rw [if_pos hk]
   have e':(cellsFrom (h.push { cls:=.type "cell",data:=.cell none }).objs.size r ((z,h.objs.size)::acc)).lookup x=some c:=by rw [Heap.size_push];exact e
   rcases cellsFrom_cell r (h.push { cls:=.type "cell",data:=.cell none }) _ e' with q | ⟨q1,q2⟩
   ·rw [List.lookup_cons] at q
    split at q
    ·cases q
     exact .inr ⟨zqg _,_,pushCells_keeps _ _ _ _ (zqn _ rfl),rfl⟩
    ·exact .inl q
   ·rw [Heap.size_push] at q1
    exact .inr ⟨Nat.le_of_succ_le q1,q2⟩
  ·rename_i hk
   rw [if_neg hk]
   exact cellsFrom_cell r h acc e
theorem newEnv_cells {M : Model} {A : Around} {E : Value -> Shared -> Prop} {s : Shared} {scope : Scope} {globals : Addr} {cl : List (Str × Addr)} {qual : Str} {outer : Env} {Q : Env -> Shared -> Prop}
    (hQ:Q { scope:=scope,locals:=s.heap.objs.size,globals:=globals,cells:=cellsFrom (s.heap.objs.size+1) scope.names cl,qual:=qual,func:=none,code:=outer.code,frame:=outer.frame,builtins:=outer.builtins }
      { s with heap:=pushCells (s.heap.push { cls:=.type "dict",data:=.dict #[] }) scope.names }) :
    wpAny M A (newFunctionEnv scope globals cl [] qual none .none (some outer)) Q E s:=by
  simp only [newFunctionEnv,Option.isSome_some,if_true]
  refine wpAny_bind (wpAny_alloc ?_)
  refine wpAny_bind (wpAny_layCells _ (fun name kind cells=>by cases hkc:kind == NameKind.cell <;> simp [hkc]) _ _ _ _ ?_)
  rw [show ({ s with heap:=s.heap.push { cls:=.type "dict",data:=.dict #[] } }:Shared).heap.objs.size=s.heap.objs.size+1 from Heap.size_push ..]
  rw [List.forIn_nil]
  exact wpAny_bind (wpAny_pure (wpAny_pure hQ))
def Cx.block (X:Cx) (scope:Scope) (cl:List (Str×Addr)) (C:Addr) (N':List Str) (s:Shared) (H:Hp) (fp:List Addr) (pn:List (Addr×Obj)):Cx :=
 { X with N:=N',s₀:=s,H₀:=H,env:=compEnvC scope (cellsFrom (C+1) scope.names cl) C X.env,outer:=X.stack,ex:=fp,fn:=fun x=>scope.names.lookup x == some .cell,pn:=pn,xe:=fun _ _=>False }
structure Clos (X:Cx) (scope:Scope) (cl:List (Str×Addr)):Prop where
 is:closureFor scope X.env=pure cl
 sub:∀ x c,cl.lookup x=some c->X.env.cells.lookup x=some c
 has:∀ x,scope.names.lookup x=some .free->∃ c,cl.lookup x=some c
theorem lookup_relabel {env : Env} : ∀ {names : List (Str × NameKind)} {x : Str} {k : NameKind}, names.lookup x = some k ->
    (names.map fun (n,k)=>if (k == NameKind.free && env.scope.kind == .function && env.kindOf n == some .cell) then (n,NameKind.cell) else (n,k)).lookup x =
      some (if (k == NameKind.free && env.scope.kind == .function && env.kindOf x == some .cell) then .cell else k)
  | [],_,_,h=>by simp at h
  | (n,k')::r,x,k,h=>by
    have ih:=@lookup_relabel env r x k
    show List.lookup x ((if (k' == NameKind.free && env.scope.kind == .function && env.kindOf n == some .cell)=true then (n,NameKind.cell) else (n,k'))::_)=_
    cases hx:x == n with
    | true =>
      simp only [List.lookup_cons,hx] at h
      cases h
      have e:x=n:=by simpa using hx
      subst e
      split <;> simp [List.lookup_cons]
    | false =>
      simp only [List.lookup_cons,hx] at h
      by_cases hc:(k' == NameKind.free && env.scope.kind == .function && env.kindOf n == some .cell)=true
      · rw [if_pos hc];simp only [List.lookup_cons,hx];exact ih h
      · rw [if_neg hc];simp only [List.lookup_cons,hx];exact ih h
theorem lookup_relabel_inv {env : Env} : ∀ {names : List (Str × NameKind)} {x : Str} {k : NameKind},
    (names.map fun (n,k)=>if (k == NameKind.free && env.scope.kind == .function && env.kindOf n == some .cell) then (n,NameKind.cell) else (n,k)).lookup x=some k ->
      ∃ k',names.lookup x=some k'/\k=(if (k' == NameKind.free && env.scope.kind == .function && env.kindOf x == some .cell) then .cell else k')
  | names,x,k,h=>by
    cases q:names.lookup x with
    | some k' =>
      have:=lookup_relabel (env:=env) q
      rw [this] at h
      exact ⟨k',rfl,(zql h).symm⟩
    | none =>
      exfalso
      induction names with
      | nil=>simp at h
      | cons a r ih =>
        obtain ⟨n,k'⟩:=a
        cases hx:x == n with
        | true=>simp [List.lookup_cons,hx] at q
        | false =>
          simp only [List.lookup_cons,hx] at q
          have h':List.lookup x ((if (k' == NameKind.free && env.scope.kind == .function && env.kindOf n == some .cell)=true then (n,NameKind.cell) else (n,k'))::(r.map fun (n,k)=>if (k == NameKind.free && env.scope.kind == .function && env.kindOf n == some .cell) then (n,NameKind.cell) else (n,k)))=some k:=h
          by_cases hc:(k' == NameKind.free && env.scope.kind == .function && env.kindOf n == some .cell)=true
          · rw [if_pos hc] at h';simp only [List.lookup_cons,hx] at h';exact ih h' q
          · rw [if_neg hc] at h';simp only [List.lookup_cons,hx] at h';exact ih h' q
def capσ (cap:List (Option Nat)) (σ:St):St:=cap.map fun o=>o.bind fun j=>(σ[j]?).join
structure CapOk (X:Cx) (scope:Scope) (N':List Str) (cap:List (Option Nat)):Prop where
 len:cap.length=N'.length
 out:∀ (i j:Nat) (x:Str),cap[i]?=some (some j)->N'[i]?=some x->X.N[j]?=some x/\scope.names.lookup x=some .free/\(X.env.kindOf x=some .cell\/X.env.kindOf x=some .free)
section
variable {X:Cx} {pins:List (Addr×Obj)} {σ:St} {H:Hp} {s:Shared} {scope:Scope} {cl:List (Str×Addr)} {N':List Str} {cap:List (Option Nat)} {fp:List Addr}
theorem block_start {h1 : Heap} (I : Inv X pins σ H s) (hkind : scope.kind = .function) (hcell : ∀ y ∈ scope.names, y.2 = .cell -> scope.names.lookup y.1 = some .cell) (cs : Clos X scope cl) (co : CapOk X scope N' cap)
    (hf:∀ b∈fp,FpOk X pins H b) (ho:∀ b∈fp,b < s.heap.objs.size)
    (hns:h1.Ns s.heap.objs.size (fun _=>none)) (hk:∀ b u,s.heap.get? b=some u->h1.get? b=some u)
    (hnew:∀ x c,(cellsFrom (s.heap.objs.size+1) scope.names cl).lookup x=some c->cl.lookup x=some c\/(s.heap.objs.size+1<=c/\h1.IsCell c none)) (tk:Nat) :
    Inv (X.block scope cl s.heap.objs.size N' s H fp []) [] (capσ cap σ) H { s with heap:=h1,toks:=tk }:=by
  have I1:Inv X pins σ H { s with heap:=h1,toks:=tk }:=I.kept hk
  have cab:∀ x c,cl.lookup x=some c->c < s.heap.objs.size:=fun x c e=>by
    obtain ⟨v,q⟩:=I.cell x c (cs.sub x c e);exact q.lt
  have fr:H s.heap.objs.size=none:=I.hok.fresh (zqg _)
  have same:∀ x,scope.names.lookup x=some .free->(cellsFrom (s.heap.objs.size+1) scope.names cl).lookup x=cl.lookup x:=fun x hx =>
    cellsFrom_other _ _ _ fun z=>by have:=hcell _ z rfl;rw [hx] at this;cases this
  refine ⟨⟨I.ok.mod,hkind,I.ok.glob,I.ok.blt,zqg _,cellsFrom_inj _ _ _ (fun x c e=>Nat.lt_succ_of_lt (cab x c e)) (fun x y c a b=>I.ok.inj x y c (cs.sub _ _ a) (cs.sub _ _ b)),fun x hx=>?_,fun x c z e=>?_,I.ok.hd,I.ok.frames,.inl rfl,fun b hb=>⟨?_,fun x c e=>?_⟩,fun b o e=>I.bs b o e,
    Nat.le_trans I.ok.bsz I.sz,fun b o e hb=>?_,fun b hb hb'=>?_,I.stack,I.stkFree⟩,rfl,I.bare,Un.kept hk,⟨_,hns,fun i x v e1 e2 e3=>?_⟩,fun x c e=>?_,fr,fun x c e=>?_,fun p hp=>?_,I.hok.kept hk,?_⟩
  · have hx:(relabel scope X.env).names.lookup x=some .cell\/(relabel scope X.env).names.lookup x=some .free:=hx
    have key:∃ k',scope.names.lookup x=some k'/\(k'=.free\/k'=.cell):=by
      have go:∀ k,(k=.cell\/k=.free)->(relabel scope X.env).names.lookup x=some k->∃ k',scope.names.lookup x=some k'/\(k'=.free\/k'=.cell):=by
        intro k hk hx
        obtain ⟨k',e,ek⟩:=lookup_relabel_inv hx
        refine ⟨k',e,?_⟩
        by_cases z:k'=.free
        · exact .inl z
        · rw [if_neg (by cases k' <;> first | exact absurd rfl z | simp)] at ek
          subst ek
          rcases hk with hk | hk
          · exact .inr hk
          · exact .inl hk
      rcases hx with hx | hx
      · exact go _ (.inl rfl) hx
      · exact go _ (.inr rfl) hx
    obtain ⟨k',e,hk'⟩:=key
    show ∃ c,(cellsFrom (s.heap.objs.size+1) scope.names cl).lookup x=some c
    rcases hk' with z | z
    · subst z
      rw [same x e]
      exact cs.has x e
    · subst z
      exact cellsFrom_has _ _ _ (PySem.mem_of_lookup e)
  · have z:(scope.names.lookup x == some .cell)=true:=z
    have z:scope.names.lookup x=some .cell:=eq_of_beq z
    exact Nat.le_of_succ_le (cellsFrom_low _ _ _ (PySem.mem_of_lookup z) e)
  · exact Nat.ne_of_lt (ho b hb)
  · rcases hnew x c e with q | ⟨q,_⟩
    · exact (hf b hb).2.2.2.2.1 x c (cs.sub x c q)
    · have hb1:=ho b hb
      intro z
      rw [z] at q
      exact absurd hb1 (Nat.not_lt_of_le (Nat.le_of_succ_le q))
  · rcases (hf b hb).2.2.2.1 with z | z
    · exact I.ok.noex b o e z
    · have h1:=Heap.lt_size e
      have h2:=I.ok.bsz
      exact absurd (Nat.lt_of_lt_of_le h1 (Nat.le_trans h2 z)) (Nat.lt_irrefl _)
  · rcases List.mem_cons.mp (I.stkSub b hb') with z | z
    · exact (hf b hb).2.1 z
    · exact (hf b hb).2.2.1 z
  · have e1:N'[i]?=some x:=e1
    unfold capσ at e2
    rw [zqk] at e2
    cases q:cap[i]? with
    | none=>rw [q] at e2;cases e2
    | some oj =>
      rw [q] at e2
      cases oj with
      | none=>cases e2
      | some j =>
        have e2':(σ[j]?).join=some v:=zql e2
        have e2'':σ[j]?=some (some v):=by
          cases r:σ[j]? with
          | none=>rw [r] at e2';cases e2'
          | some ov=>rw [r] at e2';cases ov with
            | none=>cases e2'
            | some z=>cases e2';rfl
        obtain ⟨o1,o2,o3⟩:=co.out i j x q e1
        obtain ⟨m,hn,hl⟩:=I1.loc
        obtain ⟨u,r,l⟩:=hl j x v o1 e2'' (o3.elim (fun z=>.inr (.inl z)) fun z=>.inr (.inr z))
        refine ⟨u,r,.inr ⟨?_,?_⟩⟩
        · show (relabel scope X.env).names.lookup x=some .cell\/(relabel scope X.env).names.lookup x=some .free
          rw [show (relabel scope X.env).names.lookup x=_ from lookup_relabel o2]
          split
          · exact .inl rfl
          · exact .inr rfl
        · obtain ⟨c,hc⟩:=cs.has x o2
          have hc':=cs.sub x c hc
          rcases l with ⟨hk',hm⟩|⟨_,c2,hc2,hcell2⟩
          · exfalso
            rw [hk'] at o3
            rcases o3 with o3 | o3 <;> cases o3
          · rw [hc'] at hc2;cases hc2
            exact ⟨c,(same x o2).trans hc,hcell2⟩
  · rcases hnew x c e with q | ⟨_,q⟩
    · exact I1.cell x c (cs.sub x c q)
    · exact ⟨none,q⟩
  · rcases hnew x c e with q | ⟨q,_⟩
    · exact I1.freeC x c (cs.sub x c q)
    · exact I.hok.fresh (Nat.le_of_succ_le q)
  · exact absurd (show p∈([]:List (Addr×Obj)) from hp) (by simp)
  · show (capσ cap σ).length=N'.length
    unfold capσ;rw [zqe];exact co.len
end
def tIfs:Option TT->TT
 | none=>fun _ H Q=>Q true H
 | some t=>t
def tCompL (cap:List (Option Nat)) (g:TG) (tc:Option TT) (te:TE) (σ:St) (J:It) (H1:Hp) (Q:V->Hp->Prop):Prop :=
 ∀ D,H1 D=none->∃ W:Nat->Nat->St->Hp->List V->Prop,(∃ m,W 0 m (capσ cap σ) (upd H1 D (.lst [])) []) /\
  ∀ i m τ H ys,W i m τ H ys->H D=some (.lst ys)/\((J.stop i H/\Q (.ref D) H) \/
   (J.go i H/\ys.length < sizeLine/\∀ x H',J.yld i H x H'->g x τ H' fun τ2 H2=>tIfs tc τ2 H2 fun b H3 =>
    if b=true then te τ2 H3 fun v H4=>H4 D=some (.lst ys)/\∃ m',m' < m/\W (i+1) m' τ2 (upd H4 D (.lst (ys++[v]))) (ys++[v])
    else ∃ m',m' < m/\W (i+1) m' τ2 H3 ys))
def tComp (cap:List (Option Nat)) (wi:TI) (g:TG) (tc:Option TT) (te:TE):TE:=fun σ H Q=>wi σ H fun J H1=>tCompL cap g tc te σ J H1 Q
def IfsOk (X:Cx) (scope:Scope) (N':List Str) (cl:List (Str×Addr)) (ifs:List Expr):Option TT->Prop
 | none=>ifs=[]
 | some t=>∃ c,ifs=[c]/\∀ C s H fp,PT (X.block scope cl C N' s H fp []) c t
structure CompOk (X:Cx) (scope:Scope) (N':List Str) (cap:List (Option Nat)) (cl:List (Str×Addr)) (tg elt:Expr) (ifs:List Expr) (g:TG) (tc:Option TT) (te:TE):Prop where
 kind:scope.kind=.function
 nocell:∀ y∈scope.names,y.2=.cell->scope.names.lookup y.1=some .cell
 names:∀ y∈scope.names,y.2=.local->scope.names.lookup y.1=some .local
 clos:Clos X scope cl
 capo:CapOk X scope N' cap
 tg:∀ C s H fp,PG (X.block scope cl C N' s H fp []) tg g
 ifs:IfsOk X scope N' cl ifs tc
 elt:∀ C s H fp,PE (X.block scope cl C N' s H fp []) elt te
section
variable {X:Cx} {scope:Scope} {N':List Str} {cap:List (Option Nat)} {cl:List (Str×Addr)} {tg elt iter:Expr} {ifs:List Expr} {g:TG} {tc:Option TT} {te:TE} {pos:Pos}
theorem comp_run {pins : List (Addr × Obj)} {s2 : Shared} {σ : St} {H2 : Hp} {it : Addr} {fp : List Addr} {tn : Nat -> Heap -> Prop} {J : It} {E : Value -> Shared -> Prop} {Q : V -> Hp -> Prop} {RR : Value -> Addr -> Result -> Shared -> Prop}
    (hc:X.calm=true) (ck:CompOk X scope N' cap cl tg elt ifs g tc te) (I2:Inv X pins σ H2 s2) (T:Turn X.prog X.w X.K tg J fp it tn) (st2:tn 0 s2.heap) (f2:∀ b∈fp,FpOk X pins H2 b) (h:tCompL cap g tc te σ J H2 Q)
    (hRR:∀ (D C:Addr) (H':Hp) (s':Shared) (m:Str->Option Value),Inv X pins σ H' s'->s'.heap.Ns C m->H' C=none->X.s₀.heap.objs.size<=C->C≠X.env.locals->C∉X.fs->(∀ x c,X.env.cells.lookup x=some c->c≠C)->(∀ p∈X.pn++pins,p.1≠C)->Q (.ref D) H'->RR (.ref D) C (.ok .next) s') :
    wpAny (model X.prog X.w) X.A (newList []) (fun acc s₃=>wpAny (model X.prog X.w) X.A (newFunctionEnv scope X.env.globals cl [] X.env.qual none .none (some X.env)) (fun cenv s₄ =>
      codeAny (model X.prog X.w) X.A (.compStart (.ListComp elt [⟨tg,iter,ifs,0⟩] scope pos) 0 (.ref it) acc { cenv with scope:=relabel scope X.env }) (RR acc cenv.locals) s₄) E s₃) E s2:=by
  refine wpAny_newObj_type ?_
  generalize hH:s2.heap.push { cls:=.type "list",dict:=none,data:=.seq ([]:List Value).toArray }=hh
  have hD:H2 s2.heap.objs.size=none:=I2.hok.fresh (zqg _)
  have k3:∀ b u,s2.heap.get? b=some u->hh.get? b=some u:=fun b u e=>by rw [<- hH];exact zqc _ e
  have I3:Inv X pins σ (upd H2 s2.heap.objs.size (.lst [])) { s2 with heap:=hh } :=
    I2.laid (t':=s2.toks) k3 (zqg _) ⟨Nat.zero_le _,[],0,.nil,by rw [<- hH];exact zqn _ rfl⟩
  have f3:∀ b∈fp,FpOk X pins (upd H2 s2.heap.objs.size (.lst [])) b:=fun b hb=>by
    obtain ⟨o,e,_⟩:=T.obj _ _ st2 b hb
    exact ⟨by rw [upd_ne (Nat.ne_of_lt (Heap.lt_size e))];exact (f2 b hb).1,(f2 b hb).2⟩
  have b3:∀ b∈fp,b < hh.objs.size:=fun b hb=>by
    obtain ⟨o,e,_⟩:=T.obj _ _ st2 b hb
    exact Heap.lt_size (k3 b o e)
  have st3:tn 0 hh:=T.keep _ _ _ st2 fun b hb o e=>k3 b o e
  obtain ⟨W,⟨m0,w0⟩,turn⟩:=h s2.heap.objs.size hD
  refine newEnv_cells (s:={ s2 with heap:=hh }) ?_
  have k4:∀ b u,hh.get? b=some u->(pushCells (hh.push { cls:=.type "dict",data:=.dict #[] }) scope.names).get? b=some u:=fun b u e=>pushCells_keeps _ _ b u (zqc _ e)
  have hns':(pushCells (hh.push { cls:=.type "dict",data:=.dict #[] }) scope.names).Ns hh.objs.size (fun _=>none):=(Heap.Ns.new hh (.type "dict")).keeps (pushCells_keeps _ _)
  have hnew:∀ x c,(cellsFrom (hh.objs.size+1) scope.names cl).lookup x=some c->cl.lookup x=some c\/(hh.objs.size+1<=c/\(pushCells (hh.push { cls:=.type "dict",data:=.dict #[] }) scope.names).IsCell c none):=fun x c e=>by
    have:=cellsFrom_cell (x:=x) (c:=c) scope.names (hh.push { cls:=.type "dict",data:=.dict #[] }) cl (by rw [Heap.size_push];exact e)
    rw [Heap.size_push] at this
    exact this
  generalize hh1:pushCells (hh.push { cls:=.type "dict",data:=.dict #[] }) scope.names=h₁ at k4 hns' hnew
  have st4:tn 0 h₁:=T.keep _ _ _ st3 fun b hb o e=>k4 b o e
  have I4:=block_start (tk:=s2.toks) I3 ck.kind ck.nocell ck.clos ck.capo f3 b3 hns' k4 hnew
  generalize hX:X.block scope cl hh.objs.size N' { s2 with heap:=hh } (upd H2 s2.heap.objs.size (.lst [])) fp []=X' at I4
  have xprog:X'.prog=X.prog:=by rw [<- hX];rfl
  have xw:X'.w=X.w:=by rw [<- hX];rfl
  have xK:X'.K=X.K:=by rw [<- hX];rfl
  have xA:X'.A=X.A:=by rw [<- hX];rfl
  have xc:X'.calm=true:=by rw [<- hX];exact hc
  have xenv:X'.env=compEnvC scope (cellsFrom (hh.objs.size+1) scope.names cl) hh.objs.size X.env:=by rw [<- hX];rfl
  have xxe:X'.xe=fun _ _=>False:=by rw [<- hX];rfl
  have xfp:∀ {H':Hp},(∀ b∈fp,H' b=none)->∀ b∈fp,FpOk X' [] H' b:=fun {H'} hn b hb=>by
    have z:=I4.ok.exf b (by rw [<- hX];exact hb)
    exact ⟨hn b hb,z.1,I4.ok.exfs b (by rw [<- hX];exact hb),.inl (by rw [<- hX];exact hb),z.2,fun p hp=>absurd (show p∈([]:List (Addr×Obj)) by rw [<- hX] at hp;exact hp) (by simp)⟩
  have ctg:=ck.tg hh.objs.size { s2 with heap:=hh } (upd H2 s2.heap.objs.size (.lst [])) fp
  have cifs:=ck.ifs
  have celt:=ck.elt hh.objs.size { s2 with heap:=hh } (upd H2 s2.heap.objs.size (.lst [])) fp
  rw [hX] at ctg celt
  have loop : ∀ s4 : Shared, Inv X' [] (capσ cap σ) (upd H2 s2.heap.objs.size (.lst [])) s4 -> tn 0 s4.heap ->
      codeAny (model X.prog X.w) X.A (.compLoop (.ListComp elt [⟨tg,iter,ifs,0⟩] scope pos) 0 (.ref it) (.ref s2.heap.objs.size) (compEnvC scope (cellsFrom (hh.objs.size+1) scope.names cl) hh.objs.size X.env)) (RR (.ref s2.heap.objs.size) hh.objs.size) s4:=by
    intro s4 I4 st4
    refine compLoop_gen (fun n s'=>∃ i τ H' ys,Inv X' [] τ H' s'/\tn i s'.heap/\(∀ b∈fp,H' b=none)/\W i n τ H' ys) ?_ m0 ⟨0,_,_,[],I4,st4,fun b hb=>(f3 b hb).1,w0⟩
    rintro n s5 ⟨i,τ,H5,ys,I5,st5,fr5,w5⟩
    obtain ⟨hl5,stop | ⟨go,hz,step⟩⟩:=turn i n τ H5 ys w5
    · have td:=T.done X' xprog xw xK xc i [] s5 τ H5 (fun _ _=>False) I5 (xfp fr5) st5 stop.1
      rw [xA] at td
      refine thn td ?_
      rintro r s6 ⟨rfl,I6⟩
      have base:=I6.base
      have os:=I6.os
      have hok:=I6.hok
      have hfree:=I6.free
      obtain ⟨m,hm,_⟩:=I6.loc
      rw [xenv] at hfree hm
      rw [<- hX] at base os hok
      refine hRR _ _ H5 s6 m (I3.call' (ch:=fp) os base hok I6.bare fun b hb=>⟨(f3 b hb).2.2.2.1,(f3 b hb).2.1,(f3 b hb).2.2.2.2.1,(f3 b hb).2.2.2.2.2⟩) hm hfree I3.sz (Nat.ne_of_gt I3.lt) (I3.nofs (zqg _)) (fun x c e z=>?_) (fun p hp z=>?_) stop.2
      · obtain ⟨v,q⟩:=I3.cell x c e
        exact absurd q.lt (by rw [z];exact Nat.lt_irrefl _)
      · exact absurd (Heap.lt_size (I3.pin p hp).1) (by rw [z];exact Nat.lt_irrefl _)
    · have ti:=T.item X' xprog xw xK xc i [] s5 τ H5 (fun _ _=>False) I5 (xfp fr5) st5 go
      rw [xA] at ti
      refine thn ti ?_
      rintro r s6 ⟨u,rfl,h6⟩
      refine thn h6 ?_
      rintro _ s7 ⟨x,H7,I7,r7,y7,st7,fr7⟩
      have I7':=I7.pinned (xfp fr7) (T.obj _ _ st7)
      have ga:=ctg _ s7 τ H7 x u _ I7' r7 (step x H7 y7)
      rw [xprog,xw,xA,xxe,xenv] at ga
      refine thn ga ?_
      rintro _ s8 ⟨τ8,H8,I8,q8⟩
      have fin:∀ {τ9:St} {H9:Hp} {s9:Shared} {ys9:List V},Inv X' ([]++pinsAt fp s7.heap) τ9 H9 s9->(∃ m',m' < n/\W (i+1) m' τ9 H9 ys9)->∃ m',m' < n/\∃ i τ H' ys,Inv X' [] τ H' s9/\tn i s9.heap/\(∀ b∈fp,H' b=none)/\W i m' τ H' ys:=fun {τ9 H9 s9 ys9} I9 w9=>by
        obtain ⟨m',hm,w9⟩:=w9
        refine ⟨m',hm,i+1,τ9,H9,ys9,I9.unpinned,T.keep _ _ _ st7 fun b hb o e=>(I9.pin (b,o) (List.mem_append_right _ (List.mem_append_right _ (mem_pinsAt hb e)))).1,fun b hb=>?_,w9⟩
        obtain ⟨o,e,d⟩:=T.obj _ _ st7 b hb
        exact (I9.pin (b,o) (List.mem_append_right _ (List.mem_append_right _ (mem_pinsAt hb e)))).2.1
      have rest:∀ b s9,TP X' ([]++pinsAt fp s7.heap) τ8 (fun b H3 =>
        if b=true then te τ8 H3 fun v H4=>H4 s2.heap.objs.size=some (.lst ys)/\∃ m',m' < n/\W (i+1) m' τ8 (upd H4 s2.heap.objs.size (.lst (ys++[v]))) (ys++[v])
        else ∃ m', m' < n /\ W (i + 1) m' τ8 H3 ys) b s9 -> (if b = true then wpAny (model X.prog X.w) X.A (eval elt (compEnvC scope (cellsFrom (hh.objs.size + 1) scope.names cl) hh.objs.size X.env)) (fun x s₄ =>
              wpAny (model X.prog X.w) X.A (call (.builtin "list.append") [.ref s2.heap.objs.size,x]) (fun _ s₅=>∃ m,m < n/\∃ i τ H' ys,Inv X' [] τ H' s₅/\tn i s₅.heap/\(∀ b∈fp,H' b=none)/\W i m τ H' ys) (fun _ _=>False) s₄) (fun _ _=>False) s9
            else ∃ m,m < n/\∃ i τ H' ys,Inv X' [] τ H' s9/\tn i s9.heap/\(∀ b∈fp,H' b=none)/\W i m τ H' ys):=by
        rintro b s9 ⟨H9,I9,q9⟩
        cases b with
        | false=>rw [if_neg (by simp)] at q9 ⊢;exact fin I9 q9
        | true =>
          rw [if_pos rfl] at q9 ⊢
          have ge:=celt _ s9 τ8 H9 _ I9 q9
          rw [xprog,xw,xA,xxe,xenv] at ge
          refine thn ge ?_
          rintro v s10 ⟨y,H10,I10,r10,l10,w10⟩
          have ap:=mt_append (X:=X') _ s10 τ8 H10 (.ref s2.heap.objs.size) [y] (.ref s2.heap.objs.size) [v] (fun _ H'=>∃ m',m' < n/\W (i+1) m' τ8 H' (ys++[y])) I10 rfl (.cons r10 .nil) ⟨_,ys,y,rfl,rfl,l10,hz,w10⟩
          rw [xprog,xw,xA,xxe] at ap
          exact thn ap fun _ s11 ⟨_,H11,I11,_,w11⟩=>fin I11 w11
      cases tc with
      | none =>
        have ei:ifs=[]:=cifs
        subst ei
        exact wpAny_tests_nil (rest true s8 ⟨H8,I8,q8⟩)
      | some t =>
        obtain ⟨c,ei,pt⟩:=cifs
        subst ei
        have pt:=pt hh.objs.size { s2 with heap:=hh } (upd H2 s2.heap.objs.size (.lst [])) fp
        rw [hX] at pt
        refine wpAny_tests_one ?_
        have gt:=pt _ s8 τ8 H8 _ I8 q8
        rw [xprog,xw,xA,xxe,xenv] at gt
        exact thn gt fun b s9 q=>rest b s9 q
  have goal4:=loop _ I4 st4
  exact codeAny_compStart_list goal4 (T.self _ 0 _ _ _ st4 goal4)
end
section
variable {X:Cx} {scope:Scope} {N':List Str} {cap:List (Option Nat)} {cl:List (Str×Addr)} {tg elt iter:Expr} {ifs:List Expr} {g:TG} {tc:Option TT} {te:TE} {wi:TI} {pos:Pos}
theorem pe_comp (hc : X.calm = true) (hi : PI X tg iter wi) (ck : CompOk X scope N' cap cl tg elt ifs g tc te) (hs : ∀ x, foldedSetIterable iter X.env x = pure x := by intro _; rfl) :
    PE X (.ListComp elt [⟨tg,iter,ifs,0⟩] scope pos) (tComp cap wi g tc te):=by
  intro pins s σ H Q I h
  rw [eval_ListComp]
  refine wpAny_comprehension_free (use:=none) rfl hs ck.clos.is ck.kind ck.names (thn (hi pins s σ H _ I h) fun v s1 h1=>thn h1 fun itv s2 h2=>?_)
  obtain ⟨it,fp,tn,J,H2,e,I2,T,st2,f2,hC⟩:=h2
  subst e
  refine comp_run (Q:=Q) (RR:=fun acc C=>compPost (model X.prog X.w) X.A X.xe none (EP X pins σ Q) acc C) hc ck I2 T st2 f2 hC ?_
  intro D C H' s' m I' hm hfr hC1 hC2 hC3 hC4 hC5 q
  refine ⟨m,hm,fun h' hsb=>?_⟩
  exact ⟨.ref D,H',I'.turned (t':=s'.toks) (fun b o hb e=>hsb.extBut b o hb e) hfr (Ne.symm (Ne.symm hC2)) (.inr hC1) hC4 hC5,rfl,q⟩
theorem ps_comp {y : Str} {py spos : Pos} {i : Nat} (hc : X.calm = true) (hN : X.N.Nodup) (hy : X.N[i]? = some y) (hk : X.env.kindOf y = some .local)
    (hsw:swapsWith (.ListComp elt [⟨tg,iter,ifs,0⟩] scope pos) (some (.Name y py)) spos.line X.env=pure true)
    (hi:PI X tg iter wi) (ck:CompOk X scope N' cap cl tg elt ifs g tc te) (hs:∀ x,foldedSetIterable iter X.env x=pure x:=by intro _;rfl) :
    PS X (.Assign [.Name y py] (.ListComp elt [⟨tg,iter,ifs,0⟩] scope pos) spos) (fun D σ H=>tComp cap wi g tc te σ H fun v H'=>D.nx (σ.set i (some v)) H'):=by
  intro pins s σ H D I h
  rw [exec_Assign_Name_used _ _ _ _ hsw]
  refine wpAny_bind (wpAny_standAt (wpAny_bind ?_))
  show wpAny _ X.A (do let _ <- comprehension (.ListComp elt [⟨tg,iter,ifs,0⟩] scope pos) scope X.env _ (newList []) false (eval iter X.env) (some (assign (.Name y py) X.env))) _ _ s
  refine wpAny_bind (wpAny_mono (wpAny_comprehension_free (use:=some (assign (.Name y py) X.env)) (Q:=fun _ s'=>SP X pins D .next s') rfl hs ck.clos.is ck.kind ck.names (thn (hi pins s σ H _ I h) fun v s1 h1=>thn h1 fun itv s2 h2=>?_)) (fun _ s' hq=>wpAny_pure (wpAny_pure hq)) fun _ _ e=>e)
  obtain ⟨it,fp,tn,J,H2,e,I2,T,st2,f2,hC⟩:=h2
  subst e
  refine comp_run (Q:=fun v H'=>D.nx (σ.set i (some v)) H') (RR:=fun acc C=>compPost (model X.prog X.w) X.A X.xe (some (assign (.Name y py) X.env)) (fun _ s'=>SP X pins D .next s') acc C) hc ck I2 T st2 f2 hC ?_
  intro D' C H' s' m I' hm hfr hC1 hC2 hC3 hC4 hC5 q
  show wpAny _ X.A (assign (.Name y py) X.env (.ref D')) _ _ s'
  obtain ⟨o,es,ep,ho,hd,hrest⟩:=hm
  have Ip:Inv X (pins++[(C,o)]) σ H' s':=I'.pins_of fun p hp=>(zqr.mp hp).elim (fun z=>I'.pin p (List.mem_append_right _ z)) fun z=>by
    have e:p=(C,o):=by simpa using z
    subst e
    exact ⟨ho,hfr,hC2,hC3,fun v z=>by rw [hd] at z;cases z⟩
  have st:=pg_name (pos:=py) hN hy (.inl hk) (.inr hk) _ s' σ H' (.ref D') (.ref D') (fun σ' H'=>D.nx σ' H') Ip rfl q
  refine thn st ?_
  rintro _ s'' ⟨σ'',H'',I'',q''⟩
  have pc:=I''.pin (C,o) (by simp)
  refine ⟨m,⟨o,es,ep,pc.1,hd,hrest⟩,fun h' hsb=>?_⟩
  exact ⟨σ'',H'',I''.unpinned.turned (t':=s''.toks) (fun b o hb e=>hsb.extBut b o hb e) pc.2.1 hC2 (.inr hC1) hC4 hC5,q''⟩
end
end L2
end
section
namespace L2
open PySem PySem.Spec PyProof.Rows
section
variable {prog:Program} {w:World} {A:Around} {E:Value->Shared->Prop} {s:Shared}
def NextI (prog:Program) (w:World) (A:Around) (s:Shared) (it:Addr) (x:Value) (after:Heap->Prop):Prop :=
 ∀ (Q:Value->Shared->Prop) (E:Value->Shared->Prop),(∀ h',after h'->Heap.SameBut it s.heap h'->Q x { s with heap:=h' })->wpAny (model prog w) A (Builtin.SmallTypes.nextOf (.ref it)) Q E s
def NextE (prog:Program) (w:World) (A:Around) (s:Shared) (it:Addr):Prop :=
 ∀ (Q:Value->Shared->Prop) (E:Value->Shared->Prop),(∀ h' e,Heap.ExtBut it s.heap h'->(∃ o,h'.get? e=some o/\o.cls=.type "StopIteration")->E (.ref e) { s with heap:=h' }) ->
  wpAny (model prog w) A (Builtin.SmallTypes.nextOf (.ref it)) Q E s
theorem nextI_list {it l : Addr} {i : Nat} {items : Array Value} {x : Value} (hit : s.heap.IsListIter it l i) (hl : s.heap.IsList l items) (hx : items[i]? = some x) :
    NextI prog w A s it x (fun h=>h.IsListIter it l (i+1)):=fun Q E hq=>wpAny_nextOf_list_item hit hl hx hq
theorem nextE_list {it l : Addr} {i : Nat} {items : Array Value} (hh : A.handled = none) (hit : s.heap.IsListIter it l i) (hl : s.heap.IsList l items) (hx : items[i]? = none) :
    NextE prog w A s it:=fun Q E hq=>wpAny_nextOf_list_end hh hit hl hx hq
theorem nextI_tup {it t : Addr} {i : Nat} {items : Array Value} {x : Value} (hit : s.heap.IsTupleIter it t i) (ht : s.heap.IsTuple t items) (hx : items[i]? = some x) :
    NextI prog w A s it x (fun h=>h.IsTupleIter it t (i+1)):=by
  intro Q E hq
  obtain ⟨o,e1,e2,e3⟩:=id hit
  obtain ⟨ot,t1,_,nt,t2⟩:=ht
  unfold Builtin.SmallTypes.nextOf
  refine wpAny_bind (wpAny_callSpecial?_slot (name:=Str.ofString "__next__") hit.typeIs F.slot_tuple_iterator_next ?_)
  refine wpAny_call_entry F.slot_tuple_iterator_next hit.typeIs F.entry_tuple_iterator_next ?_ (F.args_tuple_iterator_next_1 _)
  show wpAny _ _ (field (.ref it) 0 >>= _) _ _ s
  refine wpAny_bind (wpAny_field e1 e3 (x:=.ref t) rfl ?_)
  show wpAny _ _ (if (Value.ref t == Value.none)=true then _ else _) _ _ s
  rw [if_neg (by intro z;cases z)]
  refine wpAny_bind (wpAny_field e1 e3 (x:=.int i 0) rfl (wpAny_bind (wpAny_seqItems t1 t2 ?_)))
  simp only [Int.toNat_natCast,hx]
  refine wpAny_bind (wpAny_setField e1 e3 (by simp) (wpAny_pure ⟨x,rfl,wpAny_pure (hq _ ⟨_,Heap.get?_update_self _ e1 (Obj.isFreed_of_fields (Obj.data_mapFields e3 _)),(Obj.cls_mapFields ..).trans e2,?_⟩ (Heap.SameBut.update ..))⟩))
  rw [Obj.data_mapFields e3]
  simp [rawInt]
theorem nextE_tup {it t:Addr} {i:Nat} {items:Array Value} (hh:A.handled=none) (hit:s.heap.IsTupleIter it t i) (ht:s.heap.IsTuple t items) (hx:items[i]?=none):NextE prog w A s it:=by
 intro Q E hq
 obtain ⟨o,e1,e2,e3⟩:=id hit
 obtain ⟨ot,t1,_,nt,t2⟩:=ht
 unfold Builtin.SmallTypes.nextOf
 refine wpAny_bind (wpAny_callSpecial?_slot (name:=Str.ofString "__next__") hit.typeIs F.slot_tuple_iterator_next ?_)
 refine wpAny_call_entry F.slot_tuple_iterator_next hit.typeIs F.entry_tuple_iterator_next ?_ (F.args_tuple_iterator_next_1 _)
 show wpAny _ _ (field (.ref it) 0 >>= _) _ _ s
 refine wpAny_bind (wpAny_field e1 e3 (x:=.ref t) rfl ?_)
 show wpAny _ _ (if (Value.ref t == Value.none)=true then _ else _) _ _ s
 rw [if_neg (by intro z;cases z)]
 refine wpAny_bind (wpAny_field e1 e3 (x:=.int i 0) rfl (wpAny_bind (wpAny_seqItems t1 t2 ?_)))
 simp only [Int.toNat_natCast,hx]
 refine wpAny_bind (wpAny_rule (wpAny_bind (wpAny_setField e1 e3 (by simp) ?_)))
 show wpAny _ _ (newExc (.type "StopIteration") [] >>= _) _ _ _
 refine wpAny_bind ?_
 simp only [newExc,newTuple]
 refine wpAny_bind (wpAny_newObj_type ?_ (by size_fits))
 refine wpAny_bind (m:=firstArgMember _ _) (wpAny_of_eq (a:=Value.none) (by first | rfl | (simp only [firstArgMember];rfl)) (wpAny_newObj_type ?_ (by size_fits)))
 simp only [raiseNew]
 refine wpAny_bind (wpAny_handled ?_)
 first | rw [show A.in1.handled=none from hh] | rw [hh]
 exact wpAny_bind (wpAny_pure (wpAny_throw (hq _ _ (((Heap.SameBut.update ..).extBut.push _).push _) ⟨_,zqn _ rfl,rfl⟩)))
theorem enum_item {e it : Addr} {i : Nat} {x old : Value} {st : Heap -> Prop} {Q : Option Value -> Shared -> Prop} (he : IsEnum s.heap e it i old) (hne : e ≠ it) (hlt : it < s.heap.objs.size) (hn : NextI prog w A.in1 s it x st)
    (hkeep:∀ h h',st h->(∀ o,h.get? it=some o->h'.get? it=some o)->st h')
    (hQ:∀ h',IsEnumOut h' e it ((i:Int)+1) x s.heap.objs.size->st h'->h'.get? s.heap.objs.size=some { cls:=.type "tuple",data:=.seq #[.int i s.toks,x] } ->
      (∀ b o,b≠e->b≠it->s.heap.get? b=some o->h'.get? b=some o)->Q (some (.ref s.heap.objs.size)) { s with heap:=h',toks:=s.toks+1 }) :
    wpAny (model prog w) A (pyNext (.ref e)) Q E s:=by
  have hT:s.TypeIs (.ref e) "enumerate" := ⟨_,he,rfl⟩
  unfold pyNext
  refine wpAny_bind (wpAny_attempt (wpAny_callSpecial?_slot (name:=Str.ofString "__next__") hT F.slot_enumerate_next
    (wpAny_call_entry F.slot_enumerate_next hT F.entry_enumerate_next ?_ (F.args_enumerate_next_1 _))))
  obtain ⟨hp,g,d,tk,os⟩:=s
  show wpAny _ _ (field (.ref e) 2 >>= _) _ _ _
  refine wpAny_bind (wpAny_field he rfl (x:=.ref it) rfl (wpAny_bind (hn _ _ fun k1 st1 sb1=>?_)))
  have sb1:Heap.SameBut it hp k1:=sb1
  have a1:IsEnum k1 e it i old:=(sb1.2 e hne).trans he
  refine wpAny_bind (wpAny_field (s:=⟨k1,g,d,tk,os⟩) a1 rfl (x:=rawInt i) rfl ?_)
  refine wpAny_bind (wpAny_field (s:=⟨k1,g,d,tk,os⟩) a1 rfl (x:=.none) rfl ?_)
  refine wpAny_bind (wpAny_mkInt (s:=⟨k1,g,d,tk,os⟩) ?_)
  refine wpAny_bind (wpAny_setField_rec (s:=⟨k1,g,d,tk+1,os⟩) a1 (by simp) fun k2 a2 sb2=>?_)
  have sb2:Heap.SameBut e k1 k2:=sb2
  have a2:IsEnum k2 e it ((i:Int)+1) old:=a2
  refine wpAny_bind (wpAny_setField_rec (s:=⟨k2,g,d,tk+1,os⟩) a2 (by simp) fun k3 a3 sb3=>?_)
  have sb3:Heap.SameBut e k2 k3:=sb3
  have a3:IsEnum k3 e it ((i:Int)+1) old:=a3
  refine wpAny_bind (wpAny_newTuple (s:=⟨k3,g,d,tk+1,os⟩) ?_)
  have sz:k3.objs.size=hp.objs.size:=by rw [sb3.1,sb2.1,sb1.1]
  have el:e < hp.objs.size:=Heap.lt_size he
  have tne:hp.objs.size≠e:=Nat.ne_of_gt el
  generalize hk4:k3.push { cls:=.type "tuple",data:=.seq #[.int i tk,x] }=k4
  have a4:IsEnum k4 e it ((i:Int)+1) old:=by rw [<- hk4];exact zqc _ a3
  have t4:k4.get? hp.objs.size=some { cls:=.type "tuple",data:=.seq #[.int i tk,x] }:=by rw [<- hk4,<- sz];exact zqn _ rfl
  have up:∀ b o,b≠e->k1.get? b=some o->k4.get? b=some o:=fun b o hb q=>by rw [<- hk4];exact zqc _ (sb3.extBut b o hb (sb2.extBut b o hb q))
  dsimp only
  rw [sz]
  refine wpAny_bind ?_
  unfold Builtin.SmallTypes.ownedTupleIsFree
  refine wpAny_bind (wpAny_field (s:=⟨k4,g,d,tk+1,os⟩) a4 rfl (x:=.none) rfl (wpAny_pure ?_))
  simp only [if_true]
  refine wpAny_bind (wpAny_rule (wpAny_bind (wpAny_field (s:=⟨k4,g,d,tk+1,os⟩) a4 rfl (x:=old) rfl ?_)))
  refine wpAny_bind (wpAny_setField_rec (s:=⟨k4,g,d,tk+1,os⟩) a4 (by simp) fun k5 a5 sb5=>?_)
  have sb5:Heap.SameBut e k4 k5:=sb5
  have a5:IsEnum k5 e it ((i:Int)+1) x:=a5
  refine wpAny_bind ?_
  unfold Builtin.SmallTypes.ownedTupleHandOut
  refine wpAny_bind (wpAny_setField_rec (s:=⟨k5,g,d,tk+1,os⟩) a5 (by simp) fun k6 a6 sb6=>?_)
  have sb6:Heap.SameBut e k5 k6:=sb6
  have a6:IsEnumOut k6 e it ((i:Int)+1) x hp.objs.size:=a6
  refine wpAny_setField_rec (s:=⟨k6,g,d,tk+1,os⟩) a6 (by simp) fun k7 a7 sb7=>?_
  have sb7:Heap.SameBut e k6 k7:=sb7
  have a7:IsEnumOut k7 e it ((i:Int)+1) x hp.objs.size:=a7
  have up7:∀ b o,b≠e->k4.get? b=some o->k7.get? b=some o:=fun b o hb q=>sb7.extBut b o hb (sb6.extBut b o hb (sb5.extBut b o hb q))
  refine wpAny_bind (wpAny_letGo (wpAny_pure ⟨_,rfl,wpAny_pure (hQ k7 a7 ?_ (up7 _ _ tne t4) ?_)⟩))
  · exact hkeep k1 k7 st1 fun o q=>up7 _ _ (Ne.symm hne) (up _ _ (Ne.symm hne) q)
  · intro b o hb1 hb2 q
    exact up7 b o hb1 (up b o hb1 (sb1.extBut b o hb2 q))
theorem enum_end {e it : Addr} {i : Nat} {old : Value} {Q : Option Value -> Shared -> Prop} (he : IsEnum s.heap e it i old) (hn : NextE prog w A.in1 s it)
    (hQ:∀ h',Heap.ExtBut it s.heap h'->Q none { s with heap:=h' }):wpAny (model prog w) A (pyNext (.ref e)) Q E s:=by
  have hT:s.TypeIs (.ref e) "enumerate" := ⟨_,he,rfl⟩
  unfold pyNext
  refine wpAny_bind (wpAny_attempt (wpAny_callSpecial?_slot (name:=Str.ofString "__next__") hT F.slot_enumerate_next
    (wpAny_call_entry F.slot_enumerate_next hT F.entry_enumerate_next ?_ (F.args_enumerate_next_1 _))))
  show wpAny _ _ (field (.ref e) 2 >>= _) _ _ _
  refine wpAny_bind (wpAny_field he rfl (x:=.ref it) rfl (wpAny_bind (hn _ _ fun k x hk hx=>?_)))
  obtain ⟨o,ho,hc⟩:=hx
  exact wpAny_bind (wpAny_isInstance (T := "StopIteration") (b:=true) ⟨o,ho,hc⟩ isSubtype_stop (wpAny_pure (hQ _ hk)))
end
theorem push_get_ne {h:Heap} {o:Obj} {b:Addr} (hb:b≠h.objs.size):(h.push o).get? b=h.get? b:=Heap.get?_push_ne h b o hb
theorem Inv.turnedL {X:Cx} {pins:List (Addr×Obj)} {σ:St} {H:Hp} {s:Shared} {h':Heap} {t':Nat} {ch:List Addr} (I:Inv X pins σ H s) (k:∀ b o,b∉ch->s.heap.get? b=some o->h'.get? b=some o) (hf:∀ b∈ch,FpOk X pins H b):Inv X pins σ H { s with heap:=h',toks:=t' }:=by
 have nit:∀ b u,H b=some u->b∉ch:=fun b u e z=>by rw [(hf b z).1] at e;cases e
 refine I.step (g':=s.gens) (d':=s.drawn) (ch:=ch) (fun b hb=>⟨(hf b hb).2.2.2.1,(hf b hb).2.1,(hf b hb).2.2.2.2.1,(hf b hb).2.2.2.2.2⟩) (fun b o _ _ hc e _=>k b o hc e) (fun b o _ _ hc e _=>⟨o.slots,k b o hc e⟩) (fun _ _ _ _ n=>n)
  (fun b o hc e=>⟨o,k b o hc e⟩) (fun _ _ e=>e) (fun _ _ _ e=>e) (fun b ps e=>⟨#[],by rw [e];simp⟩) (fun m hm=>?_) (fun b u e=>?_) I.bare
 ·obtain ⟨o,es,ep,ho,r⟩:=hm
  exact ⟨o,es,ep,k _ o (fun z=>(hf _ z).2.1 rfl) ho,r⟩
 ·refine (I.hok b u e).stay (fun c v hc q=>k c v ?_ q) (fun _ q=>q) fun _ _ q=>q
  rcases hc with z | z
  ·rw [z];exact nit b u e
  ·exact nit c _ z
def SqB (K:PySem.W.Frag) (H:Hp) (l:Bool) (a:Addr) (xs:List V):Prop:=if l=true then SqL K H a xs else SqT K H a xs
def Ite (K:PySem.W.Frag) (l:Bool) (a:Addr):It :=
 ⟨fun i H=>∃ xs x,SqB K H l a xs/\xs[i]?=some x,fun i H x H'=>∃ p y,x=.ref p/\H p=none/\H'=upd H p (.tup [.int i,y])/\∀ xs,SqB K H l a xs->xs[i]?=some y,fun i H=>∃ xs,SqB K H l a xs/\xs.length<=i⟩
def IsIt (l:Bool) (h:Heap) (it a:Addr) (i:Nat):Prop:=if l=true then h.IsListIter it a i else h.IsTupleIter it a i
theorem IsIt.at {l:Bool} {h h':Heap} {it a:Addr} {i:Nat} (x:IsIt l h it a i) (e:∀ o,h.get? it=some o->h'.get? it=some o):IsIt l h' it a i:=by
 cases l with
 | true=>exact Heap.IsListIter.at (show h.IsListIter it a i from x) e
 | false=>exact Heap.IsTupleIter.at (show h.IsTupleIter it a i from x) e
theorem IsIt.obj {l:Bool} {h:Heap} {it a:Addr} {i:Nat} (x:IsIt l h it a i):∃ o,h.get? it=some o/\o.data=.fields #[.ref a,.int i 0]:=by
 cases l with
 | true=>obtain ⟨o,e,_,d⟩:=(show h.IsListIter it a i from x);exact ⟨o,e,d⟩
 | false=>obtain ⟨o,e,_,d⟩:=(show h.IsTupleIter it a i from x);exact ⟨o,e,d⟩
theorem turn_enum {P : Program} {w : World} {K : PySem.W.Frag} {elts : List Expr} {k : Nat} {tp : Pos} (l : Bool) (a e it : Addr) (hne : e ≠ it) :
    Turn P w K (.Tuple elts k tp) (Ite K l a) [e,it] e (fun i h=>(∃ old,IsEnum h e it i old)/\IsIt l h it a i) where
  mem:=by simp
  obj:=fun i h st b hb=>by
    obtain ⟨⟨old,h1⟩,h2⟩:=st
    have hb:b=e\/b=it:=by simpa using hb
    rcases hb with rfl | rfl
    · exact ⟨_,h1,fun v z=>by have z':Data.fields _=Data.cell v:=z;cases z'⟩
    · obtain ⟨o,q,d⟩:=h2.obj
      exact ⟨o,q,fun v z=>by rw [d] at z;cases z⟩
  keep:=fun i h h' st k=>by
    obtain ⟨⟨old,h1⟩,h2⟩:=st
    exact ⟨⟨old,k e (by simp) _ h1⟩,h2.at fun o q=>k it (by simp) o q⟩
  item:=by
    intro X hP hw hK hc i pins s σ H E I hf st hg
    subst hP hw hK
    obtain ⟨⟨old,h1⟩,h2⟩:=st
    obtain ⟨xs,x,hq,hx⟩:=hg
    have hfe:=hf e (by simp)
    have hfi:=hf it (by simp)
    obtain ⟨oi,qi,di⟩:=h2.obj
    have main : ∀ (u : Value), RelV x u -> NextI X.prog X.w X.A.in1 s it u (fun h => IsIt l h it a (i + 1)) -> (∀ ys, SqB X.K H l a ys -> ys[i]? = some x) ->
        wpAny (model X.prog X.w) X.A (pyNext (.ref e)) (fun r s1=>∃ u,r=some u /\
          wpAny (model X.prog X.w) X.A (letOwnedTupleGo (.Tuple elts k tp) (.ref e) u) (fun _ s2=>∃ x H',Inv X pins σ H' s2/\RelV x u/\(Ite X.K l a).yld i H x H'/\((∃ old,IsEnum s2.heap e it ((i+1:Nat):Int) old)/\IsIt l s2.heap it a (i+1))/\∀ b∈[e,it],H' b=none) E s1) E s:=by
      intro u ru hn hall
      refine enum_item h1 hne (Heap.lt_size qi) hn (fun h h' st hk=>st.at hk) fun h' o1 o2 o3 o4=>⟨_,rfl,?_⟩
      refine wpAny_letOwnedTupleGo_enum (s:={ s with heap:=h',toks:=s.toks+1 }) o1 fun h'' p1 p2=>?_
      have p2:Heap.SameBut e h' h'':=p2
      have fr:H s.heap.objs.size=none:=I.hok.fresh (zqg _)
      have I1:Inv X pins σ (upd H s.heap.objs.size (.tup [.int i,x])) { s with heap:=s.heap.push { cls:=.type "tuple",data:=.seq #[.int i s.toks,u] },toks:=s.toks+1 } :=
        I.laid (fun b o q=>zqc _ q) (zqg _) ⟨by show 2<=sizeLine;decide,[.int i s.toks,u],.cons ⟨_,rfl⟩ (.cons ru .nil),⟨_,zqn _ rfl,rfl,0,rfl⟩⟩
      have ne1:e≠s.heap.objs.size:=Nat.ne_of_lt (Heap.lt_size h1)
      have ne2:it≠s.heap.objs.size:=Nat.ne_of_lt (Heap.lt_size qi)
      have fp1:∀ b∈[e,it],FpOk X pins (upd H s.heap.objs.size (.tup [.int i,x])) b:=fun b hb=>by
        have hb':b=e\/b=it:=by simpa using hb
        rcases hb' with z | z
        · subst z;exact ⟨by rw [upd_ne ne1];exact hfe.1,hfe.2⟩
        · subst z;exact ⟨by rw [upd_ne ne2];exact hfi.1,hfi.2⟩
      have I2:=I1.turnedL (h':=h'') (t':=s.toks+1) (ch:=[e,it]) (fun b o hb q=>by
        have hb':b≠e/\b≠it:=by simpa using hb
        refine p2.extBut b o hb'.1 ?_
        by_cases hz:b=s.heap.objs.size
        · subst hz
          have q':(s.heap.push { cls:=.type "tuple",data:=.seq #[.int i s.toks,u] }).get? s.heap.objs.size=some _:=zqn _ rfl
          rw [q'] at q
          cases q
          exact o3
        · have q2 : s.heap.get? b = some o := by
            have hlt:=Heap.lt_size q
            rw [Heap.size_push] at hlt
            cases hs:s.heap.get? b with
            | some o'=>rw [zqc _ hs] at q;exact q
            | none=>exact absurd q (by rw [push_get_ne hz,hs];intro z;cases z)
          exact o4 b o hb'.1 hb'.2 q2) fp1
      refine ⟨.ref s.heap.objs.size,_,I2,rfl,⟨s.heap.objs.size,x,rfl,fr,rfl,hall⟩,⟨⟨_,p1⟩,o2.at fun o q=>p2.extBut _ _ (Ne.symm hne) q⟩,fun b hb=>(fp1 b hb).1⟩
    cases l with
    | true =>
      have hq:SqL X.K H a xs:=hq
      obtain ⟨its,rv,p,hz⟩:=I.list hq
      obtain ⟨u,hu,ru⟩:=rv.get hx
      exact main u ru (nextI_list (show s.heap.IsListIter it a i from h2) p.isList (by simpa using hu)) fun ys hy=>by rw [I.list_inj (show SqL X.K H a ys from hy) hq];exact hx
    | false =>
      have hq:SqT X.K H a xs:=hq
      obtain ⟨its,rv,p,hz⟩:=I.tuple hq
      obtain ⟨u,hu,ru⟩:=rv.get hx
      exact main u ru (nextI_tup (show s.heap.IsTupleIter it a i from h2) (show s.heap.IsTuple a its.toArray from p) (by simpa using hu)) fun ys hy=>by rw [I.tuple_inj (show SqT X.K H a ys from hy) hq];exact hx
  done:=by
    intro X hP hw hK hc i pins s σ H E I hf st hg
    subst hP hw hK
    obtain ⟨⟨old,h1⟩,h2⟩:=st
    obtain ⟨xs,hq,hx⟩:=hg
    have hfi:=hf it (by simp)
    have hh:X.A.in1.handled=none:=I.ok.hd hc
    have fin:∀ h',Heap.ExtBut it s.heap h'->(none:Option Value)=none/\Inv X pins σ H { s with heap:=h' }:=fun h' eb=>⟨rfl,I.turned (t':=s.toks) (fun b o hb q=>eb b o hb q) hfi.1 hfi.2.1 hfi.2.2.2.1 hfi.2.2.2.2.1 hfi.2.2.2.2.2⟩
    cases l with
    | true =>
      obtain ⟨its,rv,p,hz⟩:=I.list (show SqL X.K H a xs from hq)
      have hl:=rv.length
      exact enum_end h1 (nextE_list hh (show s.heap.IsListIter it a i from h2) p.isList (by simp;omega)) fun h' eb=>fin h' eb
    | false =>
      obtain ⟨its,rv,p,hz⟩:=I.tuple (show SqT X.K H a xs from hq)
      have hl:=rv.length
      exact enum_end h1 (nextE_tup hh (show s.heap.IsTupleIter it a i from h2) (show s.heap.IsTuple a its.toArray from p) (by simp;omega)) fun h' eb=>fin h' eb
  self:=fun A i s Q E st h=>by
    obtain ⟨⟨old,h1⟩,_⟩:=st
    exact wpAny_pyIter_enum h1 h
theorem meets_enum_tup (t : Addr) (items : Array Value) :
    Meets (Builtin.«enumerate.__new__» ⟨[.type "enumerate",.ref t],[]⟩) (fun _ R s=>s.heap.IsTuple t items /\
      R (.ok (.ret (.ref (s.heap.push { cls:=.type "tuple_iterator",data:=.fields #[.ref t,.int 0 0] }).objs.size)))
        { s with heap:=(s.heap.push { cls:=.type "tuple_iterator",data:=.fields #[.ref t,.int 0 0] }).push { cls:=.type "enumerate",data:=.fields #[.none,.bool false,.ref s.heap.objs.size,rawInt 0,.none,.none] } }) :=
  .of_wp fun prog w A R s h=>by
    obtain ⟨hp,g,d,tk,os⟩:=s
    obtain ⟨hT,h⟩:=h
    have hsub:=sub_enumerate
    have hT:Heap.IsTuple (Shared.heap ⟨hp,g,d,tk,os⟩) t items:=hT
    wp_walk
    refine wpAny_stack_any fun st=>wpAny_pure ?_
    split
    · rename_i c _ _ _ _ _
      cases (c == Value.type "enumerate") <;> (wp_walk using wpAny_pyIter_tuple hT;exact ⟨_,rfl,h⟩)
    · wp_walk using wpAny_pyIter_tuple hT
      exact ⟨_,rfl,h⟩
section
variable {prog:Program} {w:World} {A:Around} {E:Value->Shared->Prop} {s:Shared}
theorem call_enum {l : Bool} {a : Addr} {items : Array Value} {Q : Value -> Shared -> Prop} (hs : if l = true then s.heap.IsList a items else s.heap.IsTuple a items)
    (h:∀ h',IsEnum h' (s.heap.objs.size+1) s.heap.objs.size 0 .none->IsIt l h' s.heap.objs.size a 0->(∀ b o,s.heap.get? b=some o->h'.get? b=some o)->Q (.ref (s.heap.objs.size+1)) { s with heap:=h' }) :
    wpAny (model prog w) A (call (.type "enumerate") [.ref a]) Q E s:=by
  cases l with
  | true=>exact call_enumerate_list (show s.heap.IsList a items from hs) fun h' h1 h2 _ h4=>h h' h1 h2 h4
  | false =>
    have hs:s.heap.IsTuple a items:=hs
    refine callType_new F.called_enumerate (by decide) (F.typeCall_enumerate_1 _) (F.newCall_enumerate_1 _) (fun obj=>F.args_object_init_2 obj _) F.entry_enumerate_new (meets_enum_tup a items) ⟨hs,?_⟩
    have hz:(s.heap.push { cls:=.type "tuple_iterator",data:=.fields #[.ref a,.int 0 0] }).objs.size=s.heap.objs.size+1:=Heap.size_push ..
    show _/\_
    have he:=zqn (s.heap.push { cls:=.type "tuple_iterator",data:=.fields #[.ref a,.int 0 0] }) (o:={ cls:=.type "enumerate",data:=.fields #[.none,.bool false,.ref s.heap.objs.size,rawInt 0,.none,.none] }) rfl
    rw [hz] at he ⊢
    exact ⟨⟨_,he,rfl⟩,h _ he ⟨_,zqc _ (zqn _ rfl),rfl,rfl⟩ fun b o x=>zqc _ (zqc _ x)⟩
end
section
variable {X:Cx}
def iEnum (K:PySem.W.Frag) (ta:TA):TI:=fun σ H R=>ta σ H fun vs H1=>∃ (l:Bool) (a:Addr),vs=[.ref a]/\(∃ xs,SqB K H1 l a xs)/\R (Ite K l a) H1
theorem pi_enum {a : Expr} {ta : TA} {p pos tp : Pos} {elts : List Expr} {k : Nat} (hg : Gl X "enumerate") (hm : X.mg "enumerate" = none) (ha : PA X [a] ta) (hs : starEach [a] X.env = [(false, eval a X.env)]) :
    PI X (.Tuple elts k tp) (.Call (.Name "enumerate" p) [a] [] pos) (iEnum X.K ta):=by
  intro pins s σ H R I h
  refine Call_ (ld_blt I hg hm boot_enumerate (PyProof.Rows.callWith_type1 (thn (ha pos pins s σ H _ I h) ?_) hs rfl))
  rintro us s1 ⟨vs,H1,I1,r1,q1⟩
  obtain ⟨l,b,rfl,⟨xs,hq⟩,q⟩:=q1
  obtain ⟨u,rfl,ru⟩:=vals1 r1
  cases ru
  have hit:∃ its:Array Value,if l=true then s1.heap.IsList b its else s1.heap.IsTuple b its:=by
    cases l with
    | true=>obtain ⟨its,_,p,_⟩:=I1.list (show SqL X.K H1 b xs from hq);exact ⟨its.toArray,p.isList⟩
    | false=>obtain ⟨its,_,p,_⟩:=I1.tuple (show SqT X.K H1 b xs from hq);exact ⟨its.toArray,p⟩
  obtain ⟨its,hit⟩:=hit
  refine call_enum hit fun h' e1 e2 e3=>?_
  refine wpAny_pyIter_enum (s:={ s1 with heap:=h' }) e1 ?_
  have I2:Inv X pins σ H1 { s1 with heap:=h' }:=I1.kept (t':=s1.toks) e3
  refine ⟨s1.heap.objs.size+1,[s1.heap.objs.size+1,s1.heap.objs.size],_,_,H1,rfl,I2,turn_enum l b _ _ (Nat.succ_ne_self _),⟨⟨_,e1⟩,e2⟩,fun c hc=>?_,q⟩
  have hc':c=s1.heap.objs.size+1\/c=s1.heap.objs.size:=by simpa using hc
  rcases hc' with z | z
  · subst z;exact I1.fpOk (Nat.le_succ _) (I1.hok.fresh (Nat.le_succ _))
  · subst z;exact I1.fpOk (zqg _) (I1.hok.fresh (zqg _))
end
end L2
end
section
namespace L2
open PySem PySem.Spec PyProof.Rows
section
variable {prog:Program} {w:World} {A:Around} {E:Value->Shared->Prop} {s:Shared}
structure ZA (z ti to i j:Addr):Prop where
 tz:ti≠z
 oz:to≠z
 iz:i≠z
 jz:j≠z
 tt:ti≠to
 di:ti≠i
 dj:ti≠j
 oi:to≠i
 oj:to≠j
 ij:i≠j
theorem zip_item {z ti to i j : Addr} {x y p q : Value} {st1 st2 : Heap -> Prop} {Q : Option Value -> Shared -> Prop} (D : ZA z ti to i j) (zz : IsZip s.heap z ti to .none) (yi : IsPair s.heap ti (.ref i) (.ref j)) (yo : IsPair s.heap to p q)
    (n1:∀ h',(∀ b o,b≠z->s.heap.get? b=some o->h'.get? b=some o)->NextI prog w A.in1 { s with heap:=h' } i x st1)
    (n2:∀ h',(∀ b o,b≠z->b≠to->b≠i->s.heap.get? b=some o->h'.get? b=some o)->NextI prog w A.in1 { s with heap:=h' } j y st2)
    (k1:∀ h h',st1 h->(∀ o,h.get? i=some o->h'.get? i=some o)->st1 h') (k2:∀ h h',st2 h->(∀ o,h.get? j=some o->h'.get? j=some o)->st2 h')
    (hQ:∀ h',IsZip h' z ti to (rawInt s.heap.objs.size)->IsPair h' to x y->st1 h'->st2 h'->h'.get? s.heap.objs.size=some { cls:=.type "tuple",data:=.seq #[x,y] } ->
      (∀ b o,b≠z->b≠to->b≠i->b≠j->s.heap.get? b=some o->h'.get? b=some o)->Q (some (.ref s.heap.objs.size)) { s with heap:=h' }) :
    wpAny (model prog w) A (pyNext (.ref z)) Q E s:=by
  have hT:s.TypeIs (.ref z) "zip" := ⟨_,zz,rfl⟩
  obtain ⟨hp,g,d,tk,os⟩:=s
  unfold pyNext
  refine wpAny_bind (wpAny_attempt (wpAny_callSpecial?_slot (name:=Str.ofString "__next__") hT F.slot_zip_next (wpAny_call_entry F.slot_zip_next hT F.entry_zip_next ?_ (F.args_zip_next_1 _))))
  show wpAny _ _ (field (.ref z) 2 >>= _) _ _ _
  refine wpAny_bind (wpAny_field zz rfl (x:=.bool false) rfl ?_)
  show wpAny _ _ (field (.ref z) 3 >>= _) _ _ _
  refine wpAny_bind (wpAny_field zz rfl (x:=.ref ti) rfl ?_)
  refine wpAny_bind (wpAny_seqItems yi rfl ?_)
  show wpAny _ _ (Builtin.SmallTypes.ownedTupleIsFree (.ref z) >>= _) _ _ _
  refine wpAny_bind ?_
  unfold Builtin.SmallTypes.ownedTupleIsFree
  refine wpAny_bind (wpAny_field zz rfl (x:=.none) rfl (wpAny_pure ?_))
  simp only [if_true]
  refine wpAny_bind (wpAny_rule (wpAny_bind (wpAny_field zz rfl (x:=.ref to) rfl ?_)))
  refine wpAny_bind (wpAny_setField_rec zz (by simp) fun e1 z1 s1=>?_)
  have s1:Heap.SameBut z hp e1:=s1
  replace z1:IsZip e1 z ti to .ellipsis:=z1
  refine wpAny_bind ?_
  simp only [List.zipIdx_cons,List.zipIdx_nil,List.forIn_cons,List.forIn_nil]
  refine wpAny_bind (wpAny_bind (wpAny_onRaise ?_))
  show wpAny _ _ (Builtin.SmallTypes.nextOf (.ref i) >>= _) _ _ _
  refine wpAny_bind (n1 e1 (fun b o hb=>s1.extBut b o hb) _ _ fun e2 a2 s2=>wpAny_pure ?_)
  have s2:Heap.SameBut i e1 e2:=s2
  have o2:IsPair e2 to p q:=s2.extBut _ _ D.oi (s1.extBut _ _ D.oz yo)
  refine wpAny_bind (wpAny_seqItems o2 rfl ?_)
  refine wpAny_bind (wpAny_updateSeq_pair (s:=⟨e2,g,d,tk,os⟩) o2 fun e3 o3 s3=>?_)
  have s3:Heap.SameBut to e2 e3:=s3
  replace o3:IsPair e3 to x q:=o3
  refine wpAny_bind (wpAny_letGo (wpAny_pure ?_))
  refine wpAny_bind (wpAny_bind (wpAny_onRaise ?_))
  show wpAny _ _ (Builtin.SmallTypes.nextOf (.ref j) >>= _) _ _ _
  refine wpAny_bind (n2 e3 (fun b o b1 b2 b3 u=>s3.extBut b o b2 (s2.extBut b o b3 (s1.extBut b o b1 u))) _ _ fun e4 a4 s4=>wpAny_pure ?_)
  have s4:Heap.SameBut j e3 e4:=s4
  have o4:IsPair e4 to x q:=s4.extBut _ _ D.oj o3
  refine wpAny_bind (wpAny_seqItems o4 rfl ?_)
  refine wpAny_bind (wpAny_updateSeq_pair (s:=⟨e4,g,d,tk,os⟩) o4 fun e5 o5 s5=>?_)
  have s5:Heap.SameBut to e4 e5:=s5
  replace o5:IsPair e5 to x y:=o5
  refine wpAny_bind (wpAny_letGo (wpAny_pure (wpAny_pure ?_)))
  refine wpAny_bind (wpAny_seqItems o5 rfl ?_)
  refine wpAny_bind (wpAny_newTuple ?_)
  have sz:e5.objs.size=hp.objs.size:=by rw [s5.1,s4.1,s3.1,s2.1,s1.1]
  have z5:IsZip e5 z ti to .ellipsis:=s5.extBut _ _ D.oz.symm (s4.extBut _ _ D.jz.symm (s3.extBut _ _ D.oz.symm (s2.extBut _ _ D.iz.symm z1)))
  have up5:∀ b o,b≠z->b≠to->b≠i->b≠j->hp.get? b=some o->e5.get? b=some o:=fun b o b1 b2 b3 b4 u =>
    s5.extBut _ _ b2 (s4.extBut _ _ b4 (s3.extBut _ _ b2 (s2.extBut _ _ b3 (s1.extBut _ _ b1 u))))
  have zlt:z < e5.objs.size:=Heap.lt_size z5
  show wpAny _ _ (Builtin.SmallTypes.ownedTupleHandOut (.ref z) (.ref e5.objs.size) >>= _) _ _ _
  refine wpAny_bind ?_
  unfold Builtin.SmallTypes.ownedTupleHandOut
  have z6:IsZip (e5.push { cls:=.type "tuple",data:=.seq #[x,y] }) z ti to .ellipsis:=zqc _ z5
  refine wpAny_bind (wpAny_setField_rec z6 (by simp) fun e7 z7 s7=>?_)
  have s7:Heap.SameBut z (e5.push { cls:=.type "tuple",data:=.seq #[x,y] }) e7:=s7
  replace z7:IsZip e7 z ti to (rawInt e5.objs.size):=z7
  refine wpAny_setField_rec (s:=⟨e7,g,d,tk,os⟩) z7 (by simp) fun e8 z8 s8=>?_
  have s8:Heap.SameBut z e7 e8:=s8
  replace z8:IsZip e8 z ti to (rawInt e5.objs.size):=z8
  have up:∀ b o,b≠z->e5.get? b=some o->e8.get? b=some o:=fun b o b1 u=>s8.extBut _ _ b1 (s7.extBut _ _ b1 (zqc _ u))
  have t8:e8.get? e5.objs.size=some { cls:=.type "tuple",data:=.seq #[x,y] }:=s8.extBut _ _ (Nat.ne_of_gt zlt) (s7.extBut _ _ (Nat.ne_of_gt zlt) (zqn _ rfl))
  rw [sz] at z8 t8
  refine wpAny_pure ⟨_,rfl,wpAny_pure ?_⟩
  show Q (some (.ref e5.objs.size)) _
  rw [sz]
  exact hQ e8 z8 (up _ _ D.oz o5) (k1 e2 e8 a2 fun o u=>up _ o D.iz (s5.extBut _ _ D.oi.symm (s4.extBut _ _ D.ij (s3.extBut _ _ D.oi.symm u)))) (k2 e4 e8 a4 fun o u=>up _ o D.jz (s5.extBut _ _ D.oj.symm u)) t8
    fun b o b1 b2 b3 b4 u=>up b o b1 (up5 b o b1 b2 b3 b4 u)
theorem zip_end {z ti to i j : Addr} {p q : Value} {st1 : Heap -> Prop} {Q : Option Value -> Shared -> Prop} (D : ZA z ti to i j) (zz : IsZip s.heap z ti to .none) (yi : IsPair s.heap ti (.ref i) (.ref j)) (yo : IsPair s.heap to p q)
    (n:(∀ h',(∀ b o,b≠z->s.heap.get? b=some o->h'.get? b=some o)->NextE prog w A.in1 { s with heap:=h' } i) \/
      (∃ x,(∀ h',(∀ b o,b≠z->s.heap.get? b=some o->h'.get? b=some o)->NextI prog w A.in1 { s with heap:=h' } i x st1) /\
        ∀ h',(∀ b o,b≠z->b≠to->b≠i->s.heap.get? b=some o->h'.get? b=some o)->NextE prog w A.in1 { s with heap:=h' } j))
    (hQ:∀ h',(∀ b o,b≠z->b≠to->b≠i->b≠j->s.heap.get? b=some o->h'.get? b=some o)->Q none { s with heap:=h' }) :
    wpAny (model prog w) A (pyNext (.ref z)) Q E s:=by
  have hT:s.TypeIs (.ref z) "zip" := ⟨_,zz,rfl⟩
  obtain ⟨hp,g,d,tk,os⟩:=s
  have fin : ∀ (h' : Heap) (e : Addr), (∀ b o, b ≠ z -> b ≠ to -> b ≠ i -> b ≠ j -> hp.get? b = some o -> h'.get? b = some o) -> (∃ o, h'.get? e = some o /\ o.cls = .type "StopIteration") ->
      wpAny (model prog w) A (do if <- isInstance (.ref e) (.type "StopIteration") then pure none else throw (.ref e)) Q E ⟨h',g,d,tk,os⟩:=fun h' e hk ⟨o,ho,hc⟩ =>
    wpAny_bind (wpAny_isInstance (T := "StopIteration") (b:=true) ⟨o,ho,hc⟩ isSubtype_stop (wpAny_pure (hQ h' hk)))
  unfold pyNext
  refine wpAny_bind (wpAny_attempt (wpAny_callSpecial?_slot (name:=Str.ofString "__next__") hT F.slot_zip_next (wpAny_call_entry F.slot_zip_next hT F.entry_zip_next ?_ (F.args_zip_next_1 _))))
  show wpAny _ _ (field (.ref z) 2 >>= _) _ _ _
  refine wpAny_bind (wpAny_field zz rfl (x:=.bool false) rfl ?_)
  show wpAny _ _ (field (.ref z) 3 >>= _) _ _ _
  refine wpAny_bind (wpAny_field zz rfl (x:=.ref ti) rfl ?_)
  refine wpAny_bind (wpAny_seqItems yi rfl ?_)
  show wpAny _ _ (Builtin.SmallTypes.ownedTupleIsFree (.ref z) >>= _) _ _ _
  refine wpAny_bind ?_
  unfold Builtin.SmallTypes.ownedTupleIsFree
  refine wpAny_bind (wpAny_field zz rfl (x:=.none) rfl (wpAny_pure ?_))
  simp only [if_true]
  refine wpAny_bind (wpAny_rule (wpAny_bind (wpAny_field zz rfl (x:=.ref to) rfl ?_)))
  refine wpAny_bind (wpAny_setField_rec zz (by simp) fun e1 z1 s1=>?_)
  have s1:Heap.SameBut z hp e1:=s1
  replace z1:IsZip e1 z ti to .ellipsis:=z1
  refine wpAny_bind ?_
  simp only [List.zipIdx_cons,List.zipIdx_nil,List.forIn_cons,List.forIn_nil]
  refine wpAny_bind (wpAny_bind (wpAny_onRaise ?_))
  show wpAny _ _ (Builtin.SmallTypes.nextOf (.ref i) >>= _) _ _ _
  rcases n with n | ⟨x,n1,n2⟩
  · refine wpAny_bind (n e1 (fun b o hb=>s1.extBut b o hb) _ _ fun e2 e s2 he=>?_)
    have s2:Heap.ExtBut i e1 e2:=s2
    obtain ⟨oe,ge,ce⟩:=he
    have ge:e2.get? e=some oe:=ge
    have z2:IsZip e2 z ti to .ellipsis:=s2 _ _ D.iz.symm z1
    have ez:e≠z:=fun u=>by subst u;rw [z2] at ge;cases ge;simp at ce
    refine wpAny_setField_rec (s:=⟨e2,g,d,tk,os⟩) z2 (by simp) fun e3 _ s3=>?_
    have s3:Heap.SameBut z e2 e3:=s3
    exact fin e3 e (fun b o b1 b2 b3 b4 u=>s3.extBut _ _ b1 (s2 _ _ b3 (s1.extBut _ _ b1 u))) ⟨oe,s3.extBut _ _ ez ge,ce⟩
  · refine wpAny_bind (n1 e1 (fun b o hb=>s1.extBut b o hb) _ _ fun e2 a2 s2=>wpAny_pure ?_)
    have s2:Heap.SameBut i e1 e2:=s2
    have o2:IsPair e2 to p q:=s2.extBut _ _ D.oi (s1.extBut _ _ D.oz yo)
    refine wpAny_bind (wpAny_seqItems o2 rfl ?_)
    refine wpAny_bind (wpAny_updateSeq_pair (s:=⟨e2,g,d,tk,os⟩) o2 fun e3 o3 s3=>?_)
    have s3:Heap.SameBut to e2 e3:=s3
    refine wpAny_bind (wpAny_letGo (wpAny_pure ?_))
    refine wpAny_bind (wpAny_bind (wpAny_onRaise ?_))
    show wpAny _ _ (Builtin.SmallTypes.nextOf (.ref j) >>= _) _ _ _
    refine wpAny_bind (n2 e3 (fun b o b1 b2 b3 u=>s3.extBut b o b2 (s2.extBut b o b3 (s1.extBut b o b1 u))) _ _ fun e4 e s4 he=>?_)
    have s4:Heap.ExtBut j e3 e4:=s4
    obtain ⟨oe,ge,ce⟩:=he
    have ge:e4.get? e=some oe:=ge
    have z4:IsZip e4 z ti to .ellipsis:=s4 _ _ D.jz.symm (s3.extBut _ _ D.oz.symm (s2.extBut _ _ D.iz.symm z1))
    have ez:e≠z:=fun u=>by subst u;rw [z4] at ge;cases ge;simp at ce
    refine wpAny_setField_rec (s:=⟨e4,g,d,tk,os⟩) z4 (by simp) fun e5 _ s5=>?_
    have s5:Heap.SameBut z e4 e5:=s5
    exact fin e5 e (fun b o b1 b2 b3 b4 u=>s5.extBut _ _ b1 (s4 _ _ b4 (s3.extBut _ _ b2 (s2.extBut _ _ b3 (s1.extBut _ _ b1 u))))) ⟨oe,s5.extBut _ _ ez ge,ce⟩
end
def Itz (K:PySem.W.Frag) (l m:Bool) (a b:Addr):It :=
  ⟨fun i H=>∃ xs ys x y,SqB K H l a xs/\SqB K H m b ys/\xs[i]?=some x/\ys[i]?=some y,
   fun i H v H'=>∃ p x y,v=.ref p/\H p=none/\H'=upd H p (.tup [x,y])/\(∀ xs,SqB K H l a xs->xs[i]?=some x)/\∀ ys,SqB K H m b ys->ys[i]?=some y,
   fun i H=>∃ xs ys,SqB K H l a xs/\SqB K H m b ys/\(xs.length<=i\/ys.length<=i)⟩
section
variable {X:Cx} {pins:List (Addr×Obj)} {σ:St} {H:Hp} {s:Shared}
theorem nextI_b {A : Around} {l : Bool} {a it : Addr} {i : Nat} {xs : List V} {x : V} (I : Inv X pins σ H s) (hq : SqB X.K H l a xs) (h2 : IsIt l s.heap it a i) (hx : xs[i]? = some x) :
    (∃ u,RelV x u/\∀ h',(∀ o,s.heap.get? a=some o->h'.get? a=some o)->(∀ o,s.heap.get? it=some o->h'.get? it=some o)->NextI X.prog X.w A { s with heap:=h' } it u (fun h=>IsIt l h it a (i+1)))/\∀ ys,SqB X.K H l a ys->ys[i]?=some x:=by
  cases l with
  | true =>
    have hq:SqL X.K H a xs:=hq
    obtain ⟨its,rv,p,hz⟩:=I.list hq
    obtain ⟨u,hu,ru⟩:=rv.get hx
    exact ⟨⟨u,ru,fun h' e1 e2=>nextI_list (s:={ s with heap:=h' }) (Heap.IsListIter.at (show s.heap.IsListIter it a i from h2) e2) (p.isList.at e1) (by simpa using hu)⟩,fun ys hy=>by rw [I.list_inj (show SqL X.K H a ys from hy) hq];exact hx⟩
  | false =>
    have hq:SqT X.K H a xs:=hq
    obtain ⟨its,rv,p,hz⟩:=I.tuple hq
    obtain ⟨u,hu,ru⟩:=rv.get hx
    have p:s.heap.IsTuple a its.toArray:=p
    exact ⟨⟨u,ru,fun h' e1 e2=>nextI_tup (s:={ s with heap:=h' }) (Heap.IsTupleIter.at (show s.heap.IsTupleIter it a i from h2) e2) (p.at e1) (by simpa using hu)⟩,fun ys hy=>by rw [I.tuple_inj (show SqT X.K H a ys from hy) hq];exact hx⟩
theorem nextE_b {A : Around} {l : Bool} {a it : Addr} {i : Nat} {xs : List V} (hh : A.handled = none) (I : Inv X pins σ H s) (hq : SqB X.K H l a xs) (h2 : IsIt l s.heap it a i) (hx : xs.length <= i) :
    ∀ h',(∀ o,s.heap.get? a=some o->h'.get? a=some o)->(∀ o,s.heap.get? it=some o->h'.get? it=some o)->NextE X.prog X.w A { s with heap:=h' } it:=by
  cases l with
  | true =>
    obtain ⟨its,rv,p,hz⟩:=I.list (show SqL X.K H a xs from hq)
    have hl:=rv.length
    exact fun h' e1 e2=>nextE_list (s:={ s with heap:=h' }) hh (Heap.IsListIter.at (show s.heap.IsListIter it a i from h2) e2) (p.isList.at e1) (by simp;omega)
  | false =>
    obtain ⟨its,rv,p,hz⟩:=I.tuple (show SqT X.K H a xs from hq)
    have hl:=rv.length
    have p:s.heap.IsTuple a its.toArray:=p
    exact fun h' e1 e2=>nextE_tup (s:={ s with heap:=h' }) hh (Heap.IsTupleIter.at (show s.heap.IsTupleIter it a i from h2) e2) (p.at e1) (by simp;omega)
end
theorem turn_zip {P : Program} {w : World} {K : PySem.W.Frag} {elts : List Expr} {k : Nat} {tp : Pos} (l m : Bool) (a b z ti to i j : Addr) (D : ZA z ti to i j) (ha : a ≠ z) (hb : b ≠ z /\ b ≠ to /\ b ≠ i) :
    Turn P w K (.Tuple elts k tp) (Itz K l m a b) [z,ti,to,i,j] z (fun n h=>IsZip h z ti to .none/\IsPair h ti (.ref i) (.ref j)/\(∃ p q,IsPair h to p q)/\IsIt l h i a n/\IsIt m h j b n) where
  mem:=by simp
  obj:=fun n h st c hc=>by
    obtain ⟨h1,h2,⟨p,q,h3⟩,h4,h5⟩:=st
    have hc:c=z\/c=ti\/c=to\/c=i\/c=j:=by simpa using hc
    rcases hc with rfl | rfl | rfl | rfl | rfl
    · exact ⟨_,h1,fun v u=>by have u':Data.fields _=Data.cell v:=u;cases u'⟩
    · exact ⟨_,h2,fun v u=>by have u':Data.seq _ _=Data.cell v:=u;cases u'⟩
    · exact ⟨_,h3,fun v u=>by have u':Data.seq _ _=Data.cell v:=u;cases u'⟩
    · obtain ⟨o,q,d⟩:=h4.obj
      exact ⟨o,q,fun v u=>by rw [d] at u;cases u⟩
    · obtain ⟨o,q,d⟩:=h5.obj
      exact ⟨o,q,fun v u=>by rw [d] at u;cases u⟩
  keep:=fun n h h' st e=>by
    obtain ⟨h1,h2,⟨p,q,h3⟩,h4,h5⟩:=st
    exact ⟨e z (by simp) _ h1,e ti (by simp) _ h2,⟨p,q,e to (by simp) _ h3⟩,h4.at fun o u=>e i (by simp) o u,h5.at fun o u=>e j (by simp) o u⟩
  item:=by
    intro X hP hw hK hc n pins s σ H E I hf st hg
    subst hP hw hK
    obtain ⟨h1,h2,⟨p,q,h3⟩,h4,h5⟩:=st
    obtain ⟨xs,ys,x,y,qx,qy,hx,hy⟩:=hg
    obtain ⟨⟨u,ru,nu⟩,au⟩:=nextI_b (A:=X.A.in1) I qx h4 hx
    obtain ⟨⟨v,rv,nv⟩,av⟩:=nextI_b (A:=X.A.in1) I qy h5 hy
    obtain ⟨oi,gi,_⟩:=h4.obj
    obtain ⟨oj,gj,_⟩:=h5.obj
    refine zip_item D h1 h2 h3 (fun h' e=>nu h' (fun o=>e a o ha) fun o=>e i o D.iz) (fun h' e=>nv h' (fun o=>e b o hb.1 hb.2.1 hb.2.2) fun o=>e j o D.jz D.oj.symm D.ij.symm) (fun h h' st e=>st.at e) (fun h h' st e=>st.at e) fun h' o1 o2 o3 o4 o5 o6=>⟨_,rfl,?_⟩
    refine wpAny_letOwnedTupleGo_zip (s:={ s with heap:=h' }) o1 fun h'' p1 p2=>?_
    have p2:Heap.SameBut z h' h'':=p2
    have fr:H s.heap.objs.size=none:=I.hok.fresh (zqg _)
    have I1:Inv X pins σ (upd H s.heap.objs.size (.tup [x,y])) { s with heap:=s.heap.push { cls:=.type "tuple",data:=.seq #[u,v] } } :=
      I.laid (t':=s.toks) (fun c o e=>zqc _ e) (zqg _) ⟨by show 2<=sizeLine;decide,[u,v],.cons ru (.cons rv .nil),⟨_,zqn _ rfl,rfl,0,rfl⟩⟩
    have ne:∀ c∈[z,ti,to,i,j],c≠s.heap.objs.size:=fun c hc=>by
      have hc:c=z\/c=ti\/c=to\/c=i\/c=j:=by simpa using hc
      rcases hc with rfl | rfl | rfl | rfl | rfl
      · exact Nat.ne_of_lt (Heap.lt_size h1)
      · exact Nat.ne_of_lt (Heap.lt_size h2)
      · exact Nat.ne_of_lt (Heap.lt_size h3)
      · exact Nat.ne_of_lt (Heap.lt_size gi)
      · exact Nat.ne_of_lt (Heap.lt_size gj)
    have fp1:∀ c∈[z,ti,to,i,j],FpOk X pins (upd H s.heap.objs.size (.tup [x,y])) c:=fun c hc=>⟨by rw [upd_ne (ne c hc)];exact (hf c hc).1,(hf c hc).2⟩
    have I2:=I1.turnedL (h':=h'') (t':=s.toks) (ch:=[z,ti,to,i,j]) (fun c o hc e=>by
      have hc':c≠z/\c≠ti/\c≠to/\c≠i/\c≠j:=by simpa using hc
      refine p2.extBut c o hc'.1 ?_
      by_cases hz:c=s.heap.objs.size
      · subst hz
        have e':(s.heap.push { cls:=.type "tuple",data:=.seq #[u,v] }).get? s.heap.objs.size=some _:=zqn _ rfl
        rw [e'] at e
        cases e
        exact o5
      · have e2 : s.heap.get? c = some o := by
          cases hs:s.heap.get? c with
          | some o'=>rw [zqc _ hs] at e;exact e
          | none=>exact absurd e (by rw [push_get_ne hz,hs];intro z;cases z)
        exact o6 c o hc'.1 hc'.2.2.1 hc'.2.2.2.1 hc'.2.2.2.2 e2) fp1
    have up:∀ c o,c≠z->h'.get? c=some o->h''.get? c=some o:=fun c o hc e=>p2.extBut c o hc e
    exact ⟨.ref s.heap.objs.size,_,I2,rfl,⟨s.heap.objs.size,x,y,rfl,fr,rfl,au,av⟩,⟨p1,up _ _ D.tz (o6 _ _ D.tz D.tt D.di D.dj h2),⟨_,_,up _ _ D.oz o2⟩,o3.at fun o e=>up _ _ D.iz e,o4.at fun o e=>up _ _ D.jz e⟩,fun c hc=>(fp1 c hc).1⟩
  done:=by
    intro X hP hw hK hc n pins s σ H E I hf st hg
    subst hP hw hK
    obtain ⟨h1,h2,⟨p,q,h3⟩,h4,h5⟩:=st
    obtain ⟨xs,ys,qx,qy,hx⟩:=hg
    have hh:X.A.in1.handled=none:=I.ok.hd hc
    have fin:∀ h',(∀ c o,c≠z->c≠to->c≠i->c≠j->s.heap.get? c=some o->h'.get? c=some o)->(none:Option Value)=none/\Inv X pins σ H { s with heap:=h' }:=fun h' e=>⟨rfl,I.turnedL (t':=s.toks) (ch:=[z,ti,to,i,j]) (fun c o hc u=>by
      have hc':c≠z/\c≠ti/\c≠to/\c≠i/\c≠j:=by simpa using hc
      exact e c o hc'.1 hc'.2.2.1 hc'.2.2.2.1 hc'.2.2.2.2 u) hf⟩
    refine zip_end (st1:=fun h=>IsIt l h i a (n+1)) D h1 h2 h3 ?_ fun h' e=>fin h' e
    by_cases hl:xs.length<=n
    · exact .inl fun h' e=>nextE_b hh I qx h4 hl h' (fun o=>e a o ha) fun o=>e i o D.iz
    · have hl':n < xs.length:=by omega
      obtain ⟨⟨u,ru,nu⟩,au⟩:=nextI_b (A:=X.A.in1) I qx h4 (zqb hl')
      exact .inr ⟨u,fun h' e=>nu h' (fun o=>e a o ha) fun o=>e i o D.iz,fun h' e=>nextE_b hh I qy h5 (by omega) h' (fun o=>e b o hb.1 hb.2.1 hb.2.2) fun o=>e j o D.jz D.oj.symm D.ij.symm⟩
  self:=fun A n s Q E st h=>wpAny_pyIter_zip st.1 h
end L2
end
section
namespace L2
open PySem PySem.Spec PyProof.Rows
abbrev itO (l:Bool) (a:Addr):Obj:={ cls:=.type (if l=true then "list_iterator" else "tuple_iterator"),data:=.fields #[.ref a,.int 0 0] }
def SqH (l:Bool) (h:Heap) (a:Addr) (xs:Array Value):Prop:=if l=true then h.IsList a xs else h.IsTuple a xs
abbrev zh1 (h:Heap) (l:Bool) (a:Addr):Heap:=h.push (itO l a)
abbrev zh2 (h:Heap) (l m:Bool) (a b:Addr):Heap:=(zh1 h l a).push (itO m b)
abbrev zh3 (h:Heap) (l m:Bool) (a b:Addr):Heap:=(zh2 h l m a b).push { cls:=.type "tuple",data:=.seq #[.ref h.objs.size,.ref (zh1 h l a).objs.size] }
abbrev zh4 (h:Heap) (l m:Bool) (a b:Addr):Heap:=(zh3 h l m a b).push { cls:=.type "tuple",data:=.seq #[.none,.none] }
abbrev zh5 (h:Heap) (l m:Bool) (a b:Addr):Heap:=(zh4 h l m a b).push { cls:=.type "zip",data:=.fields #[.none,.bool false,.bool false,.ref (zh2 h l m a b).objs.size,.ref (zh3 h l m a b).objs.size] }
theorem meets_zip (l m : Bool) (a b : Addr) (xs ys : Array Value) :
    Meets (Builtin.«zip.__new__» ⟨[.type "zip",.ref a,.ref b],[]⟩) (fun _ R s=>SqH l s.heap a xs/\SqH m s.heap b ys/\R (.ok (.ret (.ref (zh4 s.heap l m a b).objs.size))) { s with heap:=zh5 s.heap l m a b }) :=
  .of_wp fun prog w A R s h=>by
    obtain ⟨hp,g,d,tk,os⟩:=s
    obtain ⟨ha,hb,h⟩:=h
    have hsub:=sub_zip
    have keep:∀ (o:Obj) c v,hp.get? c=some v->(hp.push o).get? c=some v:=fun o c v e=>zqc _ e
    cases l with
    | true =>
      have h1:Heap.IsList (Shared.heap ⟨hp,g,d,tk,os⟩) a xs:=ha
      cases m with
      | true =>
        have h2:Heap.IsList (Shared.heap ⟨hp.push { cls:=.type "list_iterator",data:=.fields #[.ref a,.int 0 0] },g,d,tk,os⟩) b ys:=(show hp.IsList b ys from hb).at fun o e=>keep _ _ _ e
        wp_walk using wpAny_pyIter_list h1,wpAny_pyIter_list h2
        exact ⟨_,rfl,h⟩
      | false =>
        have h2:Heap.IsTuple (Shared.heap ⟨hp.push { cls:=.type "list_iterator",data:=.fields #[.ref a,.int 0 0] },g,d,tk,os⟩) b ys:=(show hp.IsTuple b ys from hb).at fun o e=>keep _ _ _ e
        wp_walk using wpAny_pyIter_list h1,wpAny_pyIter_tuple h2
        exact ⟨_,rfl,h⟩
    | false =>
      have h1:Heap.IsTuple (Shared.heap ⟨hp,g,d,tk,os⟩) a xs:=ha
      cases m with
      | true =>
        have h2:Heap.IsList (Shared.heap ⟨hp.push { cls:=.type "tuple_iterator",data:=.fields #[.ref a,.int 0 0] },g,d,tk,os⟩) b ys:=(show hp.IsList b ys from hb).at fun o e=>keep _ _ _ e
        wp_walk using wpAny_pyIter_tuple h1,wpAny_pyIter_list h2
        exact ⟨_,rfl,h⟩
      | false =>
        have h2:Heap.IsTuple (Shared.heap ⟨hp.push { cls:=.type "tuple_iterator",data:=.fields #[.ref a,.int 0 0] },g,d,tk,os⟩) b ys:=(show hp.IsTuple b ys from hb).at fun o e=>keep _ _ _ e
        wp_walk using wpAny_pyIter_tuple h1,wpAny_pyIter_tuple h2
        exact ⟨_,rfl,h⟩
section
variable {prog:Program} {w:World} {A:Around} {E:Value->Shared->Prop} {s:Shared}
theorem isIt_new {l:Bool} {h:Heap} {it a:Addr} (e:h.get? it=some (itO l a)):IsIt l h it a 0:=by
 cases l with
 | true=>exact ⟨_,e,rfl,rfl⟩
 | false=>exact ⟨_,e,rfl,rfl⟩
theorem call_zip {l m : Bool} {a b : Addr} {xs ys : Array Value} {Q : Value -> Shared -> Prop} (ha : SqH l s.heap a xs) (hb : SqH m s.heap b ys)
    (h:∀ h',IsZip h' (s.heap.objs.size+4) (s.heap.objs.size+2) (s.heap.objs.size+3) .none->IsPair h' (s.heap.objs.size+2) (.ref s.heap.objs.size) (.ref (s.heap.objs.size+1))->IsPair h' (s.heap.objs.size+3) .none .none ->
      IsIt l h' s.heap.objs.size a 0->IsIt m h' (s.heap.objs.size+1) b 0->(∀ c o,s.heap.get? c=some o->h'.get? c=some o)->Q (.ref (s.heap.objs.size+4)) { s with heap:=h' }) :
    wpAny (model prog w) A (call (.type "zip") [.ref a,.ref b]) Q E s:=by
  refine callType_new F.called_zip (by decide) (F.typeCall_zip_2 _ _) (F.newCall_zip_2 _ _) (fun obj=>F.args_object_init_3 obj _ _) F.entry_zip_new (meets_zip l m a b xs ys) ⟨ha,hb,?_⟩
  have n1:(zh1 s.heap l a).objs.size=s.heap.objs.size+1:=Heap.size_push ..
  have n2:(zh2 s.heap l m a b).objs.size=s.heap.objs.size+2:=by rw [Heap.size_push,n1]
  have n3:(zh3 s.heap l m a b).objs.size=s.heap.objs.size+3:=by rw [Heap.size_push,n2]
  have n4:(zh4 s.heap l m a b).objs.size=s.heap.objs.size+4:=by rw [Heap.size_push,n3]
  have e5:(zh5 s.heap l m a b).get? (zh4 s.heap l m a b).objs.size=some _:=zqn _ rfl
  have e4:(zh5 s.heap l m a b).get? (zh3 s.heap l m a b).objs.size=some _:=zqc _ (zqn _ rfl)
  have e3:(zh5 s.heap l m a b).get? (zh2 s.heap l m a b).objs.size=some _:=zqc _ (zqc _ (zqn _ rfl))
  have e2:(zh5 s.heap l m a b).get? (zh1 s.heap l a).objs.size=some _:=zqc _ (zqc _ (zqc _ (zqn _ rfl)))
  have e1:(zh5 s.heap l m a b).get? s.heap.objs.size=some _:=zqc _ (zqc _ (zqc _ (zqc _ (zqn _ rfl))))
  show _/\_
  rw [n2,n3,n4] at e5
  rw [n1,n2] at e3
  rw [n3] at e4
  rw [n1] at e2
  rw [n4]
  exact ⟨⟨_,e5,rfl⟩,h _ e5 e3 e4 (isIt_new e1) (isIt_new e2) fun c o u=>zqc _ (zqc _ (zqc _ (zqc _ (zqc _ u))))⟩
end
section
variable {X:Cx}
def iZip (K:PySem.W.Frag) (ta:TA):TI:=fun σ H R=>ta σ H fun vs H1=>∃ (l m:Bool) (a b:Addr),vs=[.ref a,.ref b]/\(∃ xs,SqB K H1 l a xs)/\(∃ ys,SqB K H1 m b ys)/\R (Itz K l m a b) H1
theorem sqH_of {pins:List (Addr×Obj)} {σ:St} {H:Hp} {s:Shared} {l:Bool} {a:Addr} {xs:List V} (I:Inv X pins σ H s) (h:SqB X.K H l a xs):∃ its:Array Value,SqH l s.heap a its/\a < s.heap.objs.size:=by
 cases l with
 | true =>
  obtain ⟨its,_,p,_⟩:=I.list (show SqL X.K H a xs from h)
  exact ⟨its.toArray,p.isList,by obtain ⟨o,e,_⟩:=p.isList;exact Heap.lt_size e⟩
 | false =>
  obtain ⟨its,_,p,_⟩:=I.tuple (show SqT X.K H a xs from h)
  exact ⟨its.toArray,p,by obtain ⟨o,e,_⟩:=(show s.heap.IsTuple a its.toArray from p);exact Heap.lt_size e⟩
theorem za_of {n:Nat}:ZA (n+4) (n+2) (n+3) n (n+1) :=
 ⟨(by omega:(n+2:Nat)≠n+4),(by omega:(n+3:Nat)≠n+4),(by omega:(n:Nat)≠n+4),(by omega:(n+1:Nat)≠n+4),(by omega:(n+2:Nat)≠n+3),(by omega:(n+2:Nat)≠n),(by omega:(n+2:Nat)≠n+1),(by omega:(n+3:Nat)≠n),(by omega:(n+3:Nat)≠n+1),(by omega:(n:Nat)≠n+1)⟩
theorem fresh5 {n c:Nat} (h:c∈[n+4,n+2,n+3,n,n+1]):n<=c:=by
 simp only [List.mem_cons,List.mem_nil_iff,or_false] at h
 omega
theorem ne_lt {a n k:Nat} (h:a < n):a≠n+k:=by omega
theorem pi_zip {a b : Expr} {ta : TA} {p pos tp : Pos} {elts : List Expr} {k : Nat} (hg : Gl X "zip") (hm : X.mg "zip" = none) (ha : PA X [a, b] ta) (hs : starEach [a, b] X.env = (false, eval a X.env) :: starEach [b] X.env) (hs2 : starEach [b] X.env = [(false, eval b X.env)]) :
    PI X (.Tuple elts k tp) (.Call (.Name "zip" p) [a,b] [] pos) (iZip X.K ta):=by
  intro pins s σ H R I h
  refine Call_ (ld_blt I hg hm boot_zip (PyProof.Rows.callWith_type1 (thn (ha pos pins s σ H _ I h) ?_) hs (by rw [hs2];rfl)))
  rintro us s1 ⟨vs,H1,I1,r1,q1⟩
  obtain ⟨l,m,c,d,rfl,⟨xs,hx⟩,⟨ys,hy⟩,q⟩:=q1
  obtain ⟨u1,u2,rfl,ru,rw2⟩:=vals2 r1
  cases ru
  cases rw2
  obtain ⟨ix,sx,lx⟩:=sqH_of I1 hx
  obtain ⟨iy,sy,ly⟩:=sqH_of I1 hy
  refine call_zip sx sy fun h' e1 e2 e3 e4 e5 e6=>?_
  refine wpAny_pyIter_zip (s:={ s1 with heap:=h' }) e1 ?_
  have I2:Inv X pins σ H1 { s1 with heap:=h' }:=I1.kept (t':=s1.toks) e6
  exact ⟨s1.heap.objs.size+4,[s1.heap.objs.size+4,s1.heap.objs.size+2,s1.heap.objs.size+3,s1.heap.objs.size,s1.heap.objs.size+1],_,_,H1,rfl,I2,turn_zip l m c d _ _ _ _ _ za_of (ne_lt lx) ⟨ne_lt ly,ne_lt ly,ne_lt (k:=0) ly⟩,⟨e1,e2,⟨_,_,e3⟩,e4,e5⟩,fun c hc=>I1.fpOk (fresh5 hc) (I1.hok.fresh (fresh5 hc)),q⟩
end
end L2
end
section
namespace L2
open PySem PySem.Spec PyProof.Rows
open AutoSeq1 (wpAny_loadPart')
abbrev RngAt (a:Int):Nat->Value->Prop:=fun i v=>∃ t,v=.int (a+i * 1) t
section
variable {prog:Program} {w:World} {A:Around} {E:Value->Shared->Prop} {s:Shared}
theorem collect_rng {Q : List Value -> Shared -> Prop} {r : Addr} {a b : Int} {t u v : Tok} {n : Nat} (hh : A.handled = none) (hr : IsRange s.heap r a b 1 t u v) (hsm : Builtin.Range.small a b 1 = true) (hn : Builtin.Range.rangeSize a b 1 = n) (hl : n <= 2 ^ 24)
    (hQ:∀ h' tk acc,(∀ c o,s.heap.get? c=some o->h'.get? c=some o)->ItemsOf (RngAt a) acc n->Q acc.toList { s with heap:=h',toks:=tk }):wpAny (model prog w) A (collect (.ref r)) Q E s:=by
  unfold collect
  refine wpAny_bind (wpAny_runValue (codeAny_builtin F.entry_proto_collect ?_))
  rw [Around.under_plainId F.plain_proto_collect _]
  show wpAny _ A.in1 (newList [] >>= fun l=>again (.builtin "list.__iadd__" ⟨[l,.ref r],[]⟩)) _ _ s
  refine wpAny_bind (wpAny_newObj_type ?_)
  refine wpAny_pure ⟨plainId_quiet F.plain_list_iadd _,codeAny_builtin F.entry_list_iadd ?_⟩
  rw [Around.under_plainId F.plain_list_iadd _]
  show wpAny _ A.in1 (Builtin.List.listExtendWith (.ref s.heap.objs.size) (.ref r) (.ref s.heap.objs.size)) _ _ _
  have g0:(s.heap.push { cls:=.type "list",data:=.seq ([]:List Value).toArray }).get? s.heap.objs.size=some { cls:=.type "list",data:=.seq #[] 0 }:=zqn _ rfl
  have fin : ∀ (r' : Result) (s' : Shared), (∃ h' tk acc c', r' = .ok (.ret (.ref s.heap.objs.size)) /\ s' = { s with heap := h', toks := tk } /\ (∀ c o, c ≠ s.heap.objs.size -> (s.heap.push { cls := .type "list", data := .seq ([] : List Value).toArray }).get? c = some o -> h'.get? c = some o) /\
      h'.get? s.heap.objs.size=some { cls:=.type "list",dict:=none,data:=.seq acc c',slots:=#[] }/\ItemsOf (RngAt a) acc n)->(match r' with
        | .ok (.ret v)=>wpAny (model prog w) A (match v with
          | .ref x=>do
            match (<- load x).data with
              | .seq xs _=>pure xs.toList
              | _=>unsupported "internal:collect"
          | _=>unsupported "internal:collect") Q E s'
        | .ok _=>False
        | .error e=>E e s'):=by
    rintro r' s' ⟨h',tk,acc,c',rfl,rfl,kp,g1,it⟩
    show wpAny _ A (load s.heap.objs.size >>= _) _ _ _
    refine wpAny_bind (wpAny_load g1 (wpAny_pure ?_))
    exact hQ h' tk acc (fun c o e=>kp c o (Nat.ne_of_lt (Heap.lt_size e)) (zqc _ e)) it
  refine wpAny_mono (wpAny_extend_range (R := fun r' s' => ∃ h' tk acc c', r' = .ok (.ret (.ref s.heap.objs.size)) /\ s' = { s with heap := h', toks := tk } /\ (∀ c o, c ≠ s.heap.objs.size -> (s.heap.push { cls := .type "list", data := .seq ([] : List Value).toArray }).get? c = some o -> h'.get? c = some o) /\
      h'.get? s.heap.objs.size=some { cls:=.type "list",dict:=none,data:=.seq acc c',slots:=#[] }/\ItemsOf (RngAt a) acc n)
    (s:={ s with heap:=s.heap.push { cls:=.type "list",data:=.seq ([]:List Value).toArray } }) hh (zqc _ hr) hsm hn hl _ _ _ g0 fun h' tk acc c' kp g1 it=>⟨h',tk,acc,c',rfl,rfl,kp,g1,it⟩) (fun f s' h=>?_) fun e s' h=>?_
  · cases f with
    | done f=>exact fin _ _ h
    | again c'=>exact ⟨h.1,codeAny_mono h.2 fun r s'' hr=>fin _ _ hr⟩
  · obtain ⟨_,_,_,_,z,_⟩:=h
    cases z
end
theorem meets_tuple_rng (r : Addr) (a b : Int) (t u v : Tok) (n : Nat) (hsm : Builtin.Range.small a b 1 = true) (hn : Builtin.Range.rangeSize a b 1 = n) (hl : n <= 2 ^ 24) :
    Meets (Builtin.«tuple.__new__» ⟨[.type "tuple",.ref r],[]⟩) (fun A R s=>A.handled=none/\IsRange s.heap r a b 1 t u v/\∀ (h':Heap) (tk:Nat) (acc:Array Value),(∀ c o,s.heap.get? c=some o->h'.get? c=some o)->ItemsOf (RngAt a) acc n ->
      R (.ok (.ret (.ref h'.objs.size))) { s with heap:=h'.push { cls:=.type "tuple",data:=.seq acc },toks:=tk }) :=
  .of_wp fun prog w A R s h=>by
    obtain ⟨hp,g,d,tk,os⟩:=s
    obtain ⟨hh,hr,h⟩:=h
    have hsub:=sub_tuple_self
    have hinit:=init_tuple_lookup
    have hmh:=madeHere_tuple
    have hT:Shared.TypeIs ⟨hp,g,d,tk,os⟩ (.ref r) "range" := ⟨_,hr,rfl⟩
    have hh1:A.in1.handled=none:=hh
    have ho:Heap.get? (Shared.heap ⟨hp,g,d,tk,os⟩) r=some _:=hr
    wp_walk using wpAny_loadPart' ho,wpAny_typeOf hT,collect_rng hh1 hr hsm hn hl
    intro h' tk' acc hk it
    show wpAny _ _ (Builtin.Tuple.tupleExact acc.toList.toArray >>= fun v=>ret v) _ _ _
    unfold Builtin.Tuple.tupleExact
    refine wpAny_bind (wpAny_newObj_type ?_ (show acc.toList.toArray.size<=sizeLine by simp only [Array.toArray_toList];rw [it.1,sizeLine_eq];omega))
    refine wpAny_pure ⟨_,rfl,?_⟩
    have e:acc.toList.toArray=acc:=by simp
    rw [e]
    exact h h' tk' acc hk it
section
variable {prog:Program} {w:World} {A:Around} {E:Value->Shared->Prop} {s:Shared}
theorem call_tuple_rng {Q : Value -> Shared -> Prop} {r : Addr} {a b : Int} {t u v : Tok} {n : Nat} (hh : A.handled = none) (hr : IsRange s.heap r a b 1 t u v) (hsm : Builtin.Range.small a b 1 = true) (hn : Builtin.Range.rangeSize a b 1 = n) (hl : n <= 2 ^ 24)
    (h:∀ (h':Heap) (tk:Nat) (acc:Array Value),(∀ c o,s.heap.get? c=some o->h'.get? c=some o)->ItemsOf (RngAt a) acc n->Q (.ref h'.objs.size) { s with heap:=h'.push { cls:=.type "tuple",data:=.seq acc },toks:=tk }) :
    wpAny (model prog w) A (call (.type "tuple") [.ref r]) Q E s :=
  callType_new F.called_tuple (by decide) (F.typeCall_tuple_1 _) (F.newCall_tuple_1 _) (fun obj=>F.args_object_init_2 obj _) F.entry_tuple_new (meets_tuple_rng r a b t u v n hsm hn hl) ⟨hh,hr,fun h' tk acc hk it=>⟨⟨_,zqn _ rfl,rfl⟩,h h' tk acc hk it⟩⟩
end
def rngV (i:Int) (n:Nat):List V:=(List.range n).map fun k=>V.int (i+((k:Nat):Int))
theorem vals_rng {a:Int} {acc:Array Value} {n:Nat} (h:ItemsOf (RngAt a) acc n):Vals (rngV a n) acc.toList:=by
 have key:∀ (l:List Value) (k:Nat),(∀ (j:Nat) v,l[j]?=some v->∃ t,v=Value.int (a+(((k+j:Nat)):Int)) t)->Vals ((List.range' k l.length).map fun k=>V.int (a+((k:Nat):Int))) l:=by
  intro l
  induction l with
  | nil=>intro k _;exact .nil
  | cons x l ih =>
   intro k hv
   refine .cons (hv 0 x rfl) (ih (k+1) fun j v e=>?_)
   obtain ⟨t,e2⟩:=hv (j+1) v (by simpa using e)
   exact ⟨t,by rw [e2,show k+(j+1)=k+1+j by omega]⟩
 have:=key acc.toList 0 fun j v e=>by
  obtain ⟨t,e2⟩:=h.2 j v (by simpa using e)
  exact ⟨t,by rw [e2];simp⟩
 unfold rngV
 rw [List.range_eq_range']
 rw [show acc.toList.length=n by simpa using h.1] at this
 exact this
section
variable {X:Cx}
def argR (vs:List V) (i j:Int):Prop:=vs=[.int i,.int j]\/(i=0/\vs=[.int j])
def tRngs (tp:Bool) (ta:TA):TE:=fun σ H Q=>ta σ H fun vs H1=>∃ i j:Int,argR vs i j/\(-(2 ^ 62)<=i/\i < 2 ^ 62/\-(2 ^ 62)<=j/\j < 2 ^ 62)/\(j - i).toNat<=2 ^ 24/\∀ p,H1 p=none->Q (.ref p) (upd H1 p (if tp=true then .tup (rngV i (j - i).toNat) else .lst (rngV i (j - i).toNat)))
theorem size_rng {i j:Int}:Builtin.Range.rangeSize i j 1=(((j - i).toNat:Nat):Int):=by rw [rangeSize_one];split <;> omega
theorem rng_arg {args : List Expr} {a : Expr} {rest : List Expr} {ta : TA} {p pos : Pos} (hg : Gl X "range") (hm : X.mg "range" = none) (ea : args = a :: rest) (ha : PA X args ta) (hs : starEach (a :: rest) X.env = (false, eval a X.env) :: starEach rest X.env) (hs2 : (backTo pos (starEach rest X.env)).any (·.1) = false)
    {pins:List (Addr×Obj)} {s:Shared} {σ:St} {H:Hp} {Q:Value->Shared->Prop} {R:Int->Int->Hp->Prop} (I:Inv X pins σ H s) (h:ta σ H fun vs H1=>∃ i j:Int,argR vs i j/\R i j H1)
    (k:∀ (r:Addr) (s1:Shared) (H1:Hp) (i j:Int) (t u v:Tok),Inv X pins σ H1 s1->IsRange s1.heap r i j 1 t u v->R i j H1->Q (.ref r) s1):wpAny (model X.prog X.w) X.A (eval (.Call (.Name "range" p) args [] pos) X.env) Q X.xe s:=by
  subst ea
  refine Call_ (ld_blt I hg hm boot_range (PyProof.Rows.callWith_type1 (thn (ha pos pins s σ H _ I h) ?_) hs hs2))
  rintro us s1 ⟨vs,H1,I1,r1,q1⟩
  obtain ⟨i,j,e,q⟩:=q1
  rcases e with rfl | ⟨rfl,rfl⟩
  · obtain ⟨u1,u2,rfl,⟨t,rfl⟩,⟨t',rfl⟩⟩:=vals2 r1
    refine call_range_2 ?_
    exact k _ _ H1 i j _ _ _ (I1.kept fun b o e=>zqc _ e) (IsRange.new ..) q
  · obtain ⟨u1,rfl,⟨t,rfl⟩⟩:=vals1 r1
    refine call_range_1 ?_
    exact k _ _ H1 0 j _ _ _ (I1.kept fun b o e=>zqc _ e) (IsRange.new ..) q
theorem pe_rngs {args : List Expr} {a : Expr} {rest : List Expr} {ta : TA} {p pos p2 pos2 : Pos} (tp : Bool) (hc : X.calm = true) (hg : Gl X "range") (hm : X.mg "range" = none) (hg2 : Gl X (if tp = true then "tuple" else "list")) (hm2 : X.mg (if tp = true then "tuple" else "list") = none) (ea : args = a :: rest) (ha : PA X args ta)
    (hs:starEach (a::rest) X.env=(false,eval a X.env)::starEach rest X.env) (hs2:(backTo pos (starEach rest X.env)).any (·.1)=false):PE X (.Call (.Name (if tp=true then "tuple" else "list") p2) [.Call (.Name "range" p) args [] pos] [] pos2) (tRngs tp ta):=by
  intro pins s σ H Q I h
  have sp : ∀ {T : Str} {t : String} {Q2 : Value -> Shared -> Prop}, Gl X T -> X.mg T = none -> bootBuiltins T = some (.type t) -> T ≠ "__name__" -> (T == ("__debug__" : Str)) = false -> (∀ (r : Addr) (s1 : Shared) (H1 : Hp) (i j : Int) (u1 u2 u3 : Tok), Inv X pins σ H1 s1 -> IsRange s1.heap r i j 1 u1 u2 u3 ->
      ((-(2 ^ 62)<=i/\i < 2 ^ 62/\-(2 ^ 62)<=j/\j < 2 ^ 62)/\(j - i).toNat<=2 ^ 24/\∀ p,H1 p=none->Q (.ref p) (upd H1 p (if tp=true then .tup (rngV i (j - i).toNat) else .lst (rngV i (j - i).toNat)))) ->
      wpAny (model X.prog X.w) X.A (call (.type t) [.ref r]) Q2 X.xe s1)->wpAny (model X.prog X.w) X.A (eval (.Call (.Name T p2) [.Call (.Name "range" p) args [] pos] [] pos2) X.env) Q2 X.xe s:=fun {T t Q2} hgT hmT hb hn hd k=>by
    refine Call_ (ld_blt I hgT hmT hb (PyProof.Rows.callWith_type1 ?_ rfl rfl) hn hd)
    show wpAny _ _ (spliced ((false,eval (.Call (.Name "range" p) args [] pos) X.env)::backTo pos2 [])) _ _ s
    refine Calls.spliced_cons (rng_arg hg hm ea ha hs hs2 I h fun r s1 H1 i j u1 u2 u3 I1 hr q=>?_)
    exact Calls.spliced_nil (k r s1 H1 i j u1 u2 u3 I1 hr q)
  cases tp with
  | true =>
    refine sp (T := "tuple") (t := "tuple") hg2 hm2 (⋯) (⋯) (⋯) ?_
    rintro r s1 H1 i j u1 u2 u3 I1 hr ⟨⟨b1,b2,b3,b4⟩,hl,q⟩
    refine call_tuple_rng (I1.ok.hd hc) hr (small_one b1 b2 b3 b4) size_rng hl fun h' tk acc hk it=>?_
    have I2:Inv X pins σ H1 { s1 with heap:=h',toks:=tk }:=I1.kept hk
    have hz:(rngV i (j - i).toNat).length<=sizeLine:=by
      unfold rngV;rw [zqe,List.length_range,sizeLine_eq];omega
    have I3:Inv X pins σ (upd H1 h'.objs.size (.tup (rngV i (j - i).toNat))) { s1 with heap:=h'.push { cls:=.type "tuple",data:=.seq acc },toks:=tk } :=
      I2.laid (t':=tk) (fun b o e=>zqc _ e) (zqg _) (show ObjOk X.prog X.w _ _ _ (.tup _) from ⟨hz,acc.toList,vals_rng it,by simpa using IsTup.new h' acc⟩)
    exact ⟨.ref h'.objs.size,_,I3,rfl,q _ (I2.hok.fresh (zqg _))⟩
  | false =>
    refine sp (T := "list") (t := "list") hg2 hm2 (⋯) (⋯) (⋯) ?_
    rintro r s1 H1 i j u1 u2 u3 I1 hr ⟨⟨b1,b2,b3,b4⟩,hl,q⟩
    refine call_list_range (I1.ok.hd hc) hr (small_one b1 b2 b3 b4) size_rng hl fun h' tk acc c' hk g1 it=>?_
    have hz:(rngV i (j - i).toNat).length<=sizeLine:=by
      unfold rngV;rw [zqe,List.length_range,sizeLine_eq];omega
    have I3:Inv X pins σ (upd H1 s1.heap.objs.size (.lst (rngV i (j - i).toNat))) { s1 with heap:=h',toks:=tk } :=
      I1.laid (t':=tk) hk (zqg _) (show ObjOk X.prog X.w _ _ _ (.lst _) from ⟨hz,acc.toList,c',vals_rng it,by simpa using g1⟩)
    exact ⟨.ref s1.heap.objs.size,_,I3,rfl,q _ (I1.hok.fresh (zqg _))⟩
end
end L2
end
section
namespace L2
open PySem PySem.Spec PyProof.Rows
theorem kd_entry_loop:entryFor table "dict.update.loop" = some Builtin.«dict.update.loop»:=entryFor_of_tree (nofun)
theorem kd_plain_loop:plainId "dict.update.loop" = true:=⋯
theorem kd_list_keys:typeLookup (.type "list") "keys" = pure none:=by rw [typeLookup_type,builtinLookup_eq_fast];kernel_rfl
section
variable {prog:Program} {w:World} {A:Around} {E:Value->Shared->Prop} {s:Shared}
theorem getAttrQ_miss_list {a : Addr} {o : Obj} {xs : Array Value} {k : Nat} {Q : Option Value -> Shared -> Prop}
    (hx:s.heap.get? a=some o) (hc:o.cls=.type "list") (hdat:o.data=.seq xs k) (hd:o.dict=none) (hA:A.handled=none)
    (h:∀ h' tk,(∀ b o,s.heap.get? b=some o->h'.get? b=some o)->Q none { s with heap:=h',toks:=tk }) :
    wpAny (model prog w) A (getAttr? (.ref a) "keys") Q E s:=by
  obtain ⟨c,dct,dat,sl⟩:=o
  simp only at hc hdat hd
  subst hc hdat hd
  obtain ⟨hp,g,d,tk,os⟩:=s
  have hT:∀ tk',(⟨hp,g,d,tk',os⟩:Shared).TypeIs (.ref a) "list" := fun _=>⟨_,hx,rfl⟩
  have f1:=sub_AttributeError
  have f3:=F.slot_list_getattribute.lookup
  have f4:=F.slot_list_getattribute.bind (.ref a)
  have f5:=am_list_getattr_none
  unfold getAttr? getAttrBy? getAttrBy
  repeat (any_goals (first | assumption | exact hT _ | ((with_reducible show wpAny _ _ (call (Value.builtin "list.__getattribute__") _ _) _ _ _);refine call_meets F.slot_list_getattribute (hT _) am_entry_list_getattribute (F.args_list_getattribute_2 _ _) (meets_getattribute_miss_list a xs k sl "keys" _ kd_list_keys (⋯) (⋯)) ⟨hx,hA,fun h' tk' e hx'=>?_⟩) | wp_step))
  obtain ⟨t',u',he⟩:=hx'.there
  show wpAny _ _ (getattributeRaised _ _ _ _ _ _ _) _ _ _
  unfold getattributeRaised
  repeat (any_goals (first | assumption | wp_step))
  exact h _ _ hx'.of.keeps
def putKs (kv:Nat->Key×Value):Nat->List (Key×Value)
 | 0=>[]
 | n+1=>stored (putKs kv n) (kv n).1 (kv n).2
theorem putKs_len (kv:Nat->Key×Value):∀ n,(putKs kv n).length<=n
 | 0=>zqg _
 | n+1=>Nat.le_trans (stored_length_le _ _ _) (Nat.succ_le_succ (putKs_len kv n))
theorem kd_loop {R : Result -> Shared -> Prop} {I : Addr} {fp wr : List Addr} {n : Nat} {P : Nat -> Value -> Prop} {St : Nat -> Heap -> Prop} (W : Walks prog w A.in1 I fp wr n P St) (d : Addr) (hdf : d ∉ fp) (hn : n <= sizeLine)
    (kv:Nat->Key×Value) (h0:Heap) (hval:∀ i v,P i v->∃ a uk,v=.ref a/\a∉wr/\a≠d/\keyIs (kv i).1 uk=true/\IsTup h0 a #[uk,(kv i).2]) :
    ∀ (k i:Nat) (s:Shared) (j:Int) (t:Tok),n - i=k->i<=n->St i s.heap->(∀ b o,b∉wr->b≠d->h0.get? b=some o->s.heap.get? b=some o)->s.heap.DictOf (mixKind prog w) d (putKs kv i) ->
      (∀ h' tk,(∀ b o,b∉wr->b≠d->s.heap.get? b=some o->h'.get? b=some o)->h'.DictOf (mixKind prog w) d (putKs kv n)->R (.ok (.ret .none)) { s with heap:=h',toks:=tk }) ->
      codeAny (model prog w) A (.builtin "dict.update.loop" ⟨[.ref d,.ref I,.int j t,.none],[]⟩) R s:=by
  have hdw:d∉wr:=fun h=>hdf (W.sub _ h)
  intro k
  induction k with
  | zero =>
    intro i s j t hk hi hst hkeep hd hR
    have hin:i=n:=by omega
    subst hin
    refine codeAny_builtin kd_entry_loop ?_
    rw [Around.under_plainId kd_plain_loop _]
    show wpAny _ A.in1 (pyNext (.ref I) >>= _) _ _ s
    refine wpAny_bind (W.done s _ _ hst fun h' tk hm=>?_)
    show wpAny _ A.in1 (Builtin.Dict.addKeywords d [] >>= _) _ _ _
    refine wpAny_bind (wpAny_pure (wpAny_pure (hR h' tk (fun b o hb _ e=>hm b o hb e) ?_)))
    obtain ⟨o,es,ep,ho,rest⟩:=hd
    exact ⟨o,es,ep,hm d _ hdw ho,rest⟩
  | succ k ih =>
    intro i s j t hk hi hst hkeep hd hR
    have hlt:i < n:=by omega
    refine codeAny_builtin kd_entry_loop ?_
    rw [Around.under_plainId kd_plain_loop _]
    show wpAny _ A.in1 (pyNext (.ref I) >>= _) _ _ s
    refine wpAny_bind (W.item i s _ _ hlt hst fun v h' tk hP hst' hm=>?_)
    obtain ⟨a,uk,rfl,haw,had,hkey,o,ho,hc,q,hdat⟩:=hval i v hP
    have ho':h'.get? a=some o:=hm _ _ haw (hkeep _ _ haw had ho)
    have hd':h'.DictOf (mixKind prog w) d (putKs kv i):=by
      obtain ⟨o,es,ep,ho,rest⟩:=hd
      exact ⟨o,es,ep,hm d _ hdw ho,rest⟩
    have hT:∀ tk',Shared.TypeIs { s with heap:=h',toks:=tk' } (.ref a) "tuple" := fun _=>⟨o,ho',hc⟩
    refine wpAny_bind (wpAny_holding (wpAny_bind (wpAny_tryCatch ?_)))
    unfold Builtin.Dict.pairItems
    refine wpAny_bind (wpAny_typeOf (hT _) ?_)
    have hz:(Value.type "tuple" == Value.type "list" || Value.type "tuple" == Value.type "tuple")=true:=⋯
    rw [if_pos hz]
    refine wpAny_bind (wpAny_seqItems (s:={ s with heap:=h',toks:=tk }) ho' hdat (wpAny_pure ?_))
    show wpAny _ A.in1 (holding [uk,(kv i).2] (dictSet d uk (kv i).2)) _ _ _
    refine wpAny_holding (wpAny_dictSet_pairs (knd:=mixKind prog w) (k:=(kv i).1) hkey hd' (fun h2 hd2 hs2=>?_) (Nat.le_trans (putKs_len kv i) (by omega)))
    refine wpAny_pure ⟨plainId_quiet kd_plain_loop _,ih (i+1) _ _ _ (by omega) hlt (W.frame _ _ _ hst' fun b hb o e=>?_) (fun b o hb hbd e=>?_) hd2 fun h3 tk3 hk3 hd3=>?_⟩
    · show h2.get? b=some o
      rw [hs2.2 b (fun z=>hdf (by rw [<- z];exact hb))];exact e
    · show h2.get? b=some o
      rw [hs2.2 b hbd];exact hm _ _ hb (hkeep _ _ hb hbd e)
    · refine hR h3 tk3 (fun b o hb hbd e=>hk3 b o hb hbd ?_) hd3
      show h2.get? b=some o
      rw [hs2.2 b hbd];exact hm _ _ hb e
theorem kd_call {l : Addr} {its : List Value} {Q : Value -> Shared -> Prop} (hA : A.handled = none) (hl : PlainL s.heap l its.toArray) (hn : its.length <= sizeLine) (kv : Nat -> Key × Value)
    (hval:∀ i v,its[i]?=some v->∃ a uk,v=.ref a/\keyIs (kv i).1 uk=true/\IsTup s.heap a #[uk,(kv i).2])
    (h:∀ h' tk,(∀ b o,s.heap.get? b=some o->h'.get? b=some o)->h'.DictOf (mixKind prog w) s.heap.objs.size (putKs kv its.length)->Q (.ref s.heap.objs.size) { s with heap:=h',toks:=tk }) :
    wpAny (model prog w) A (call (.type "dict") [.ref l]) Q E s:=by
  refine callType_codes (Q₁:=fun obj s₁=>obj=.ref s.heap.objs.size/\s₁={ s with heap:=s.heap.push { cls:=.type "dict",data:=.dict #[] } }) F.kt_called_dict (F.kt_typeCall_dict_1 _) F.entry_dict_init (kt_code_dict_new _ ⟨rfl,rfl⟩) ?_
  rintro obj s₁ ⟨rfl,rfl⟩
  have hnew:(s.heap.push { cls:=.type "dict",data:=.dict #[] }).DictOf (mixKind prog w) s.heap.objs.size []:=Heap.DictOf.new s.heap
  obtain ⟨o,m,ho,hc,hdi,hdat⟩:=hl
  have ho1:(s.heap.push { cls:=.type "dict",data:=.dict #[] }).get? l=some o:=zqc _ ho
  have hT:Shared.TypeIs { s with heap:=s.heap.push { cls:=.type "dict",data:=.dict #[] } } (.ref l) "list" := ⟨o,ho1,hc⟩
  have hlt:=Heap.lt_size ho
  refine ⟨hnew.typeIs,F.args_dict_init_2 _ _,?_⟩
  unfold Builtin.«dict.__init__»
  refine wpAny_bind ?_
  unfold Builtin.Dict.selfAndRest
  refine wpAny_bind (wpAny_notOrdered_dict hnew.typeIs ?_)
  show wpAny _ _ (pure (s.heap.objs.size,[Value.ref l])) _ _ _
  refine wpAny_pure ?_
  show wpAny _ _ (Builtin.Dict.updateFrom "dict.__init__" s.heap.objs.size (.ref l) [] .none) _ _ _
  unfold Builtin.Dict.updateFrom
  refine wpAny_bind (wpAny_typeOf hT ?_)
  rw [if_pos (⋯)]
  refine wpAny_bind (getAttrQ_miss_list (s:={ s with heap:=s.heap.push { cls:=.type "dict",data:=.dict #[] } }) ho1 hc hdat hdi (by simp [hA]) fun h1 tk1 k1=>?_)
  rw [if_pos (show (none:Option Value).isNone=true from rfl)]
  have ho2:h1.get? l=some o:=k1 _ _ ho1
  have hle:s.heap.objs.size < h1.objs.size:=by
    obtain ⟨o',es,ep,he,_⟩:=hnew
    exact Heap.lt_size (k1 _ _ he)
  refine wpAny_bind (wpAny_rule (wpAny_bind (wpAny_pyIter_list (s:={ s with heap:=h1,toks:=tk1 }) ⟨o,ho2,hc,m,hdat⟩ ?_)))
  have hlt1:=Heap.lt_size ho2
  have hin:l≠h1.objs.size:=Nat.ne_of_lt hlt1
  have WW:=Walks.list (prog:=prog) (w:=w) (A:=A.in1.in1) (by simp [hA]) h1.objs.size l hin its.toArray
  simp only [zqq,List.getElem?_toArray] at WW
  refine wpAny_pure ⟨plainId_quiet kd_plain_loop _,?_⟩
  have kp:∀ b u,s.heap.get? b=some u->(h1.push { cls:=.type "list_iterator",data:=.fields #[.ref l,.int 0 0] }).get? b=some u:=fun b u e=>zqc _ (k1 _ _ (zqc _ e))
  refine kd_loop WW s.heap.objs.size ?_ hn kv s.heap ?_ (its.length - 0) 0 _ _ _ rfl (Nat.zero_le _) ⟨⟨_,zqn _ rfl,rfl,rfl⟩,⟨o,zqc _ ho2,hc,m,hdat⟩⟩ (fun b o' _ _ e=>kp b o' e) ?_ ?_
  · simp only [List.mem_cons,List.not_mem_nil,or_false,not_or]
    exact ⟨Nat.ne_of_lt hle,fun z=>absurd hlt (by rw [z];exact Nat.lt_irrefl _)⟩
  · intro i v hv
    obtain ⟨a,uk,e,hk,ht⟩:=hval i v hv
    have hal:=ht.lt
    refine ⟨a,uk,e,?_,Nat.ne_of_lt hal,hk,ht⟩
    simp only [List.mem_cons,List.not_mem_nil,or_false]
    exact Nat.ne_of_lt (Nat.lt_trans hal hle)
  · obtain ⟨o',es,ep,he,rest⟩:=hnew
    exact ⟨o',es,ep,zqc _ (k1 _ _ he),rest⟩
  · intro h' tk hk hd
    refine ⟨rfl,h h' tk (fun b u e=>?_) hd⟩
    have hb:=Heap.lt_size e
    exact hk b u (by simp only [List.mem_cons,List.not_mem_nil,or_false];exact Nat.ne_of_lt (Nat.lt_trans hb hle)) (Nat.ne_of_lt hb) (kp b u e)
end
end L2
end
section
namespace L2
open PySem PySem.Spec PyProof.Rows
end L2
end
section
namespace L2
open PySem PySem.Spec PyProof.Rows
theorem size_down (a b:Int):Builtin.Range.rangeSize a b (-1)=if b < a then a - b else 0:=by
 unfold Builtin.Range.rangeSize
 rw [if_neg (by decide),show -(-1:Int)=1 from rfl,Int.ediv_one]
 by_cases h:b < a
 ·rw [if_pos h,if_pos h];omega
 ·rw [if_neg h,if_neg h]
theorem small_down {a b:Int} (h1:-(2 ^ 62)<=a) (h2:a < 2 ^ 62) (h3:-(2 ^ 62)<=b) (h4:b < 2 ^ 62):Builtin.Range.small a b (-1)=true:=by
 unfold Builtin.Range.small
 rw [size_down]
 simp only [Builtin.Range.rangeFitsLong,zqf,Bool.or_eq_true,decide_eq_true_eq,beq_iff_eq,show ¬ (-1:Int) > 0 by decide,if_false]
 split <;> omega
end L2
end
section
namespace L2
open PySem PySem.Spec PyProof.Rows
section
variable {X:Cx}
theorem op_isB:OpR X (compareOp .Is) (fun x y H Q=>∃ b c,x=.bl b/\y=.bl c/\Q (.bl (b == c)) H):=by
 intro pins s σ H x y v u Q I rx ry h
 obtain ⟨b,c,rfl,rfl,q⟩:=h
 cases rx
 cases ry
 refine wpAny_is_plain rfl (fin_bl I q ?_)
 cases b <;> cases c <;> rfl
theorem op_notB:OpR X (compareOp .IsNot) (fun x y H Q=>∃ b c,x=.bl b/\y=.bl c/\Q (.bl (!(b == c))) H):=by
 intro pins s σ H x y v u Q I rx ry h
 obtain ⟨b,c,rfl,rfl,q⟩:=h
 cases rx
 cases ry
 refine wpAny_isNot_plain rfl (fin_bl I q ?_)
 cases b <;> cases c <;> rfl
theorem ints_kf:∀ {is:List Int} {its:List Value},Vals (is.map V.int) its->PySem.W.kf_ints its=true
 | [],_,.nil=>rfl
 | i::is,_,.cons r t=>by
  obtain ⟨_,rfl⟩:=r
  exact (ints_kf (is:=is) t:PySem.W.kf_ints _=true)
theorem ints_get:∀ {is:List Int} {its:List Value} {k:Nat} (h:k < its.length) (h2:k < is.length),Vals (is.map V.int) its->∃ t,its[k]=.int is[k] t
 | i::is,_,0,_,_,.cons r _=>r
 | i::is,_::its,k+1,h,h2,.cons _ t=>ints_get (is:=is) (Nat.lt_of_succ_lt_succ h) (Nat.lt_of_succ_lt_succ h2) t
theorem vals_erase:∀ {xs:List V} {its:List Value} (k:Nat),Vals xs its->Vals (xs.eraseIdx k) (its.eraseIdx k)
 | _,_,_,.nil=>.nil
 | _,_,0,.cons _ t=>t
 | _,_,k+1,.cons r t=>.cons r (vals_erase k t)
theorem map_erase {α β:Type} (f:α->β):∀ (l:List α) (k:Nat),(l.map f).eraseIdx k=(l.eraseIdx k).map f
 | [],_=>rfl
 | _::_,0=>rfl
 | a::l,k+1=>by
  show f a::(l.map f).eraseIdx k=f a::(l.eraseIdx k).map f
  rw [map_erase f l k]
def rRemove:V->List V->Hp->VK->Prop:=fun x vs H Q=>∃ (l:Addr) (is:List Int) (i:Int),x=.ref l/\vs=[.int i]/\H l=some (.lst (is.map V.int))/\i∈is/\Q .non (upd H l (.lst ((is.erase i).map V.int)))
theorem mt_remove:MtM X "list.remove" rRemove:=by
 intro pins s σ H x vs v us Q I rx rv h
 obtain ⟨l,is,i,rfl,rfl,hH,hm,q⟩:=h
 cases rx
 obtain ⟨u,rfl,ru⟩:=rv.one
 obtain ⟨t,rfl⟩:=ru
 obtain ⟨z,its,n,r,hl,e⟩:=I.lstM hH
 rw [zqe] at hl z
 have hj:is.idxOf i < is.length:=List.idxOf_lt_length_of_mem hm
 have hk:=ints_kf r
 have hz:its.toArray.size<=sizeLine:=by rw [zqq,<- hl];exact z
 refine call_meets PySem.F.slot_list_remove ⟨_,e,rfl⟩ PySem.F.entry_list_remove (PySem.F.args_list_remove_2 _ _)
  (MeetsSeq.list_remove l its.toArray n (.int i t) (isInt i) (fun y hy=>PySem.W.kf_eq hk y (by simpa using hy)) (is.idxOf i) (by rw [zqq];omega) ?_ (fun m hm hlt=>?_) hz) ⟨e,?_⟩
 ·obtain ⟨t2,e2⟩:=ints_get (k:=is.idxOf i) (by omega) hj r
  rw [List.getElem_toArray,e2]
  show (is[is.idxOf i] == i)=true
  rw [List.getElem_idxOf,beq_self_eq_true]
 ·rw [zqq] at hm
  obtain ⟨t2,e2⟩:=ints_get (k:=m) hm (by omega) r
  rw [List.getElem_toArray,e2]
  show (is[m] == i)=false
  have:=List.not_of_lt_findIdx (p:=(· == i)) (xs:=is) (i:=m) hlt
  simpa using this
 ·refine ⟨.non,_,I.lset (its':=its.eraseIdx (is.idxOf i)) hH e (by simp [Array.toList_eraseIdxIfInBounds,<- Array.toList_inj]) (ys:=(is.erase i).map V.int) ?_ ?_,rfl,q⟩
  ·have:=vals_erase (is.idxOf i) r
   rw [map_erase,<- List.erase_eq_eraseIdx_of_idxOf rfl] at this
   exact this
  ·rw [zqe]
   exact Nat.le_trans (List.length_erase_le) z
end
end L2
end
section
namespace Ev
open L2
open PySem PySem.Spec PyProof.Rows
inductive D where
 | non | bl (b:Bool) | int (i:Int) | str (s:Str) | tup (ds:List D) | adr (n:Nat) | ls (ds:List D)
 deriving Inhabited
inductive MO where
 | lst (ds:List D) | scr (ds:List D) | dK (kvs:List (Key×D)) | dT (kvs:List (List Key×D))
 deriving Inhabited
abbrev Mem:=List MO
abbrev En:=List (Option D)
inductive W where
 | d (x:D) | lv (ds:List D)
 deriving Inhabited
structure Exn where
 cls:Nat
 fs:List D
inductive Out (α:Type) where
 | ok (a:α) (M:Mem) | err (x:Exn) (M:Mem) | stuck
def Out.bind {α β:Type} (o:Out α) (f:α->Mem->Out β):Out β:=match o with
 | .ok a M=>f a M
 | .err x M=>.err x M
 | .stuck=>.stuck
def ScrL (K:PySem.W.Frag) (H:Hp) (a:Addr) (xs:List V):Prop :=
 (∃ o,H a=some (.frz o (.lst xs)))\/∃ (o:Obj) (its:Array Value) (n:Nat),K.lookup a=some o/\o.cls=.type "list" /\ o.dict=none/\o.data=.seq its n/\its.size<=sizeLine/\Vals xs its.toList
theorem ScrL.sq {K:PySem.W.Frag} {H:Hp} {a:Addr} {xs:List V} (h:ScrL K H a xs):SqL K H a xs:=by
 rcases h with ⟨o,h⟩ | h
 ·exact .inl (.inr ⟨o,h⟩)
 ·exact .inr h
mutual
def RD (K:PySem.W.Frag) (ads:List Addr) (H:Hp):D->V->Prop
 | .non,v=>v=.non
 | .bl b,v=>v=.bl b
 | .int i,v=>v=.int i
 | .str s,v=>v=.str s
 | .tup ds,v=>∃ a xs,v=.ref a/\H a=some (.tup xs)/\RDs K ads H ds xs
 | .adr n,v=>∃ a,v=.ref a/\ads[n]?=some a
 | .ls ds,v=>∃ a xs,v=.ref a/\ScrL K H a xs/\RDs K ads H ds xs
def RDs (K:PySem.W.Frag) (ads:List Addr) (H:Hp):List D->List V->Prop
 | [],xs=>xs=[]
 | d::ds,xs=>∃ x r,xs=x::r/\RD K ads H d x/\RDs K ads H ds r
end
section
variable (K:PySem.W.Frag) (ads:List Addr) (H:Hp)
def RKs {κ:Type}:List (κ×D)->List (κ×V)->Prop
 | [],xs=>xs=[]
 | p::ps,xs=>∃ x r,xs=x::r/\p.1=x.1/\RD K ads H p.2 x.2/\RKs ps r
def MOk (a:Addr):MO->Prop
 | .lst ds=>∃ xs,H a=some (.lst xs)/\RDs K ads H ds xs
 | .scr ds=>∃ o xs,H a=some (.frz o (.lst xs))/\RDs K ads H ds xs
 | .dK kvs=>∃ ks,H a=some (.dK ks)/\RKs K ads H kvs ks
 | .dT kvs=>∃ ks,H a=some (.dT ks)/\RKs K ads H kvs ks
structure MRel (M:Mem):Prop where
 nd:ads.Nodup
 len:ads.length=M.length
 obj:∀ (n:Nat) (o:MO) (a:Addr),M[n]?=some o->ads[n]?=some a->MOk K ads H a o
def REn (ρ:En) (σ:L2.St):Prop:=∀ (i:Nat) (d:D),ρ[i]?=some (some d)->∃ v,σ[i]?=some (some v)/\RD K ads H d v
def RW:W->V->Prop
 | .d x,v=>RD K ads H x v
 | .lv ds,v=>∃ a xs,v=.ref a/\H a=some (.lst xs)/\a∉ads/\RDs K ads H ds xs
end
def Kept (ads:List Addr) (H H':Hp):Prop:=∀ b o,b∉ads->H b=some o->H' b=some o
def TupK (H H':Hp):Prop:=∀ b xs,H b=some (.tup xs)->H' b=some (.tup xs)
structure Grow (ads ads':List Addr) (H H':Hp):Prop where
 pre:∃ r,ads'=ads++r
 new:∀ b∈ads',b∉ads->H b=none
 kept:Kept ads H H'
 tups:TupK H H'
 frz:∀ b o u,H b=some (.frz o u)->H' b=some (.frz o u)
theorem Grow.refl (ads:List Addr) (H:Hp):Grow ads ads H H:=⟨⟨[],by simp⟩,fun b h n=>absurd h n,fun _ _ _ h=>h,fun _ _ h=>h,fun _ _ _ h=>h⟩
theorem Grow.trans {a b c:List Addr} {H H1 H2:Hp} (g:Grow a b H H1) (k:Grow b c H1 H2):Grow a c H H2:=by
 obtain ⟨r,e⟩:=g.pre
 obtain ⟨r',e'⟩:=k.pre
 refine ⟨⟨r++r',by rw [e',e,List.append_assoc]⟩,fun x h n=>?_,fun x o n h=>?_,fun x xs h=>k.tups x xs (g.tups x xs h),fun x o u h=>k.frz x o u (g.frz x o u h)⟩
 ·by_cases hb:x∈b
  ·exact g.new x hb n
  ·have:=k.new x h hb
   cases q:H x with
   | none=>rfl
   | some o=>rw [g.kept x o n q] at this;cases this
 ·refine k.kept x o (fun hb=>?_) (g.kept x o n h)
  rw [g.new x hb n] at h;cases h
section
variable {K:PySem.W.Frag} {ads ads':List Addr} {H H':Hp}
theorem Grow.get (g:Grow ads ads' H H') {n:Nat} {a:Addr} (h:ads[n]?=some a):ads'[n]?=some a:=by
 obtain ⟨r,e⟩:=g.pre
 rw [e,zqt (by have:=(zqa.mp h).1;exact this)]
 exact h
theorem Grow.scr (g:Grow ads ads' H H') {a:Addr} {xs:List V} (h:ScrL K H a xs):ScrL K H' a xs:=by
 rcases h with ⟨o,h⟩ | h
 ·exact .inl ⟨o,g.frz _ _ _ h⟩
 ·exact .inr h
mutual
theorem Grow.rd (g:Grow ads ads' H H'):∀ (d:D) (v:V),RD K ads H d v->RD K ads' H' d v
 | .non,_,h=>by unfold RD at *;exact h
 | .bl _,_,h=>by unfold RD at *;exact h
 | .int _,_,h=>by unfold RD at *;exact h
 | .str _,_,h=>by unfold RD at *;exact h
 | .adr n,v,h=>by unfold RD at *;obtain ⟨a,e,h⟩:=h;exact ⟨a,e,g.get h⟩
 | .tup ds,v,h=>by unfold RD at *;obtain ⟨a,xs,e,h,r⟩:=h;exact ⟨a,xs,e,g.tups _ _ h,Grow.rds g ds xs r⟩
 | .ls ds,v,h=>by unfold RD at *;obtain ⟨a,xs,e,h,r⟩:=h;exact ⟨a,xs,e,g.scr h,Grow.rds g ds xs r⟩
theorem Grow.rds (g:Grow ads ads' H H'):∀ (ds:List D) (vs:List V),RDs K ads H ds vs->RDs K ads' H' ds vs
 | [],_,h=>by unfold RDs at *;exact h
 | d::ds,vs,h=>by unfold RDs at *;obtain ⟨x,r,e,h1,h2⟩:=h;exact ⟨x,r,e,Grow.rd g d x h1,Grow.rds g ds r h2⟩
end
theorem Grow.rks {κ:Type} (g:Grow ads ads' H H'):∀ (ds:List (κ×D)) (vs:List (κ×V)),RKs K ads H ds vs->RKs K ads' H' ds vs
 | [],_,h=>by unfold RKs at *;exact h
 | d::ds,vs,h=>by unfold RKs at *;obtain ⟨x,r,e,h0,h1,h2⟩:=h;exact ⟨x,r,e,h0,g.rd d.2 x.2 h1,Grow.rks g ds r h2⟩
theorem Grow.ren (g:Grow ads ads' H H') {ρ:En} {σ:L2.St} (h:REn K ads H ρ σ):REn K ads' H' ρ σ:=fun i d e=>by
 obtain ⟨v,e1,r⟩:=h i d e
 exact ⟨v,e1,g.rd d v r⟩
theorem Grow.notin (g:Grow ads ads' H H') {a:Addr} {o:HO} (n:a∉ads) (e:H a=some o):a∉ads':=fun h=>by
 rw [g.new a h n] at e;cases e
theorem Grow.rw (g:Grow ads ads' H H') {w:W} {v:V} (h:RW K ads H w v):RW K ads' H' w v:=by
 cases w with
 | d x=>exact g.rd x v h
 | lv ds =>
  obtain ⟨a,xs,e,h,n,r⟩:=h
  exact ⟨a,xs,e,g.kept a _ n h,g.notin n h,g.rds ds xs r⟩
theorem RDs.len:∀ {ds:List D} {vs:List V},RDs K ads H ds vs->ds.length=vs.length
 | [],_,h=>by unfold RDs at h;subst h;rfl
 | d::ds,vs,h=>by unfold RDs at h;obtain ⟨x,r,e,h1,h2⟩:=h;subst e;simp [RDs.len h2]
theorem RDs.get:∀ {ds:List D} {vs:List V} {i:Nat} {d:D},RDs K ads H ds vs->ds[i]?=some d->∃ v,vs[i]?=some v/\RD K ads H d v
 | [],_,_,_,h,e=>by simp at e
 | d::ds,vs,0,d',h,e=>by unfold RDs at h;obtain ⟨x,r,rfl,h1,h2⟩:=h;simp at e;subst e;exact ⟨x,rfl,h1⟩
 | d::ds,vs,i+1,d',h,e=>by
  unfold RDs at h;obtain ⟨x,r,rfl,h1,h2⟩:=h
  obtain ⟨v,e',r'⟩:=RDs.get (i:=i) h2 (by simpa using e)
  exact ⟨v,by simpa using e',r'⟩
theorem RDs.app:∀ {ds es:List D} {vs ws:List V},RDs K ads H ds vs->RDs K ads H es ws->RDs K ads H (ds++es) (vs++ws)
 | [],_,vs,_,h,k=>by unfold RDs at h;subst h;exact k
 | d::ds,es,vs,ws,h,k=>by
  unfold RDs at h;obtain ⟨x,r,rfl,h1,h2⟩:=h
  show RDs K ads H (d::(ds++es)) (x::(r++ws))
  unfold RDs;exact ⟨x,_,rfl,h1,RDs.app h2 k⟩
theorem RDs.one {d:D} {v:V} (h:RD K ads H d v):RDs K ads H [d] [v]:=by
 unfold RDs;exact ⟨v,[],rfl,h,by unfold RDs;rfl⟩
theorem RDs.take:∀ {ds:List D} {vs:List V} (n:Nat),RDs K ads H ds vs->RDs K ads H (ds.take n) (vs.take n)
 | _,_,0,_=>by simp;unfold RDs;rfl
 | [],vs,n+1,h=>by unfold RDs at h;subst h;simp;unfold RDs;rfl
 | d::ds,vs,n+1,h=>by unfold RDs at h;obtain ⟨x,r,rfl,h1,h2⟩:=h;simp only [List.take_succ_cons];unfold RDs;exact ⟨x,_,rfl,h1,RDs.take n h2⟩
theorem RDs.drop:∀ {ds:List D} {vs:List V} (n:Nat),RDs K ads H ds vs->RDs K ads H (ds.drop n) (vs.drop n)
 | _,_,0,h=>by simpa using h
 | [],vs,n+1,h=>by unfold RDs at h;subst h;simp;unfold RDs;rfl
 | d::ds,vs,n+1,h=>by unfold RDs at h;obtain ⟨x,r,rfl,h1,h2⟩:=h;simp only [List.drop_succ_cons];exact RDs.drop n h2
theorem RDs.setAt:∀ {ds:List D} {vs:List V} (n:Nat) {d:D} {v:V},RDs K ads H ds vs->RD K ads H d v->RDs K ads H (ds.set n d) (vs.set n v)
 | [],vs,n,_,_,h,_=>by unfold RDs at h;subst h;simp;unfold RDs;rfl
 | d::ds,vs,0,_,_,h,k=>by unfold RDs at h;obtain ⟨x,r,rfl,h1,h2⟩:=h;simp only [List.set_cons_zero];unfold RDs;exact ⟨_,_,rfl,k,h2⟩
 | d::ds,vs,n+1,_,_,h,k=>by unfold RDs at h;obtain ⟨x,r,rfl,h1,h2⟩:=h;simp only [List.set_cons_succ];unfold RDs;exact ⟨_,_,rfl,h1,RDs.setAt n h2 k⟩
theorem MRel.grow {M:Mem} (m:MRel K ads H M) (g:Grow ads ads H H') (k:∀ a∈ads,H' a=H a):MRel K ads H' M:=⟨m.nd,m.len,fun n o a e1 e2=>by
 have h:=m.obj n o a e1 e2
 have ha:=k a (zqj e2)
 cases o with
 | lst ds=>obtain ⟨xs,h,r⟩:=h;exact ⟨xs,ha.trans h,g.rds _ _ r⟩
 | scr ds=>obtain ⟨o,xs,h,r⟩:=h;exact ⟨o,xs,ha.trans h,g.rds _ _ r⟩
 | dK ds=>obtain ⟨xs,h,r⟩:=h;exact ⟨xs,ha.trans h,g.rks _ _ r⟩
 | dT ds=>obtain ⟨xs,h,r⟩:=h;exact ⟨xs,ha.trans h,g.rks _ _ r⟩⟩
theorem MRel.there {M:Mem} (m:MRel K ads H M) {a:Addr} (h:a∈ads):∃ o,H a=some o/\∀ xs,o≠.tup xs:=by
 obtain ⟨n,hn,e⟩:=List.mem_iff_getElem.mp h
 have e2:ads[n]?=some a:=by rw [zqb hn,e]
 have hM:n < M.length:=by rw [<- m.len];exact hn
 have h:=m.obj n M[n] a (zqb hM) e2
 cases q:M[n] with
 | lst ds=>rw [q] at h;obtain ⟨xs,h,r⟩:=h;exact ⟨_,h,fun _ z=>by cases z⟩
 | scr ds=>rw [q] at h;obtain ⟨o,xs,h,r⟩:=h;exact ⟨_,h,fun _ z=>by cases z⟩
 | dK ds=>rw [q] at h;obtain ⟨xs,h,r⟩:=h;exact ⟨_,h,fun _ z=>by cases z⟩
 | dT ds=>rw [q] at h;obtain ⟨xs,h,r⟩:=h;exact ⟨_,h,fun _ z=>by cases z⟩
theorem MRel.fresh {M:Mem} (m:MRel K ads H M) {p:Addr} (h:H p=none):p∉ads:=fun z=>by
 obtain ⟨o,e,_⟩:=m.there z;rw [h] at e;cases e
theorem Grow.new1 {M:Mem} (m:MRel K ads H M) {p:Addr} {o:HO} (h:H p=none):Grow ads ads H (upd H p o) :=
 ⟨⟨[],by simp⟩,fun b h n=>absurd h n,fun b u n e=>by rw [upd_ne (fun z=>by subst z;rw [h] at e;cases e)];exact e,fun b xs e=>by rw [upd_ne (fun z=>by subst z;rw [h] at e;cases e)];exact e,fun b u x e=>by rw [upd_ne (fun z=>by subst z;rw [h] at e;cases e)];exact e⟩
theorem MRel.new1 {M:Mem} (m:MRel K ads H M) {p:Addr} {o:HO} (h:H p=none):MRel K ads (upd H p o) M :=
 m.grow (Grow.new1 m h) fun a ha=>upd_ne (fun z=>by subst z;exact m.fresh h ha)
theorem nodup_at {α:Type} {l:List α} (h:l.Nodup) {i j:Nat} {x:α} (a:l[i]?=some x) (b:l[j]?=some x):i=j:=by
 obtain ⟨h1,e1⟩:=zqa.mp a
 obtain ⟨h2,e2⟩:=zqa.mp b
 rcases Nat.lt_trichotomy i j with q | q | q
 ·exact absurd (e1.trans e2.symm) (List.pairwise_iff_getElem.mp h i j h1 h2 q)
 ·exact q
 ·exact absurd (e2.trans e1.symm) (List.pairwise_iff_getElem.mp h j i h2 h1 q)
mutual
theorem RD.wide {a:Addr}:∀ (d:D) (v:V),RD K ads H d v->RD K (ads++[a]) H d v
 | .non,_,h=>by unfold RD at *;exact h
 | .bl _,_,h=>by unfold RD at *;exact h
 | .int _,_,h=>by unfold RD at *;exact h
 | .str _,_,h=>by unfold RD at *;exact h
 | .adr n,v,h=>by
  unfold RD at *;obtain ⟨b,e,h⟩:=h
  exact ⟨b,e,by rw [zqt (zqa.mp h).1];exact h⟩
 | .tup ds,v,h=>by unfold RD at *;obtain ⟨b,xs,e,h,r⟩:=h;exact ⟨b,xs,e,h,RDs.wide ds xs r⟩
 | .ls ds,v,h=>by unfold RD at *;obtain ⟨b,xs,e,h,r⟩:=h;exact ⟨b,xs,e,h,RDs.wide ds xs r⟩
theorem RDs.wide {a:Addr}:∀ (ds:List D) (vs:List V),RDs K ads H ds vs->RDs K (ads++[a]) H ds vs
 | [],_,h=>by unfold RDs at *;exact h
 | d::ds,vs,h=>by unfold RDs at *;obtain ⟨x,r,e,h1,h2⟩:=h;exact ⟨x,r,e,RD.wide d x h1,RDs.wide ds r h2⟩
end
theorem RKs.wide {κ:Type} {a:Addr}:∀ (ds:List (κ×D)) (vs:List (κ×V)),RKs K ads H ds vs->RKs K (ads++[a]) H ds vs
 | [],_,h=>by unfold RKs at *;exact h
 | d::ds,vs,h=>by unfold RKs at *;obtain ⟨x,r,e,h0,h1,h2⟩:=h;exact ⟨x,r,e,h0,RD.wide d.2 x.2 h1,RKs.wide ds r h2⟩
theorem MOk.wide {a b:Addr} {o:MO} (h:MOk K ads H b o):MOk K (ads++[a]) H b o:=by
 cases o with
 | lst ds=>obtain ⟨xs,h,r⟩:=h;exact ⟨xs,h,r.wide⟩
 | scr ds=>obtain ⟨o,xs,h,r⟩:=h;exact ⟨o,xs,h,r.wide⟩
 | dK ds=>obtain ⟨xs,h,r⟩:=h;exact ⟨xs,h,r.wide⟩
 | dT ds=>obtain ⟨xs,h,r⟩:=h;exact ⟨xs,h,r.wide⟩
theorem MRel.push {M:Mem} {o:MO} {a:Addr} (m:MRel K ads H M) (n:a∉ads) (h:MOk K ads H a o):MRel K (ads++[a]) H (M++[o]) where
  nd:=by
    rw [List.nodup_append]
    exact ⟨m.nd, by simp, fun x hx y hy => by have : y = a := by simpa using hy
                                              subst this;exact fun z=>n (z ▸ hx)⟩
  len:=by simp [m.len]
  obj:=fun i o' b e1 e2=>by
    by_cases hi:i < M.length
    · rw [zqt hi] at e1
      rw [zqt (by rw [m.len];exact hi)] at e2
      exact (m.obj i o' b e1 e2).wide
    · have hi' : i = M.length := by
        have:=(zqa.mp e1).1
        simp at this;omega
      subst hi'
      rw [List.getElem?_append_right (zqg _)] at e1
      rw [List.getElem?_append_right (by rw [m.len];exact zqg _)] at e2
      simp [m.len] at e1 e2
      subst e1 e2
      exact h.wide
theorem MRel.write {M : Mem} {n : Nat} {a : Addr} {u o : MO} {ho : HO} (m : MRel K ads H M) (e : M[n]? = some u) (ea : ads[n]? = some a) (nf : ∀ o x, H a ≠ some (.frz o x)) (hn : MOk K ads (upd H a ho) a o) :
    Grow ads ads H (upd H a ho)/\MRel K ads (upd H a ho) (M.set n o):=by
  have hin:a∈ads:=zqj ea
  obtain ⟨o1,e1,nt⟩:=m.there hin
  have g : Grow ads ads H (upd H a ho) := ⟨⟨[], by simp⟩, fun b h n => absurd h n, fun b x nb h => by rw [upd_ne (by intro z; subst z; exact nb hin)]; exact h, fun b xs h => by
      rw [upd_ne (fun z=>by subst z;rw [e1] at h;exact nt xs (zql h))];exact h,fun b o u h=>by rw [upd_ne (fun z=>by subst z;exact nf _ _ h)];exact h⟩
  refine ⟨g,m.nd,by rw [List.length_set];exact m.len,fun i o' b x1 x2=>?_⟩
  by_cases hi:i=n
  · subst hi
    rw [ea] at x2;cases x2
    rw [List.getElem?_set_self (zqa.mp e).1] at x1
    cases x1;exact hn
  · rw [List.getElem?_set_ne (Ne.symm hi)] at x1
    have hb:b≠a:=fun z=>by
      subst z
      exact hi (nodup_at m.nd x2 ea)
    have h:=m.obj i o' b x1 x2
    cases o' with
    | lst ds=>obtain ⟨xs,h,r⟩:=h;exact ⟨xs,by rw [upd_ne hb];exact h,g.rds _ _ r⟩
    | scr ds=>obtain ⟨o,xs,h,r⟩:=h;exact ⟨o,xs,by rw [upd_ne hb];exact h,g.rds _ _ r⟩
    | dK ds=>obtain ⟨xs,h,r⟩:=h;exact ⟨xs,by rw [upd_ne hb];exact h,g.rks _ _ r⟩
    | dT ds=>obtain ⟨xs,h,r⟩:=h;exact ⟨xs,by rw [upd_ne hb];exact h,g.rks _ _ r⟩
end
mutual
def pyD (M:Mem):Nat->D->Option PyData
 | _,.non=>some .none
 | _,.bl b=>some (.bool b)
 | _,.int i=>some (.int i)
 | _,.str s=>some (.str s)
 | 0,.tup _=>none
 | 0,.adr _=>none
 | 0,.ls _=>none
 | n+1,.ls ds=>(pyDs M n ds).map .list
 | n+1,.tup ds=>(pyDs M n ds).map .tuple
 | n+1,.adr k=>match M[k]? with
  | some (.lst ds)=>(pyDs M n ds).map .list
  | some (.scr ds)=>(pyDs M n ds).map .list
  | _=>none
def pyDs (M:Mem):Nat->List D->Option (List PyData)
 | _,[]=>some []
 | n,d::ds=>match pyD M n d,pyDs M n ds with
  | some p,some ps=>some (p::ps)
  | _,_=>none
end
def pyW (M:Mem):W->Option PyData
 | .d x=>pyD M 30 x
 | .lv ds=>(pyDs M 30 ds).map .list
inductive BOp where
 | add | sub | mul | fdiv | mod | pow
 deriving DecidableEq
inductive COp where
 | eq | ne | lt | le | gt | ge | isN | notN | isin | notin
 deriving DecidableEq
inductive Ty where
 | int | bool | str | tuple | list | dict | none
 deriving DecidableEq
inductive Bi where
 | len | max2 | min2 | int1 | list1 | tuple1 | repr1 | isi (t:Ty) | all1 | any1 | dict1 | min1 | max1
 deriving DecidableEq
inductive Me where
 | append | insert | reverse | extend | remove
 deriving DecidableEq
inductive SK where
 | seq | rng1 | rng2 | enum | zip | rngd
 deriving DecidableEq
mutual
inductive C where
 | var (i:Nat)
 | cst (d:D)
 | bin (op:BOp) (a b:C)
 | cmp (op:COp) (a b:C)
 | chain (o1 o2:COp) (a b c:C)
 | conj (cs:List C) | disj (cs:List C) | neg (a:C)
 | ite (c:Tst) (a b:C)
 | tup (cs:List C) | lst (cs:List C)
 | sub (a b:C)
 | slc (a:C) (lo hi:Option C)
 | stp (a:C) (k:Int)
 | sfind (a b:C)
 | call (f:Nat) (cs:List C)
 | bi (b:Bi) (cs:List C)
 | me (m:Me) (o:C) (cs:List C)
 | dct (ks:List Str) (cs:List C)
 | rng (tp:Bool) (cs:List C)
 | usub (a:C)
 | glo (x:Str) (v:Int)
 | isTr (ng:Bool) (a:C)
 | minD (a b:C)
 | comp (k:SK) (src:List C) (tg:List Nat) (cond:Option Tst) (elt:C) (cap:List (Option Nat))
inductive Tst where
 | val (c:C) | conj (ts:List Tst) | disj (ts:List Tst) | neg (a:Tst)
end
def seqW (M:Mem):W->Option (Bool×List D)
 | .lv ds=>some (true,ds)
 | .d (.tup ds)=>some (false,ds)
 | .d (.ls ds)=>some (true,ds)
 | .d (.adr n)=>match M[n]? with
  | some (.lst ds)=>some (true,ds)
  | some (.scr ds)=>some (true,ds)
  | _=>none
 | _=>none
def lstW (M:Mem):W->Option (List D)
 | .lv ds=>some ds
 | .d (.adr n)=>match M[n]? with
  | some (.lst ds)=>some ds
  | _=>none
 | _=>none
def own:W->Mem->Out D
 | .d x,M=>.ok x M
 | .lv ds,M=>.ok (.adr M.length) (M++[.lst ds])
def ixD (ds:List D) (i:Int):Option D:=atI ds i
def cutD (ds:List D) (lo hi:Option Int):List D:=(ds.drop (HT.sIx ds.length 0 lo)).take (HT.sIx ds.length ds.length hi - HT.sIx ds.length 0 lo)
def binW (op:BOp) (a b:W) (M:Mem):Out W :=
 match op,a,b with
 | .add,.d (.int i),.d (.int j)=>.ok (.d (.int (i+j))) M
 | .sub,.d (.int i),.d (.int j)=>.ok (.d (.int (i - j))) M
 | .mul,.d (.int i),.d (.int j)=>if (-(2 ^ 64) < i/\i < 2 ^ 64)\/(-(2 ^ 64) < j/\j < 2 ^ 64) then .ok (.d (.int (i * j))) M else .stuck
 | .fdiv,.d (.int i),.d (.int j)=>if 0 < j/\j < 1073741824 then .ok (.d (.int (i / j))) M else .stuck
 | .mod,.d (.int i),.d (.int j)=>if 0 < j then .ok (.d (.int (i % j))) M else .stuck
 | .pow,.d (.int i),.d (.int j)=>if 0<=j/\j<=1000000/\i.natAbs < 2 ^ 64 then .ok (.d (.int (i ^ j.toNat))) M else .stuck
 | .add,.d (.tup xs),.d (.tup ys)=>if xs.length+ys.length<=sizeLine then .ok (.d (.tup (xs++ys))) M else .stuck
 | .add,a,b=>match lstW M a,lstW M b with
  | some xs,some ys=>if xs.length+ys.length<=sizeLine then .ok (.lv (xs++ys)) M else .stuck
  | _,_=>.stuck
 | .mul,a,.d (.int k)=>match lstW M a with
  | some xs=>if -(2 ^ 63)<=k/\k < 2 ^ 63/\xs.length * k.toNat<=sizeLine then .ok (.lv (List.replicate k.toNat xs).flatten) M else .stuck
  | none=>.stuck
 | _,_,_=>.stuck
def inPy (p:PyData):List PyData->Bool
 | []=>false
 | q::qs=>PyData.eqv q p || inPy p qs
def dctW (M:Mem):W->Option (List (Key×D))
 | .d (.adr n)=>match M[n]? with
  | some (.dK kvs)=>some kvs
  | _=>none
 | _=>none
def keyW:W->Option Key
 | .d (.int i)=>some (Sum.inl i)
 | .d (.str s)=>some (Sum.inr s)
 | _=>none
def getK {κ:Type} [DecidableEq κ] (kvs:List (κ×D)) (k:κ):Option D:=(kvs.find? fun p=>decide (p.1=k)).map (·.2)
def eqKs (M:Mem) (kb:List (Key×D)):List (Key×D)->Option Bool
 | []=>some true
 | (k,v)::r=>match getK kb k with
  | none=>some false
  | some y=>match pyD M 30 v,pyD M 30 y with
   | some p,some q=>if SeqAt.shaped p=true/\SeqAt.shaped q=true then (eqKs M kb r).map (PyData.eqv p q && ·) else none
   | _,_=>none
def cmpW (op:COp) (a b:W) (M:Mem):Out Bool :=
 match op with
 | .eq=>match pyW M a,pyW M b with
  | some p,some q=>if SeqAt.shaped p=true/\SeqAt.shaped q=true then .ok (PyData.eqv p q) M else .stuck
  | _,_=>match dctW M a,dctW M b with
   | some ka,some kb=>match eqKs M kb ka with
    | some r=>.ok (ka.length == kb.length && r) M
    | none=>.stuck
   | _,_=>.stuck
 | .ne=>match pyW M a,pyW M b with
  | some p,some q=>if SeqAt.shaped p=true/\SeqAt.shaped q=true then .ok (!PyData.eqv p q) M else .stuck
  | _,_=>.stuck
 | .lt=>match a,b with
  | .d (.int i),.d (.int j)=>.ok (decide (i < j)) M
  | .d (.str x),.d (.str y)=>.ok (decide (x.cps.toList < y.cps.toList)) M
  | _,_=>.stuck
 | .le=>match a,b with
  | .d (.int i),.d (.int j)=>.ok (decide (i<=j)) M
  | .d (.str x),.d (.str y)=>.ok (!decide (y.cps.toList < x.cps.toList)) M
  | _,_=>.stuck
 | .gt=>match a,b with
  | .d (.int i),.d (.int j)=>.ok (decide (j < i)) M
  | _,_=>.stuck
 | .ge=>match a,b with
  | .d (.int i),.d (.int j)=>.ok (decide (j<=i)) M
  | _,_=>.stuck
 | .isN=>match a with
  | .d .non=>.ok true M
  | _=>.ok false M
 | .notN=>match a with
  | .d .non=>.ok false M
  | _=>.ok true M
 | .isin=>match pyW M a,seqW M b with
  | some p,some (_,ds)=>match pyDs M 30 ds with
   | some qs=>if SeqAt.shaped p=true/\qs.all SeqAt.shaped=true then .ok (inPy p qs) M else .stuck
   | none=>.stuck
  | _,none=>match keyW a,dctW M b with
   | some k,some kvs=>.ok (getK kvs k).isSome M
   | _,_=>.stuck
  | _,_=>.stuck
 | .notin=>match pyW M a,seqW M b with
  | some p,some (_,ds)=>match pyDs M 30 ds with
   | some qs=>if SeqAt.shaped p=true/\qs.all SeqAt.shaped=true then .ok (!inPy p qs) M else .stuck
   | none=>.stuck
  | _,none=>match keyW a,dctW M b with
   | some k,some kvs=>.ok (!(getK kvs k).isSome) M
   | _,_=>.stuck
  | _,_=>.stuck
def truW (M:Mem):W->Option Bool
 | .d .non=>some false
 | .d (.bl b)=>some b
 | .d (.int i)=>some (i != 0)
 | w=>(seqW M w).map fun p=>!p.2.isEmpty
def subW (a b:W) (M:Mem):Out W :=
  match b with
  | .d (.int i)=>match seqW M a with
    | some (_,ds)=>match ixD ds i with
      | some d=>.ok (.d d) M
      | none=>.stuck
    | none=>match a with
      | .d (.str s) => if s.length <= sizeLine then match atI s.cps.toList i with
          | some c=>.ok (.d (.str ⟨#[c]⟩)) M
          | none=>.stuck
        else .stuck
      | .d (.adr n)=>match M[n]? with
        | some (.dK kvs)=>match getK kvs (Sum.inl i:Key) with
          | some d=>.ok (.d d) M
          | none=>.stuck
        | _=>.stuck
      | _=>.stuck
  | .d (.str k)=>match a with
    | .d (.adr n)=>match M[n]? with
      | some (.dK kvs)=>match (kvs.find? fun p=>decide (p.1=(Sum.inr k:Key))).map (·.2) with
        | some d=>.ok (.d d) M
        | none=>.stuck
      | _=>.stuck
    | _=>.stuck
  | _=>.stuck
def slcW (a:W) (lo hi:Option Int) (M:Mem):Out W :=
 match seqW M a with
 | some (true,ds)=>.ok (.lv (cutD ds lo hi)) M
 | some (false,ds)=>if HT.sIx ds.length 0 lo=0/\HT.sIx ds.length ds.length hi=ds.length then .stuck else .ok (.d (.tup (cutD ds lo hi))) M
 | none=>.stuck
def optI:W->Option Int
 | .d (.int i)=>some i
 | _=>none
def tagW (M:Mem):W->Option Ty
 | .lv _=>some .list
 | .d .non=>some .none
 | .d (.bl _)=>some .bool
 | .d (.int _)=>some .int
 | .d (.str _)=>some .str
 | .d (.tup _)=>some .tuple
 | .d (.ls _)=>none
 | .d (.adr n)=>match M[n]? with
  | some (.lst _)=>some .list
  | some (.scr _)=>some .list
  | some (.dK _)=>some .dict
  | some (.dT _)=>some .dict
  | none=>none
def blsD:List D->Option (List Bool)
 | []=>some []
 | .bl b::ds=>(blsD ds).map (b::·)
 | _::_=>none
def intsD:List D->Option (List Int)
 | []=>some []
 | .int b::ds=>(intsD ds).map (b::·)
 | _::_=>none
def stepL {α:Type} (xs:List α) (k:Int):List α:=(List.range (Builtin.Slice.slicePlaces (Builtin.Slice.sliceAdjust none none k (xs.length:Int)).1 (Builtin.Slice.sliceAdjust none none k (xs.length:Int)).2 k)).filterMap fun (j:Nat)=>xs[((Builtin.Slice.sliceAdjust none none k (xs.length:Int)).1+(j:Int) * k).toNat]?
def stpW (a:W) (k:Int) (M:Mem):Out W :=
 match a with
 | .d (.tup ds)=>if (k=2\/k=-1)/\(stepL ds k).length<=sizeLine then .ok (.d (.tup (stepL ds k))) M else .stuck
 | _=>.stuck
def findW (a b:W) (M:Mem):Out W :=
 match a,b with
 | .d (.str x),.d (.str y)=>.ok (.d (.int (Txt.find x y))) M
 | _,_=>.stuck
def putD {κ:Type} [DecidableEq κ] (kvs:List (κ×D)) (k:κ) (v:D):List (κ×D) :=
 if (kvs.any fun kv=>decide (kv.1=k))=true then kvs.map (fun kv=>if kv.1=k then (kv.1,v) else kv) else kvs++[(k,v)]
def pairD:D->Option (Key×D)
 | .tup [.int i,d]=>some (Sum.inl i,d)
 | .tup [.str x,d]=>some (Sum.inr x,d)
 | _=>none
def prsD (acc:List (Key×D)):List D->Option (List (Key×D))
 | []=>some acc
 | d::ds=>match pairD d with
  | some (k,x)=>prsD (putD acc k x) ds
  | none=>none
def biW (b:Bi) (ws:List W) (M:Mem):Out W :=
 match b,ws with
 | .len,[w]=>match seqW M w with
  | some (_,ds)=>.ok (.d (.int ds.length)) M
  | none=>match w with
   | .d (.str x)=>if x.length<=sizeLine then .ok (.d (.int x.length)) M else .stuck
   | _=>.stuck
 | .all1,[w]=>match seqW M w with
  | some (_,ds)=>match blsD ds with
   | some bs=>.ok (.d (.bl (bs.all id))) M
   | none=>.stuck
  | none=>.stuck
 | .any1,[w]=>match seqW M w with
  | some (_,ds)=>match blsD ds with
   | some bs=>.ok (.d (.bl (bs.any id))) M
   | none=>.stuck
  | none=>.stuck
 | .min1,[w]=>match seqW M w with
  | some (_,ds)=>match intsD ds with
   | some (i::is)=>.ok (.d (.int (is.foldl (fun a b=>if b < a then b else a) i))) M
   | _=>.stuck
  | none=>.stuck
 | .max1,[w]=>match seqW M w with
  | some (_,ds)=>match intsD ds with
   | some (i::is)=>.ok (.d (.int (is.foldl (fun a b=>if a < b then b else a) i))) M
   | _=>.stuck
  | none=>.stuck
 | .max2,[.d (.int i),.d (.int j)]=>.ok (.d (.int (if j > i then j else i))) M
 | .min2,[.d (.int i),.d (.int j)]=>.ok (.d (.int (if j < i then j else i))) M
 | .int1,[.d (.int i)]=>.ok (.d (.int i)) M
 | .int1,[.d (.bl k)]=>.ok (.d (.int (if k then 1 else 0))) M
 | .list1,[w]=>match seqW M w with
  | some (_,ds)=>.ok (.lv ds) M
  | none=>.stuck
 | .tuple1,[w]=>match seqW M w with
  | some (_,ds)=>.ok (.d (.tup ds)) M
  | none=>.stuck
 | .repr1,[w]=>match pyW M w with
  | some p=>if p.showable=true/\p.depth<=40/\p.shown.length<=sizeLine then .ok (.d (.str p.shown)) M else .stuck
  | none=>.stuck
 | .dict1,[w]=>match dctW M w with
  | some kvs=>.ok (.d (.adr M.length)) (M++[.dK kvs])
  | none=>match seqW M w with
   | some (true,ds)=>match prsD [] ds with
    | some kvs=>.ok (.d (.adr M.length)) (M++[.dK kvs])
    | none=>.stuck
   | _=>.stuck
 | .isi t,[w]=>match tagW M w with
  | some g=>.ok (.d (.bl (decide (g=t) || (decide (g=.bool) && decide (t=.int))))) M
  | none=>.stuck
 | _,_=>.stuck
def rngArg:List W->Option (Int×Int)
 | [.d (.int i),.d (.int j)]=>some (i,j)
 | [.d (.int j)]=>some (0,j)
 | _=>none
def rngD (i:Int) (n:Nat):List D:=(List.range n).map fun k=>D.int (i+((k:Nat):Int))
def rngOut (tp:Bool) (ds:List D):W:=if tp=true then .d (.tup ds) else .lv ds
def rngW (tp:Bool) (ws:List W) (M:Mem):Out W:=match rngArg ws with
 | some (i,j)=>if (-(2 ^ 62)<=i/\i < 2 ^ 62/\-(2 ^ 62)<=j/\j < 2 ^ 62)/\(j - i).toNat<=2 ^ 24 then .ok (rngOut tp (rngD i (j - i).toNat)) M else .stuck
 | none=>.stuck
def meW (m:Me) (o:W) (ws:List D) (M:Mem):Out W :=
 match o with
 | .d (.adr n)=>match M[n]? with
  | some (.lst ds)=>match m,ws with
   | .append,[x]=>if ds.length < sizeLine then .ok (.d .non) (M.set n (.lst (ds++[x]))) else .stuck
   | .insert,[.int i,x]=>if ds.length < sizeLine/\0<=i/\i<=ds.length then .ok (.d .non) (M.set n (.lst (ds.take i.toNat++x::ds.drop i.toNat))) else .stuck
   | .reverse,[]=>.ok (.d .non) (M.set n (.lst ds.reverse))
   | .extend,[.adr k]=>match M[k]? with
    | some (.lst es)=>if ds.length+es.length<=sizeLine then .ok (.d .non) (M.set n (.lst (ds++es))) else .stuck
    | _=>.stuck
   | .remove,[.int i]=>match intsD ds with
    | some is=>if i∈is then .ok (.d .non) (M.set n (.lst ((is.erase i).map D.int))) else .stuck
    | none=>.stuck
   | _,_=>.stuck
  | _=>.stuck
 | _=>.stuck
inductive Z1 where
 | items (ds:List D) | at (n:Nat)
def seqZ (M:Mem):Z1->Option (List D)
 | .items ds=>some ds
 | .at n=>match M[n]? with
  | some (.lst ds)=>some ds
  | some (.scr ds)=>some ds
  | _=>none
def z1W (M:Mem):W->Option Z1
 | .lv ds=>some (.items ds)
 | .d (.tup ds)=>some (.items ds)
 | .d (.ls ds)=>some (.items ds)
 | .d (.adr n)=>if (seqW M (.d (.adr n))).isSome then some (.at n) else none
 | _=>none
def zipAt (xs ys:List D) (i:Nat):Option D:=match xs[i]?,ys[i]? with
 | some x,some y=>some (.tup [x,y])
 | _,_=>none
inductive It where
 | at (n:Nat) | items (ds:List D) | rng (lo:Int) (n:Nat) | enumAt (n:Nat) | enumIt (ds:List D) | zip (a b:Z1)
def itemAt (M:Mem) (i:Nat):It->Option (Option D)
 | .at n=>match M[n]? with
  | some (.lst ds)=>some ds[i]?
  | some (.scr ds)=>some ds[i]?
  | _=>none
 | .items ds=>some ds[i]?
 | .rng lo n=>some (if i < n then some (.int (lo+i)) else none)
 | .enumAt n=>match M[n]? with
  | some (.lst ds)=>some (ds[i]?.map fun d=>.tup [.int i,d])
  | some (.scr ds)=>some (ds[i]?.map fun d=>.tup [.int i,d])
  | _=>none
 | .enumIt ds=>some (ds[i]?.map fun d=>.tup [.int i,d])
 | .zip a b=>match seqZ M a,seqZ M b with
  | some xs,some ys=>some (zipAt xs ys i)
  | _,_=>none
def itLen (M:Mem):It->Nat
 | .at n=>match M[n]? with
  | some (.lst ds)=>ds.length
  | some (.scr ds)=>ds.length
  | _=>0
 | .items ds=>ds.length
 | .rng _ n=>n
 | .enumAt n=>match M[n]? with
  | some (.lst ds)=>ds.length
  | some (.scr ds)=>ds.length
  | _=>0
 | .enumIt ds=>ds.length
 | .zip a b=>match seqZ M a,seqZ M b with
  | some xs,some ys=>min xs.length ys.length
  | _,_=>0
def dwnD (i:Int) (n:Nat):List D:=(List.range n).map fun k=>.int (i - (k:Nat))
def srcW (k:SK) (ws:List W) (M:Mem):Out It :=
 match k,ws with
 | .seq,[.lv ds]=>.ok (.items ds) M
 | .seq,[.d (.tup ds)]=>.ok (.items ds) M
 | .seq,[.d (.ls ds)]=>.ok (.items ds) M
 | .seq,[.d (.adr n)]=>if (seqW M (.d (.adr n))).isSome then .ok (.at n) M else .stuck
 | .rng1,[.d (.int j)]=>if -(2 ^ 62)<=j/\j < 2 ^ 62 then .ok (.rng 0 j.toNat) M else .stuck
 | .rng2,[.d (.int i),.d (.int j)]=>if -(2 ^ 62)<=i/\i < 2 ^ 62/\-(2 ^ 62)<=j/\j < 2 ^ 62 then .ok (.rng i (j - i).toNat) M else .stuck
 | .enum,[.lv ds]=>.ok (.enumIt ds) M
 | .enum,[.d (.tup ds)]=>.ok (.enumIt ds) M
 | .enum,[.d (.ls ds)]=>.ok (.enumIt ds) M
 | .enum,[.d (.adr n)]=>if (seqW M (.d (.adr n))).isSome then .ok (.enumAt n) M else .stuck
 | .rngd,[.d (.int i),.d (.int j),.d (.int k)]=>if k=-1/\-(2 ^ 62)<=i/\i < 2 ^ 62/\-(2 ^ 62)<=j/\j < 2 ^ 62 then .ok (.items (dwnD i (i - j).toNat)) M else .stuck
 | .zip,[u,v]=>match z1W M u,z1W M v with
  | some a,some b=>.ok (.zip a b) M
  | _,_=>.stuck
 | _,_=>.stuck
def setAll (tg:List Nat) (ds:List D) (ρ:En):Option En :=
 match tg,ds with
 | [],[]=>some ρ
 | i::tg,d::ds=>setAll tg ds (ρ.set i (some d))
 | _,_=>none
def bindT (tg:List Nat) (d:D) (ρ:En):Option En :=
 match tg with
 | [i]=>some (ρ.set i (some d))
 | _=>match d with
  | .tup ds=>setAll tg ds ρ
  | _=>none
abbrev Fns:=Nat->List D->Mem->Out W
def capEn (cap:List (Option Nat)) (ρ:En):En:=cap.map fun o=>o.bind fun j=>(ρ[j]?).join
def compGo (cond:En->Mem->Out Bool) (elt:En->Mem->Out D) (it:It) (tg:List Nat):Nat->Nat->En->Mem->List D->Out W
  | 0,i,_,M,acc=>match itemAt M i it with
    | some none=>.ok (.lv acc) M
    | _=>.stuck
  | f+1,i,τ,M,acc=>match itemAt M i it with
    | some none=>.ok (.lv acc) M
    | some (some d)=>match bindT tg d τ with
      | none=>.stuck
      | some τ => if acc.length < sizeLine then
          (cond τ M).bind fun b M=>if b then (elt τ M).bind fun x M=>compGo cond elt it tg f (i+1) τ M (acc++[x]) else compGo cond elt it tg f (i+1) τ M acc
        else .stuck
    | none=>.stuck
def negW (x:W) (M:Mem):Out W:=match x with
 | .d (.int i)=>.ok (.d (.int (-i))) M
 | _=>.stuck
def isTrW (ng:Bool) (x:W) (M:Mem):Out W:=match x with
 | .d (.bl b)=>.ok (.d (.bl (ng != b))) M
 | _=>.stuck
def mnD (d:Int):List Int->Int
 | []=>d
 | i::is=>is.foldl (fun a b=>if b < a then b else a) i
def minDW (x y:W) (M:Mem):Out W:=match seqW M x,y with
 | some (_,ds),.d (.int d)=>match intsD ds with
  | some is=>.ok (.d (.int (mnD d is))) M
  | none=>.stuck
 | _,_=>.stuck
mutual
def ev (G:Fns):C->En->Mem->Out W
  | .var i,ρ,M=>match ρ[i]? with
    | some (some d)=>.ok (.d d) M
    | _=>.stuck
  | .cst d,_,M=>.ok (.d d) M
  | .bin op a b,ρ,M=>(ev G a ρ M).bind fun x M=>(ev G b ρ M).bind fun y M=>binW op x y M
  | .cmp op a b,ρ,M=>(ev G a ρ M).bind fun x M=>(ev G b ρ M).bind fun y M=>(cmpW op x y M).bind fun r M=>.ok (.d (.bl r)) M
  | .chain o1 o2 a b c, ρ, M => (ev G a ρ M).bind fun x M => (ev G b ρ M).bind fun y M => (cmpW o1 x y M).bind fun r M =>
      if r then (ev G c ρ M).bind fun z M=>(cmpW o2 y z M).bind fun r M=>.ok (.d (.bl r)) M else .ok (.d (.bl false)) M
  | .conj cs,ρ,M=>evAnd G cs ρ M
  | .disj cs,ρ,M=>evOr G cs ρ M
  | .neg a,ρ,M=>(ev G a ρ M).bind fun x M=>match x with
    | .d (.bl r)=>.ok (.d (.bl (!r))) M
    | _=>.stuck
  | .ite c a b,ρ,M=>(evT G c ρ M).bind fun r M=>if r then ev G a ρ M else ev G b ρ M
  | .tup cs,ρ,M=>(evDs G cs ρ M).bind fun ds M=>if ds.length<=sizeLine then .ok (.d (.tup ds)) M else .stuck
  | .lst cs,ρ,M=>(evDs G cs ρ M).bind fun ds M=>if ds.length<=sizeLine then .ok (.lv ds) M else .stuck
  | .sub a b,ρ,M=>(ev G a ρ M).bind fun x M=>(ev G b ρ M).bind fun y M=>subW x y M
  | .slc a lo hi,ρ,M=>(ev G a ρ M).bind fun x M=>(evO G lo ρ M).bind fun l M=>(evO G hi ρ M).bind fun h M=>slcW x l h M
  | .stp a k,ρ,M=>(ev G a ρ M).bind fun x M=>stpW x k M
  | .sfind a b,ρ,M=>(ev G a ρ M).bind fun x M=>match x with
    | .d (.str z)=>(ev G b ρ M).bind fun y M=>findW (.d (.str z)) y M
    | _=>.stuck
  | .call f cs,ρ,M=>(evDs G cs ρ M).bind fun ds M=>G f ds M
  | .bi b cs,ρ,M=>(evWs G cs ρ M).bind fun ws M=>biW b ws M
  | .me m o cs,ρ,M=>(ev G o ρ M).bind fun x M=>if (lstW M x).isSome then (evDs G cs ρ M).bind fun ds M=>meW m x ds M else .stuck
  | .dct ks cs,ρ,M=>(evDs G cs ρ M).bind fun ds M=>if ks.length=ds.length then .ok (.d (.adr M.length)) (M++[.dK ((ks.map Sum.inr).zip ds)]) else .stuck
  | .rng tp cs,ρ,M=>(evWs G cs ρ M).bind fun ws M=>rngW tp ws M
  | .usub a,ρ,M=>(ev G a ρ M).bind fun x M=>negW x M
  | .glo _ v,_,M=>.ok (.d (.int v)) M
  | .isTr ng a,ρ,M=>(ev G a ρ M).bind fun x M=>isTrW ng x M
  | .minD a b,ρ,M=>(ev G a ρ M).bind fun x M=>(ev G b ρ M).bind fun y M=>minDW x y M
  | .comp k src tg cond elt cap, ρ, M => (evWs G src ρ M).bind fun ws M => (srcW k ws M).bind fun it M =>
      compGo (fun τ M=>evCond G cond τ M) (fun τ M=>(ev G elt τ M).bind own) it tg (itLen M it) 0 (capEn cap ρ) M []
def evT (G:Fns):Tst->En->Mem->Out Bool
 | .conj ts,ρ,M=>evAll G ts ρ M
 | .disj ts,ρ,M=>evAny G ts ρ M
 | .neg a,ρ,M=>(evT G a ρ M).bind fun r M=>.ok (!r) M
 | .val c,ρ,M=>(ev G c ρ M).bind fun w M=>match truW M w with
  | some r=>.ok r M
  | none=>.stuck
def evAnd (G:Fns):List C->En->Mem->Out W
 | [],_,_=>.stuck
 | c::cs,ρ,M=>(ev G c ρ M).bind fun x M=>match cs,x with
  | [],x=>.ok x M
  | _,.d (.bl true)=>evAnd G cs ρ M
  | _,.d (.bl false)=>.ok (.d (.bl false)) M
  | _,_=>.stuck
def evOr (G:Fns):List C->En->Mem->Out W
 | [],_,_=>.stuck
 | c::cs,ρ,M=>(ev G c ρ M).bind fun x M=>match cs,x with
  | [],x=>.ok x M
  | _,.d (.bl false)=>evOr G cs ρ M
  | _,.d (.bl true)=>.ok (.d (.bl true)) M
  | _,_=>.stuck
def evAll (G:Fns):List Tst->En->Mem->Out Bool
 | [],_,_=>.stuck
 | c::cs,ρ,M=>(evT G c ρ M).bind fun x M=>match cs,x with
  | [],x=>.ok x M
  | _,true=>evAll G cs ρ M
  | _,false=>.ok false M
def evAny (G:Fns):List Tst->En->Mem->Out Bool
 | [],_,_=>.stuck
 | c::cs,ρ,M=>(evT G c ρ M).bind fun x M=>match cs,x with
  | [],x=>.ok x M
  | _,false=>evAny G cs ρ M
  | _,true=>.ok true M
def evDs (G:Fns):List C->En->Mem->Out (List D)
 | [],_,M=>.ok [] M
 | c::cs,ρ,M=>((ev G c ρ M).bind own).bind fun d M=>(evDs G cs ρ M).bind fun ds M=>.ok (d::ds) M
def evWs (G:Fns):List C->En->Mem->Out (List W)
 | [],_,M=>.ok [] M
 | c::cs,ρ,M=>(ev G c ρ M).bind fun d M=>(evWs G cs ρ M).bind fun ds M=>.ok (d::ds) M
def evO (G:Fns):Option C->En->Mem->Out (Option Int)
 | none,_,M=>.ok none M
 | some c,ρ,M=>(ev G c ρ M).bind fun w M=>match w with
  | .d (.int i)=>.ok (some i) M
  | _=>.stuck
def evCond (G:Fns):Option Tst->En->Mem->Out Bool
 | none,_,M=>.ok true M
 | some c,ρ,M=>evT G c ρ M
end
def RWn (K:PySem.W.Frag) (ads:List Addr) (H₀ H:Hp):W->V->Prop
 | .d x,v=>RD K ads H x v
 | .lv ds,v=>∃ a xs,v=.ref a/\H₀ a=none/\H a=some (.lst xs)/\a∉ads/\RDs K ads H ds xs
def PostW (K:PySem.W.Frag) (ads:List Addr) (H:Hp) (w:W) (M':Mem) (Q:VK):Prop :=
 ∀ v H' ads',Grow ads ads' H H'->MRel K ads' H' M'->RWn K ads' H H' w v->Q v H'
def PostDs (K:PySem.W.Frag) (ads:List Addr) (H:Hp) (ds:List D) (M':Mem) (Q:List V->Hp->Prop):Prop :=
 ∀ vs H' ads',Grow ads ads' H H'->MRel K ads' H' M'->RDs K ads' H' ds vs->Q vs H'
def PostB (K:PySem.W.Frag) (ads:List Addr) (H:Hp) (b:Bool) (M':Mem) (Q:Bool->Hp->Prop):Prop :=
 ∀ H' ads',Grow ads ads' H H'->MRel K ads' H' M'->Q b H'
def OkW (K:PySem.W.Frag) (ads:List Addr) (H:Hp) (Q:VK):Out W->Prop
 | .ok w M=>PostW K ads H w M Q
 | _=>False
def OkDs (K:PySem.W.Frag) (ads:List Addr) (H:Hp) (Q:List V->Hp->Prop):Out (List D)->Prop
 | .ok w M=>PostDs K ads H w M Q
 | _=>False
def OkB (K:PySem.W.Frag) (ads:List Addr) (H:Hp) (Q:Bool->Hp->Prop):Out Bool->Prop
 | .ok w M=>PostB K ads H w M Q
 | _=>False
structure SR (K:PySem.W.Frag) (ads:List Addr) (M:Mem) (ρ:En) (σ:L2.St) (H:Hp):Prop where
 mem:MRel K ads H M
 en:REn K ads H ρ σ
 ln:ρ.length=σ.length
def tE (K:PySem.W.Frag) (o:En->Mem->Out W):TE:=fun σ H Q=>∃ ads M ρ,SR K ads M ρ σ H/\OkW K ads H Q (o ρ M)
def tDs (K:PySem.W.Frag) (o:En->Mem->Out (List D)):TA:=fun σ H Q=>∃ ads M ρ,SR K ads M ρ σ H/\OkDs K ads H Q (o ρ M)
def tTs (K:PySem.W.Frag) (o:En->Mem->Out Bool):TT:=fun σ H Q=>∃ ads M ρ,SR K ads M ρ σ H/\OkB K ads H Q (o ρ M)
section
variable {K:PySem.W.Frag} {ads ads' ads2:List Addr} {H H' H2:Hp} {M M2:Mem} {ρ:En} {σ:L2.St}
theorem RWn.rw {H₀:Hp} {w:W} {v:V} (h:RWn K ads H₀ H w v):RW K ads H w v:=by
 cases w with
 | d x=>exact h
 | lv ds=>obtain ⟨a,xs,e,_,h1,n,r⟩:=h;exact ⟨a,xs,e,h1,n,r⟩
theorem SR.grow (s:SR K ads M ρ σ H) (g:Grow ads ads' H H') (m:MRel K ads' H' M2):SR K ads' M2 ρ σ H':=⟨m,g.ren s.en,s.ln⟩
theorem none_back (g:Grow ads ads' H H') (m:MRel K ads H M) (m':MRel K ads' H' M2) {a:Addr} (h:H' a=none):H a=none:=by
 by_cases hb:a∈ads
 ·have:a∈ads':=by obtain ⟨r,e⟩:=g.pre;rw [e];exact List.mem_append_left _ hb
  exact absurd this (m'.fresh h)
 ·cases q:H a with
  | none=>rfl
  | some o=>rw [g.kept a o hb q] at h;cases h
theorem RWn.back {w:W} {v:V} (g:Grow ads ads' H H') (m:MRel K ads H M) (m':MRel K ads' H' M2) (h:RWn K ads2 H' H2 w v):RWn K ads2 H H2 w v:=by
 cases w with
 | d x=>exact h
 | lv ds=>obtain ⟨a,xs,e,h0,h1,n,r⟩:=h;exact ⟨a,xs,e,none_back g m m' h0,h1,n,r⟩
theorem PostW.shift {w:W} {Mw:Mem} {Q:VK} (p:PostW K ads H w Mw Q) (g:Grow ads ads' H H') (m:MRel K ads H M) (m':MRel K ads' H' M2):PostW K ads' H' w Mw Q :=
 fun v H1 ads1 g1 m1 r=>p v H1 ads1 (g.trans g1) m1 (r.back g m m')
theorem OkW.shift {o:Out W} {Q:VK} (p:OkW K ads H Q o) (g:Grow ads ads' H H') (m:MRel K ads H M) (m':MRel K ads' H' M2):OkW K ads' H' Q o:=by
 cases o with
 | ok w Mw=>exact PostW.shift p g m m'
 | err _ _=>exact p
 | stuck=>exact p
theorem OkB.shift {o:Out Bool} {Q:Bool->Hp->Prop} (p:OkB K ads H Q o) (g:Grow ads ads' H H'):OkB K ads' H' Q o:=by
 cases o with
 | ok w Mw=>exact fun H1 ads1 g1 m1=>p H1 ads1 (g.trans g1) m1
 | err _ _=>exact p
 | stuck=>exact p
theorem tE_bind {o : En -> Mem -> Out W} {k : W -> Mem -> Out W} {Q : VK} {R : V -> Hp -> Prop} (s : SR K ads M ρ σ H) (h : OkW K ads H Q ((o ρ M).bind k))
    (hk:∀ w M1 v H1 ads1,SR K ads1 M1 ρ σ H1->RW K ads1 H1 w v->OkW K ads1 H1 Q (k w M1)->R v H1):tE K o σ H R:=by
  refine ⟨ads,M,ρ,s,?_⟩
  cases q:o ρ M with
  | ok w M1 =>
    rw [q] at h
    have h:OkW K ads H Q (k w M1):=h
    exact fun v H1 ads1 g1 m1 r=>hk w M1 v H1 ads1 (s.grow g1 m1) r.rw (h.shift g1 s.mem m1)
  | err _ _=>rw [q] at h;exact h
  | stuck=>rw [q] at h;exact h
theorem two {oa ob : En -> Mem -> Out W} {f : W -> W -> Mem -> Out W} {r : R2} {Q : VK}
    (hr:∀ {ads M H x y vx vy Q},MRel K ads H M->RW K ads H x vx->RW K ads H y vy->OkW K ads H Q (f x y M)->r vx vy H Q)
    (h:tE K (fun ρ M=>(oa ρ M).bind fun x M=>(ob ρ M).bind fun y M=>f x y M) σ H Q):tOp r (tE K oa) (tE K ob) σ H Q:=by
  obtain ⟨ads,M,ρ,s,h⟩:=h
  refine tE_bind s h fun w M1 v H1 ads1 s1 rw1 h1=>?_
  refine ⟨ads1,M1,ρ,s1,?_⟩
  cases q:ob ρ M1 with
  | ok y M2 =>
    rw [q] at h1
    have h1:OkW K ads1 H1 Q (f w y M2):=h1
    exact fun vy H2 ads2 g2 m2 ry=>hr m2 (g2.rw rw1) ry.rw (h1.shift g2 s1.mem m2)
  | err _ _=>rw [q] at h1;exact h1
  | stuck=>rw [q] at h1;exact h1
theorem OkW.plain {Q:VK} {x:D} {v:V} (h:OkW K ads H Q (.ok (.d x) M)) (m:MRel K ads H M) (r:RD K ads H x v):Q v H:=h v H ads (Grow.refl _ _) m r
theorem OkW.list {Q:VK} {ds:List D} {xs:List V} (h:OkW K ads H Q (.ok (.lv ds) M)) (m:MRel K ads H M) (r:RDs K ads H ds xs) {p:Addr} (hp:H p=none):Q (.ref p) (upd H p (.lst xs)) :=
 h _ _ ads (Grow.new1 m hp) (m.new1 hp) ⟨p,xs,rfl,hp,upd_same,m.fresh hp,(Grow.new1 m hp).rds _ _ r⟩
theorem OkW.tuple {Q:VK} {ds:List D} {xs:List V} (h:OkW K ads H Q (.ok (.d (.tup ds)) M)) (m:MRel K ads H M) (r:RDs K ads H ds xs) {p:Addr} (hp:H p=none):Q (.ref p) (upd H p (.tup xs)):=by
 refine h _ _ ads (Grow.new1 m hp) (m.new1 hp) ?_
 show RD _ _ _ (.tup ds) _
 unfold RD
 exact ⟨p,xs,rfl,upd_same,(Grow.new1 m hp).rds _ _ r⟩
theorem seq_ok {w : W} {v : V} {l : Bool} {ds : List D} (m : MRel K ads H M) (r : RW K ads H w v) (e : seqW M w = some (l, ds)) :
    ∃ a xs,v=.ref a/\RDs K ads H ds xs/\((l=true/\SqL K H a xs)\/(l=false/\SqT K H a xs)):=by
  cases w with
  | lv es =>
    simp only [seqW,Option.some.injEq,Prod.mk.injEq] at e
    obtain ⟨rfl,rfl⟩:=e
    obtain ⟨a,xs,e,h,n,r⟩:=r
    exact ⟨a,xs,e,r,.inl ⟨rfl,SqL.of h⟩⟩
  | d x =>
    cases x with
    | tup es =>
      simp only [seqW,Option.some.injEq,Prod.mk.injEq] at e
      obtain ⟨rfl,rfl⟩:=e
      have r:RD K ads H (.tup es) v:=r
      unfold RD at r
      obtain ⟨a,xs,e,h,r⟩:=r
      exact ⟨a,xs,e,r,.inr ⟨rfl,SqT.of h⟩⟩
    | ls es =>
      simp only [seqW,Option.some.injEq,Prod.mk.injEq] at e
      obtain ⟨rfl,rfl⟩:=e
      have r:RD K ads H (.ls es) v:=r
      unfold RD at r
      obtain ⟨a,xs,e,h,r⟩:=r
      exact ⟨a,xs,e,r,.inl ⟨rfl,h.sq⟩⟩
    | adr n =>
      have r:RD K ads H (.adr n) v:=r
      unfold RD at r
      obtain ⟨a,ev,ea⟩:=r
      simp only [seqW] at e
      cases q:M[n]? with
      | none=>rw [q] at e;cases e
      | some o =>
        rw [q] at e
        have ho:=m.obj n o a q ea
        cases o with
        | lst es=>cases e;obtain ⟨xs,h,r⟩:=ho;exact ⟨a,xs,ev,r,.inl ⟨rfl,SqL.of h⟩⟩
        | scr es=>cases e;obtain ⟨o,xs,h,r⟩:=ho;exact ⟨a,xs,ev,r,.inl ⟨rfl,.inl (.inr ⟨o,h⟩)⟩⟩
        | dK _=>cases e
        | dT _=>cases e
    | non=>cases e
    | bl _=>cases e
    | int _=>cases e
    | str _=>cases e
theorem lst_ok {w:W} {v:V} {ds:List D} (m:MRel K ads H M) (r:RW K ads H w v) (e:lstW M w=some ds):∃ a xs,v=.ref a/\RDs K ads H ds xs/\H a=some (.lst xs):=by
 cases w with
 | lv es =>
  simp only [lstW,Option.some.injEq] at e
  subst e
  obtain ⟨a,xs,e,h,n,r⟩:=r
  exact ⟨a,xs,e,r,h⟩
 | d x =>
  cases x with
  | adr n =>
   have r:RD K ads H (.adr n) v:=r
   unfold RD at r
   obtain ⟨a,ev,ea⟩:=r
   simp only [lstW] at e
   cases q:M[n]? with
   | none=>rw [q] at e;cases e
   | some o =>
    rw [q] at e
    have ho:=m.obj n o a q ea
    cases o with
    | lst es=>cases e;obtain ⟨xs,h,r⟩:=ho;exact ⟨a,xs,ev,r,h⟩
    | scr es=>cases e
    | dK _=>cases e
    | dT _=>cases e
  | tup _=>cases e
  | ls _=>cases e
  | non=>cases e
  | bl _=>cases e
  | int _=>cases e
  | str _=>cases e
theorem rw_int {i:Int} {v:V} (r:RW K ads H (.d (.int i)) v):v=.int i:=by
 have r:RD K ads H (.int i) v:=r
 unfold RD at r;exact r
theorem rw_str {i:Str} {v:V} (r:RW K ads H (.d (.str i)) v):v=.str i:=by
 have r:RD K ads H (.str i) v:=r
 unfold RD at r;exact r
theorem rw_bl {i:Bool} {v:V} (r:RW K ads H (.d (.bl i)) v):v=.bl i:=by
 have r:RD K ads H (.bl i) v:=r
 unfold RD at r;exact r
theorem rw_non {v:V} (r:RW K ads H (.d .non) v):v=.non:=by
 have r:RD K ads H .non v:=r
 unfold RD at r;exact r
theorem rd_int (i:Int):RD K ads H (.int i) (.int i):=by unfold RD;rfl
theorem rd_bl (i:Bool):RD K ads H (.bl i) (.bl i):=by unfold RD;rfl
theorem rd_str (i:Str):RD K ads H (.str i) (.str i):=by unfold RD;rfl
theorem rd_non:RD K ads H .non .non:=by unfold RD;rfl
end
section
variable {X:Cx}
def rBin (K:PySem.W.Frag) (op:BOp):R2:=fun x y H Q=>∃ ads M wx wy,MRel K ads H M/\RW K ads H wx x/\RW K ads H wy y/\OkW K ads H Q (binW op wx wy M)
def opOf:BOp->Operator
 | .add=>.Add | .sub=>.Sub | .mul=>.Mult | .fdiv=>.FloorDiv | .mod=>.Mod | .pow=>.Pow
theorem op_catE:OpR X (binaryOp .Add) (fun x y H Q=>∃ a b ys,x=.ref a/\y=.ref b/\SqT X.K H a []/\SqT X.K H b ys/\Q (.ref b) H):=by
 intro pins s σ H x y v u Q I rx ry h
 obtain ⟨a,b,ys,rfl,rfl,ha,hb,q⟩:=h
 cases rx
 cases ry
 obtain ⟨its,r1,p1,_⟩:=I.tuple ha
 obtain ⟨its2,r2,p2,_⟩:=I.tuple hb
 cases r1
 obtain ⟨⟨cls,dd,data,sl⟩,ho,hc,n,hd⟩:=id p1
 obtain ⟨⟨cls2,dd2,data2,sl2⟩,ho2,hc2,n2,hd2⟩:=id p2
 simp only at hc hd hc2 hd2
 subst hc hd hc2 hd2
 exact concat_meets ⟨_,ho,rfl⟩ ⟨_,ho2,rfl⟩ noFill_tuple_add seq_tuple_add PySem.F.slot_tuple_add PySem.F.entry_tuple_add (PySem.F.args_tuple_add_2 _ _)
  (tuple_addW0 a b _ its2.toArray n n2 dd dd2 sl sl2 rfl) ⟨ho,ho2,⟨.ref b,H,I,rfl,q⟩⟩
theorem RDs.rep {K:PySem.W.Frag} {ads:List Addr} {H:Hp} {ds:List D} {vs:List V} (r:RDs K ads H ds vs):∀ k:Nat,RDs K ads H (List.replicate k ds).flatten (List.replicate k vs).flatten
 | 0=>by simp;unfold RDs;rfl
 | k+1=>by simp only [List.replicate_succ,List.flatten_cons];exact r.app (RDs.rep r k)
theorem op_bin (op:BOp):OpR X (binaryOp (opOf op)) (rBin X.K op):=by
 intro pins s σ H x y v u Q I rx ry h
 obtain ⟨ads,M,wx,wy,m,r1,r2,h⟩:=h
 have listy:∀ {op},op=BOp.add->OkW X.K ads H Q (match lstW M wx,lstW M wy with
  | some xs,some ys=>if xs.length+ys.length<=sizeLine then .ok (.lv (xs++ys)) M else .stuck
  | _,_=>.stuck)->wpAny (model X.prog X.w) X.A (binaryOp (opOf op) v u) (EP X pins σ Q) X.xe s:=by
  intro op e h
  subst e
  cases q1:lstW M wx with
  | none=>rw [q1] at h;exact h.elim
  | some xs =>
   cases q2:lstW M wy with
   | none=>rw [q1,q2] at h;exact h.elim
   | some ys =>
    rw [q1,q2] at h
    dsimp only at h
    split at h
    ·rename_i hz
     obtain ⟨a,vs,e1,ra,ha⟩:=lst_ok m r1 q1
     obtain ⟨b,ws,e2,rb,hb⟩:=lst_ok m r2 q2
     subst e1 e2
     refine op_cat pins s σ H _ _ v u Q I rx ry ⟨a,b,vs,ws,rfl,rfl,ha,hb,by rw [<- ra.len,<- rb.len];exact hz,fun p hp=>h.list m (ra.app rb) hp⟩
    ·exact h.elim
 unfold binW at h
 split at h
 ·rw [rw_int r1] at rx;rw [rw_int r2] at ry
  exact op_add pins s σ H _ _ v u Q I rx ry ⟨_,_,rfl,rfl,h.plain m (rd_int _)⟩
 ·rw [rw_int r1] at rx;rw [rw_int r2] at ry
  exact op_sub pins s σ H _ _ v u Q I rx ry ⟨_,_,rfl,rfl,h.plain m (rd_int _)⟩
 ·rw [rw_int r1] at rx;rw [rw_int r2] at ry
  split at h
  ·rename_i hc
   exact op_mul pins s σ H _ _ v u Q I rx ry ⟨_,_,rfl,rfl,hc,h.plain m (rd_int _)⟩
  ·exact h.elim
 ·rw [rw_int r1] at rx;rw [rw_int r2] at ry
  split at h
  ·rename_i hc
   exact op_fdiv pins s σ H _ _ v u Q I rx ry ⟨_,_,rfl,rfl,hc,h.plain m (rd_int _)⟩
  ·exact h.elim
 ·rw [rw_int r1] at rx;rw [rw_int r2] at ry
  split at h
  ·rename_i hc
   exact op_mod pins s σ H _ _ v u Q I rx ry ⟨_,_,rfl,rfl,hc,h.plain m (rd_int _)⟩
  ·exact h.elim
 ·rw [rw_int r1] at rx;rw [rw_int r2] at ry
  split at h
  ·rename_i hc
   exact op_pow pins s σ H _ _ v u Q I rx ry ⟨_,_,rfl,rfl,hc,h.plain m (rd_int _)⟩
  ·exact h.elim
 ·rename_i xs ys
  split at h
  ·rename_i hc
   have r1:RD X.K ads H (.tup xs) x:=r1
   have r2:RD X.K ads H (.tup ys) y:=r2
   unfold RD at r1 r2
   obtain ⟨a,vs,e1,ha,ra⟩:=r1
   obtain ⟨b,ws,e2,hb,rb⟩:=r2
   subst e1 e2
   by_cases hx0:vs=[]
   ·have ex:xs=[]:=List.eq_nil_of_length_eq_zero (by rw [ra.len,hx0];rfl)
    subst ex hx0
    refine op_catE pins s σ H _ _ v u Q I rx ry ⟨a,b,ws,rfl,rfl,SqT.of ha,SqT.of hb,OkW.plain (x:=.tup ys) h m ?_⟩
    unfold RD
    exact ⟨b,ws,rfl,hb,rb⟩
   refine op_catT pins s σ H _ _ v u Q I rx ry ⟨a,b,vs,ws,rfl,rfl,SqT.of ha,SqT.of hb,hx0,by rw [<- ra.len,<- rb.len];exact hc,fun z=>?_,fun _ p hp=>h.tuple m (ra.app rb) hp⟩
   have ey:ys=[]:=List.eq_nil_of_length_eq_zero (by rw [rb.len,z];rfl)
   subst ey
   rw [List.append_nil] at h
   refine h.plain m ?_
   unfold RD
   exact ⟨a,vs,rfl,ha,ra⟩
  ·exact h.elim
 ·exact listy rfl h
 ·rename_i k _
  cases q1:lstW M wx with
  | none=>rw [q1] at h;exact h.elim
  | some xs =>
   rw [q1] at h
   dsimp only at h
   split at h
   ·rename_i hz
    obtain ⟨a,vs,e1,ra,ha⟩:=lst_ok m r1 q1
    subst e1
    rw [rw_int r2] at ry
    refine op_rep pins s σ H _ _ v u Q I rx ry ⟨a,k,vs,rfl,rfl,ha,hz.1,hz.2.1,by rw [<- ra.len];exact hz.2.2,fun p hp=>h.list m (RDs.rep ra k.toNat) hp⟩
   ·exact h.elim
 ·exact h.elim
end
section
variable {X:Cx} {pins:List (Addr×Obj)} {σ:L2.St} {H:Hp} {s:Shared} {ads:List Addr} {M:Mem}
theorem reads_all (I : Inv X pins σ H s) (n : Nat) (hA : ∀ d v u p, RD X.K ads H d v -> RelV v u -> pyD M n d = some p -> ∃ as, Reads s.heap u p as) :
    ∀ (ds:List D) (vs:List V) (us:List Value) (ps:List PyData),RDs X.K ads H ds vs->Vals vs us->pyDs M n ds=some ps->∃ as,ReadsAll s.heap us ps as
  | [],vs,us,ps,r,rv,e=>by
    unfold RDs at r
    subst r
    cases rv
    unfold pyDs at e
    cases e
    exact ⟨[],.nil⟩
  | d::ds,vs,us,ps,r,rv,e=>by
    unfold RDs at r
    obtain ⟨x,r',rfl,h1,h2⟩:=r
    cases rv with
    | cons rx rr =>
      unfold pyDs at e
      cases q1:pyD M n d with
      | none=>rw [q1] at e;cases e
      | some p =>
        cases q2:pyDs M n ds with
        | none=>rw [q1,q2] at e;cases e
        | some qs =>
          rw [q1,q2] at e
          cases e
          obtain ⟨as,k1⟩:=hA d x _ p h1 rx q1
          obtain ⟨bs,k2⟩:=reads_all I n hA ds r' _ qs h2 rr q2
          exact ⟨as++bs,.cons k1 k2⟩
theorem reads_d (I:Inv X pins σ H s) (m:MRel X.K ads H M):∀ (n:Nat) (d:D) (v:V) (u:Value) (p:PyData),RD X.K ads H d v->RelV v u->pyD M n d=some p->∃ as,Reads s.heap u p as:=by
 intro n
 induction n with
 | zero =>
  intro d v u p r rv e
  cases d with
  | non=>unfold RD at r;subst r;cases rv;unfold pyD at e;cases e;exact ⟨_,.none⟩
  | bl b=>unfold RD at r;subst r;cases rv;unfold pyD at e;cases e;exact ⟨_,.bool _⟩
  | int b=>unfold RD at r;subst r;obtain ⟨t,rfl⟩:=rv;unfold pyD at e;cases e;exact ⟨_,.int _ _⟩
  | str b=>unfold RD at r;subst r;obtain ⟨t,rfl⟩:=rv;unfold pyD at e;cases e;exact ⟨_,.str _ _⟩
  | tup _=>unfold pyD at e;cases e
  | adr _=>unfold pyD at e;cases e
  | ls _=>unfold pyD at e;cases e
 | succ n ih =>
  intro d v u p r rv e
  cases d with
  | non=>unfold RD at r;subst r;cases rv;unfold pyD at e;cases e;exact ⟨_,.none⟩
  | bl b=>unfold RD at r;subst r;cases rv;unfold pyD at e;cases e;exact ⟨_,.bool _⟩
  | int b=>unfold RD at r;subst r;obtain ⟨t,rfl⟩:=rv;unfold pyD at e;cases e;exact ⟨_,.int _ _⟩
  | str b=>unfold RD at r;subst r;obtain ⟨t,rfl⟩:=rv;unfold pyD at e;cases e;exact ⟨_,.str _ _⟩
  | tup ds =>
   unfold RD at r
   obtain ⟨a,xs,rfl,hs,r⟩:=r
   cases rv
   unfold pyD at e
   cases q:pyDs M n ds with
   | none=>rw [q] at e;cases e
   | some ps =>
    rw [q] at e;cases e
    obtain ⟨its,rv,⟨o,h1,h2,k,h3⟩,_⟩:=I.tuple (SqT.of (K:=X.K) hs)
    obtain ⟨as,ra⟩:=reads_all I n ih ds xs its ps r rv q
    exact ⟨as,.tuple h1 h2 h3 (by simpa using ra)⟩
  | ls ds =>
   unfold RD at r
   obtain ⟨a,xs,rfl,hs,r⟩:=r
   cases rv
   unfold pyD at e
   cases q:pyDs M n ds with
   | none=>rw [q] at e;cases e
   | some ps =>
    rw [q] at e;cases e
    obtain ⟨its,rv,⟨o,kk,h1,h2,h3,h4⟩,_⟩:=I.list hs.sq
    obtain ⟨as,ra⟩:=reads_all I n ih ds xs its ps r rv q
    exact ⟨a::as,.list h1 h2 h4 (by simpa using ra)⟩
  | adr k =>
   unfold RD at r
   obtain ⟨a,rfl,ea⟩:=r
   cases rv
   unfold pyD at e
   have lst:∀ ds,SqL X.K H a ds->∀ es,RDs X.K ads H es ds->(pyDs M n es).map PyData.list=some p->∃ as,Reads s.heap (.ref a) p as:=by
    intro xs hs es r e
    cases q:pyDs M n es with
    | none=>rw [q] at e;cases e
    | some ps =>
     rw [q] at e;cases e
     obtain ⟨its,rv,⟨o,kk,h1,h2,h3,h4⟩,_⟩:=I.list hs
     obtain ⟨as,ra⟩:=reads_all I n ih es xs its ps r rv q
     exact ⟨a::as,.list h1 h2 h4 (by simpa using ra)⟩
   cases q:M[k]? with
   | none=>rw [q] at e;cases e
   | some o =>
    rw [q] at e
    have ho:=m.obj k o a q ea
    cases o with
    | lst es=>obtain ⟨xs,h,r⟩:=ho;exact lst xs (SqL.of h) es r e
    | scr es=>obtain ⟨o,xs,h,r⟩:=ho;exact lst xs (.inl (.inr ⟨o,h⟩)) es r e
    | dK _=>cases e
    | dT _=>cases e
theorem reads_w (I:Inv X pins σ H s) (m:MRel X.K ads H M) {w:W} {v:V} {u:Value} {p:PyData} (r:RW X.K ads H w v) (rv:RelV v u) (e:pyW M w=some p):∃ as,Reads s.heap u p as:=by
 cases w with
 | d x=>exact reads_d I m 30 x v u p r rv e
 | lv ds =>
  obtain ⟨a,xs,rfl,h,n,r⟩:=r
  cases rv
  have e:(pyDs M 30 ds).map PyData.list=some p:=e
  cases q:pyDs M 30 ds with
  | none=>rw [q] at e;cases e
  | some ps =>
   rw [q] at e;cases e
   obtain ⟨its,rv,⟨o,kk,h1,h2,h3,h4⟩,_⟩:=I.list (SqL.of (K:=X.K) h)
   obtain ⟨as,ra⟩:=reads_all I 30 (reads_d I m 30) ds xs its ps r rv q
   exact ⟨a::as,.list h1 h2 h4 (by simpa using ra)⟩
end
section
variable {K:PySem.W.Frag} {ads:List Addr} {H:Hp}
theorem RKs.find {κ:Type} [DecidableEq κ] {k:κ}:∀ {kvs:List (κ×D)} {ks:List (κ×V)} {d:D},RKs K ads H kvs ks->(kvs.find? fun p=>decide (p.1=k)).map (·.2)=some d->∃ v,valV ks k=some v/\RD K ads H d v
 | [],_,_,_,e=>by cases e
 | p::ps,ks,d,r,e=>by
  unfold RKs at r
  obtain ⟨x,r',rfl,h0,h1,h2⟩:=r
  by_cases hk:p.1=k
  ·have e':p.2=d:=by simpa [List.find?_cons,hk] using e
   subst e'
   exact ⟨x.2,valV_pos (h0 ▸ hk),h1⟩
  ·obtain ⟨v,e1,rv⟩:=RKs.find h2 (by simpa [List.find?_cons,hk] using e)
   exact ⟨v,(valV_neg (h0 ▸ hk)).trans e1,rv⟩
theorem RKs.len {κ:Type}:∀ {kvs:List (κ×D)} {ks:List (κ×V)},RKs K ads H kvs ks->kvs.length=ks.length
 | [],_,r=>by unfold RKs at r;subst r;rfl
 | p::ps,ks,r=>by unfold RKs at r;obtain ⟨x,r',rfl,h0,h1,h2⟩:=r;simp [RKs.len h2]
theorem RKs.find0 {κ:Type} [DecidableEq κ] {k:κ}:∀ {kvs:List (κ×D)} {ks:List (κ×V)},RKs K ads H kvs ks->getK kvs k=none->valV ks k=none
 | [],_,r,_=>by unfold RKs at r;subst r;rfl
 | p::ps,ks,r,e=>by
  unfold RKs at r
  obtain ⟨x,r',rfl,h0,h1,h2⟩:=r
  by_cases hk:p.1=k
  ·unfold getK at e
   simp [List.find?_cons,hk] at e
  ·exact (valV_neg (h0 ▸ hk)).trans (RKs.find0 h2 (by unfold getK at e ⊢;simpa [List.find?_cons,hk] using e))
end
section
variable {X:Cx} {pins:List (Addr×Obj)} {σ:L2.St} {H:Hp} {s:Shared} {ads:List Addr} {M:Mem}
theorem dct_ok {w:W} {v:V} {kvs:List (Key×D)} {K:PySem.W.Frag} (m:MRel K ads H M) (r:RW K ads H w v) (e:dctW M w=some kvs):∃ a ks,v=.ref a/\H a=some (.dK ks)/\RKs K ads H kvs ks:=by
 cases w with
 | lv es=>cases e
 | d x =>
  cases x with
  | adr n =>
   have r:RD K ads H (.adr n) v:=r
   unfold RD at r
   obtain ⟨a,ev,ea⟩:=r
   simp only [dctW] at e
   cases q:M[n]? with
   | none=>rw [q] at e;cases e
   | some o =>
    rw [q] at e
    have ho:=m.obj n o a q ea
    cases o with
    | lst es=>cases e
    | scr es=>cases e
    | dK _=>cases e;obtain ⟨ks,h,r⟩:=ho;exact ⟨a,ks,ev,h,r⟩
    | dT _=>cases e
  | tup _=>cases e
  | ls _=>cases e
  | non=>cases e
  | bl _=>cases e
  | int _=>cases e
  | str _=>cases e
theorem key_ok {w:W} {v:V} {k:Key} {K:PySem.W.Frag} (r:RW K ads H w v) (e:keyW w=some k):v=kV k:=by
 cases w with
 | lv es=>cases e
 | d x =>
  cases x with
  | int i=>cases e;exact rw_int r
  | str i=>cases e;exact rw_str r
  | adr _=>cases e
  | tup _=>cases e
  | ls _=>cases e
  | non=>cases e
  | bl _=>cases e
theorem dget_of {K:PySem.W.Frag} {kvs:List (Key×D)} {ks:List (Key×V)} {a:Addr} {k:Key} (ha:H a=some (.dK ks)) (r:RKs K ads H kvs ks):∃ o,DGet H a (kV k) o/\o.isSome=(getK kvs k).isSome:=by
 refine ⟨_,DGet.k (k:=k) ha,?_⟩
 cases q:getK kvs k with
 | none=>rw [r.find0 q];rfl
 | some d=>obtain ⟨v,e,_⟩:=r.find q;rw [e];rfl
theorem hits_ok (I : Inv X pins σ H s) (m : MRel X.K ads H M) (hu : X.A.units + 100 < cLine) {kb : List (Key × D)} {ksb : List (Key × V)} {vsb : List (Key × Value)} (rb : RKs X.K ads H kb ksb) (vb : KV ksb vsb) :
    ∀ {ka:List (Key×D)} {ksa:List (Key×V)} {vsa:List (Key×Value)} {r:Bool},RKs X.K ads H ka ksa->KV ksa vsa->eqKs M kb ka=some r->PySem.W.KeqHits X.A.in1 s vsb vsa r
  | [],ksa,vsa,r,ra,va,e=>by
    unfold RKs at ra
    subst ra
    cases va
    cases e
    exact .nil
  | (k,d)::ka,ksa,vsa,r,ra,va,e=>by
    unfold RKs at ra
    obtain ⟨x,r',rfl,h0,h1,h2⟩:=ra
    obtain ⟨x1,x2⟩:=x
    have h0:k=x1:=h0
    subst h0
    have h1:RD X.K ads H d x2:=h1
    cases va with
    | cons hp hr =>
      rename_i q vr
      obtain ⟨q1,q2⟩:=q
      obtain ⟨e1,e2⟩:=hp
      have e1:k=q1:=e1
      subst e1
      have e2:RelV x2 q2:=e2
      have hv:=vb.val k
      simp only [eqKs] at e
      cases hg:getK kb k with
      | none =>
        rw [hg] at e
        cases e
        rw [rb.find0 hg] at hv
        exact .miss (RelO.none_of hv)
      | some y =>
        rw [hg] at e
        dsimp only at e
        obtain ⟨v',ev',rv'⟩:=rb.find hg
        rw [ev'] at hv
        obtain ⟨u',eu,ru⟩:=RelO.some_of hv
        cases p1:pyD M 30 d with
        | none=>rw [p1] at e;cases e
        | some p =>
          cases p2:pyD M 30 y with
          | none=>rw [p1,p2] at e;cases e
          | some p' =>
            rw [p1,p2] at e
            dsimp only at e
            split at e
            · rename_i hs
              cases hr2:eqKs M kb ka with
              | none=>rw [hr2] at e;cases e
              | some b =>
                rw [hr2] at e
                have e:(PyData.eqv p p' && b)=r:=zql e
                subst e
                obtain ⟨as,rda⟩:=reads_d I m 30 d x2 q2 p h1 e2 p1
                obtain ⟨bs,rdb⟩:=reads_d I m 30 y v' u' p' rv' ru p2
                exact .hit eu (PySem.W.keq_at rda rdb hs.1 hs.2 (by show X.A.units+1+64 < cLine;omega)) (hits_ok I m hu rb vb h2 hr hr2)
            · cases e
end
def cOf:COp->CmpOp
 | .eq=>.Eq | .ne=>.NotEq | .lt=>.Lt | .le=>.LtE | .gt=>.Gt | .ge=>.GtE | .isN=>.Is | .notN=>.IsNot | .isin=>.In | .notin=>.NotIn
def OkC (K:PySem.W.Frag) (ads:List Addr) (H:Hp) (Q:VK):Out Bool->Prop
 | .ok b M=>∀ H' ads',Grow ads ads' H H'->MRel K ads' H' M->Q (.bl b) H'
 | _=>False
def rCmp (K:PySem.W.Frag) (op:COp):R2:=fun x y H Q=>∃ ads M wx wy,MRel K ads H M/\RW K ads H wx x/\RW K ads H wy y/\((op=.isN\/op=.notN)->y=.non)/\OkC K ads H Q (cmpW op wx wy M)
theorem OkC.now {K:PySem.W.Frag} {ads:List Addr} {H:Hp} {Q:VK} {b:Bool} {M:Mem} (h:OkC K ads H Q (.ok b M)) (m:MRel K ads H M):Q (.bl b) H:=h H ads (Grow.refl _ _) m
section
variable {X:Cx}
open Classical in
noncomputable def isEqP (h:Heap) (p:PyData) (y:Value):Bool:=decide (∃ q' cs',Reads h y q' cs'/\PyData.eqv q' p=true)
open Classical in
theorem isEqP_at {h:Heap} {p q:PyData} {y:Value} {cs:List Addr} (ry:Reads h y q cs):isEqP h p y=PyData.eqv q p:=by
 unfold isEqP
 cases hb:PyData.eqv q p with
 | true=>exact decide_eq_true ⟨q,cs,ry,hb⟩
 | false =>
  refine decide_eq_false ?_
  rintro ⟨q',cs',ry',hq'⟩
  obtain ⟨e,_⟩:=PyProof.Rows.reads_det (fun _ _ e _=>e) ry ry'
  rw [<- e,hq'] at hb
  cases hb
theorem eqs_at {s : Shared} {A : Around} {x : Value} {p : PyData} {as : List Addr} (rx : Reads s.heap x p as) (hx : SeqAt.shaped p = true) (hu : A.units + 65 < cLine) :
    ∀ {us:List Value} {qs:List PyData} {bs:List Addr},ReadsAll s.heap us qs bs->qs.all SeqAt.shaped=true->(∀ y∈us,SeqAt.EqAt A.in1 s y x (isEqP s.heap p y))/\us.any (isEqP s.heap p)=inPy p qs
  | _,_,_,.nil,_=>⟨(fun y hy=>by cases hy),rfl⟩
  | _,_,_,.cons (v:=v) (d:=q) ry rr,hq=>by
    rw [List.all_cons,zqf] at hq
    have hq':=hq
    obtain ⟨k1,k2⟩:=eqs_at rx hx hu rr hq'.2
    have e0:=SeqAt.eqAt_reads q p A.in1 s v x _ _ ry rx (SeqAt.canLay_of_shaped hq'.1) (SeqAt.canLay_of_shaped hx) (SeqAt.room_of_shaped hq'.1 (by show A.units+1+64 < cLine;omega))
    rw [<- isEqP_at ry] at e0
    refine ⟨fun y hy=>?_,?_⟩
    · rcases List.mem_cons.mp hy with z | z
      · subst z;exact e0
      · exact k1 y z
    · rw [List.any_cons,k2,isEqP_at ry];rfl
theorem eqs_all {s : Shared} {A : Around} {x : Value} {p : PyData} {as : List Addr} (rx : Reads s.heap x p as) (hx : SeqAt.shaped p = true) (hu : A.units + 65 < cLine)
    {us:List Value} {qs:List PyData} {bs:List Addr} (r:ReadsAll s.heap us qs bs) (hq:qs.all SeqAt.shaped=true):∃ e:Value->Bool,(∀ y∈us,SeqAt.EqAt A.in1 s y x (e y))/\us.any e=inPy p qs :=
  ⟨isEqP s.heap p,eqs_at rx hx hu r hq⟩
theorem op_le_str:OpR X (compareOp .LtE) (fun x y H Q=>∃ i j,x=.str i/\y=.str j/\Q (.bl (!decide (j.cps.toList < i.cps.toList))) H):=by
 intro pins s σ H x y v u Q I rx ry h
 obtain ⟨i,j,rfl,rfl,q⟩:=h
 obtain ⟨t,rfl⟩:=rx
 obtain ⟨t',rfl⟩:=ry
 exact PySem.P.le_str ⟨.bl _,H,I,rfl,q⟩
theorem op_cmp (hu:X.A.units+100 < cLine) (op:COp):OpR X (compareOp (cOf op)) (rCmp X.K op):=by
 intro pins s σ H x y v u Q I rx ry h
 obtain ⟨ads,M,wx,wy,m,r1,r2,hn,h⟩:=h
 unfold cmpW at h
 cases op with
 | eq =>
  dsimp only at h
  have dicty:OkC X.K ads H Q (match dctW M wx,dctW M wy with
   | some ka,some kb=>match eqKs M kb ka with
    | some r=>.ok (ka.length == kb.length && r) M
    | none=>.stuck
   | _,_=>.stuck)->wpAny (model X.prog X.w) X.A (compareOp .Eq v u) (EP X pins σ Q) X.xe s:=by
   intro h
   cases q1:dctW M wx with
   | none=>rw [q1] at h;exact h.elim
   | some ka =>
    cases q2:dctW M wy with
    | none=>rw [q1,q2] at h;exact h.elim
    | some kb =>
     rw [q1,q2] at h
     dsimp only at h
     cases q3:eqKs M kb ka with
     | none=>rw [q3] at h;exact h.elim
     | some r =>
      rw [q3] at h
      dsimp only at h
      obtain ⟨a,ksa,rfl,ha,ra⟩:=dct_ok m r1 q1
      obtain ⟨b,ksb,rfl,hb,rb⟩:=dct_ok m r2 q2
      cases rx
      cases ry
      obtain ⟨za,hda,vsa,va,dda⟩:=dk_of I.hok ha
      obtain ⟨zb,hdb,vsb,vb,ddb⟩:=dk_of I.hok hb
      refine PySem.W.keq_eq hda hdb dda ddb (by omega) (fun _=>hits_ok I m hu rb vb ra va q3) ⟨.bl _,H,I,rfl,?_⟩
      have e1:vsa.length=ka.length:=by rw [<- va.length,ra.len]
      have e2:vsb.length=kb.length:=by rw [<- vb.length,rb.len]
      rw [e1,e2]
      exact h.now m
  cases q1:pyW M wx with
  | none=>rw [q1] at h;exact dicty h
  | some p =>
   cases q2:pyW M wy with
   | none=>rw [q1,q2] at h;exact dicty h
   | some q =>
    rw [q1,q2] at h
    dsimp only at h
    split at h
    ·rename_i hs
     obtain ⟨as,ra⟩:=reads_w I m r1 rx q1
     obtain ⟨bs,rb⟩:=reads_w I m r2 ry q2
     exact SeqAt.compareEq_shaped ra rb hs.1 hs.2 (by omega) ⟨.bl _,H,I,rfl,h.now m⟩
    ·exact h.elim
 | ne =>
  dsimp only at h
  cases q1:pyW M wx with
  | none=>rw [q1] at h;exact h.elim
  | some p =>
   cases q2:pyW M wy with
   | none=>rw [q1,q2] at h;exact h.elim
   | some q =>
    rw [q1,q2] at h
    dsimp only at h
    split at h
    ·rename_i hs
     obtain ⟨as,ra⟩:=reads_w I m r1 rx q1
     obtain ⟨bs,rb⟩:=reads_w I m r2 ry q2
     exact SeqAt.compareNe_shaped ra rb hs.1 hs.2 (by omega) ⟨.bl _,H,I,rfl,h.now m⟩
    ·exact h.elim
 | lt =>
  dsimp only at h
  split at h
  ·rw [rw_int r1] at rx;rw [rw_int r2] at ry
   exact op_lt pins s σ H _ _ v u Q I rx ry ⟨_,_,rfl,rfl,h.now m⟩
  ·rw [rw_str r1] at rx;rw [rw_str r2] at ry
   exact op_lt_str pins s σ H _ _ v u Q I rx ry ⟨_,_,rfl,rfl,h.now m⟩
  ·exact h.elim
 | le =>
  dsimp only at h
  split at h
  ·rw [rw_int r1] at rx;rw [rw_int r2] at ry
   exact op_le pins s σ H _ _ v u Q I rx ry ⟨_,_,rfl,rfl,h.now m⟩
  ·rw [rw_str r1] at rx;rw [rw_str r2] at ry
   exact op_le_str pins s σ H _ _ v u Q I rx ry ⟨_,_,rfl,rfl,h.now m⟩
  ·exact h.elim
 | gt =>
  dsimp only at h
  split at h
  ·rw [rw_int r1] at rx;rw [rw_int r2] at ry
   exact op_gt pins s σ H _ _ v u Q I rx ry ⟨_,_,rfl,rfl,h.now m⟩
  ·exact h.elim
 | ge =>
  dsimp only at h
  split at h
  ·rw [rw_int r1] at rx;rw [rw_int r2] at ry
   exact op_ge pins s σ H _ _ v u Q I rx ry ⟨_,_,rfl,rfl,h.now m⟩
  ·exact h.elim
 | isN =>
  have e:=hn (.inl rfl)
  have hx:∀ b,cmpW .isN wx wy M=.ok b M->b=decide (x=.non):=by
   intro b e
   unfold cmpW at e
   dsimp only at e
   split at e
   ·cases e;rw [rw_non r1];rfl
   ·rename_i hne
    cases e
    refine (decide_eq_false ?_).symm
    intro z
    subst z
    cases wx with
    | lv ds=>obtain ⟨a,xs,e,_⟩:=r1;cases e
    | d z=>cases z with
     | non=>exact hne rfl
     | bl b=>have:=rw_bl r1;cases this
     | int b=>have:=rw_int r1;cases this
     | str b=>have:=rw_str r1;cases this
     | tup b=>have r1:RD X.K ads H (.tup b) .non:=r1;unfold RD at r1;obtain ⟨a,xs,e,_⟩:=r1;cases e
     | adr b=>have r1:RD X.K ads H (.adr b) .non:=r1;unfold RD at r1;obtain ⟨a,e,_⟩:=r1;cases e
     | ls b=>have r1:RD X.K ads H (.ls b) .non:=r1;unfold RD at r1;obtain ⟨a,xs,e,_⟩:=r1;cases e
  subst e
  have:∃ b,cmpW .isN wx wy M=.ok b M:=by unfold cmpW;dsimp only;split <;> exact ⟨_,rfl⟩
  obtain ⟨b,hb⟩:=this
  have h:OkC X.K ads H Q (cmpW .isN wx wy M):=h
  rw [hb] at h
  refine op_isN pins s σ H _ _ v u Q I rx ry ⟨rfl,?_⟩
  rw [<- hx b hb]
  exact h.now m
 | notN =>
  have e:=hn (.inr rfl)
  have hx:∀ b,cmpW .notN wx wy M=.ok b M->b=!decide (x=.non):=by
   intro b e
   unfold cmpW at e
   dsimp only at e
   split at e
   ·cases e;rw [rw_non r1];rfl
   ·rename_i hne
    cases e
    have:decide (x=.non)=false:=by
     refine decide_eq_false ?_
     intro z
     subst z
     cases wx with
     | lv ds=>obtain ⟨a,xs,e,_⟩:=r1;cases e
     | d z=>cases z with
      | non=>exact hne rfl
      | bl b=>have:=rw_bl r1;cases this
      | int b=>have:=rw_int r1;cases this
      | str b=>have:=rw_str r1;cases this
      | tup b=>have r1:RD X.K ads H (.tup b) .non:=r1;unfold RD at r1;obtain ⟨a,xs,e,_⟩:=r1;cases e
      | adr b=>have r1:RD X.K ads H (.adr b) .non:=r1;unfold RD at r1;obtain ⟨a,e,_⟩:=r1;cases e
      | ls b=>have r1:RD X.K ads H (.ls b) .non:=r1;unfold RD at r1;obtain ⟨a,xs,e,_⟩:=r1;cases e
    rw [this];rfl
  subst e
  have:∃ b,cmpW .notN wx wy M=.ok b M:=by unfold cmpW;dsimp only;split <;> exact ⟨_,rfl⟩
  obtain ⟨b,hb⟩:=this
  have h:OkC X.K ads H Q (cmpW .notN wx wy M):=h
  rw [hb] at h
  refine op_notN pins s σ H _ _ v u Q I rx ry ⟨rfl,?_⟩
  rw [<- hx b hb]
  exact h.now m
 | isin =>
  dsimp only at h
  cases q2:seqW M wy with
  | none =>
   rw [q2] at h
   have h:OkC X.K ads H Q (match keyW wx,dctW M wy with
    | some k,some kvs=>.ok ((getK kvs k).isSome) M
    | _,_=>.stuck):=by cases hp:pyW M wx <;> rw [hp] at h <;> exact h
   cases q3:keyW wx with
   | none=>rw [q3] at h;exact h.elim
   | some k =>
    cases q4:dctW M wy with
    | none=>rw [q3,q4] at h;exact h.elim
    | some kvs =>
     rw [q3,q4] at h
     have ek:=key_ok r1 q3
     subst ek
     obtain ⟨a,ks,rfl,ha,ra⟩:=dct_ok m r2 q4
     cases ry
     obtain ⟨o,g,eo⟩:=dget_of (k:=k) ha ra
     refine d_in (by omega) I g rx fun s' I'=>⟨.bl _,H,I',rfl,?_⟩
     rw [eo]
     exact h.now m
  | some lds =>
   cases q1:pyW M wx with
   | none=>rw [q1,q2] at h;exact h.elim
   | some p =>
    obtain ⟨l,ds⟩:=lds
    rw [q1,q2] at h
    dsimp only at h
    cases q3:pyDs M 30 ds with
    | none=>rw [q3] at h;exact h.elim
    | some qs =>
     rw [q3] at h
     dsimp only at h
     split at h
     ·rename_i hs
      obtain ⟨as,ra⟩:=reads_w I m r1 rx q1
      obtain ⟨a,xs,ea,rd,sq⟩:=seq_ok m r2 q2
      subst ea
      cases ry
      rcases sq with ⟨_,sq⟩|⟨_,sq⟩
      ·obtain ⟨its,rv,pl,_⟩:=I.list sq
       obtain ⟨bs,rb⟩:=reads_all I 30 (reads_d I m 30) ds xs its qs rd rv q3
       obtain ⟨e,he,hany⟩:=eqs_all (A:=X.A) ra hs.1 (by omega) rb hs.2
       refine SeqAt.in_listAt e pl.isList (fun y hy=>he y (by simpa using hy)) ⟨.bl _,H,I,rfl,?_⟩
       have:its.toArray.any e=inPy p qs:=by rw [<- hany];simp
       rw [this];exact h.now m
      ·obtain ⟨its,rv,pl,_⟩:=I.tuple sq
       obtain ⟨bs,rb⟩:=reads_all I 30 (reads_d I m 30) ds xs its qs rd rv q3
       obtain ⟨e,he,hany⟩:=eqs_all (A:=X.A) ra hs.1 (by omega) rb hs.2
       refine SeqAt.in_tupleAt e (show s.heap.IsTuple a its.toArray from pl) (fun y hy=>he y (by simpa using hy)) ⟨.bl _,H,I,rfl,?_⟩
       have:its.toArray.any e=inPy p qs:=by rw [<- hany];simp
       rw [this];exact h.now m
     ·exact h.elim
 | notin =>
  dsimp only at h
  cases q2:seqW M wy with
  | none =>
   rw [q2] at h
   have h:OkC X.K ads H Q (match keyW wx,dctW M wy with
    | some k,some kvs=>.ok (!(getK kvs k).isSome) M
    | _,_=>.stuck):=by cases hp:pyW M wx <;> rw [hp] at h <;> exact h
   cases q3:keyW wx with
   | none=>rw [q3] at h;exact h.elim
   | some k =>
    cases q4:dctW M wy with
    | none=>rw [q3,q4] at h;exact h.elim
    | some kvs =>
     rw [q3,q4] at h
     have ek:=key_ok r1 q3
     subst ek
     obtain ⟨a,ks,rfl,ha,ra⟩:=dct_ok m r2 q4
     cases ry
     obtain ⟨o,g,eo⟩:=dget_of (k:=k) ha ra
     refine d_notIn (by omega) I g rx fun s' I'=>⟨.bl _,H,I',rfl,?_⟩
     rw [eo]
     exact h.now m
  | some lds =>
   cases q1:pyW M wx with
   | none=>rw [q1,q2] at h;exact h.elim
   | some p =>
    obtain ⟨l,ds⟩:=lds
    rw [q1,q2] at h
    dsimp only at h
    cases q3:pyDs M 30 ds with
    | none=>rw [q3] at h;exact h.elim
    | some qs =>
     rw [q3] at h
     dsimp only at h
     split at h
     ·rename_i hs
      obtain ⟨as,ra⟩:=reads_w I m r1 rx q1
      obtain ⟨a,xs,ea,rd,sq⟩:=seq_ok m r2 q2
      subst ea
      cases ry
      rcases sq with ⟨_,sq⟩|⟨_,sq⟩
      ·obtain ⟨its,rv,pl,_⟩:=I.list sq
       obtain ⟨bs,rb⟩:=reads_all I 30 (reads_d I m 30) ds xs its qs rd rv q3
       obtain ⟨e,he,hany⟩:=eqs_all (A:=X.A) ra hs.1 (by omega) rb hs.2
       refine SeqAt.notIn_listAt e pl.isList (fun y hy=>he y (by simpa using hy)) ⟨.bl _,H,I,rfl,?_⟩
       have:its.toArray.any e=inPy p qs:=by rw [<- hany];simp
       rw [this];exact h.now m
      ·obtain ⟨its,rv,pl,_⟩:=I.tuple sq
       obtain ⟨bs,rb⟩:=reads_all I 30 (reads_d I m 30) ds xs its qs rd rv q3
       obtain ⟨e,he,hany⟩:=eqs_all (A:=X.A) ra hs.1 (by omega) rb hs.2
       refine SeqAt.notIn_tupleAt e (show s.heap.IsTuple a its.toArray from pl) (fun y hy=>he y (by simpa using hy)) ⟨.bl _,H,I,rfl,?_⟩
       have:its.toArray.any e=inPy p qs:=by rw [<- hany];simp
       rw [this];exact h.now m
     ·exact h.elim
end
section
variable {K:PySem.W.Frag} {ads:List Addr} {H:Hp} {M:Mem}
theorem tru_w {w:W} {v:V} {k:Bool} (m:MRel K ads H M) (r:RW K ads H w v) (e:truW M w=some k):TruV K v H k:=by
 have seq:∀ w,RW K ads H w v->((seqW M w).map fun p=>!p.2.isEmpty)=some k->TruV K v H k:=by
  intro w r e
  cases q:seqW M w with
  | none=>rw [q] at e;cases e
  | some p =>
   obtain ⟨l,ds⟩:=p
   rw [q] at e
   have e:(!ds.isEmpty)=k:=zql e
   obtain ⟨a,xs,rfl,rd,sq⟩:=seq_ok m r q
   have hl:=rd.len
   have ex:k=!xs.isEmpty:=by
    rw [<- e]
    cases ds <;> cases xs <;> simp_all
   rcases sq with ⟨_,sq⟩|⟨_,sq⟩
   ·exact .inl ⟨xs,sq,ex⟩
   ·exact .inr (.inl ⟨xs,sq,ex⟩)
 cases w with
 | lv ds=>exact seq _ r e
 | d x =>
  cases x with
  | non=>rw [rw_non r];exact (zql e).symm
  | bl b=>rw [rw_bl r];exact (zql e).symm
  | int i=>rw [rw_int r];exact (zql e).symm
  | str s=>exact seq _ r e
  | tup ds=>exact seq _ r e
  | adr n=>exact seq _ r e
  | ls n=>exact seq _ r e
theorem RDs.atI {ds:List D} {xs:List V} {i:Int} {d:D} (r:RDs K ads H ds xs) (e:L2.atI ds i=some d):∃ v,L2.atI xs i=some v/\RD K ads H d v:=by
 unfold L2.atI at e ⊢
 rw [<- r.len]
 cases q:ixN ds.length i with
 | none=>rw [q] at e;cases e
 | some j=>rw [q] at e;exact r.get e
theorem RDs.cut {ds:List D} {xs:List V} {lo hi:Option Int} (r:RDs K ads H ds xs):RDs K ads H (cutD ds lo hi) (cutV xs lo hi):=by
 unfold cutD cutV
 rw [<- r.len]
 exact (r.drop _).take _
theorem RKs.any {κ:Type} [DecidableEq κ] {k:κ}:∀ {kvs:List (κ×D)} {ks:List (κ×V)},RKs K ads H kvs ks->(kvs.any fun kv=>decide (kv.1=k))=(ks.any fun kv=>decide (kv.1=k))
 | [],_,r=>by unfold RKs at r;subst r;rfl
 | p::ps,ks,r=>by unfold RKs at r;obtain ⟨x,r',rfl,h0,h1,h2⟩:=r;simp [RKs.any h2,h0]
theorem RKs.map {κ : Type} [DecidableEq κ] {k : κ} {d : D} {v : V} (rd : RD K ads H d v) : ∀ {kvs : List (κ × D)} {ks : List (κ × V)}, RKs K ads H kvs ks ->
    RKs K ads H (kvs.map fun kv=>if kv.1=k then (kv.1,d) else kv) (ks.map fun kv=>if kv.1=k then (kv.1,v) else kv)
  | [],_,r=>by unfold RKs at r;subst r;simp;unfold RKs;rfl
  | p::ps,ks,r=>by
    unfold RKs at r
    obtain ⟨x,r',rfl,h0,h1,h2⟩:=r
    simp only [List.map_cons]
    unfold RKs
    refine ⟨_,_,rfl,?_,?_,RKs.map rd h2⟩
    · rw [h0];split <;> first | rfl | exact h0
    · rw [h0];split <;> first | exact rd | exact h1
theorem RKs.app {κ:Type}:∀ {kvs es:List (κ×D)} {ks fs:List (κ×V)},RKs K ads H kvs ks->RKs K ads H es fs->RKs K ads H (kvs++es) (ks++fs)
 | [],_,_,_,r,q=>by unfold RKs at r;subst r;exact q
 | p::ps,es,ks,fs,r,q=>by
  unfold RKs at r
  obtain ⟨x,r',rfl,h0,h1,h2⟩:=r
  show RKs K ads H (p::(ps++es)) (x::(r'++fs))
  unfold RKs;exact ⟨x,_,rfl,h0,h1,RKs.app h2 q⟩
theorem RKs.put {κ:Type} [DecidableEq κ] {k:κ} {d:D} {v:V} {kvs:List (κ×D)} {ks:List (κ×V)} (r:RKs K ads H kvs ks) (rd:RD K ads H d v):RKs K ads H (putD kvs k d) (putK ks k v):=by
 unfold putD putK
 rw [r.any (k:=k)]
 split
 ·exact RKs.map rd r
 ·refine r.app ?_
  unfold RKs
  exact ⟨_,[],rfl,rfl,rd,by unfold RKs;rfl⟩
end
section
variable {X:Cx} {M':Mem}
def rSub (K:PySem.W.Frag):R2:=fun x y H Q=>∃ ads M wx wy,MRel K ads H M/\RW K ads H wx x/\RW K ads H wy y/\OkW K ads H Q (subW wx wy M)
theorem ix_sub (hu:X.A.units+1 < cLine):IxR X (rSub X.K):=by
 intro value slice pins s σ H x y v u Q I rx ry h hs
 obtain ⟨ads,M,wx,wy,m,r1,r2,h⟩:=h
 unfold subW at h
 split at h
 ·rename_i i
  have ey:=rw_int r2
  subst ey
  cases q:seqW M wx with
  | some p =>
   obtain ⟨l,ds⟩:=p
   rw [q] at h
   dsimp only at h
   cases q2:ixD ds i with
   | none=>rw [q2] at h;exact h.elim
   | some d =>
    rw [q2] at h
    obtain ⟨a,xs,rfl,rd,sq⟩:=seq_ok m r1 q
    obtain ⟨z,e2,rz⟩:=rd.atI q2
    rcases sq with ⟨_,sq⟩|⟨_,sq⟩
    ·exact ix_list value slice pins s σ H _ _ v u Q I rx ry ⟨a,xs,i,z,rfl,rfl,sq,e2,h.plain m rz⟩ hs
    ·exact ix_tup value slice pins s σ H _ _ v u Q I rx ry ⟨a,xs,i,z,rfl,rfl,sq,e2,h.plain m rz⟩ hs
  | none =>
   rw [q] at h
   dsimp only at h
   split at h
   ·split at h
    ·rename_i z hz
     have ex:=rw_str r1
     subst ex
     cases q2:L2.atI z.cps.toList i with
     | none=>rw [q2] at h;exact h.elim
     | some c =>
      rw [q2] at h
      exact ix_str value slice pins s σ H _ _ v u Q I rx ry ⟨_,i,c,rfl,rfl,hz,q2,h.plain m (rd_str _)⟩ hs
    ·exact h.elim
   ·rename_i n
    have r1:RD X.K ads H (.adr n) x:=r1
    unfold RD at r1
    obtain ⟨a,rfl,ea⟩:=r1
    split at h
    ·rename_i kvs q
     obtain ⟨ks,hk,rk⟩:=m.obj n _ a q ea
     split at h
     ·rename_i d q2
      obtain ⟨z,e2,rz⟩:=rk.find (k:=Sum.inl i) q2
      cases rx
      have g:DGet H a (kV (Sum.inl i)) (some z):=by have:=DGet.k (k:=Sum.inl i) hk;rw [e2] at this;exact this
      exact tail_any (dict_typeIs I g) F.slot_dict_getitem.lookup (d_getItem hu I g ry fun w' s' I' rw'=>⟨z,H,I',rw',h.plain m rz⟩) hs
     ·exact h.elim
    ·exact h.elim
   ·exact h.elim
 ·rename_i k
  have ey:=rw_str r2
  subst ey
  split at h
  ·rename_i n
   have r1:RD X.K ads H (.adr n) x:=r1
   unfold RD at r1
   obtain ⟨a,rfl,ea⟩:=r1
   split at h
   ·rename_i kvs q
    obtain ⟨ks,hk,rk⟩:=m.obj n _ a q ea
    split at h
    ·rename_i d q2
     obtain ⟨z,e2,rz⟩:=rk.find (k:=Sum.inr k) q2
     cases rx
     have g:DGet H a (kV (Sum.inr k)) (some z):=by have:=DGet.k (k:=Sum.inr k) hk;rw [e2] at this;exact this
     exact tail_any (dict_typeIs I g) F.slot_dict_getitem.lookup (d_getItem hu I g ry fun w' s' I' rw'=>⟨z,H,I',rw',h.plain m rz⟩) hs
    ·exact h.elim
   ·exact h.elim
  ·exact h.elim
 ·exact h.elim
def rSlc (K:PySem.W.Frag):V->Option Int->Option Int->Hp->VK->Prop:=fun x lo hi H Q=>∃ ads M wx,MRel K ads H M/\RW K ads H wx x/\OkW K ads H Q (slcW wx lo hi M)
theorem sl_slc:SlR X (rSlc X.K):=by
 intro pins s σ H x v vl vu lo hi sl Q I rx hs pl pu h
 obtain ⟨ads,M,wx,m,r1,h⟩:=h
 unfold slcW at h
 split at h
 ·rename_i ds q
  obtain ⟨a,xs,rfl,rd,sq⟩:=seq_ok m r1 q
  rcases sq with ⟨_,sq⟩|⟨e,_⟩
  ·exact sl_list pins s σ H _ v vl vu lo hi sl Q I rx hs pl pu ⟨a,xs,rfl,sq,fun p hp=>h.list m rd.cut hp⟩
  ·cases e
 ·rename_i ds q
  obtain ⟨a,xs,rfl,rd,sq⟩:=seq_ok m r1 q
  rcases sq with ⟨e,_⟩|⟨_,sq⟩
  ·cases e
  ·split at h
   ·exact h.elim
   ·rename_i hw
    refine sl_tup pins s σ H _ v vl vu lo hi sl Q I rx hs pl pu ⟨a,xs,rfl,sq,by rw [<- rd.len];exact hw,fun p hp=>h.tuple m rd.cut hp⟩
 ·exact h.elim
theorem OkW.dnew {K:PySem.W.Frag} {ads:List Addr} {H:Hp} {Q:VK} {M:Mem} {kvs:List (Key×D)} {ks:List (Key×V)} {p:Addr} (q:OkW K ads H Q (.ok (.d (.adr M.length)) (M++[.dK kvs]))) (m:MRel K ads H M) (hp:H p=none) (r:RKs K ads H kvs ks):Q (.ref p) (upd H p (.dK ks)):=by
 have pn:=m.fresh hp
 have g0:Grow ads ads H (upd H p (.dK ks)):=Grow.new1 m hp
 have m1:MRel K ads (upd H p (.dK ks)) M:=m.new1 hp
 have m2:=m1.push (o:=.dK kvs) pn ⟨_,upd_same,g0.rks _ _ r⟩
 refine q (.ref p) _ (ads++[p]) ⟨⟨[p],rfl⟩,fun b hb nb=>?_,g0.kept,g0.tups,g0.frz⟩ m2 ?_
 ·rcases zqr.mp hb with z | z
  ·exact absurd z nb
  ·have:b=p:=by simpa using z
   subst this;exact hp
 ·show RD K (ads++[p]) (upd H p (.dK ks)) (.adr M.length) (.ref p)
  unfold RD
  exact ⟨p,rfl,by rw [List.getElem?_append_right (by rw [m.len];exact zqg _)];simp [m.len]⟩
def RWs (K:PySem.W.Frag) (ads:List Addr) (H:Hp):List W->List V->Prop
 | [],vs=>vs=[]
 | w::ws,vs=>∃ v r,vs=v::r/\RW K ads H w v/\RWs K ads H ws r
def rBi (K:PySem.W.Frag) (b:Bi):List V->Hp->VK->Prop:=fun vs H Q=>∃ ads M ws,MRel K ads H M/\RWs K ads H ws vs/\OkW K ads H Q (biW b ws M)
theorem RWs.one {K:PySem.W.Frag} {ads:List Addr} {H:Hp} {w:W} {vs:List V} (r:RWs K ads H [w] vs):∃ v,vs=[v]/\RW K ads H w v:=by
 obtain ⟨v,r,rfl,h,h2⟩:=r
 have h2:r=[]:=h2
 subst h2
 exact ⟨v,rfl,h⟩
theorem RWs.two {K:PySem.W.Frag} {ads:List Addr} {H:Hp} {w w2:W} {vs:List V} (r:RWs K ads H [w,w2] vs):∃ v v2,vs=[v,v2]/\RW K ads H w v/\RW K ads H w2 v2:=by
 obtain ⟨v,r,rfl,h,h2⟩:=r
 obtain ⟨v2,rfl,h3⟩:=RWs.one h2
 exact ⟨v,v2,rfl,h,h3⟩
theorem putKs_take (ps:List (Key×Value)):∀ n,n<=ps.length->putKs (fun i=>ps.getD i (Sum.inl 0,.none)) n=(ps.take n).foldl (fun acc p=>stored acc p.1 p.2) []
 | 0,_=>by simp [putKs]
 | n+1,h=>by
  have hn:n < ps.length:=h
  rw [List.take_add_one,zqb hn,Option.toList_some,List.foldl_append,<- putKs_take ps n (Nat.le_of_lt hn)]
  show stored _ _ _=stored _ _ _
  try simp only [zqh,zqb hn,Option.getD_some]
theorem kv_fold:∀ {qs:List (Key×V)} {ps:List (Key×Value)} {a:List (Key×V)} {b:List (Key×Value)},KV qs ps->KV a b->KV (qs.foldl (fun acc p=>putK acc p.1 p.2) a) (ps.foldl (fun acc p=>stored acc p.1 p.2) b)
 | [],_,a,b,r,k=>by cases r;exact k
 | q::qs,_,a,b,r,k=>by
  cases r with
  | cons h r =>
   rename_i p ps
   obtain ⟨h1,h2⟩:=h
   have k2:KV (putK a q.1 q.2) (stored b p.1 p.2):=by rw [<- h1];exact k.put q.1 h2
   exact kv_fold (qs:=qs) (ps:=ps) r k2
theorem rv_int {i:Int} {u:Value} (r:RelV (.int i) u):∃ t,u=.int i t:=r
theorem rv_str {x:Str} {u:Value} (r:RelV (.str x) u):∃ t,u=.str x t:=r
theorem prs_ok {H0 : Hp} {h : Heap} (ok : HOk X.prog X.w H0 h) {K : PySem.W.Frag} {ads : List Addr} : ∀ {ds : List D} {acc kvs : List (Key × D)} {va : List (Key × V)} {ys : List V} {its : List Value}, prsD acc ds = some kvs -> RKs K ads H0 acc va -> RDs K ads H0 ds ys -> Vals ys its ->
    ∃ (ps:List (Key×Value)) (qs:List (Key×V)),ps.length=its.length/\KV qs ps/\RKs K ads H0 kvs (qs.foldl (fun acc p=>putK acc p.1 p.2) va)/\∀ i v,its[i]?=some v->∃ a uk,v=.ref a/\keyIs (ps.getD i (Sum.inl 0,.none)).1 uk=true/\IsTup h a #[uk,(ps.getD i (Sum.inl 0,.none)).2]
  | [],acc,kvs,va,ys,its,e,ra,rd,rv=>by
    cases e
    unfold RDs at rd
    subst rd
    cases rv
    exact ⟨[],[],rfl,.nil,ra,fun i v h=>by simp at h⟩
  | d::ds,acc,kvs,va,ys,its,e,ra,rd,rv=>by
    unfold RDs at rd
    obtain ⟨y,yr,rfl,r1,r2⟩:=rd
    cases rv with
    | cons hv rv =>
      rename_i u us
      unfold prsD at e
      cases hp:pairD d with
      | none=>rw [hp] at e;cases e
      | some kx =>
        obtain ⟨k,x⟩:=kx
        rw [hp] at e
        have main:∀ kd:D,d=.tup [kd,x]->(∀ z uz,RD K ads H0 kd z->RelV z uz->keyIs k uz=true)->∃ (ps:List (Key×Value)) (qs:List (Key×V)),ps.length=(u::us).length/\KV qs ps/\RKs K ads H0 kvs (qs.foldl (fun acc p=>putK acc p.1 p.2) va)/\∀ i v,(u::us)[i]?=some v->∃ a uk,v=.ref a/\keyIs (ps.getD i (Sum.inl 0,.none)).1 uk=true/\IsTup h a #[uk,(ps.getD i (Sum.inl 0,.none)).2]:=by
          intro kd ed hk
          subst ed
          unfold RD at r1
          obtain ⟨a,xs,rfl,ha,rx⟩:=r1
          unfold RDs at rx
          obtain ⟨z,zr,rfl,rz,rx⟩:=rx
          unfold RDs at rx
          obtain ⟨z2,zr2,rfl,rz2,rx⟩:=rx
          unfold RDs at rx
          subst rx
          obtain ⟨_,tits,tv,tt⟩:=ok a _ ha
          cases tv with
          | cons t1 tv =>
            cases tv with
            | cons t2 tv =>
              cases tv
              rename_i uk uv
              obtain ⟨ps,qs,l,kk,rr,hh⟩:=prs_ok ok e (ra.put (k:=k) rz2) r2 rv
              refine ⟨(k,uv)::ps,(k,z2)::qs,by simp [l],.cons ⟨rfl,t2⟩ kk,rr,fun i v hi=>?_⟩
              cases i with
              | zero =>
                have hi:u=v:=by simpa using hi
                subst hi
                have hu:u=.ref a:=hv
                exact ⟨a,uk,hu,hk z uk rz t1,tt⟩
              | succ i =>
                obtain ⟨a',uk',q1,q2,q3⟩:=hh i v (by simpa using hi)
                exact ⟨a',uk',q1,by simpa using q2,by simpa using q3⟩
        unfold pairD at hp
        split at hp
        · rename_i i dd
          cases hp
          refine main _ rfl fun z uz rz hz=>?_
          unfold RD at rz
          subst rz
          obtain ⟨t,rfl⟩:=rv_int hz
          exact keyIs_int i t
        · rename_i i dd
          cases hp
          refine main _ rfl fun z uz rz hz=>?_
          unfold RD at rz
          subst rz
          obtain ⟨t,rfl⟩:=rv_str hz
          exact keyIs_str i t
        · cases hp
theorem bi_dict (hc:X.calm=true):CallR X (.type "dict") (rBi X.K .dict1):=by
 intro pins s σ H xs us Q I r h
 obtain ⟨ads,M,ws,m,rw,h⟩:=h
 rcases ws with _|⟨w,_|⟨w2,ws⟩⟩
 ·exact h.elim
 ·obtain ⟨v,rfl,rv⟩:=rw.one
  unfold biW at h
  dsimp only at h
  split at h
  ·rename_i kvs q
   obtain ⟨a,ks,rfl,ha,ra⟩:=dct_ok m rv q
   obtain ⟨u,rfl,ru⟩:=vals1 r
   cases ru
   obtain ⟨z,hd,vs,va,dd⟩:=dk_of I.hok ha
   refine kt_call_dict hd dd (by rw [<- va.length];exact z) fun h' hd' hs=>?_
   have kp:∀ b o',s.heap.get? b=some o'->h'.get? b=some o':=fun b o' e=>by
    have hb:b≠s.heap.objs.size:=fun z=>by subst z;exact absurd (Heap.lt_size e) (Nat.lt_irrefl _)
    rw [hs.2 b hb]
    exact zqc _ e
   refine ⟨.ref s.heap.objs.size,_,I.laid (t':=s.toks) (o:=.dK ks) kp (zqg _) ?_,rfl,h.dnew m (I.hok.fresh (zqg _)) ra⟩
   exact ⟨z,beq_eq_false_iff_ne.mpr (Ne.symm (Nat.ne_of_lt I.big)),vs,va,hd'⟩
  ·split at h
   ·rename_i ds q
    split at h
    ·rename_i kvs qp
     obtain ⟨a,ys,rfl,rd,sq⟩:=seq_ok m rv q
     rcases sq with ⟨_,sq⟩|⟨e,_⟩
     ·obtain ⟨u,rfl,ru⟩:=vals1 r
      cases ru
      obtain ⟨its,vy,pl,hz⟩:=I.list sq
      obtain ⟨ps,qs,l,kk,rr,hh⟩:=prs_ok I.hok qp (va:=[]) (show RKs X.K ads H [] [] by unfold RKs;rfl) rd vy
      refine kd_call (I.ok.hd hc) pl (by rw [<- vy.length];exact hz) (fun i=>ps.getD i (Sum.inl 0,.none)) hh fun h' tk kp hd=>?_
      rw [<- l,putKs_take ps _ (zqg _),List.take_length] at hd
      refine ⟨.ref s.heap.objs.size,_,I.laid (t':=tk) (o:=.dK (qs.foldl (fun acc p=>putK acc p.1 p.2) [])) kp (zqg _) ?_,rfl,h.dnew m (I.hok.fresh (zqg _)) rr⟩
      have kf:=kv_fold kk (a:=[]) (b:=[]) .nil
      refine ⟨?_,beq_eq_false_iff_ne.mpr (Ne.symm (Nat.ne_of_lt I.big)),_,kf,hd⟩
      have l1:=Paired.length kf
      have l2:=putKs_len (fun i=>ps.getD i (Sum.inl 0,.none)) ps.length
      rw [putKs_take ps _ (zqg _),List.take_length] at l2
      rw [l1]
      exact Nat.le_trans l2 (by rw [l,<- vy.length];exact hz)
     ·cases e
    ·exact h.elim
   ·exact h.elim
 ·exact h.elim
theorem bi_len:CallR X (.builtin "len") (rBi X.K .len):=by
 intro pins s σ H xs us Q I r h
 obtain ⟨ads,M,ws,m,rw,h⟩:=h
 rcases ws with _|⟨w,_|⟨w2,ws⟩⟩
 ·exact h.elim
 ·obtain ⟨v,rfl,rv⟩:=rw.one
  unfold biW at h
  dsimp only at h
  split at h
  ·rename_i l ds q
   obtain ⟨a,ys,rfl,rd,sq⟩:=seq_ok m rv q
   refine call_len_seq pins s σ H _ us Q I r ⟨a,ys,rfl,?_,by rw [<- rd.len];exact h.plain m (rd_int _)⟩
   rcases sq with ⟨_,sq⟩|⟨_,sq⟩
   ·exact .inl sq
   ·exact .inr sq
  ·split at h
   ·split at h
    ·rename_i hz
     have e1:=rw_str rv
     subst e1
     exact call_len_str pins s σ H _ us Q I r ⟨_,rfl,hz,h.plain m (rd_int _)⟩
    ·exact h.elim
   ·exact h.elim
 ·exact h.elim
theorem iter_walk {pins : List (Addr × Obj)} {σ : L2.St} {H : Hp} {s : Shared} {a : Addr} {xs : List V} {A : Around} (hh : A.handled = none) (I : Inv X pins σ H s) (sq : SqL X.K H a xs \/ SqT X.K H a xs) {Q : Value -> Shared -> Prop} {E : Value -> Shared -> Prop}
    (q:∀ (its:List Value) (I1:Addr) (fp wr:List Addr) (St:Nat->Heap->Prop) (s2:Shared),Vals xs its->Walks X.prog X.w A I1 fp wr its.length (fun i v=>its[i]?=some v) St->St 0 s2.heap->(∀ b∈fp,b < s2.heap.objs.size) ->
      (∀ h' tk,(∀ b o,b∉wr->s2.heap.get? b=some o->h'.get? b=some o)->Inv X pins σ H { s2 with heap:=h',toks:=tk })->Q (.ref I1) s2):wpAny (model X.prog X.w) A (pyIter (.ref a)) Q E s:=by
  have kp:∀ {o:Obj} {h':Heap} {tk:Nat},(∀ b u,b∉[s.heap.objs.size]->(s.heap.push o).get? b=some u->h'.get? b=some u)->Inv X pins σ H { s with heap:=h',toks:=tk }:=fun {o h' tk} k =>
    I.kept fun b u e=>k b u (fun z=>by
      have hb:b=s.heap.objs.size:=by simpa using z
      exact absurd (Heap.lt_size e) (by rw [hb];exact Nat.lt_irrefl _)) (zqc _ e)
  rcases sq with sq | sq
  · obtain ⟨its,rv,pl,hz⟩:=I.list sq
    obtain ⟨o,ho,hc,n,hd⟩:=pl.isList
    have hlt:=Heap.lt_size ho
    have W:=Walks.list (prog:=X.prog) (w:=X.w) hh s.heap.objs.size a (Nat.ne_of_lt hlt) its.toArray
    simp only [zqq,List.getElem?_toArray] at W
    refine wpAny_pyIter_list pl.isList (q its _ _ _ _ _ rv W ⟨⟨_,zqn _ rfl,rfl,rfl⟩,⟨o,zqc _ ho,hc,n,hd⟩⟩ (fun b hb=>?_) fun h' tk k=>kp k)
    show b < (s.heap.push _).objs.size
    rw [Heap.size_push]
    have hb:b=s.heap.objs.size\/b=a:=by simpa using hb
    rcases hb with z | z
    · rw [z];exact Nat.lt_succ_self _
    · rw [z];exact Nat.lt_succ_of_lt hlt
  · obtain ⟨its,rv,pl,hz⟩:=I.tuple sq
    obtain ⟨o,ho,hc,n,hd⟩:=id pl
    have hlt:=Heap.lt_size ho
    have W:=Walks.tuple (prog:=X.prog) (w:=X.w) hh s.heap.objs.size a (Nat.ne_of_lt hlt) its.toArray
    simp only [zqq,List.getElem?_toArray] at W
    refine wpAny_pyIter_tuple (show s.heap.IsTuple a its.toArray from pl) (q its _ _ _ _ _ rv W ⟨⟨_,zqn _ rfl,rfl,rfl⟩,⟨o,zqc _ ho,hc,n,hd⟩⟩ (fun b hb=>?_) fun h' tk k=>kp k)
    show b < (s.heap.push _).objs.size
    rw [Heap.size_push]
    have hb:b=s.heap.objs.size\/b=a:=by simpa using hb
    rcases hb with z | z
    · rw [z];exact Nat.lt_succ_self _
    · rw [z];exact Nat.lt_succ_of_lt hlt
theorem bls_at {K:PySem.W.Frag} {ads:List Addr} {H:Hp}:∀ {ds:List D} {bs:List Bool} {ys:List V} {its:List Value},blsD ds=some bs->RDs K ads H ds ys->Vals ys its->its=bs.map Value.bool
 | [],bs,ys,its,e,r,v=>by
  cases e
  unfold RDs at r
  subst r
  cases v
  rfl
 | d::ds,bs,ys,its,e,r,v=>by
  unfold RDs at r
  obtain ⟨x,r',rfl,h1,h2⟩:=r
  cases d <;> first | cases e | skip
  rename_i b
  unfold RD at h1
  subst h1
  cases v with
  | cons hv hr =>
   cases hv
   unfold blsD at e
   cases q:blsD ds with
   | none=>rw [q] at e;cases e
   | some cs =>
    rw [q] at e
    cases e
    rw [bls_at q h2 hr]
    rfl
theorem range_all (bs:List Bool):(List.range bs.length).all (fun i=>bs.getD i true)=bs.all id:=by
 rw [Bool.eq_iff_iff,List.all_eq_true,List.all_eq_true]
 constructor
 ·intro h b hb
  obtain ⟨i,hi,rfl⟩:=List.mem_iff_getElem.mp hb
  have:=h i (List.mem_range.mpr hi)
  simpa [zqh,hi] using this
 ·intro h i hi
  have hi:=List.mem_range.mp hi
  have:=h bs[i] (List.getElem_mem hi)
  simpa [zqh,hi] using this
theorem truth_bls {A:Around} (bs:List Bool):TruthOf X.prog X.w A (fun i v=>(bs.map Value.bool)[i]?=some v) fun i=>bs.getD i true:=by
 intro i v s Q E hP hQ
 rw [zqk] at hP
 cases q:bs[i]? with
 | none=>rw [q] at hP;cases hP
 | some b =>
  rw [q] at hP
  cases hP
  have e:bs.getD i true=b:=by rw [zqh,q];rfl
  have hQ:Q (bs.getD i true) s:=hQ
  rw [e] at hQ
  unfold truthy
  exact wpAny_pure hQ
theorem bi_all (hc:X.calm=true):CallR X (.builtin "all") (rBi X.K .all1):=by
 intro pins s σ H xs us Q I r h
 obtain ⟨ads,M,ws,m,rw,h⟩:=h
 rcases ws with _|⟨w,_|⟨w2,ws⟩⟩
 ·exact h.elim
 ·obtain ⟨v,rfl,rv⟩:=rw.one
  unfold biW at h
  dsimp only at h
  split at h
  ·rename_i l ds q
   split at h
   ·rename_i bs qb
    obtain ⟨a,ys,rfl,rd,sq⟩:=seq_ok m rv q
    obtain ⟨u,rfl,ru⟩:=vals1 r
    cases ru
    refine call_all_walk (iter_walk (A:=X.A.in1) (I.ok.hd hc) I (sq.elim (fun z=>.inl z.2) fun z=>.inr z.2) fun its I1 fp wr St s2 vs W st hfp inv=>?_)
    have e:=bls_at qb rd vs
    subst e
    refine ⟨I1,fp,wr,(bs.map Value.bool).length,_,St,fun i=>bs.getD i true,rfl,W,st,truth_bls bs,fun h' tk hk=>⟨.bl (bs.all id),H,inv h' tk hk,?_,h.plain m (rd_bl _)⟩⟩
    rw [zqe,range_all]
    rfl
   ·exact h.elim
  ·exact h.elim
 ·exact h.elim
theorem bi_list:CallR X (.type "list") (rBi X.K .list1):=by
 intro pins s σ H xs us Q I r h
 obtain ⟨ads,M,ws,m,rw,h⟩:=h
 rcases ws with _|⟨w,_|⟨w2,ws⟩⟩
 ·exact h.elim
 ·obtain ⟨v,rfl,rv⟩:=rw.one
  unfold biW at h
  dsimp only at h
  split at h
  ·rename_i l ds q
   obtain ⟨a,ys,rfl,rd,sq⟩:=seq_ok m rv q
   refine call_list_of pins s σ H _ us Q I r ⟨a,ys,rfl,?_,fun p hp=>h.list m rd hp⟩
   rcases sq with ⟨_,sq⟩|⟨_,sq⟩
   ·exact .inl sq
   ·exact .inr sq
  ·exact h.elim
 ·exact h.elim
theorem bi_tuple:CallR X (.type "tuple") (rBi X.K .tuple1):=by
 intro pins s σ H xs us Q I r h
 obtain ⟨ads,M,ws,m,rw,h⟩:=h
 rcases ws with _|⟨w,_|⟨w2,ws⟩⟩
 ·exact h.elim
 ·obtain ⟨v,rfl,rv⟩:=rw.one
  unfold biW at h
  dsimp only at h
  split at h
  ·rename_i l ds q
   have hq:=q
   obtain ⟨a,ys,rfl,rd,sq⟩:=seq_ok m rv q
   rcases sq with ⟨_,sq⟩|⟨el,sq⟩
   ·exact call_tuple_of pins s σ H _ us Q I r ⟨a,ys,rfl,.inl ⟨sq,fun p hp=>h.tuple m rd hp⟩⟩
   ·refine call_tuple_of pins s σ H _ us Q I r ⟨a,ys,rfl,.inr ⟨sq,h.plain m ?_⟩⟩
    subst el
    cases w with
    | lv es=>cases hq
    | d x =>
     cases x with
     | tup es =>
      have e:es=ds:=by simpa [seqW] using hq
      subst e
      exact rv
     | adr n =>
      simp only [seqW] at hq
      split at hq <;> cases hq
     | ls _=>cases hq
     | non=>cases hq
     | bl _=>cases hq
     | int _=>cases hq
     | str _=>cases hq
  ·exact h.elim
 ·exact h.elim
theorem bi_max (hc:X.calm=true):CallR X (.builtin "max") (rBi X.K .max2):=by
 intro pins s σ H xs us Q I r h
 obtain ⟨ads,M,ws,m,rw,h⟩:=h
 rcases ws with _|⟨w,_|⟨w2,_|⟨w3,ws⟩⟩⟩
 ·exact h.elim
 ·rcases w with ⟨_|_|_|_|_|_⟩|_ <;> exact h.elim
 ·rcases w with ⟨_|_ | i | _|_|_⟩|_ <;> first | exact h.elim | skip
  rcases w2 with ⟨_|_ | j | _|_|_⟩|_ <;> first | exact h.elim | skip
  obtain ⟨v,v2,rfl,r1,r2⟩:=rw.two
  have e1:=rw_int r1
  have e2:=rw_int r2
  subst e1 e2
  exact call_max2 hc pins s σ H _ us Q I r ⟨i,j,rfl,OkW.plain h m (rd_int _)⟩
 ·rcases w with ⟨_|_ | i | _|_|_⟩|_ <;> first | exact h.elim | skip
  rcases w2 with ⟨_|_ | j | _|_|_⟩|_ <;> exact h.elim
theorem bi_min (hc:X.calm=true):CallR X (.builtin "min") (rBi X.K .min2):=by
 intro pins s σ H xs us Q I r h
 obtain ⟨ads,M,ws,m,rw,h⟩:=h
 rcases ws with _|⟨w,_|⟨w2,_|⟨w3,ws⟩⟩⟩
 ·exact h.elim
 ·rcases w with ⟨_|_|_|_|_|_⟩|_ <;> exact h.elim
 ·rcases w with ⟨_|_ | i | _|_|_⟩|_ <;> first | exact h.elim | skip
  rcases w2 with ⟨_|_ | j | _|_|_⟩|_ <;> first | exact h.elim | skip
  obtain ⟨v,v2,rfl,r1,r2⟩:=rw.two
  have e1:=rw_int r1
  have e2:=rw_int r2
  subst e1 e2
  exact call_min2 hc pins s σ H _ us Q I r ⟨i,j,rfl,OkW.plain h m (rd_int _)⟩
 ·rcases w with ⟨_|_ | i | _|_|_⟩|_ <;> first | exact h.elim | skip
  rcases w2 with ⟨_|_ | j | _|_|_⟩|_ <;> exact h.elim
theorem nodict_all (n:Nat) (hA:∀ d p,pyD M' n d=some p->p.hasDict=false):∀ (ds:List D) (ps:List PyData),pyDs M' n ds=some ps->PyData.hasDictAll ps=false
 | [],ps,e=>by unfold pyDs at e;cases e;rfl
 | d::ds,ps,e=>by
  unfold pyDs at e
  cases q1:pyD M' n d with
  | none=>rw [q1] at e;cases e
  | some p =>
   cases q2:pyDs M' n ds with
   | none=>rw [q1,q2] at e;cases e
   | some qs =>
    rw [q1,q2] at e
    cases e
    rw [PyData.hasDictAll,hA d p q1,nodict_all n hA ds qs q2]
    rfl
theorem nodict_d:∀ (n:Nat) (d:D) (p:PyData),pyD M' n d=some p->p.hasDict=false:=by
 intro n
 induction n with
 | zero=>intro d p e;cases d <;> (unfold pyD at e;cases e) <;> simp [PyData.hasDict]
 | succ n ih =>
  intro d p e
  cases d with
  | tup ds =>
   unfold pyD at e
   cases q:pyDs M' n ds with
   | none=>rw [q] at e;cases e
   | some ps=>rw [q] at e;cases e;rw [PyData.hasDict];exact nodict_all n ih ds ps q
  | adr k =>
   unfold pyD at e
   split at e
   ·cases q:pyDs M' n _ with
    | none=>rw [q] at e;cases e
    | some ps=>rw [q] at e;cases e;rw [PyData.hasDict];exact nodict_all n ih _ ps q
   ·cases q:pyDs M' n _ with
    | none=>rw [q] at e;cases e
    | some ps=>rw [q] at e;cases e;rw [PyData.hasDict];exact nodict_all n ih _ ps q
   ·cases e
  | ls ds =>
   unfold pyD at e
   cases q:pyDs M' n ds with
   | none=>rw [q] at e;cases e
   | some ps=>rw [q] at e;cases e;rw [PyData.hasDict];exact nodict_all n ih ds ps q
  | non=>unfold pyD at e;cases e;simp [PyData.hasDict]
  | bl _=>unfold pyD at e;cases e;simp [PyData.hasDict]
  | int _=>unfold pyD at e;cases e;simp [PyData.hasDict]
  | str _=>unfold pyD at e;cases e;simp [PyData.hasDict]
theorem bi_int:CallR X (.type "int") (rBi X.K .int1):=by
 intro pins s σ H xs us Q I r h
 obtain ⟨ads,M,ws,m,rw,h⟩:=h
 rcases ws with _|⟨w,_|⟨w2,ws⟩⟩
 ·exact h.elim
 ·obtain ⟨v,rfl,rv⟩:=rw.one
  cases w with
  | lv ds=>exact h.elim
  | d x =>
   cases x with
   | int i =>
    have e:=rw_int rv
    subst e
    exact call_int1 pins s σ H _ us Q I r (.inl ⟨i,rfl,OkW.plain h m (rd_int _)⟩)
   | bl i =>
    have e:=rw_bl rv
    subst e
    exact call_int1 pins s σ H _ us Q I r (.inr ⟨i,rfl,OkW.plain h m (rd_int _)⟩)
   | non=>exact h.elim
   | str _=>exact h.elim
   | tup _=>exact h.elim
   | adr _=>exact h.elim
   | ls _=>exact h.elim
 ·rcases w with ⟨_|_|_|_|_|_⟩|_ <;> exact h.elim
theorem bi_repr {k:Nat} (hr:Room k X.A):CallR X (.builtin "repr") (rBi X.K .repr1):=by
 intro pins s σ H xs us Q I r h
 obtain ⟨ads,M,ws,m,rw,h⟩:=h
 rcases ws with _|⟨w,_|⟨w2,ws⟩⟩
 ·exact h.elim
 ·obtain ⟨v,rfl,rv⟩:=rw.one
  unfold biW at h
  dsimp only at h
  split at h
  ·rename_i p q
   split at h
   ·rename_i hs
    obtain ⟨u,rfl,ru⟩:=vals1 r
    obtain ⟨as,ra⟩:=reads_w I m rv ru q
    have hun:=hr.un
    have fin:∀ (h':Heap) (t:Tok) (tk:Nat),(∀ b o,s.heap.get? b=some o->h'.get? b=some o)->EP X pins σ Q (.str p.shown t) { s with heap:=h',toks:=tk }:=fun h' t tk hk =>
     ⟨.str p.shown,H,I.kept hk,⟨t,rfl⟩,h.plain m (rd_str _)⟩
    have fin0:∀ (t:Tok) (tk:Nat),EP X pins σ Q (.str p.shown t) { s with toks:=tk }:=fun t tk=>fin s.heap t tk fun _ _ e=>e
    have nd:p.hasDict=false:=by
     cases w with
     | d x=>exact nodict_d 30 x p q
     | lv ds =>
      have e:(pyDs M 30 ds).map PyData.list=some p:=q
      cases q2:pyDs M 30 ds with
      | none=>rw [q2] at e;cases e
      | some ps=>rw [q2] at e;cases e;rw [PyData.hasDict];exact nodict_all 30 (nodict_d 30) ds ps q2
    cases ra with
    | none=>exact PySem.P.repr_of_none (fin0 _ _)
    | bool b=>exact PySem.P.repr_of_bool (fin0 _ _)
    | int i t=>exact PySem.P.repr_of_int (of_decide_eq_true hs.1) (fin0 _ _)
    | str x t=>exact PySem.P.repr_of_str (fin0 _ _) hs.2.2
    | list h1 h2 h3 h4=>exact repr_of_reads' (.list h1 h2 h3 h4) hs.1 (PyData.noDict_hsm nd) hr.gd (by have:=hs.2.1;omega) (fun _ _ e=>e) (fun h' t tk hk=>fin h' t tk hk) hs.2.2
    | tuple h1 h2 h3 h4=>exact repr_of_reads' (.tuple h1 h2 h3 h4) hs.1 (PyData.noDict_hsm nd) hr.gd (by have:=hs.2.1;omega) (fun _ _ e=>e) (fun h' t tk hk=>fin h' t tk hk) hs.2.2
    | dict h1 h2 h3 h4 h5=>rw [PyData.hasDict] at nd;cases nd
   ·exact h.elim
  ·exact h.elim
 ·exact h.elim
def tyOf:Ty->String
 | .int => "int" | .bool => "bool" | .str => "str" | .tuple => "tuple" | .list => "list" | .dict => "dict" | .none => "NoneType"
theorem kit_isi (K:PySem.W.Frag):∀ g t:Ty,PySem.W.kitOne K (.type (tyOf g)) (.type (tyOf t))=some (decide (g=t) || (decide (g=.bool) && decide (t=.int))):=by
 intro g t
 cases g <;> cases t <;> kernel_rfl
theorem tag_ok {K:PySem.W.Frag} {ads:List Addr} {H:Hp} {M:Mem} {w:W} {v:V} {g:Ty} (m:MRel K ads H M) (r:RW K ads H w v) (e:tagW M w=some g):TyOf K H v (.type (tyOf g)):=by
 cases w with
 | lv ds=>cases e;obtain ⟨a,xs,rfl,h,_⟩:=r;exact .lst h
 | d x =>
  cases x with
  | non=>cases e;rw [rw_non r];exact .non
  | bl b=>cases e;rw [rw_bl r];exact .bl b
  | int b=>cases e;rw [rw_int r];exact .int b
  | str b=>cases e;rw [rw_str r];exact .str b
  | ls b=>cases e
  | tup b=>cases e;have r:RD K ads H (.tup b) v:=r;unfold RD at r;obtain ⟨a,xs,rfl,h,_⟩:=r;exact .tup h
  | adr n =>
   have r:RD K ads H (.adr n) v:=r
   unfold RD at r
   obtain ⟨a,rfl,ea⟩:=r
   simp only [tagW] at e
   cases q:M[n]? with
   | none=>rw [q] at e;cases e
   | some o =>
    rw [q] at e
    have ho:=m.obj n o a q ea
    cases o with
    | lst es=>cases e;obtain ⟨xs,h,_⟩:=ho;exact .lst h
    | scr es=>cases e;obtain ⟨o,xs,h,_⟩:=ho;exact .frz h
    | dK es=>cases e;obtain ⟨xs,h,_⟩:=ho;exact .dK h
    | dT es=>cases e;obtain ⟨xs,h,_⟩:=ho;exact .dT h
theorem bi_isi (t:Ty):CallR X (.builtin "isinstance") (fun vs H Q=>∃ v,vs=[v,.ty (tyOf t)]/\rBi X.K (.isi t) [v] H Q):=by
 intro pins s σ H xs us Q I r h
 obtain ⟨v,rfl,ads,M,ws,m,rw,h⟩:=h
 obtain ⟨u,u2,rfl,r1,r2⟩:=vals2 r
 rcases ws with _|⟨w,_|⟨w2,ws⟩⟩
 ·exact h.elim
 ·obtain ⟨v',e,rv⟩:=rw.one
  cases e
  unfold biW at h
  dsimp only at h
  split at h
  ·rename_i g q
   have e2:u2=Value.type (tyOf t):=r2
   subst e2
   exact isinst_ok I r1 (tag_ok m rv q) (kit_isi X.K g t) fun tk=>⟨.bl _,H,I.tok tk,rfl,h.plain m (rd_bl _)⟩
  ·exact h.elim
 ·obtain ⟨_,_,e,_,_,_,e2,_⟩:=rw
  cases e
  cases e2
end
section
variable {X:Cx}
def rMe (K:PySem.W.Frag) (me:Me):V->List V->Hp->VK->Prop:=fun x vs H Q=>∃ ads M wx ds,MRel K ads H M/\RW K ads H wx x/\RDs K ads H ds vs/\OkW K ads H Q (meW me wx ds M)
theorem RDs.one' {K:PySem.W.Frag} {ads:List Addr} {H:Hp} {d:D} {vs:List V} (r:RDs K ads H [d] vs):∃ v,vs=[v]/\RD K ads H d v:=by
 unfold RDs at r
 obtain ⟨v,r',rfl,h,h2⟩:=r
 unfold RDs at h2
 subst h2
 exact ⟨v,rfl,h⟩
theorem RDs.two' {K:PySem.W.Frag} {ads:List Addr} {H:Hp} {d e:D} {vs:List V} (r:RDs K ads H [d,e] vs):∃ v w,vs=[v,w]/\RD K ads H d v/\RD K ads H e w:=by
 unfold RDs at r
 obtain ⟨v,r',rfl,h,h2⟩:=r
 obtain ⟨w,rfl,h3⟩:=h2.one'
 exact ⟨v,w,rfl,h,h3⟩
theorem OkW.wrote {K : PySem.W.Frag} {ads : List Addr} {H : Hp} {M : Mem} {n : Nat} {a : Addr} {ds es : List D} {ys : List V} {x : D} {Q : VK} {v : V} (h : OkW K ads H Q (.ok (.d x) (M.set n (.lst es)))) (m : MRel K ads H M) (q : M[n]? = some (.lst ds)) (ea : ads[n]? = some a)
    (ha:∃ xs,H a=some (.lst xs)) (ry:RDs K ads H es ys) (rx:RD K ads (upd H a (.lst ys)) x v):Q v (upd H a (.lst ys)):=by
  obtain ⟨xs,ha⟩:=ha
  have nf:∀ o x,H a≠some (.frz o x):=fun o x z=>by rw [ha] at z;cases z
  have g:Grow ads ads H (upd H a (.lst ys)):=by
    have hin:a∈ads:=zqj ea
    exact ⟨⟨[],by simp⟩,fun b h n=>absurd h n,fun b x nb h=>by rw [upd_ne (by intro z;subst z;exact nb hin)];exact h,fun b xs h=>by
      rw [upd_ne (fun z=>by subst z;rw [ha] at h;cases h)];exact h,fun b o u h=>by rw [upd_ne (fun z=>by subst z;exact nf _ _ h)];exact h⟩
  obtain ⟨g',m'⟩:=m.write (o:=.lst es) (ho:=.lst ys) q ea nf ⟨ys,upd_same,g.rds _ _ ry⟩
  exact h v _ ads g m' rx
theorem me_append:MtR X "list.append" (rMe X.K .append):=by
 intro pins s σ H x vs v us Q I rx rv h
 obtain ⟨ads,M,wx,ds,m,r1,r2,h⟩:=h
 rcases wx with ⟨_|_|_|_|_ | n⟩|_ <;> first | exact h.elim | skip
 have r1:RD X.K ads H (.adr n) x:=r1
 unfold RD at r1
 obtain ⟨a,rfl,ea⟩:=r1
 simp only [meW] at h
 cases q:M[n]? with
 | none=>rw [q] at h;exact h.elim
 | some o =>
  rw [q] at h
  cases o with
  | lst es =>
   rcases ds with _|⟨d,_|⟨d2,ds⟩⟩
   ·exact h.elim
   ·dsimp only at h
    split at h
    ·rename_i hz
     obtain ⟨y,rfl,ry⟩:=r2.one'
     obtain ⟨xs,ha,rd⟩:=m.obj n _ a q ea
     exact mt_append pins s σ H _ _ v us Q I rx rv ⟨a,xs,y,rfl,rfl,ha,by rw [<- rd.len];exact hz,OkW.wrote h m q ea ⟨xs,ha⟩ (rd.app (.one ry)) rd_non⟩
    ·exact h.elim
   ·exact h.elim
  | scr _=>exact h.elim
  | dK _=>exact h.elim
  | dT _=>exact h.elim
theorem me_extend:MtR X "list.extend" (rMe X.K .extend):=by
 intro pins s σ H x vs v us Q I rx rv h
 obtain ⟨ads,M,wx,ds,m,r1,r2,h⟩:=h
 rcases wx with ⟨_|_|_|_|_ | n⟩|_ <;> first | exact h.elim | skip
 have r1:RD X.K ads H (.adr n) x:=r1
 unfold RD at r1
 obtain ⟨a,rfl,ea⟩:=r1
 simp only [meW] at h
 cases q:M[n]? with
 | none=>rw [q] at h;exact h.elim
 | some o =>
  rw [q] at h
  cases o with
  | lst es =>
   rcases ds with _|⟨d,_|⟨d2,ds⟩⟩
   ·exact h.elim
   ·cases d <;> first | exact h.elim | skip
    rename_i k
    dsimp only at h
    cases q2:M[k]? with
    | none=>rw [q2] at h;exact h.elim
    | some o2 =>
     rw [q2] at h
     cases o2 with
     | lst fs =>
      dsimp only at h
      split at h
      ·rename_i hz
       obtain ⟨y,rfl,ry⟩:=r2.one'
       unfold RD at ry
       obtain ⟨b,rfl,eb⟩:=ry
       obtain ⟨xs,ha,rd⟩:=m.obj n _ a q ea
       obtain ⟨ys,hb,rd2⟩:=m.obj k _ b q2 eb
       exact mt_extend pins s σ H _ _ v us Q I rx rv ⟨a,b,xs,ys,rfl,rfl,ha,hb,by rw [<- rd.len,<- rd2.len];exact hz,OkW.wrote h m q ea ⟨xs,ha⟩ (rd.app rd2) rd_non⟩
      ·exact h.elim
     | scr _=>exact h.elim
     | dK _=>exact h.elim
     | dT _=>exact h.elim
   ·cases d <;> exact h.elim
  | scr _=>exact h.elim
  | dK _=>exact h.elim
  | dT _=>exact h.elim
theorem ints_rd {K:PySem.W.Frag} {ads:List Addr} {H:Hp}:∀ (is:List Int),RDs K ads H (is.map D.int) (is.map V.int)
 | []=>by unfold RDs;rfl
 | i::is=>by
  show RDs K ads H (D.int i::is.map D.int) (V.int i::is.map V.int)
  unfold RDs
  exact ⟨_,_,rfl,rd_int _,ints_rd is⟩
theorem ints_of {K:PySem.W.Frag} {ads:List Addr} {H:Hp}:∀ {ds:List D} {is:List Int} {xs:List V},intsD ds=some is->RDs K ads H ds xs->xs=is.map V.int
 | [],_,_,e,r=>by cases e;unfold RDs at r;exact r
 | d::ds,_,_,e,r=>by
  unfold RDs at r
  obtain ⟨y,r',rfl,h1,h2⟩:=r
  cases d <;> first | cases e | skip
  rename_i b
  have e:(intsD ds).map (b::·)=some _:=e
  cases q:intsD ds with
  | none=>rw [q] at e;cases e
  | some bs =>
   rw [q] at e
   cases e
   unfold RD at h1
   rw [h1,ints_of q h2]
   rfl
theorem me_remove:MtR X "list.remove" (rMe X.K .remove):=by
 intro pins s σ H x vs v us Q I rx rv h
 obtain ⟨ads,M,wx,ds,m,r1,r2,h⟩:=h
 rcases wx with ⟨_|_|_|_|_ | n⟩|_ <;> first | exact h.elim | skip
 have r1:RD X.K ads H (.adr n) x:=r1
 unfold RD at r1
 obtain ⟨a,rfl,ea⟩:=r1
 simp only [meW] at h
 cases q:M[n]? with
 | none=>rw [q] at h;exact h.elim
 | some o =>
  rw [q] at h
  cases o with
  | lst es =>
   rcases ds with _|⟨d,_|⟨d2,ds⟩⟩
   ·exact h.elim
   ·cases d <;> first | exact h.elim | skip
    rename_i i
    dsimp only at h
    cases q2:intsD es with
    | none=>rw [q2] at h;exact h.elim
    | some is =>
     rw [q2] at h
     dsimp only at h
     split at h
     ·rename_i hz
      obtain ⟨y,rfl,ry⟩:=r2.one'
      unfold RD at ry
      subst ry
      obtain ⟨xs,ha,rd⟩:=m.obj n _ a q ea
      have ex:=ints_of q2 rd
      subst ex
      exact mt_remove pins s σ H _ _ v us Q I rx rv ⟨a,is,i,rfl,rfl,ha,hz,OkW.wrote h m q ea ⟨_,ha⟩ (ints_rd _) rd_non⟩
     ·exact h.elim
   ·cases d <;> exact h.elim
  | scr _=>exact h.elim
  | dK _=>exact h.elim
  | dT _=>exact h.elim
def rInsert:V->List V->Hp->VK->Prop:=fun x vs H Q=>∃ l xs i y,x=.ref l/\vs=[.int i,y]/\H l=some (.lst xs)/\xs.length < sizeLine/\0<=i/\i<=xs.length/\Q .non (upd H l (.lst (xs.take i.toNat++y::xs.drop i.toNat)))
theorem mt_insert:MtR X "list.insert" rInsert:=by
 intro pins s σ H x vs v us Q I rx rv h
 obtain ⟨l,xs,i,y,rfl,rfl,hH,hz,h0,h1,q⟩:=h
 cases rx
 obtain ⟨u,w,rfl,ru,rw'⟩:=rv.two
 obtain ⟨t,rfl⟩:=ru
 obtain ⟨z,its,n,r,hl,e⟩:=I.lstM hH
 have hs:sizeLine=16777216:=sizeLine_eq
 refine call_meets F.slot_list_insert ⟨_,e,rfl⟩ F.entry_list_insert (F.args_list_insert_3 _ _ _) (AutoSeq1.list_insert_list_int_val_1 l its.toArray n i t w ?_ (by rw [zqq];omega)) ⟨e,?_⟩
 ·simp only [Builtin.List.listFitsIndex,Bool.not_eq_true',Bool.not_eq_false]
  have:(i:Int)<=16777216:=by omega
  simp
  omega
 ·refine ⟨.non,_,I.lset (its':=its.take i.toNat++w::its.drop i.toNat) hH e ?_ ((r.take _).append (.cons rw' (r.drop _))) ?_,rfl,q⟩
  ·dsimp only
   rw [if_neg (by omega)]
   have hk:min i.toNat its.toArray.size=i.toNat:=by rw [zqq];omega
   rw [hk]
   apply Array.ext'
   simp only [Array.toList_append,Array.toList_push,Array.toList_extract,List.extract_eq_take_drop,zqq,List.drop_zero,Nat.sub_zero]
   rw [List.take_of_length_le (l:=List.drop i.toNat its) (by simp)]
   simp
  ·simp;omega
theorem me_insert:MtR X "list.insert" (rMe X.K .insert):=by
 intro pins s σ H x vs v us Q I rx rv h
 obtain ⟨ads,M,wx,ds,m,r1,r2,h⟩:=h
 rcases wx with ⟨_|_|_|_|_ | n⟩|_ <;> first | exact h.elim | skip
 have r1:RD X.K ads H (.adr n) x:=r1
 unfold RD at r1
 obtain ⟨a,rfl,ea⟩:=r1
 simp only [meW] at h
 cases q:M[n]? with
 | none=>rw [q] at h;exact h.elim
 | some o =>
  rw [q] at h
  cases o with
  | lst es =>
   rcases ds with _|⟨d,_|⟨d2,_|⟨d3,ds⟩⟩⟩
   ·exact h.elim
   ·rcases d with _|_|_|_|_|_ <;> exact h.elim
   ·rcases d with _|_ | i | _|_|_ <;> first | exact h.elim | skip
    dsimp only at h
    split at h
    ·rename_i hz
     obtain ⟨vi,y,rfl,ri,ry⟩:=r2.two'
     unfold RD at ri
     subst ri
     obtain ⟨xs,ha,rd⟩:=m.obj n _ a q ea
     refine mt_insert pins s σ H _ _ v us Q I rx rv ⟨a,xs,i,y,rfl,rfl,ha,by rw [<- rd.len];exact hz.1,hz.2.1,by rw [<- rd.len];exact hz.2.2,OkW.wrote h m q ea ⟨xs,ha⟩ ((rd.take _).app ?_) rd_non⟩
     show RDs X.K ads H (d2::es.drop i.toNat) (y::xs.drop i.toNat)
     unfold RDs
     exact ⟨y,_,rfl,ry,rd.drop _⟩
    ·exact h.elim
   ·rcases d with _|_ | i | _|_|_ <;> exact h.elim
  | scr _=>exact h.elim
  | dK _=>exact h.elim
  | dT _=>exact h.elim
def setW (o i:W) (d:D) (M:Mem):Out Unit :=
 match o with
 | .d (.adr n)=>match M[n]? with
  | some (.lst ds)=>match i with
   | .d (.int k)=>match ixN ds.length k with
    | some j=>.ok () (M.set n (.lst (ds.set j d)))
    | none=>.stuck
   | _=>.stuck
  | some (.dK kvs)=>match i with
   | .d (.str k)=>if kvs.length < sizeLine then .ok () (M.set n (.dK (putD kvs (Sum.inr k) d))) else .stuck
   | .d (.int k)=>if kvs.length < sizeLine then .ok () (M.set n (.dK (putD kvs (Sum.inl k) d))) else .stuck
   | _=>.stuck
  | _=>.stuck
 | _=>.stuck
def OkU (K:PySem.W.Frag) (ads:List Addr) (H:Hp) (Q:Hp->Prop):Out Unit->Prop
 | .ok _ M=>∀ H' ads',Grow ads ads' H H'->MRel K ads' H' M->Q H'
 | _=>False
def rSet (K:PySem.W.Frag):TSet:=fun o i v H Q=>∃ ads M wo wi d,MRel K ads H M/\RW K ads H wo o/\RW K ads H wi i/\RD K ads H d v/\OkU K ads H Q (setW wo wi d M)
theorem set_ok (hu:X.A.units+1 < cLine):PSet X (rSet X.K):=by
 intro pins s σ H o i v ov iv u Q I ro ri rv h
 obtain ⟨ads,M,wo,wi,d,m,r1,r2,r3,h⟩:=h
 rcases wo with ⟨_|_|_|_|_ | n⟩|_ <;> first | exact h.elim | skip
 have r1:RD X.K ads H (.adr n) o:=r1
 unfold RD at r1
 obtain ⟨a,rfl,ea⟩:=r1
 simp only [setW] at h
 cases q:M[n]? with
 | none=>rw [q] at h;exact h.elim
 | some ob =>
  rw [q] at h
  have hin:a∈ads:=zqj ea
  cases ob with
  | lst ds =>
   rcases wi with ⟨_|_ | k | _|_|_⟩|_ <;> first | exact h.elim | skip
   have ei:=rw_int r2
   subst ei
   dsimp only at h
   cases q2:ixN ds.length k with
   | none=>rw [q2] at h;exact h.elim
   | some j =>
    rw [q2] at h
    obtain ⟨xs,ha,rd⟩:=m.obj n _ a q ea
    refine set_list pins s σ H _ _ v ov iv u Q I ro ri rv ⟨a,xs,k,j,rfl,rfl,ha,by rw [<- rd.len];exact q2,?_⟩
    have nf:∀ o x,H a≠some (.frz o x):=fun o x z=>by rw [ha] at z;cases z
    have hg:Grow ads ads H (upd H a (.lst (xs.set j v))):=⟨⟨[],by simp⟩,fun b h n=>absurd h n,fun b x nb h=>by rw [upd_ne (by intro z;subst z;exact nb hin)];exact h,fun b xs h=>by
     rw [upd_ne (fun z=>by subst z;rw [ha] at h;cases h)];exact h,fun b o u h=>by rw [upd_ne (fun z=>by subst z;exact nf _ _ h)];exact h⟩
    obtain ⟨g',m'⟩:=m.write (o:=.lst (ds.set j d)) (ho:=.lst (xs.set j v)) q ea nf ⟨_,upd_same,hg.rds _ _ (rd.setAt j r3)⟩
    exact h _ ads hg m'
  | dK kvs =>
   obtain ⟨ks,ha,rk⟩:=m.obj n _ a q ea
   have nf:∀ o x,H a≠some (.frz o x):=fun o x z=>by rw [ha] at z;cases z
   have put:∀ (k:Key),i=kV k->kvs.length < sizeLine->OkU X.K ads H Q (.ok () (M.set n (.dK (putD kvs k d))))->wpAny (model X.prog X.w) X.A (setItem ov iv u) (fun _ s'=>∃ H',Inv X pins σ H' s'/\Q H') X.xe s:=by
    intro k ek hz h
    subst ek
    cases ro
    refine d_setItem hu I (DPut.k (k:=k) ha (by rw [<- rk.len];exact hz)) ri rv fun s' I'=>⟨_,I',?_⟩
    have hg:Grow ads ads H (upd H a (.dK (putK ks k v))):=⟨⟨[],by simp⟩,fun b h n=>absurd h n,fun b x nb h=>by rw [upd_ne (by intro z;subst z;exact nb hin)];exact h,fun b xs h=>by
     rw [upd_ne (fun z=>by subst z;rw [ha] at h;cases h)];exact h,fun b o u h=>by rw [upd_ne (fun z=>by subst z;exact nf _ _ h)];exact h⟩
    obtain ⟨g',m'⟩:=m.write (o:=.dK (putD kvs k d)) (ho:=.dK (putK ks k v)) q ea nf ⟨_,upd_same,hg.rks _ _ (rk.put r3)⟩
    exact h _ ads hg m'
   rcases wi with ⟨_|_ | k | k | _|_⟩|_ <;> first | exact h.elim | skip
   ·have ei:=rw_int r2
    subst ei
    dsimp only at h
    split at h
    ·rename_i hz
     exact put (Sum.inl k) rfl hz h
    ·exact h.elim
   ·have ei:=rw_str r2
    subst ei
    dsimp only at h
    split at h
    ·rename_i hz
     exact put (Sum.inr k) rfl hz h
    ·exact h.elim
  | scr _=>exact h.elim
  | dT _=>exact h.elim
end
structure CC where
 N:List Str
 names:List (Str×NameKind)
 fs:List (Str×Nat)
 gs:List (Str×Int)
def vis (cc:CC) (x:Str):Bool:=match cc.names.lookup x with
 | some .local=>true
 | some .cell=>true
 | some .free=>true
 | _=>false
def glob (cc:CC) (x:Str):Bool:=match cc.names.lookup x with
 | some .globalImplicit=>true
 | _=>false
def plainName (x:Str):Bool:=!(x == ("__debug__" : Str)) && !(x == ("__classdict__" : Str)) && !(x == ("__name__" : Str))
theorem on_idx {p:Prop} [d:Decidable p] {f:p->Bool} (h:(if h:p then f h else false)=true):p:=by
 cases d with
 | isTrue q=>exact q
 | isFalse q=>rw [dif_neg q] at h;exact absurd h zqd
def onBoolOp (e:Expr) (f:BoolOp->List Expr->Pos->Bool):Bool:=if h:e.ctorIdx=0 then Expr.BoolOp.elim (motive_1:=fun _=>Bool) e h f else false
theorem onBoolOp_el {P:Expr->Prop} {e:Expr} {f:BoolOp->List Expr->Pos->Bool} (h:onBoolOp e f=true) (k:∀ a b c,f a b c=true->P (.BoolOp a b c)):P e :=
 Expr.BoolOp.elim (motive_1:=fun e=>onBoolOp e f=true->P e) e (on_idx h) (fun a b c h=>k a b c h) h
def onBinOp (e:Expr) (f:Expr->Operator->Expr->Pos->Bool):Bool:=if h:e.ctorIdx=2 then Expr.BinOp.elim (motive_1:=fun _=>Bool) e h f else false
theorem onBinOp_el {P:Expr->Prop} {e:Expr} {f:Expr->Operator->Expr->Pos->Bool} (h:onBinOp e f=true) (k:∀ a b c d,f a b c d=true->P (.BinOp a b c d)):P e :=
 Expr.BinOp.elim (motive_1:=fun e=>onBinOp e f=true->P e) e (on_idx h) (fun a b c d h=>k a b c d h) h
def onUnaryOp (e:Expr) (f:UnaryOp->Expr->Pos->Bool):Bool:=if h:e.ctorIdx=3 then Expr.UnaryOp.elim (motive_1:=fun _=>Bool) e h f else false
theorem onUnaryOp_el {P:Expr->Prop} {e:Expr} {f:UnaryOp->Expr->Pos->Bool} (h:onUnaryOp e f=true) (k:∀ a b c,f a b c=true->P (.UnaryOp a b c)):P e :=
 Expr.UnaryOp.elim (motive_1:=fun e=>onUnaryOp e f=true->P e) e (on_idx h) (fun a b c h=>k a b c h) h
def onIfExp (e:Expr) (f:Expr->Expr->Expr->Pos->Bool):Bool:=if h:e.ctorIdx=5 then Expr.IfExp.elim (motive_1:=fun _=>Bool) e h f else false
theorem onIfExp_el {P:Expr->Prop} {e:Expr} {f:Expr->Expr->Expr->Pos->Bool} (h:onIfExp e f=true) (k:∀ a b c d,f a b c d=true->P (.IfExp a b c d)):P e :=
 Expr.IfExp.elim (motive_1:=fun e=>onIfExp e f=true->P e) e (on_idx h) (fun a b c d h=>k a b c d h) h
def onDict (e:Expr) (f:List (Option Expr)->List Expr->Pos->Bool):Bool:=if h:e.ctorIdx=6 then Expr.Dict.elim (motive_1:=fun _=>Bool) e h f else false
theorem onDict_el {P:Expr->Prop} {e:Expr} {f:List (Option Expr)->List Expr->Pos->Bool} (h:onDict e f=true) (k:∀ a b c,f a b c=true->P (.Dict a b c)):P e :=
 Expr.Dict.elim (motive_1:=fun e=>onDict e f=true->P e) e (on_idx h) (fun a b c h=>k a b c h) h
def onListComp (e:Expr) (f:Expr->List Comprehension->Scope->Pos->Bool):Bool:=if h:e.ctorIdx=8 then Expr.ListComp.elim (motive_1:=fun _=>Bool) e h f else false
theorem onListComp_el {P:Expr->Prop} {e:Expr} {f:Expr->List Comprehension->Scope->Pos->Bool} (h:onListComp e f=true) (k:∀ a b c d,f a b c d=true->P (.ListComp a b c d)):P e :=
 Expr.ListComp.elim (motive_1:=fun e=>onListComp e f=true->P e) e (on_idx h) (fun a b c d h=>k a b c d h) h
def onCompare (e:Expr) (f:Expr->List CmpOp->List Expr->Pos->Bool):Bool:=if h:e.ctorIdx=15 then Expr.Compare.elim (motive_1:=fun _=>Bool) e h f else false
theorem onCompare_el {P:Expr->Prop} {e:Expr} {f:Expr->List CmpOp->List Expr->Pos->Bool} (h:onCompare e f=true) (k:∀ a b c d,f a b c d=true->P (.Compare a b c d)):P e :=
 Expr.Compare.elim (motive_1:=fun e=>onCompare e f=true->P e) e (on_idx h) (fun a b c d h=>k a b c d h) h
def onCall (e:Expr) (f:Expr->List Expr->List Keyword->Pos->Bool):Bool:=if h:e.ctorIdx=16 then Expr.Call.elim (motive_1:=fun _=>Bool) e h f else false
theorem onCall_el {P:Expr->Prop} {e:Expr} {f:Expr->List Expr->List Keyword->Pos->Bool} (h:onCall e f=true) (k:∀ a b c d,f a b c d=true->P (.Call a b c d)):P e :=
 Expr.Call.elim (motive_1:=fun e=>onCall e f=true->P e) e (on_idx h) (fun a b c d h=>k a b c d h) h
def onConstant (e:Expr) (f:Const->Nat->Pos->Bool):Bool:=if h:e.ctorIdx=19 then Expr.Constant.elim (motive_1:=fun _=>Bool) e h f else false
theorem onConstant_el {P:Expr->Prop} {e:Expr} {f:Const->Nat->Pos->Bool} (h:onConstant e f=true) (k:∀ a b c,f a b c=true->P (.Constant a b c)):P e :=
 Expr.Constant.elim (motive_1:=fun e=>onConstant e f=true->P e) e (on_idx h) (fun a b c h=>k a b c h) h
def onAttribute (e:Expr) (f:Expr->Str->Pos->Bool):Bool:=if h:e.ctorIdx=20 then Expr.Attribute.elim (motive_1:=fun _=>Bool) e h f else false
theorem onAttribute_el {P:Expr->Prop} {e:Expr} {f:Expr->Str->Pos->Bool} (h:onAttribute e f=true) (k:∀ a b c,f a b c=true->P (.Attribute a b c)):P e :=
 Expr.Attribute.elim (motive_1:=fun e=>onAttribute e f=true->P e) e (on_idx h) (fun a b c h=>k a b c h) h
def onSubscript (e:Expr) (f:Expr->Expr->Pos->Bool):Bool:=if h:e.ctorIdx=21 then Expr.Subscript.elim (motive_1:=fun _=>Bool) e h f else false
theorem onSubscript_el {P:Expr->Prop} {e:Expr} {f:Expr->Expr->Pos->Bool} (h:onSubscript e f=true) (k:∀ a b c,f a b c=true->P (.Subscript a b c)):P e :=
 Expr.Subscript.elim (motive_1:=fun e=>onSubscript e f=true->P e) e (on_idx h) (fun a b c h=>k a b c h) h
def onName (e:Expr) (f:Str->Pos->Bool):Bool:=if h:e.ctorIdx=23 then Expr.Name.elim (motive_1:=fun _=>Bool) e h f else false
theorem onName_el {P:Expr->Prop} {e:Expr} {f:Str->Pos->Bool} (h:onName e f=true) (k:∀ a b,f a b=true->P (.Name a b)):P e :=
 Expr.Name.elim (motive_1:=fun e=>onName e f=true->P e) e (on_idx h) (fun a b h=>k a b h) h
def onList (e:Expr) (f:List Expr->Pos->Bool):Bool:=if h:e.ctorIdx=24 then Expr.List.elim (motive_1:=fun _=>Bool) e h f else false
theorem onList_el {P:Expr->Prop} {e:Expr} {f:List Expr->Pos->Bool} (h:onList e f=true) (k:∀ a b,f a b=true->P (.List a b)):P e :=
 Expr.List.elim (motive_1:=fun e=>onList e f=true->P e) e (on_idx h) (fun a b h=>k a b h) h
def onTuple (e:Expr) (f:List Expr->Nat->Pos->Bool):Bool:=if h:e.ctorIdx=25 then Expr.Tuple.elim (motive_1:=fun _=>Bool) e h f else false
theorem onTuple_el {P:Expr->Prop} {e:Expr} {f:List Expr->Nat->Pos->Bool} (h:onTuple e f=true) (k:∀ a b c,f a b c=true->P (.Tuple a b c)):P e :=
 Expr.Tuple.elim (motive_1:=fun e=>onTuple e f=true->P e) e (on_idx h) (fun a b c h=>k a b c h) h
def onSlice (e:Expr) (f:Option Expr->Option Expr->Option Expr->Pos->Bool):Bool:=if h:e.ctorIdx=26 then Expr.Slice.elim (motive_1:=fun _=>Bool) e h f else false
theorem onSlice_el {P:Expr->Prop} {e:Expr} {f:Option Expr->Option Expr->Option Expr->Pos->Bool} (h:onSlice e f=true) (k:∀ a b c d,f a b c d=true->P (.Slice a b c d)):P e :=
 Expr.Slice.elim (motive_1:=fun e=>onSlice e f=true->P e) e (on_idx h) (fun a b c d h=>k a b c d h) h
def stReturn (e:Stmt) (f:Option Expr->Pos->Bool):Bool:=if h:e.ctorIdx=3 then Stmt.Return.elim (motive_2:=fun _=>Bool) e h f else false
theorem stReturn_el {P:Stmt->Prop} {e:Stmt} {f:Option Expr->Pos->Bool} (h:stReturn e f=true) (k:∀ a b,f a b=true->P (.Return a b)):P e :=
 Stmt.Return.elim (motive_2:=fun e=>stReturn e f=true->P e) e (on_idx h) (fun a b h=>k a b h) h
def stAssign (e:Stmt) (f:List Expr->Expr->Pos->Bool):Bool:=if h:e.ctorIdx=5 then Stmt.Assign.elim (motive_2:=fun _=>Bool) e h f else false
theorem stAssign_el {P:Stmt->Prop} {e:Stmt} {f:List Expr->Expr->Pos->Bool} (h:stAssign e f=true) (k:∀ a b c,f a b c=true->P (.Assign a b c)):P e :=
 Stmt.Assign.elim (motive_2:=fun e=>stAssign e f=true->P e) e (on_idx h) (fun a b c h=>k a b c h) h
def stFor (e:Stmt) (f:Expr->Expr->List Stmt->List Stmt->Pos->Bool):Bool:=if h:e.ctorIdx=9 then Stmt.For.elim (motive_2:=fun _=>Bool) e h f else false
theorem stFor_el {P:Stmt->Prop} {e:Stmt} {f:Expr->Expr->List Stmt->List Stmt->Pos->Bool} (h:stFor e f=true) (k:∀ a b c d e,f a b c d e=true->P (.For a b c d e)):P e :=
 Stmt.For.elim (motive_2:=fun e=>stFor e f=true->P e) e (on_idx h) (fun a b c d e h=>k a b c d e h) h
def stIf (e:Stmt) (f:Expr->List Stmt->List Stmt->Pos->Bool):Bool:=if h:e.ctorIdx=12 then Stmt.If.elim (motive_2:=fun _=>Bool) e h f else false
theorem stIf_el {P:Stmt->Prop} {e:Stmt} {f:Expr->List Stmt->List Stmt->Pos->Bool} (h:stIf e f=true) (k:∀ a b c d,f a b c d=true->P (.If a b c d)):P e :=
 Stmt.If.elim (motive_2:=fun e=>stIf e f=true->P e) e (on_idx h) (fun a b c d h=>k a b c d h) h
def stExpr (e:Stmt) (f:Expr->Pos->Bool):Bool:=if h:e.ctorIdx=24 then Stmt.Expr.elim (motive_2:=fun _=>Bool) e h f else false
theorem stExpr_el {P:Stmt->Prop} {e:Stmt} {f:Expr->Pos->Bool} (h:stExpr e f=true) (k:∀ a b,f a b=true->P (.Expr a b)):P e :=
 Stmt.Expr.elim (motive_2:=fun e=>stExpr e f=true->P e) e (on_idx h) (fun a b h=>k a b h) h
def stPass (e:Stmt) (f:Pos->Bool):Bool:=if h:e.ctorIdx=25 then Stmt.Pass.elim (motive_2:=fun _=>Bool) e h f else false
theorem stPass_el {P:Stmt->Prop} {e:Stmt} {f:Pos->Bool} (h:stPass e f=true) (k:∀ a,f a=true->P (.Pass a)):P e :=
 Stmt.Pass.elim (motive_2:=fun e=>stPass e f=true->P e) e (on_idx h) (fun a h=>k a h) h
def stBreak (e:Stmt) (f:Pos->Bool):Bool:=if h:e.ctorIdx=26 then Stmt.Break.elim (motive_2:=fun _=>Bool) e h f else false
theorem stBreak_el {P:Stmt->Prop} {e:Stmt} {f:Pos->Bool} (h:stBreak e f=true) (k:∀ a,f a=true->P (.Break a)):P e :=
 Stmt.Break.elim (motive_2:=fun e=>stBreak e f=true->P e) e (on_idx h) (fun a h=>k a h) h
def stContinue (e:Stmt) (f:Pos->Bool):Bool:=if h:e.ctorIdx=27 then Stmt.Continue.elim (motive_2:=fun _=>Bool) e h f else false
theorem stContinue_el {P:Stmt->Prop} {e:Stmt} {f:Pos->Bool} (h:stContinue e f=true) (k:∀ a,f a=true->P (.Continue a)):P e :=
 Stmt.Continue.elim (motive_2:=fun e=>stContinue e f=true->P e) e (on_idx h) (fun a h=>k a h) h
def isInt (k:Int):Const->Bool
 | .int j=>k == j
 | _=>false
def isNoneC:Const->Bool
 | .none=>true
 | _=>false
def isNone (e:Expr):Bool:=onConstant e fun c _ _=>isNoneC c
def isTrueC:Const->Bool
 | .bool true=>true
 | _=>false
def isTrueE (e:Expr):Bool:=onConstant e fun c _ _=>isTrueC c
def isAnd:BoolOp->Bool
 | .And=>true
 | .Or=>false
def isUSub:UnaryOp->Bool
 | .USub=>true
 | _=>false
def isNot:UnaryOp->Bool
 | .Not=>true
 | _=>false
def noSlice (e:Expr):Bool:=!Nat.beq e.ctorIdx 26
def plainTest (e:Expr):Bool:=[23,16,21,24,25,19,2].contains e.ctorIdx
def notCall0 (e:Expr):Bool:=!(onCall e fun f as ks _=>Nat.beq f.ctorIdx 23 && as.isEmpty && ks.isEmpty)
def notStar (e:Expr):Bool:=!Nat.beq e.ctorIdx 22
def biName:Bi->Str
 | .len => "len" | .max2 => "max" | .min2 => "min" | .int1 => "int" | .list1 => "list" | .tuple1 => "tuple" | .repr1 => "repr" | .isi _ => "isinstance" | .all1 => "all" | .any1 => "any" | .dict1 => "dict" | .min1 => "min" | .max1 => "max"
def meName:Me->Str
 | .append => "append" | .insert => "insert" | .reverse => "reverse" | .extend => "extend" | .remove => "remove"
def bltNames:List Str:=["len","max","min","int","list","tuple","repr","isinstance","all","any","bool","str","dict","range","enumerate","zip"]
def meOk:Me->Bool
 | .append=>true | .insert=>true | .reverse=>false | .extend=>true | .remove=>true
def biOk:Bi->Bool
 | .any1=>false
 | .min1=>false
 | .max1=>false
 | .isi _=>false
 | _=>true
def isStr (k:Str):Const->Bool
 | .str s=>k == s
 | _=>false
def strKeys:List Str->List (Option Expr)->Bool
 | [],[]=>true
 | k::ks,some e::es=>(onConstant e fun c _ _=>isStr k c) && strKeys ks es
 | _,_=>false
def blockN (sc:Scope):List Str:=(sc.names.filter fun y=>y.2 == .local || y.2 == .free || y.2 == .cell).map (·.1)
def capOf (cc:CC) (sc:Scope):List (Option Nat):=(blockN sc).map fun x=>if sc.names.lookup x == some .free then cc.N.findIdx? (· == x) else none
def blk (cc:CC) (sc:Scope):CC:=⟨blockN sc,sc.names,cc.fs,cc.gs⟩
def scOk (cc:CC) (sc:Scope):Bool:=sc.kind == .function && sc.names.all (fun y=>y.2 != .cell || sc.names.lookup y.1 == some .cell) && sc.names.all (fun y=>y.2 != .local || sc.names.lookup y.1 == some .local) && decide (blockN sc).Nodup &&
 sc.names.all (fun y=>y.2 != .free || (sc.names.lookup y.1 == some .free && (cc.names.lookup y.1 == some .cell || cc.names.lookup y.1 == some .free)))
def chkNames (cc:CC):List Nat->List Expr->Bool
 | [],[]=>true
 | i::tg,e::es=>(onName e fun x _=>cc.N[i]? == some x && (cc.names.lookup x == some .local || cc.names.lookup x == some .cell)) && chkNames cc tg es
 | _,_=>false
def chkTg (cc:CC) (tg:List Nat) (e:Expr):Bool:=match tg with
 | []=>false
 | [i]=>chkNames cc [i] [e]
 | i::j::r=>onTuple e fun es _ _=>chkNames cc (i::j::r) es && decide ((i::j::r).length < 20)
def isTuple (e:Expr):Bool:=Nat.beq e.ctorIdx 25
def notSet (e:Expr):Bool:=!Nat.beq e.ctorIdx 7
def chkK:D->Const->Bool
 | .int i,.int j=>i == j
 | .bl i,.bool j=>i == j
 | .str i,.str j=>i == j
 | .non,.none=>true
 | _,_=>false
def chkNeg:D->Const->Bool
 | .int i,.int j=>i == -j
 | _,_=>false
def chkCst (d:D) (e:Expr):Bool:=(onConstant e fun c _ _=>chkK d c) || onUnaryOp e fun op x _=>isUSub op && onConstant x fun c _ _=>chkNeg d c
def isiTy:Bi->Option Ty
 | .isi t=>some t
 | _=>none
theorem isiTy_some {b:Bi} {t:Ty} (h:isiTy b=some t):b=.isi t:=by
 cases b <;> first | (cases h;rfl) | cases h
mutual
def chk (cc:CC):C->Expr->Bool
 | .var i,e=>onName e fun x _=>cc.N[i]? == some x && vis cc x && plainName x
 | .cst d,e=>chkCst d e
 | .bin op a b,e=>onBinOp e fun l o r _=>o == opOf op && chk cc a l && chk cc b r
 | .cmp op a b,e=>onCompare e fun l os rs _=>match os,rs with
  | [o],[r]=>o == cOf op && !behindInMarks o r && (if op=.isN\/op=.notN then isNone r else true) && chk cc a l && chk cc b r
  | _,_=>false
 | .chain o1 o2 a b c,e=>onCompare e fun l os rs _=>match os,rs with
  | [p,q],[m,r]=>p == cOf o1 && q == cOf o2 && !lastMarks [p,q] [m,r] && !(decide (o1=.isN) || decide (o1=.notN) || decide (o2=.isN) || decide (o2=.notN)) && chk cc a l && chk cc b m && chk cc c r
  | _,_=>false
 | .conj cs,e=>onBoolOp e fun op es _=>isAnd op && chks cc cs es && !es.isEmpty
 | .disj cs,e=>onBoolOp e fun op es _=>!isAnd op && chks cc cs es && !es.isEmpty
 | .neg a,e=>onUnaryOp e fun op x _=>isNot op && chk cc a x
 | .ite t a b,e=>onIfExp e fun c x y _=>chkT cc t c && chk cc a x && chk cc b y
 | .tup cs,e=>onTuple e fun es _ _=>chks cc cs es
 | .lst cs,e=>onList e fun es _=>chks cc cs es
 | .sub a b,e=>onSubscript e fun e i _=>noSlice i && chk cc a e && chk cc b i
 | .slc a lo hi,e=>onSubscript e fun e i _=>onSlice i fun l h st _=>st.isNone && chk cc a e && chkO cc lo l && chkO cc hi h
 | .stp a k,e=>onSubscript e fun e i _=>onSlice i fun l h st _=>match l,h,st with
  | none,none,some ke=>((onConstant ke fun c _ _=>isInt k c) || onUnaryOp ke fun op x _=>isUSub op && onConstant x fun c _ _=>isInt (-k) c) && chk cc a e
  | _,_,_=>false
 | .sfind a b,e=>false
 | .call f cs,e=>onCall e fun fe args kws _=>onName fe fun x _=>match args,kws with
  | e::es,[]=>cc.fs[f]? == some (x,cs.length) && glob cc x && plainName x && chks cc cs (e::es)
  | _,_=>false
 | .bi b cs,e=>onCall e fun fe args kws _=>onName fe fun x _=>kws.isEmpty && x == biName b && glob cc x && match isiTy b,args with
  | some t,[e,f]=>(onName f fun y _=>y == Str.ofString (tyOf t) && glob cc y && decide (t≠.none)) && chks cc cs [e]
  | none,e::es=>biOk b && chks cc cs (e::es)
  | _,_=>false
 | .me m o cs,e=>onCall e fun fe es kws cp=>onAttribute fe fun e n ap=>kws.isEmpty && n == meName m && meOk m && ap.endLine == cp.line && notCall0 e && chk cc o e && chks cc cs es && decide (es.length < 20)
 | .dct ks cs,e=>onDict e fun keys vs _=>(strKeys ks keys && decide ks.Nodup && !keys.isEmpty && decide (keys.length<=15) && chks cc cs vs && decide (ks.length=cs.length)) || (ks.isEmpty && cs.isEmpty && keys.isEmpty && vs.isEmpty)
 | .rng tp cs,e=>onCall e fun fe args kws _=>onName fe fun x _=>match args,kws with
  | [a],[]=>onCall a fun f2 args2 kws2 _=>onName f2 fun y _=>match args2,kws2 with
   | e::es,[]=>x == (if tp=true then ("tuple" : Str) else ("list" : Str)) && y == "range" && glob cc x && glob cc y && chks cc cs (e::es)
   | _,_=>false
  | _,_=>false
 | .glo x v,e=>onName e fun y _=>y == x && glob cc x && plainName x && cc.gs.lookup x == some v
 | .isTr ng a,e=>onCompare e fun l os rs _=>match os,rs with
  | [o],[r]=>o == (if ng=true then CmpOp.IsNot else CmpOp.Is) && !behindInMarks o r && isTrueE r && chk cc a l
  | _,_=>false
 | .usub a,e=>false
 | .minD a b,e=>false
 | .comp k src tg cond elt cap,e=>onListComp e fun el gens sc _=>match gens with
  | [⟨t,iter,ifs,as⟩]=>as == 0 && scOk cc sc && decide (cap=capOf cc sc) && chkSrc cc k src t iter && chkTg (blk cc sc) tg t && chkC (blk cc sc) cond ifs && chk (blk cc sc) elt el
  | _=>false
def chkC (cc:CC):Option Tst->List Expr->Bool
 | none,[]=>true
 | some t,[e]=>chkT cc t e
 | _,_=>false
def chkSrc (cc:CC):SK->List C->Expr->Expr->Bool
 | .seq,[c],_,e=>notSet e && chk cc c e
 | .rng1,[c],_,e=>onCall e fun fe args kws _=>onName fe fun x _=>match args,kws with
  | [a],[]=>x == "range" && glob cc x && notStar a && chk cc c a
  | _,_=>false
 | .enum,[c],t,e=>onCall e fun fe args kws _=>onName fe fun x _=>match args,kws with
  | [a],[]=>x == "enumerate" && isTuple t && glob cc x && notStar a && chk cc c a
  | _,_=>false
 | .zip,[c,d],t,e=>onCall e fun fe args kws _=>onName fe fun x _=>match args,kws with
  | [a,b],[]=>x == "zip" && isTuple t && glob cc x && notStar a && notStar b && chk cc c a && chk cc d b
  | _,_=>false
 | _,_,_,_=>false
def chkT (cc:CC):Tst->Expr->Bool
 | .conj ts,e=>onBoolOp e fun op es _=>isAnd op && chkTs cc ts es && !es.isEmpty
 | .disj ts,e=>onBoolOp e fun op es _=>!isAnd op && chkTs cc ts es && !es.isEmpty
 | .neg a,e=>onUnaryOp e fun op x _=>isNot op && chkT cc a x
 | .val (.cmp op a b),e=>chk cc (.cmp op a b) e
 | .val (.chain o1 o2 a b c),e=>chk cc (.chain o1 o2 a b c) e
 | .val (.isTr ng a),e=>chk cc (.isTr ng a) e
 | .val c,e=>plainTest e && chk cc c e
def chkTs (cc:CC):List Tst->List Expr->Bool
 | [],[]=>true
 | c::cs,e::es=>chkT cc c e && chkTs cc cs es
 | _,_=>false
def chks (cc:CC):List C->List Expr->Bool
 | [],[]=>true
 | c::cs,e::es=>notStar e && chk cc c e && chks cc cs es
 | _,_=>false
def chkO (cc:CC):Option C->Option Expr->Bool
 | none,none=>true
 | some c,some e=>chk cc c e
 | _,_=>false
end
def KindOk (X:Cx) (x:Str):NameKind->Prop
 | .local=>X.env.kindOf x=some .local
 | .cell=>X.env.kindOf x=some .cell
 | .free=>X.env.kindOf x=some .cell\/X.env.kindOf x=some .free
 | .globalImplicit=>X.env.kindOf x=some .globalImplicit
 | _=>True
def spD (K:PySem.W.Frag) (n:Nat) (F:List D->Mem->Out W):Sp:=fun vs H Q _=>∃ ads M ds,MRel K ads H M/\RDs K ads H ds vs/\ds.length=n/\OkW K ads H Q (F ds M)
structure Good (kk:Nat) (X:Cx) (cc:CC) (G:Fns):Prop where
 calm:X.calm=true
 room:Room kk X.A
 N:X.N=cc.N
 nd:cc.N.Nodup
 kinds:∀ x k,cc.names.lookup x=some k->KindOk X x k
 fnc:∀ x,cc.names.lookup x=some .cell->X.fn x=true
 blt:∀ b∈bltNames,X.mg b=none
 gls:∀ (x:Str) (v:Int),cc.gs.lookup x=some v->∃ t,X.mg x=some (.int v t)
 fns:∀ (i:Nat) (x:Str) (n:Nat),cc.fs[i]?=some (x,n)->∃ f fd ps,FnOk X.prog X.w X.K X.mg X.base CX0 kk f fd ps (spD X.K n (G i))/\X.mg x=some (.ref f)/\PySem.W.keepIn X.K (.ref f)=true/\Binds X.K fd ps []
section
variable {kk:Nat} {X:Cx} {cc:CC} {G:Fns}
theorem Good.vis (g:Good kk X cc G) {x:Str} (h:vis cc x=true):Vis X.env.scope x:=by
 unfold Ev.vis at h
 split at h
 ·rename_i q;exact .inl (g.kinds x _ q)
 ·rename_i q;exact .inr (.inl (g.kinds x _ q))
 ·rename_i q
  rcases g.kinds x _ q with z | z
  ·exact .inr (.inl z)
  ·exact .inr (.inr z)
 ·cases h
theorem Good.gl (g:Good kk X cc G) {x:Str} (h:glob cc x=true):Gl X x:=by
 unfold glob at h
 split at h
 ·rename_i q;exact g.kinds x _ q
 ·cases h
theorem plain_dbg {x:Str} (h:plainName x=true):(x == ("__debug__" : Str))=false/\(x == ("__classdict__" : Str))=false/\x≠("__name__" : Str):=by
 unfold plainName at h
 simp only [zqf,Bool.not_eq_true'] at h
 exact ⟨h.1.1,h.1.2,fun z=>by rw [z] at h;simp at h⟩
theorem peI {e:Expr} {t u:TE} (h:PE X e t) (f:∀ σ H Q,u σ H Q->t σ H Q):PE X e u:=fun pins s σ H Q I q=>h pins s σ H Q I (f σ H Q q)
theorem ptI {e:Expr} {t u:TT} (h:PT X e t) (f:∀ σ H Q,u σ H Q->t σ H Q):PT X e u:=fun pins s σ H Q I q=>h pins s σ H Q I (f σ H Q q)
theorem pwI {e:Expr} {t u:TT} (h:PW X e t) (f:∀ σ H Q,u σ H Q->t σ H Q):PW X e u:=fun wh pins s σ H Q I q=>h wh pins s σ H Q I (f σ H Q q)
theorem paI {e:List Expr} {t u:TA} (h:PA X e t) (f:∀ σ H Q,u σ H Q->t σ H Q):PA X e u:=fun p pins s σ H Q I q=>h p pins s σ H Q I (f σ H Q q)
theorem star_of {e:Expr} (h:notStar e=true) (es:List Expr) (env:Env):starEach (e::es) env=(false,eval e env)::starEach es env:=by
 cases e <;> first | rfl | exact absurd (show false=true from h) zqd
theorem s_var {i:Nat} {e:Expr} (g:Good kk X cc G) (h:chk cc (.var i) e=true):PE X e (tE X.K (ev G (.var i))):=by
 refine onName_el (P:=fun e=>PE X e _) h fun x pos h=>?_
 have h:(cc.N[i]? == some x && vis cc x && plainName x)=true:=h
 simp only [zqf,beq_iff_eq] at h
 obtain ⟨⟨h1,h2⟩,h3⟩:=h
 obtain ⟨d1,d2,_⟩:=plain_dbg h3
 refine peI (pe_var (i:=i) (by rw [g.N];exact h1) (g.vis h2) d1 d2) fun σ H Q q=>?_
 obtain ⟨ads,M,ρ,s,q⟩:=q
 simp only [ev] at q
 split at q
 ·rename_i d e
  obtain ⟨v,ev',r⟩:=s.en i d e
  exact ⟨v,ev',q.plain s.mem r⟩
 ·exact q.elim
theorem tC_of {d:D} {v:V} (hd:∀ ads H,RD X.K ads H d v) (σ:L2.St) (H:Hp) (Q:VK) (h:tE X.K (ev G (.cst d)) σ H Q):tC v σ H Q:=by
 obtain ⟨ads,M,ρ,s,q⟩:=h
 exact OkW.plain q s.mem (hd _ _)
theorem s_cst {d:D} {e:Expr} (h:chk cc (.cst d) e=true):PE X e (tE X.K (ev G (.cst d))):=by
 replace h:chkCst d e=true:=h
 rcases (Bool.or_eq_true _ _).mp h with h | h
 case inr =>
  refine onUnaryOp_el (P:=fun e=>PE X e _) h fun op x pos h=>?_
  replace h:=(zqf _ _).mp h
  have h0:=h.1
  replace h:=h.2
  cases op <;> first | exact absurd (show false=true from h0) zqd | skip
  refine onConstant_el (P:=fun x=>PE X (.UnaryOp .USub x pos) _) h fun c j p h=>?_
  clear h0
  rcases d with _|_ | i | _|_|_|_ <;> first | exact absurd (show false=true from h) zqd | skip
  rcases c with _|_ | k | _|_|_|_|_ <;> first | exact absurd (show false=true from h) zqd | skip
  have h:i=-k:=eq_of_beq h
  subst h
  exact peI (pe_un un_neg pe_int) fun σ H Q q=>⟨k,rfl,tC_of (fun _ _=>rd_int _) σ H Q q⟩
 refine onConstant_el (P:=fun e=>PE X e _) h fun c j pos h=>?_
 cases d with
 | int i =>
  cases c <;> first | exact absurd (show false=true from h) zqd | skip
  have h:=eq_of_beq (show (i == _)=true from h)
  subst h
  exact peI pe_int (tC_of fun _ _=>rd_int _)
 | bl i =>
  cases c <;> first | exact absurd (show false=true from h) zqd | skip
  have h:=eq_of_beq (show (i == _)=true from h)
  subst h
  exact peI pe_bl (tC_of fun _ _=>rd_bl _)
 | str i =>
  cases c <;> first | exact absurd (show false=true from h) zqd | skip
  have h:=eq_of_beq (show (i == _)=true from h)
  subst h
  exact peI pe_str (tC_of fun _ _=>rd_str _)
 | non =>
  cases c <;> first | exact absurd (show false=true from h) zqd | skip
  exact peI pe_non (tC_of fun _ _=>rd_non)
 | tup _=>cases h
 | adr _=>cases h
 | ls _=>cases h
theorem s_bin {op:BOp} {a b:C} {e:Expr} (iha:∀ e,chk cc a e=true->PE X e (tE X.K (ev G a))) (ihb:∀ e,chk cc b e=true->PE X e (tE X.K (ev G b))) (h:chk cc (.bin op a b) e=true):PE X e (tE X.K (ev G (.bin op a b))):=by
 refine onBinOp_el (P:=fun e=>PE X e _) h fun l o r pos h=>?_
 have h:(o == opOf op && chk cc a l && chk cc b r)=true:=h
 simp only [zqf,beq_iff_eq] at h
 obtain ⟨⟨rfl,h1⟩,h2⟩:=h
 refine peI (pe_op (op_bin op) (iha l h1) (ihb r h2)) fun σ H Q q=>?_
 exact two (fun m r1 r2 h=>⟨_,_,_,_,m,r1,r2,h⟩) q
theorem okC_of {K:PySem.W.Frag} {ads:List Addr} {H:Hp} {Q:VK} {o:Out Bool} (h:OkW K ads H Q (o.bind fun r M=>.ok (.d (.bl r)) M)):OkC K ads H Q o:=by
 cases o with
 | ok b M=>exact fun H' ads' g m=>h (.bl b) H' ads' g m (show RD K ads' H' (.bl b) _ from rd_bl _)
 | err _ _=>exact h
 | stuck=>exact h
theorem isNone_v {b:C} {e:Expr} (hn:isNone e=true) (hb:chk cc b e=true):b=.cst .non:=by
 revert hb
 refine onConstant_el (P:=fun e=>chk cc b e=true->b=.cst .non) hn fun c j pos hn hb=>?_
 cases c <;> first | cases hn | skip
 cases b <;> first | exact absurd (show false=true from hb) zqd | skip
 rename_i d
 cases d <;> first | rfl | exact absurd (show false=true from hb) zqd
theorem s_cmp {op : COp} {a b : C} {e : Expr} (g : Good kk X cc G) (iha : ∀ e, chk cc a e = true -> PE X e (tE X.K (ev G a))) (ihb : ∀ e, chk cc b e = true -> PE X e (tE X.K (ev G b))) (h : chk cc (.cmp op a b) e = true) :
    PE X e (tE X.K (ev G (.cmp op a b)))/\PT X e (tTest (tE X.K (ev G (.cmp op a b)))):=by
  refine onCompare_el (P:=fun e=>PE X e (tE X.K (ev G (.cmp op a b)))/\PT X e (tTest (tE X.K (ev G (.cmp op a b))))) h fun l ops rs pos h=>?_
  rcases ops with _|⟨o,_|⟨o2,ops⟩⟩ <;> rcases rs with _|⟨r,_|⟨r2,rs⟩⟩ <;> first | exact absurd (show false=true from h) zqd | skip
  have h:(o == cOf op && !behindInMarks o r && (if op=.isN\/op=.notN then isNone r else true) && chk cc a l && chk cc b r)=true:=h
  simp only [zqf,beq_iff_eq,Bool.not_eq_true'] at h
  obtain ⟨⟨⟨⟨rfl,hm⟩,hn⟩,h1⟩,h2⟩:=h
  have hun:=g.room.un
  have key:∀ σ H Q,tE X.K (ev G (.cmp op a b)) σ H Q->tOp (rCmp X.K op) (tE X.K (ev G a)) (tE X.K (ev G b)) σ H Q:=by
    intro σ H Q q
    by_cases hop:op=.isN\/op=.notN
    · rw [if_pos hop] at hn
      have eb:=isNone_v hn h2
      subst eb
      obtain ⟨ads,M,ρ,s,q⟩:=q
      refine tE_bind s q fun w M1 v H1 ads1 s1 rw1 q1=>⟨ads1,M1,ρ,s1,?_⟩
      intro vy H2 ads2 g2 m2 ry
      have ey:=rw_non ry
      refine ⟨ads2,M1,w,.d .non,m2,g2.rw rw1,(show RD X.K ads2 H2 .non vy by rw [ey];exact rd_non),fun _=>ey,?_⟩
      have q1:OkW X.K ads1 H1 Q ((cmpW op w (.d .non) M1).bind fun r M=>.ok (.d (.bl r)) M):=q1
      exact okC_of (q1.shift g2 s1.mem m2)
    · exact two (fun m r1 r2 h=>⟨_,_,_,_,m,r1,r2,fun z=>absurd z hop,okC_of h⟩) q
  exact ⟨peI (pe_cmpR (op_cmp (by omega) op) (iha l h1) (ihb r h2) hm) key,ptI (pt_cmpR (op_cmp (by omega) op) (iha l h1) (ihb r h2) hm) fun σ H Q q=>key σ H _ q⟩
theorem s_neg {a:C} {e:Expr} (iha:∀ e,chk cc a e=true->PE X e (tE X.K (ev G a))) (h:chk cc (.neg a) e=true):PE X e (tE X.K (ev G (.neg a))):=by
 refine onUnaryOp_el (P:=fun e=>PE X e _) h fun op x pos h=>?_
 obtain ⟨h0,h⟩:=(zqf _ _).mp h
 cases op <;> first | exact absurd (show false=true from h0) zqd | skip
 refine peI (pe_not (iha x h)) fun σ H Q q=>?_
 obtain ⟨ads,M,ρ,s,q⟩:=q
 refine tE_bind s q fun w M1 v H1 ads1 s1 rw1 q1=>?_
 rcases w with ⟨_ | b | _|_|_|_⟩|_ <;> first | exact q1.elim | skip
 exact ⟨b,rw_bl rw1,OkW.plain q1 s1.mem (rd_bl _)⟩
theorem s_tup {cs:List C} {e:Expr} (ih:∀ es,chks cc cs es=true->PA X es (tDs X.K (evDs G cs))) (h:chk cc (.tup cs) e=true):PE X e (tE X.K (ev G (.tup cs))):=by
 refine onTuple_el (P:=fun e=>PE X e _) h fun es k pos h=>?_
 refine peI (pe_tup (ih es h)) fun σ H Q q=>?_
 obtain ⟨ads,M,ρ,s,q⟩:=q
 refine ⟨ads,M,ρ,s,?_⟩
 simp only [ev] at q
 cases hq:evDs G cs ρ M with
 | ok ds M1 =>
  rw [hq] at q
  have q:OkW X.K ads H Q (if ds.length<=sizeLine then .ok (.d (.tup ds)) M1 else .stuck):=q
  intro vs H1 ads1 g1 m1 r1
  split at q
  ·rename_i hz
   exact ⟨by rw [<- r1.len];exact hz,fun p hp=>(q.shift g1 s.mem m1).tuple m1 r1 hp⟩
  ·exact q.elim
 | err _ _=>rw [hq] at q;exact q
 | stuck=>rw [hq] at q;exact q
theorem s_lst {cs:List C} {e:Expr} (ih:∀ es,chks cc cs es=true->PA X es (tDs X.K (evDs G cs))) (h:chk cc (.lst cs) e=true):PE X e (tE X.K (ev G (.lst cs))):=by
 refine onList_el (P:=fun e=>PE X e _) h fun es pos h=>?_
 refine peI (pe_lst (ih es h)) fun σ H Q q=>?_
 obtain ⟨ads,M,ρ,s,q⟩:=q
 refine ⟨ads,M,ρ,s,?_⟩
 simp only [ev] at q
 cases hq:evDs G cs ρ M with
 | ok ds M1 =>
  rw [hq] at q
  have q:OkW X.K ads H Q (if ds.length<=sizeLine then .ok (.lv ds) M1 else .stuck):=q
  intro vs H1 ads1 g1 m1 r1
  split at q
  ·rename_i hz
   exact ⟨by rw [<- r1.len];exact hz,fun p hp=>(q.shift g1 s.mem m1).list m1 r1 hp⟩
  ·exact q.elim
 | err _ _=>rw [hq] at q;exact q
 | stuck=>rw [hq] at q;exact q
theorem own_ok {K : PySem.W.Frag} {ads ads' : List Addr} {H H' : Hp} {w : W} {v : V} {M1 : Mem} {d : D} {M2 : Mem} (m : MRel K ads H M) (g : Grow ads ads' H H') (m1 : MRel K ads' H' M1) (r : RWn K ads' H H' w v) (e : own w M1 = .ok d M2) :
    ∃ ads2,Grow ads ads2 H H'/\MRel K ads2 H' M2/\RD K ads2 H' d v:=by
  cases w with
  | d x=>cases e;exact ⟨ads',g,m1,r⟩
  | lv ds =>
    cases e
    obtain ⟨a,xs,rfl,h0,h1,n,r⟩:=r
    refine ⟨ads'++[a],⟨?_,fun b hb nb=>?_,g.kept,g.tups,g.frz⟩,m1.push n ⟨xs,h1,r⟩,?_⟩
    · obtain ⟨t,e⟩:=g.pre
      exact ⟨t++[a],by rw [e,List.append_assoc]⟩
    · rcases zqr.mp hb with z | z
      · exact g.new b z nb
      · have:b=a:=by simpa using z
        subst this
        exact h0
    · unfold RD
      exact ⟨a,rfl,by rw [List.getElem?_append_right (by rw [m1.len];exact zqg _)];simp [m1.len]⟩
theorem s_nil:PA X [] (tDs X.K (evDs G [])):=paI pa_nil fun σ H Q q=>by
 obtain ⟨ads,M,ρ,s,q⟩:=q
 exact q [] H ads (Grow.refl _ _) s.mem (by unfold RDs;rfl)
theorem s_cons {c:C} {cs:List C} {e:Expr} {es:List Expr} (hs:notStar e=true) (ha:PE X e (tE X.K (ev G c))) (hr:PA X es (tDs X.K (evDs G cs))):PA X (e::es) (tDs X.K (evDs G (c::cs))):=by
 refine paI (pa_cons ha hr (star_of hs es X.env)) fun σ H Q q=>?_
 obtain ⟨ads,M,ρ,s,q⟩:=q
 refine ⟨ads,M,ρ,s,?_⟩
 simp only [evDs] at q
 cases hq:ev G c ρ M with
 | ok w M1 =>
  rw [hq] at q
  intro v H1 ads1 g1 m1 r1
  cases ho:own w M1 with
  | ok d M2 =>
   have q:OkDs X.K ads H Q ((own w M1).bind fun d M=>(evDs G cs ρ M).bind fun ds M=>.ok (d::ds) M):=q
   rw [ho] at q
   obtain ⟨ads2,g2,m2,rd⟩:=own_ok s.mem g1 m1 r1 ho
   refine ⟨ads2,M2,ρ,s.grow g2 m2,?_⟩
   have q:OkDs X.K ads H Q ((evDs G cs ρ M2).bind fun ds M=>.ok (d::ds) M):=q
   cases hq3:evDs G cs ρ M2 with
   | ok ds M3 =>
    rw [hq3] at q
    intro vs H3 ads3 g3 m3 r3
    refine q (v::vs) H3 ads3 (g2.trans g3) m3 ?_
    unfold RDs
    exact ⟨v,vs,rfl,g3.rd _ _ rd,r3⟩
   | err _ _=>rw [hq3] at q;exact q
   | stuck=>rw [hq3] at q;exact q
  | err _ _=>cases w <;> cases ho
  | stuck=>cases w <;> cases ho
 | err _ _=>rw [hq] at q;exact q
 | stuck=>rw [hq] at q;exact q
end
section
variable {kk:Nat} {X:Cx} {cc:CC} {G:Fns}
theorem s_chain {o1 o2 : COp} {a b c : C} {e : Expr} (g : Good kk X cc G) (iha : ∀ e, chk cc a e = true -> PE X e (tE X.K (ev G a))) (ihb : ∀ e, chk cc b e = true -> PE X e (tE X.K (ev G b))) (ihc : ∀ e, chk cc c e = true -> PE X e (tE X.K (ev G c)))
    (h:chk cc (.chain o1 o2 a b c) e=true):PE X e (tE X.K (ev G (.chain o1 o2 a b c)))/\PT X e (tTest (tE X.K (ev G (.chain o1 o2 a b c)))):=by
  refine onCompare_el (P:=fun e=>PE X e (tE X.K (ev G (.chain o1 o2 a b c)))/\PT X e (tTest (tE X.K (ev G (.chain o1 o2 a b c))))) h fun l ops rs pos h=>?_
  rcases ops with _|⟨p,_|⟨q,_|⟨_,ops⟩⟩⟩ <;> rcases rs with _|⟨m,_|⟨r,_|⟨_,rs⟩⟩⟩ <;> first | exact absurd (show false=true from h) zqd | skip
  have h:(p == cOf o1 && q == cOf o2 && !lastMarks [p,q] [m,r] && !(decide (o1=.isN) || decide (o1=.notN) || decide (o2=.isN) || decide (o2=.notN)) && chk cc a l && chk cc b m && chk cc c r)=true:=h
  simp only [zqf,beq_iff_eq,Bool.not_eq_true',Bool.or_eq_false_iff,decide_eq_false_iff_not] at h
  obtain ⟨⟨⟨⟨⟨⟨rfl,rfl⟩,hm⟩,⟨⟨⟨n1,n2⟩,n3⟩,n4⟩⟩,h1⟩,h2⟩,h3⟩:=h
  have hun:=g.room.un
  have key:∀ σ H Q,tE X.K (ev G (.chain o1 o2 a b c)) σ H Q->tChain (rCmp X.K o1) (rCmp X.K o2) (tE X.K (ev G a)) (tE X.K (ev G b)) (tE X.K (ev G c)) σ H Q:=by
    intro σ H Q q
    obtain ⟨ads,M,ρ,s,q⟩:=q
    refine tE_bind s q fun x M1 v H1 ads1 s1 rx q1=>?_
    refine ⟨ads1,M1,ρ,s1,?_⟩
    cases hq:ev G b ρ M1 with
    | ok y M2 =>
      rw [hq] at q1
      intro vy H2 ads2 g2 m2 ry
      have q2:OkW X.K ads1 H1 Q ((cmpW o1 x y M2).bind fun r M=>if r then (ev G c ρ M).bind fun z M=>(cmpW o2 y z M).bind fun r M=>.ok (.d (.bl r)) M else .ok (.d (.bl false)) M):=q1
      have s2:=s1.grow g2 m2
      refine ⟨ads2,M2,x,y,m2,g2.rw rx,ry.rw,fun z=>absurd z (by simp [n1,n2]),?_⟩
      cases hc:cmpW o1 x y M2 with
      | ok k M3 =>
        rw [hc] at q2
        intro H3 ads3 g3 m3
        have s3:=s2.grow g3 m3
        have ry3:=g3.rw ry.rw
        refine ⟨k,rfl,?_⟩
        have q3:OkW X.K ads3 H3 Q (if k then (ev G c ρ M3).bind fun z M=>(cmpW o2 y z M).bind fun r M=>.ok (.d (.bl r)) M else .ok (.d (.bl false)) M3):=OkW.shift q2 (g2.trans g3) s1.mem m3
        cases k with
        | false=>rw [if_neg (by simp)] at q3 ⊢;exact OkW.plain q3 m3 (rd_bl _)
        | true =>
          rw [if_pos rfl] at q3 ⊢
          refine ⟨ads3,M3,ρ,s3,?_⟩
          cases hz:ev G c ρ M3 with
          | ok z M4 =>
            rw [hz] at q3
            intro vz H4 ads4 g4 m4 rz
            exact ⟨ads4,M4,y,z,m4,g4.rw ry3,rz.rw,fun w=>absurd w (by simp [n3,n4]),okC_of (OkW.shift (o:=(cmpW o2 y z M4).bind fun r M=>.ok (.d (.bl r)) M) q3 g4 m3 m4)⟩
          | err _ _=>rw [hz] at q3;exact q3
          | stuck=>rw [hz] at q3;exact q3
      | err _ _=>rw [hc] at q2;exact q2
      | stuck=>rw [hc] at q2;exact q2
    | err _ _=>rw [hq] at q1;exact q1
    | stuck=>rw [hq] at q1;exact q1
  exact ⟨peI (pe_chain (op_cmp (by omega) o1) (op_cmp (by omega) o2) (iha l h1) (ihb m h2) (ihc r h3) hm) key,ptI (pt_chain (op_cmp (by omega) o1) (op_cmp (by omega) o2) (iha l h1) (ihb m h2) (ihc r h3) hm) fun σ H Q q=>key σ H _ q⟩
theorem isTrueE_e {P:Expr->Prop} {e:Expr} (h:isTrueE e=true) (k:∀ j p,P (.Constant (.bool true) j p)):P e:=onConstant_el (P:=P) h fun c j p h=>by
 rcases c with _ | b | _|_|_|_|_|_ <;> first | exact absurd (show false=true from h) zqd | skip
 cases b with
 | true=>exact k j p
 | false=>exact absurd (show false=true from h) zqd
theorem isTr_key {ng:Bool} {a:C} {σ:L2.St} {H:Hp} {Q:VK} (q:tE X.K (ev G (.isTr ng a)) σ H Q):tOp (fun x y H Q=>∃ b c,x=.bl b/\y=.bl c/\Q (.bl (ng != (b == c))) H) (tE X.K (ev G a)) (tC (.bl true)) σ H Q:=by
 obtain ⟨ads,M,ρ,s,q⟩:=q
 refine tE_bind s q fun w M1 v H1 ads1 s1 rw1 q1=>?_
 rcases w with ⟨_ | b | _|_|_|_|_⟩|_ <;> first | exact q1.elim | skip
 refine ⟨b,true,rw_bl rw1,rfl,?_⟩
 rw [show (b == true)=b from by cases b <;> rfl]
 exact OkW.plain q1 s1.mem (rd_bl _)
theorem s_isTr {ng : Bool} {a : C} {e : Expr} (iha : ∀ e, chk cc a e = true -> PE X e (tE X.K (ev G a))) (h : chk cc (.isTr ng a) e = true) :
    PE X e (tE X.K (ev G (.isTr ng a)))/\PT X e (tTest (tE X.K (ev G (.isTr ng a)))):=by
  refine onCompare_el (P:=fun e=>PE X e (tE X.K (ev G (.isTr ng a)))/\PT X e (tTest (tE X.K (ev G (.isTr ng a))))) h fun l ops rs pos h=>?_
  rcases ops with _|⟨o,_|⟨o2,ops⟩⟩ <;> rcases rs with _|⟨r,_|⟨r2,rs⟩⟩ <;> first | exact absurd (show false=true from h) zqd | skip
  have h:(o == (if ng=true then CmpOp.IsNot else CmpOp.Is) && !behindInMarks o r && isTrueE r && chk cc a l)=true:=h
  simp only [zqf,beq_iff_eq,Bool.not_eq_true'] at h
  obtain ⟨⟨⟨ho,hm⟩,hr⟩,h1⟩:=h
  have pc:PE X r (tC (.bl true)):=isTrueE_e (P:=fun r=>PE X r (tC (.bl true))) hr fun j p=>pe_bl
  cases ng with
  | true =>
    have ho:o=.IsNot:=ho
    subst ho
    have key:∀ σ H Q,tE X.K (ev G (.isTr true a)) σ H Q->tOp (fun x y H Q=>∃ b c,x=.bl b/\y=.bl c/\Q (.bl (!(b == c))) H) (tE X.K (ev G a)) (tC (.bl true)) σ H Q:=fun σ H Q q=>by
      have:=isTr_key q
      simp only [Bool.true_bne] at this
      exact this
    exact ⟨peI (pe_cmpR op_notB (iha l h1) pc hm) key,ptI (pt_cmpR op_notB (iha l h1) pc hm) fun σ H Q q=>key σ H _ q⟩
  | false =>
    have ho:o=.Is:=ho
    subst ho
    have key:∀ σ H Q,tE X.K (ev G (.isTr false a)) σ H Q->tOp (fun x y H Q=>∃ b c,x=.bl b/\y=.bl c/\Q (.bl (b == c)) H) (tE X.K (ev G a)) (tC (.bl true)) σ H Q:=fun σ H Q q=>by
      have:=isTr_key q
      simp only [Bool.false_bne] at this
      exact this
    exact ⟨peI (pe_cmpR op_isB (iha l h1) pc hm) key,ptI (pt_cmpR op_isB (iha l h1) pc hm) fun σ H Q q=>key σ H _ q⟩
theorem bl_isTr {ng:Bool} {a:C} (ρ:En) (M:Mem) (w:W) (M':Mem) (h:ev G (.isTr ng a) ρ M=.ok w M'):∃ k,w=.d (.bl k):=by
 simp only [ev] at h
 cases h1:ev G a ρ M with
 | ok x M1 =>
  rw [h1] at h
  rcases x with ⟨_ | b | _|_|_|_|_⟩|_ <;> first | cases h | skip
  exact ⟨_,rfl⟩
 | err _ _=>rw [h1] at h;cases h
 | stuck=>rw [h1] at h;cases h
theorem s_and {op:BoolOp}:∀ (cs:List C) (es:List Expr) (pos:Pos),(∀ c∈cs,∀ e,chk cc c e=true->PE X e (tE X.K (ev G c)))->chks cc cs es=true->es≠[]->PE X (.BoolOp .And es pos) (tE X.K (evAnd G cs))
 | [],[],_,_,_,h=>absurd rfl h
 | [],_::_,_,_,h,_=>by cases h
 | _::_,[],_,_,h,_=>by cases h
 | c::cs,e::es,pos,ih,h,_=>by
  have h':(notStar e && chk cc c e && chks cc cs es)=true:=h
  simp only [zqf] at h'
  have he:=ih c List.mem_cons_self e h'.1.2
  cases es with
  | nil =>
   cases cs with
   | cons _ _=>cases h'.2
   | nil =>
    refine peI (pe_one he) fun σ H Q q=>?_
    obtain ⟨ads,M,ρ,s,q⟩:=q
    refine ⟨ads,M,ρ,s,?_⟩
    simp only [evAnd] at q
    cases hq:ev G c ρ M with
    | ok w M1=>rw [hq] at q;exact q
    | err _ _=>rw [hq] at q;exact q
    | stuck=>rw [hq] at q;exact q
  | cons e2 es =>
   cases cs with
   | nil=>cases h'.2
   | cons c2 cs =>
    have hr:=s_and (op:=op) (c2::cs) (e2::es) pos (fun c hc=>ih c (zqi _ hc)) h'.2 (by simp)
    refine peI (pe_and he hr) fun σ H Q q=>?_
    obtain ⟨ads,M,ρ,s,q⟩:=q
    have q:OkW X.K ads H Q ((ev G c ρ M).bind fun x M=>match c2::cs,x with
     | [],x=>.ok x M
     | _,.d (.bl true)=>evAnd G (c2::cs) ρ M
     | _,.d (.bl false)=>.ok (.d (.bl false)) M
     | _,_=>.stuck):=by unfold evAnd at q;exact q
    refine tE_bind s q fun w M1 v H1 ads1 s1 rw1 q1=>?_
    rcases w with ⟨_ | b | _|_|_|_⟩|_ <;> first | exact q1.elim | skip
    refine ⟨b,rw_bl rw1,?_⟩
    cases b with
    | false=>rw [if_neg (by simp)];exact OkW.plain q1 s1.mem (rd_bl _)
    | true=>rw [if_pos rfl];exact ⟨ads1,M1,ρ,s1,q1⟩
theorem s_or:∀ (cs:List C) (es:List Expr) (pos:Pos),(∀ c∈cs,∀ e,chk cc c e=true->PE X e (tE X.K (ev G c)))->chks cc cs es=true->es≠[]->PE X (.BoolOp .Or es pos) (tE X.K (evOr G cs))
 | [],[],_,_,_,h=>absurd rfl h
 | [],_::_,_,_,h,_=>by cases h
 | _::_,[],_,_,h,_=>by cases h
 | c::cs,e::es,pos,ih,h,_=>by
  have h':(notStar e && chk cc c e && chks cc cs es)=true:=h
  simp only [zqf] at h'
  have he:=ih c List.mem_cons_self e h'.1.2
  cases es with
  | nil =>
   cases cs with
   | cons _ _=>cases h'.2
   | nil =>
    refine peI (pe_one he) fun σ H Q q=>?_
    obtain ⟨ads,M,ρ,s,q⟩:=q
    refine ⟨ads,M,ρ,s,?_⟩
    simp only [evOr] at q
    cases hq:ev G c ρ M with
    | ok w M1=>rw [hq] at q;exact q
    | err _ _=>rw [hq] at q;exact q
    | stuck=>rw [hq] at q;exact q
  | cons e2 es =>
   cases cs with
   | nil=>cases h'.2
   | cons c2 cs =>
    have hr:=s_or (c2::cs) (e2::es) pos (fun c hc=>ih c (zqi _ hc)) h'.2 (by simp)
    refine peI (pe_or he hr) fun σ H Q q=>?_
    obtain ⟨ads,M,ρ,s,q⟩:=q
    have q:OkW X.K ads H Q ((ev G c ρ M).bind fun x M=>match c2::cs,x with
     | [],x=>.ok x M
     | _,.d (.bl false)=>evOr G (c2::cs) ρ M
     | _,.d (.bl true)=>.ok (.d (.bl true)) M
     | _,_=>.stuck):=by unfold evOr at q;exact q
    refine tE_bind s q fun w M1 v H1 ads1 s1 rw1 q1=>?_
    rcases w with ⟨_ | b | _|_|_|_⟩|_ <;> first | exact q1.elim | skip
    refine ⟨b,rw_bl rw1,?_⟩
    cases b with
    | true=>rw [if_pos rfl];exact OkW.plain q1 s1.mem (rd_bl _)
    | false=>rw [if_neg (by simp)];exact ⟨ads1,M1,ρ,s1,q1⟩
theorem tT_bind {K : PySem.W.Frag} {ads : List Addr} {H : Hp} {M : Mem} {ρ : En} {σ : L2.St} {o : En -> Mem -> Out Bool} {k : Bool -> Mem -> Out Bool} {Q : Bool -> Hp -> Prop} {R : Bool -> Hp -> Prop} (s : SR K ads M ρ σ H) (h : OkB K ads H Q ((o ρ M).bind k))
    (hk:∀ w M1 H1 ads1,SR K ads1 M1 ρ σ H1->OkB K ads1 H1 Q (k w M1)->R w H1):tTs K o σ H R:=by
  refine ⟨ads,M,ρ,s,?_⟩
  cases q:o ρ M with
  | ok w M1 =>
    rw [q] at h
    have h:OkB K ads H Q (k w M1):=h
    exact fun H1 ads1 g1 m1=>hk w M1 H1 ads1 (s.grow g1 m1) (h.shift g1)
  | err _ _=>rw [q] at h;exact h
  | stuck=>rw [q] at h;exact h
theorem t_val {c:C} {σ:L2.St} {H:Hp} {Q:Bool->Hp->Prop} (h:tTs X.K (evT G (.val c)) σ H Q):tE X.K (ev G c) σ H fun x H'=>∃ k,TruV X.K x H' k/\Q k H':=by
 obtain ⟨ads,M,ρ,s,q⟩:=h
 refine ⟨ads,M,ρ,s,?_⟩
 simp only [evT] at q
 cases hq:ev G c ρ M with
 | ok w M1 =>
  rw [hq] at q
  intro v H1 ads1 g1 m1 r1
  have q:OkB X.K ads H Q (match truW M1 w with | some r=>.ok r M1 | none=>.stuck):=q
  cases ht:truW M1 w with
  | none=>rw [ht] at q;exact q.elim
  | some k=>rw [ht] at q;exact ⟨k,tru_w m1 r1.rw ht,q H1 ads1 g1 m1⟩
 | err _ _=>rw [hq] at q;exact q
 | stuck=>rw [hq] at q;exact q
theorem test_of {e:Expr} (h:plainTest e=true) (env:Env):∀ whole,isTrue e env whole=(do let v <- whole;standAt e.pos;holding [v] (truthy v)):=by
 cases e <;> first | (intro _;rfl) | exact absurd (show false=true from h) zqd
theorem t_plain {c:C} {e:Expr} (hp:plainTest e=true) (he:PE X e (tE X.K (ev G c))):PT X e (tTs X.K (evT G (.val c))) :=
 ptI (pt_truth he (test_of hp X.env)) fun σ H Q q=>t_val q
theorem t_test {c:C} {e:Expr} (hb:∀ ρ M w M',ev G c ρ M=.ok w M'->∃ k,w=.d (.bl k)) (he:PT X e (tTest (tE X.K (ev G c)))):PT X e (tTs X.K (evT G (.val c))):=by
 refine ptI he fun σ H Q q=>?_
 obtain ⟨ads,M,ρ,s,q⟩:=q
 refine ⟨ads,M,ρ,s,?_⟩
 simp only [evT] at q
 cases hq:ev G c ρ M with
 | ok w M1 =>
  rw [hq] at q
  obtain ⟨k,rfl⟩:=hb _ _ _ _ hq
  intro v H1 ads1 g1 m1 r1
  exact ⟨k,rw_bl r1,q H1 ads1 g1 m1⟩
 | err _ _=>rw [hq] at q;exact q
 | stuck=>rw [hq] at q;exact q
theorem bl_cmp {op:COp} {a b:C} (ρ:En) (M:Mem) (w:W) (M':Mem) (h:ev G (.cmp op a b) ρ M=.ok w M'):∃ k,w=.d (.bl k):=by
 simp only [ev] at h
 cases h1:ev G a ρ M with
 | ok x M1 =>
  rw [h1] at h
  simp only [Out.bind] at h
  cases h2:ev G b ρ M1 with
  | ok y M2 =>
   rw [h2] at h
   simp only at h
   cases h3:cmpW op x y M2 with
   | ok k M3=>rw [h3] at h;cases h;exact ⟨k,rfl⟩
   | err _ _=>rw [h3] at h;cases h
   | stuck=>rw [h3] at h;cases h
  | err _ _=>rw [h2] at h;cases h
  | stuck=>rw [h2] at h;cases h
 | err _ _=>rw [h1] at h;cases h
 | stuck=>rw [h1] at h;cases h
theorem bl_chain {o1 o2:COp} {a b c:C} (ρ:En) (M:Mem) (w:W) (M':Mem) (h:ev G (.chain o1 o2 a b c) ρ M=.ok w M'):∃ k,w=.d (.bl k):=by
 simp only [ev] at h
 cases h1:ev G a ρ M with
 | ok x M1 =>
  rw [h1] at h
  simp only [Out.bind] at h
  cases h2:ev G b ρ M1 with
  | ok y M2 =>
   rw [h2] at h
   simp only at h
   cases h3:cmpW o1 x y M2 with
   | ok k M3 =>
    rw [h3] at h
    simp only at h
    cases k with
    | false=>cases h;exact ⟨_,rfl⟩
    | true =>
     simp only [if_true] at h
     cases h4:ev G c ρ M3 with
     | ok z M4 =>
      rw [h4] at h
      simp only at h
      cases h5:cmpW o2 y z M4 with
      | ok k M5=>rw [h5] at h;cases h;exact ⟨k,rfl⟩
      | err _ _=>rw [h5] at h;cases h
      | stuck=>rw [h5] at h;cases h
     | err _ _=>rw [h4] at h;cases h
     | stuck=>rw [h4] at h;cases h
   | err _ _=>rw [h3] at h;cases h
   | stuck=>rw [h3] at h;cases h
  | err _ _=>rw [h2] at h;cases h
  | stuck=>rw [h2] at h;cases h
 | err _ _=>rw [h1] at h;cases h
 | stuck=>rw [h1] at h;cases h
theorem t_neg {t:Tst} {e:Expr} {pos:Pos} (ih:PT X e (tTs X.K (evT G t))):PT X (.UnaryOp .Not e pos) (tTs X.K (evT G (.neg t))):=by
 refine ptI (pt_not ih) fun σ H Q q=>?_
 obtain ⟨ads,M,ρ,s,q⟩:=q
 exact tT_bind s q fun w M1 H1 ads1 s1 q1=>q1 H1 ads1 (Grow.refl _ _) s1.mem
theorem t_all:∀ (ts:List Tst) (es:List Expr) (pos:Pos),(∀ t∈ts,∀ e,chkT cc t e=true->PT X e (tTs X.K (evT G t)))->chkTs cc ts es=true->es≠[]->PW X (.BoolOp .And es pos) (tTs X.K (evAll G ts))
 | [],[],_,_,_,h=>absurd rfl h
 | [],_::_,_,_,h,_=>by cases h
 | _::_,[],_,_,h,_=>by cases h
 | c::cs,e::es,pos,ih,h,_=>by
  have h':(chkT cc c e && chkTs cc cs es)=true:=h
  simp only [zqf] at h'
  have he:=ih c List.mem_cons_self e h'.1
  cases es with
  | nil =>
   cases cs with
   | cons _ _=>cases h'.2
   | nil =>
    refine pwI (pw_and1 he) fun σ H Q q=>?_
    obtain ⟨ads,M,ρ,s,q⟩:=q
    refine ⟨ads,M,ρ,s,?_⟩
    simp only [evAll] at q
    cases hq:evT G c ρ M with
    | ok w M1=>rw [hq] at q;exact q
    | err _ _=>rw [hq] at q;exact q
    | stuck=>rw [hq] at q;exact q
  | cons e2 es =>
   cases cs with
   | nil=>cases h'.2
   | cons c2 cs =>
    have hr:=t_all (c2::cs) (e2::es) pos (fun c hc=>ih c (zqi _ hc)) h'.2 (by simp)
    refine pwI (pw_and he hr) fun σ H Q q=>?_
    obtain ⟨ads,M,ρ,s,q⟩:=q
    have q:OkB X.K ads H Q ((evT G c ρ M).bind fun x M=>match c2::cs,x with
     | [],x=>.ok x M
     | _,true=>evAll G (c2::cs) ρ M
     | _,false=>.ok false M):=by unfold evAll at q;exact q
    refine tT_bind s q fun w M1 H1 ads1 s1 q1=>?_
    cases w with
    | false=>rw [if_neg (by simp)];exact q1 H1 ads1 (Grow.refl _ _) s1.mem
    | true=>rw [if_pos rfl];exact ⟨ads1,M1,ρ,s1,q1⟩
theorem t_any:∀ (ts:List Tst) (es:List Expr) (pos:Pos),(∀ t∈ts,∀ e,chkT cc t e=true->PT X e (tTs X.K (evT G t)))->chkTs cc ts es=true->es≠[]->PW X (.BoolOp .Or es pos) (tTs X.K (evAny G ts))
 | [],[],_,_,_,h=>absurd rfl h
 | [],_::_,_,_,h,_=>by cases h
 | _::_,[],_,_,h,_=>by cases h
 | c::cs,e::es,pos,ih,h,_=>by
  have h':(chkT cc c e && chkTs cc cs es)=true:=h
  simp only [zqf] at h'
  have he:=ih c List.mem_cons_self e h'.1
  cases es with
  | nil =>
   cases cs with
   | cons _ _=>cases h'.2
   | nil =>
    refine pwI (pw_or1 he) fun σ H Q q=>?_
    obtain ⟨ads,M,ρ,s,q⟩:=q
    refine ⟨ads,M,ρ,s,?_⟩
    simp only [evAny] at q
    cases hq:evT G c ρ M with
    | ok w M1=>rw [hq] at q;exact q
    | err _ _=>rw [hq] at q;exact q
    | stuck=>rw [hq] at q;exact q
  | cons e2 es =>
   cases cs with
   | nil=>cases h'.2
   | cons c2 cs =>
    have hr:=t_any (c2::cs) (e2::es) pos (fun c hc=>ih c (zqi _ hc)) h'.2 (by simp)
    refine pwI (pw_or he hr) fun σ H Q q=>?_
    obtain ⟨ads,M,ρ,s,q⟩:=q
    have q:OkB X.K ads H Q ((evT G c ρ M).bind fun x M=>match c2::cs,x with
     | [],x=>.ok x M
     | _,false=>evAny G (c2::cs) ρ M
     | _,true=>.ok true M):=by unfold evAny at q;exact q
    refine tT_bind s q fun w M1 H1 ads1 s1 q1=>?_
    cases w with
    | true=>rw [if_pos rfl];exact q1 H1 ads1 (Grow.refl _ _) s1.mem
    | false=>rw [if_neg (by simp)];exact ⟨ads1,M1,ρ,s1,q1⟩
theorem s_ite {t:Tst} {a b:C} {c x y:Expr} {pos:Pos} (ht:PT X c (tTs X.K (evT G t))) (ha:PE X x (tE X.K (ev G a))) (hb:PE X y (tE X.K (ev G b))):PE X (.IfExp c x y pos) (tE X.K (ev G (.ite t a b))):=by
 refine peI (pe_ifExp ht ha hb) fun σ H Q q=>?_
 obtain ⟨ads,M,ρ,s,q⟩:=q
 refine ⟨ads,M,ρ,s,?_⟩
 simp only [ev] at q
 cases hq:evT G t ρ M with
 | ok w M1 =>
  rw [hq] at q
  intro H1 ads1 g1 m1
  have q:OkW X.K ads H Q (if w then ev G a ρ M1 else ev G b ρ M1):=q
  have q:=q.shift g1 s.mem m1
  cases w with
  | true=>rw [if_pos rfl] at q ⊢;exact ⟨ads1,M1,ρ,s.grow g1 m1,q⟩
  | false=>rw [if_neg (by simp)] at q ⊢;exact ⟨ads1,M1,ρ,s.grow g1 m1,q⟩
 | err _ _=>rw [hq] at q;exact q
 | stuck=>rw [hq] at q;exact q
end
section
variable {kk:Nat} {X:Cx} {cc:CC} {G:Fns}
theorem plainIx_of {b:Expr} (h:noSlice b=true):PlainIx b:=by
 intro o i
 cases b <;> first | rfl | exact absurd (show false=true from h) zqd
theorem s_sub {a b:C} {e i:Expr} {pos:Pos} (g:Good kk X cc G) (hs:noSlice i=true) (ha:PE X e (tE X.K (ev G a))) (hb:PE X i (tE X.K (ev G b))):PE X (.Subscript e i pos) (tE X.K (ev G (.sub a b))):=by
 have hun:=g.room.un
 refine peI (pe_ix (ix_sub (by omega)) ha hb (plainIx_of hs)) fun σ H Q q=>?_
 exact two (fun m r1 r2 h=>⟨_,_,_,_,m,r1,r2,h⟩) q
def OkO (K:PySem.W.Frag) (ads:List Addr) (H:Hp) (Q:Option Int->Hp->Prop):Out (Option Int)->Prop
 | .ok o M=>∀ H' ads',Grow ads ads' H H'->MRel K ads' H' M->Q o H'
 | _=>False
def tO (K:PySem.W.Frag) (o:En->Mem->Out (Option Int)):TO:=fun σ H Q=>∃ ads M ρ,SR K ads M ρ σ H/\OkO K ads H Q (o ρ M)
theorem s_optN:PO X none (tO X.K (evO G none)):=fun pins s σ H Q I q=>po_none pins s σ H Q I (by
 obtain ⟨ads,M,ρ,s,q⟩:=q
 exact q H ads (Grow.refl _ _) s.mem)
theorem s_optS {c:C} {e:Expr} (h:PE X e (tE X.K (ev G c))):PO X (some e) (tO X.K (evO G (some c))):=fun pins s σ H Q I q=>po_some h pins s σ H Q I (by
 obtain ⟨ads,M,ρ,s,q⟩:=q
 refine ⟨ads,M,ρ,s,?_⟩
 simp only [evO] at q
 cases hq:ev G c ρ M with
 | ok w M1 =>
  rw [hq] at q
  intro v H1 ads1 g1 m1 r1
  rcases w with ⟨_|_ | i | _|_|_⟩|_ <;> first | exact q.elim | skip
  exact ⟨i,rw_int r1,q H1 ads1 g1 m1⟩
 | err _ _=>rw [hq] at q;exact q
 | stuck=>rw [hq] at q;exact q)
theorem s_slc {a : C} {lo hi : Option C} {e : Expr} {l h : Option Expr} {pos p2 : Pos} (ha : PE X e (tE X.K (ev G a))) (hl : PO X l (tO X.K (evO G lo))) (hh : PO X h (tO X.K (evO G hi))) :
    PE X (.Subscript e (.Slice l h none p2) pos) (tE X.K (ev G (.slc a lo hi))):=by
  refine peI (pe_slice sl_slc ha hl hh) fun σ H Q q=>?_
  obtain ⟨ads,M,ρ,s,q⟩:=q
  refine tE_bind s q fun w M1 v H1 ads1 s1 rw1 q1=>⟨ads1,M1,ρ,s1,?_⟩
  cases hq:evO G lo ρ M1 with
  | ok o1 M2 =>
    rw [hq] at q1
    have q1:OkW X.K ads1 H1 Q ((evO G hi ρ M2).bind fun h M=>slcW w o1 h M):=q1
    intro H2 ads2 g2 m2
    have s2:=s1.grow g2 m2
    refine ⟨ads2,M2,ρ,s2,?_⟩
    cases hq2:evO G hi ρ M2 with
    | ok o2 M3 =>
      rw [hq2] at q1
      intro H3 ads3 g3 m3
      exact ⟨ads3,M3,w,m3,g3.rw (g2.rw rw1),OkW.shift (o:=slcW w o1 o2 M3) q1 (g2.trans g3) s1.mem m3⟩
    | err _ _=>rw [hq2] at q1;exact q1
    | stuck=>rw [hq2] at q1;exact q1
  | err _ _=>rw [hq] at q1;exact q1
  | stuck=>rw [hq] at q1;exact q1
theorem evDs_len:∀ (cs:List C) (ρ:En) (M:Mem) (ds:List D) (M':Mem),evDs G cs ρ M=.ok ds M'->ds.length=cs.length
 | [],ρ,M,ds,M',h=>by cases h;rfl
 | c::cs,ρ,M,ds,M',h=>by
  simp only [evDs] at h
  cases h1:(ev G c ρ M).bind own with
  | ok d M1 =>
   rw [h1] at h
   simp only [Out.bind] at h
   cases h2:evDs G cs ρ M1 with
   | ok es M2=>rw [h2] at h;cases h;simp [evDs_len cs ρ M1 es _ h2]
   | err _ _=>rw [h2] at h;cases h
   | stuck=>rw [h2] at h;cases h
  | err _ _=>rw [h1] at h;cases h
  | stuck=>rw [h1] at h;cases h
theorem noStar_any {cs:List C} {es:List Expr} (h:chks cc cs es=true) (env:Env) (pos:Pos):(backTo pos (starEach es env)).any (·.1)=false:=by
 have:∀ (cs:List C) (es:List Expr),chks cc cs es=true->(starEach es env).any (·.1)=false:=by
  intro cs
  induction cs with
  | nil=>intro es h;cases es with
   | nil=>rfl
   | cons _ _=>cases h
  | cons c cs ih =>
   intro es h
   cases es with
   | nil=>cases h
   | cons e es =>
    have h':(notStar e && chk cc c e && chks cc cs es)=true:=h
    simp only [zqf] at h'
    rw [star_of h'.1.1,List.any_cons,ih es h'.2]
    rfl
 have e:=this cs es h
 unfold backTo
 simp only [List.any_map]
 exact e
theorem s_call {f : Nat} {cs : List C} {x : Str} {e : Expr} {es : List Expr} {p pos : Pos} (g : Good kk X cc G) (hf : cc.fs[f]? = some (x, cs.length)) (hg : glob cc x = true) (hp : plainName x = true) (hc : chks cc cs (e :: es) = true)
    (ha:PA X (e::es) (tDs X.K (evDs G cs))):PE X (.Call (.Name x p) (e::es) [] pos) (tE X.K (ev G (.call f cs))):=by
  obtain ⟨fa,fd,ps,F,hm,hk,hb⟩:=g.fns f x _ hf
  have hst:notStar e=true/\chks cc cs.tail es=true:=by
    cases cs with
    | nil=>cases hc
    | cons c cs =>
      have h':(notStar e && chk cc c e && chks cc cs es)=true:=hc
      simp only [zqf] at h'
      exact ⟨h'.1.1,h'.2⟩
  refine peI (pe_call (pos:=pos) (p:=p) (E:=E0) F g.room (g.gl hg) hm hk hb .nil pass0 ha (plain_dbg hp).1 (star_of hst.1 es X.env) (noStar_any hst.2 X.env pos)) fun σ H Q q=>?_
  obtain ⟨ads,M,ρ,s,q⟩:=q
  refine ⟨ads,M,ρ,s,?_⟩
  simp only [ev] at q
  cases hq:evDs G cs ρ M with
  | ok ds M1 =>
    rw [hq] at q
    intro vs H1 ads1 g1 m1 r1
    refine ⟨ads1,M1,ds,m1,?_,evDs_len cs ρ M ds M1 hq,OkW.shift (o:=G f ds M1) q g1 s.mem m1⟩
    rw [List.append_nil]
    exact r1
  | err _ _=>rw [hq] at q;exact q
  | stuck=>rw [hq] at q;exact q
def OkWs (K:PySem.W.Frag) (ads:List Addr) (H:Hp) (Q:List V->Hp->Prop):Out (List W)->Prop
 | .ok ws M=>∀ vs H' ads',Grow ads ads' H H'->MRel K ads' H' M->RWs K ads' H' ws vs->Q vs H'
 | _=>False
def tWs (K:PySem.W.Frag) (o:En->Mem->Out (List W)):TA:=fun σ H Q=>∃ ads M ρ,SR K ads M ρ σ H/\OkWs K ads H Q (o ρ M)
theorem w_nil:PA X [] (tWs X.K (evWs G [])):=paI pa_nil fun σ H Q q=>by
 obtain ⟨ads,M,ρ,s,q⟩:=q
 exact q [] H ads (Grow.refl _ _) s.mem rfl
theorem w_cons {c:C} {cs:List C} {e:Expr} {es:List Expr} (hs:notStar e=true) (ha:PE X e (tE X.K (ev G c))) (hr:PA X es (tWs X.K (evWs G cs))):PA X (e::es) (tWs X.K (evWs G (c::cs))):=by
 refine paI (pa_cons ha hr (star_of hs es X.env)) fun σ H Q q=>?_
 obtain ⟨ads,M,ρ,s,q⟩:=q
 refine ⟨ads,M,ρ,s,?_⟩
 simp only [evWs] at q
 cases hq:ev G c ρ M with
 | ok w M1 =>
  rw [hq] at q
  intro v H1 ads1 g1 m1 r1
  refine ⟨ads1,M1,ρ,s.grow g1 m1,?_⟩
  have q:OkWs X.K ads H Q ((evWs G cs ρ M1).bind fun ds M=>.ok (w::ds) M):=q
  cases hq3:evWs G cs ρ M1 with
  | ok ds M3 =>
   rw [hq3] at q
   intro vs H3 ads3 g3 m3 r3
   exact q (v::vs) H3 ads3 (g1.trans g3) m3 ⟨v,vs,rfl,g3.rw r1.rw,r3⟩
  | err _ _=>rw [hq3] at q;exact q
  | stuck=>rw [hq3] at q;exact q
 | err _ _=>rw [hq] at q;exact q
 | stuck=>rw [hq] at q;exact q
theorem bi_key {b:Bi} {cs:List C} {σ:L2.St} {H:Hp} {Q:VK} (q:tE X.K (ev G (.bi b cs)) σ H Q):tCB (rBi X.K b) (tWs X.K (evWs G cs)) σ H Q:=by
 obtain ⟨ads,M,ρ,s,q⟩:=q
 refine ⟨ads,M,ρ,s,?_⟩
 simp only [ev] at q
 cases hq:evWs G cs ρ M with
 | ok ws M1 =>
  rw [hq] at q
  intro vs H1 ads1 g1 m1 r1
  exact ⟨ads1,M1,ws,m1,r1,OkW.shift (o:=biW b ws M1) q g1 s.mem m1⟩
 | err _ _=>rw [hq] at q;exact q
 | stuck=>rw [hq] at q;exact q
theorem s_bi {b : Bi} {cs : List C} {x : Str} {e : Expr} {es : List Expr} {p pos : Pos} (g : Good kk X cc G) (hb : biOk b = true) (hx : x = biName b) (hg : glob cc x = true)
    (hs:notStar e=true) (hc:chks cc cs.tail es=true) (ha:PA X (e::es) (tWs X.K (evWs G cs))):PE X (.Call (.Name x p) (e::es) [] pos) (tE X.K (ev G (.bi b cs))):=by
  have hgl:=g.gl hg
  have hst:=star_of hs es X.env
  have hpl:=noStar_any hc X.env pos
  have hm:X.mg x=none:=g.blt x (by subst hx;cases b <;> first | (show _∈bltNames;decide +kernel) | (exact absurd hb (by simp [biOk])))
  subst hx
  cases b with
  | len=>exact peI (pe_callB bi_len hgl hm boot_len ha (⋯) (⋯) hst hpl) fun σ H Q q=>bi_key q
  | max2=>exact peI (pe_callB (bi_max g.calm) hgl hm boot_max ha (⋯) (⋯) hst hpl) fun σ H Q q=>bi_key q
  | min2=>exact peI (pe_callB (bi_min g.calm) hgl hm boot_min ha (⋯) (⋯) hst hpl) fun σ H Q q=>bi_key q
  | repr1=>exact peI (pe_callB (bi_repr g.room) hgl hm boot_repr ha (⋯) (⋯) hst hpl) fun σ H Q q=>bi_key q
  | int1=>exact peI (pe_callTy bi_int hgl hm (⋯) ha (⋯) (⋯) hst hpl) fun σ H Q q=>bi_key q
  | list1=>exact peI (pe_callTy bi_list hgl hm (⋯) ha (⋯) (⋯) hst hpl) fun σ H Q q=>bi_key q
  | tuple1=>exact peI (pe_callTy bi_tuple hgl hm (⋯) ha (⋯) (⋯) hst hpl) fun σ H Q q=>bi_key q
  | dict1=>exact peI (pe_callTy (bi_dict g.calm) hgl hm (⋯) ha (⋯) (⋯) hst hpl) fun σ H Q q=>bi_key q
  | all1=>exact peI (pe_callB (bi_all g.calm) hgl hm boot_all ha (⋯) (⋯) hst hpl) fun σ H Q q=>bi_key q
  | any1=>cases hb
  | isi t=>cases hb
  | min1=>cases hb
  | max1=>cases hb
theorem rds_rng {K:PySem.W.Frag} {ads:List Addr} {H:Hp} (i:Int) (n:Nat):RDs K ads H (rngD i n) (rngV i n):=by
 have:∀ l:List Nat,RDs K ads H (l.map fun k=>D.int (i+((k:Nat):Int))) (l.map fun k=>V.int (i+((k:Nat):Int))):=by
  intro l
  induction l with
  | nil=>unfold RDs;rfl
  | cons a l ih =>
   rw [List.map_cons,List.map_cons]
   unfold RDs
   exact ⟨_,_,rfl,rd_int _,ih⟩
 exact this _
theorem s_rng {tp : Bool} {cs : List C} {x y : Str} {e : Expr} {es : List Expr} {p pos p2 pos2 : Pos} (g : Good kk X cc G) (hx : x = if tp = true then ("tuple" : Str) else ("list" : Str)) (hy : y = "range") (hgx : glob cc x = true) (hgy : glob cc y = true) (hs : notStar e = true) (hc : chks cc cs.tail es = true)
    (ha:PA X (e::es) (tWs X.K (evWs G cs))):PE X (.Call (.Name x p2) [.Call (.Name y p) (e::es) [] pos] [] pos2) (tE X.K (ev G (.rng tp cs))):=by
  have hglx:=g.gl hgx
  have hgly:=g.gl hgy
  have hmx:X.mg x=none:=g.blt x (by subst hx;cases tp <;> (show _∈bltNames;decide +kernel))
  have hmy:X.mg y=none:=g.blt y (by subst hy;show _∈bltNames;decide +kernel)
  subst hx hy
  refine peI (pe_rngs tp g.calm hgly hmy hglx hmx rfl ha (star_of hs es X.env) (noStar_any hc X.env pos)) fun σ H Q q=>?_
  obtain ⟨ads,M,ρ,s,q⟩:=q
  refine ⟨ads,M,ρ,s,?_⟩
  simp only [ev] at q
  cases hq:evWs G cs ρ M with
  | ok ws M1 =>
    rw [hq] at q
    intro vs H1 ads1 g1 m1 r1
    have q:OkW X.K ads1 H1 Q (rngW tp ws M1):=OkW.shift (o:=rngW tp ws M1) q g1 s.mem m1
    unfold rngW at q
    cases hr:rngArg ws with
    | none=>rw [hr] at q;exact q.elim
    | some ij =>
      obtain ⟨i,j⟩:=ij
      rw [hr] at q
      dsimp only at q
      split at q
      · rename_i hb
        have hv:argR vs i j:=by
          unfold rngArg at hr
          split at hr
          · cases hr
            obtain ⟨v1,v2,rfl,a1,a2⟩:=r1.two
            exact .inl (by rw [rw_int a1,rw_int a2])
          · cases hr
            obtain ⟨v1,rfl,a1⟩:=r1.one
            exact .inr ⟨rfl,by rw [rw_int a1]⟩
          · cases hr
        refine ⟨i,j,hv,hb.1,hb.2,fun p hp=>?_⟩
        cases tp with
        | true=>exact OkW.tuple (ds:=rngD i (j - i).toNat) q m1 (rds_rng _ _) hp
        | false=>exact OkW.list (ds:=rngD i (j - i).toNat) q m1 (rds_rng _ _) hp
      · exact q.elim
  | err _ _=>rw [hq] at q;exact q
  | stuck=>rw [hq] at q;exact q
theorem w_ty {y:Str} {T:String} {pos:Pos} (hg:Gl X y) (hm:X.mg y=none) (hv:bootBuiltins y=some (.type T)) (hn:y ≠ "__name__") (hd:(y == ("__debug__" : Str))=false):PE X (.Name y pos) (tC (.ty T)) :=
 pe_bltn hg hm hv rfl hn hd
theorem s_isi {t : Ty} {c : C} {x y : Str} {e : Expr} {p py pos : Pos} (g : Good kk X cc G) (hx : x = "isinstance") (hgx : glob cc x = true) (hy : y = Str.ofString (tyOf t)) (hgy : glob cc y = true) (ht : t ≠ .none)
    (hs:notStar e=true) (ha:PE X e (tE X.K (ev G c))):PE X (.Call (.Name x p) [e,.Name y py] [] pos) (tE X.K (ev G (.bi (.isi t) [c]))):=by
  have hmx:X.mg x=none:=g.blt x (by subst hx;show _∈bltNames;decide +kernel)
  have hmy:X.mg y=none:=g.blt y (by subst hy;cases t <;> first | exact absurd rfl ht | (show _∈bltNames;decide +kernel))
  have pty:PE X (.Name y py) (tC (.ty (tyOf t))):=by
    subst hy
    cases t <;> first | exact absurd rfl ht | exact w_ty (g.gl hgy) hmy (⋯) (⋯) (⋯)
  have hgl:=g.gl hgx
  subst hx
  refine peI (pe_callB (bi_isi t) hgl hmx boot_isinstance (pa_cons ha (pa_cons pty pa_nil) (star_of hs _ X.env)) (⋯) (⋯) (star_of hs _ X.env) rfl) fun σ H Q q=>?_
  obtain ⟨ads,M,ρ,s,q⟩:=q
  refine ⟨ads,M,ρ,s,?_⟩
  simp only [ev,evWs] at q
  cases hq:ev G c ρ M with
  | ok w M1 =>
    rw [hq] at q
    intro v H1 ads1 g1 m1 r1
    exact ⟨v,rfl,ads1,M1,[w],m1,⟨v,[],rfl,r1.rw,rfl⟩,OkW.shift (o:=biW (.isi t) [w] M1) q g1 s.mem m1⟩
  | err _ _=>rw [hq] at q;exact q
  | stuck=>rw [hq] at q;exact q
section
variable {prog:Program} {w:World} {A:Around} {E:Value->Shared->Prop} {s:Shared}
theorem applied_step {sl : Addr} {k : Int} {u : Tok} {n : Nat} {Q : Int × Int × Nat -> Shared -> Prop} (hs : s.heap.IsSliceOf sl .none .none (.int k u)) (hk : k ≠ 0)
    (h:Q ((Builtin.Slice.sliceAdjust none none k (n:Int)).1,k,Builtin.Slice.slicePlaces (Builtin.Slice.sliceAdjust none none k (n:Int)).1 (Builtin.Slice.sliceAdjust none none k (n:Int)).2 k) s):wpAny (model prog w) A (Builtin.Slice.sliceApplied (.ref sl) (pure (n:Int))) Q E s:=by
  obtain ⟨os,hos,hcs,hds⟩:=id hs
  unfold Builtin.Slice.sliceApplied Builtin.Slice.sliceFields
  refine wpAny_bind (wpAny_bind (wpAny_field hos hds (x:=.none) rfl (wpAny_bind (wpAny_field hos hds (x:=.none) rfl (wpAny_bind (wpAny_field hos hds (x:=.int k u) rfl (wpAny_pure ?_)))))))
  refine wpAny_bind (slicePart_int ?_)
  show wpAny _ _ (if (k == 0)=true then _ else _) _ _ s
  rw [if_neg (by simpa using hk)]
  refine wpAny_bind (slicePart_none (wpAny_bind (slicePart_none (wpAny_bind (wpAny_pure ?_)))))
  exact wpAny_pure h
theorem getItem_step {t sl : Addr} {its : List Value} {k : Int} {u : Tok} {Q : Value -> Shared -> Prop} (ht : IsTup s.heap t its.toArray) (hs : s.heap.IsSliceOf sl .none .none (.int k u)) (hk : k ≠ 0) (hk1 : k ≠ 1) (hsz : (stepL its k).length <= sizeLine)
    (h:Q (.ref s.heap.objs.size) { s with heap:=s.heap.push { cls:=.type "tuple",data:=.seq (stepL its k).toArray } }):wpAny (model prog w) A (getItem (.ref t) (.ref sl)) Q E s:=by
  have hso:sizeOk (.seq (stepL its k).toArray):=by
    show (stepL its k).toArray.size<=sizeLine
    rw [zqq]
    exact hsz
  obtain ⟨os,hos,hcs,hds⟩:=id hs
  have hTs:s.TypeIs (.ref sl) "slice" := ⟨os,hos,hcs⟩
  unfold getItem
  try with_reducible refine wpAny_holding ?_
  first | refine wpAny_bind (wpAny_pure ?_) | skip
  refine wpAny_bind (wpAny_sequenceKey ht.typeIs (by decide) ?_)
  refine wpAny_bind (wpAny_callSpecial?_slot (name:=Str.ofString "__getitem__") ht.typeIs PyProof.Rows.slot_tuple_getitem
    (wpAny_call_entry PyProof.Rows.slot_tuple_getitem ht.typeIs entry_tuple_getitem ?_ (args_tuple_getitem _ _)))
  show wpAny _ _ (Builtin.Tuple.tupleItemsOf (.ref t) >>= _) _ _ s
  refine wpAny_bind (tupleItemsOf_ ht ?_)
  refine wpAny_bind (wpAny_typeOf hTs ?_)
  rw [if_pos (by decide)]
  refine wpAny_bind (applied_step hs hk ?_)
  have hno:∀ (a b:Bool),¬ ((a && (k == (1:Int)) && b)=true):=by
    intro a b z
    have:(k == (1:Int))=false:=beq_eq_false_iff_ne.mpr hk1
    rw [this] at z
    simp at z
  dsimp only
  rw [if_neg (hno _ _)]
  have e:∀ (f:Nat->Nat) (l:List Nat),(l.filterMap fun j=>its.toArray[f j]?)=l.filterMap fun j=>its[f j]?:=fun f l=>by simp
  rw [e]
  have hl:(its.toArray.size:Int)=(its.length:Int):=by simp
  rw [hl]
  first
    | exact wpAny_bind (m:=Builtin.Tuple.tupleExact _) (wpAny_newObj_type (wpAny_pure ⟨_,rfl,wpAny_pure h⟩) hso)
    | exact wpAny_bind (m:=Builtin.Tuple.tupleExact _) (wpAny_newObj_type (wpAny_bind (wpAny_pure (wpAny_pure ⟨_,rfl,wpAny_pure h⟩))) hso)
    | exact wpAny_bind (wpAny_bind (m:=Builtin.Tuple.tupleExact _) (wpAny_newObj_type (wpAny_pure (wpAny_pure ⟨_,rfl,wpAny_pure h⟩)) hso))
    | exact wpAny_bind (wpAny_bind (m:=Builtin.Tuple.tupleExact _) (wpAny_newObj_type (wpAny_pure ⟨_,rfl,wpAny_pure h⟩) hso))
end
theorem pick_rd {K:PySem.W.Frag} {ads:List Addr} {H:Hp} {ds:List D} {xs:List V} (r:RDs K ads H ds xs) (f:Nat->Nat):∀ js:List Nat,RDs K ads H (js.filterMap fun j=>ds[f j]?) (js.filterMap fun j=>xs[f j]?)
 | []=>by simp;unfold RDs;rfl
 | j::js=>by
  cases q:ds[f j]? with
  | none =>
   have:xs[f j]?=none:=by rw [List.getElem?_eq_none_iff] at q ⊢;rw [<- r.len];exact q
   simp only [List.filterMap_cons,q,this]
   exact pick_rd r f js
  | some d =>
   obtain ⟨v,e,rv⟩:=r.get q
   simp only [List.filterMap_cons,q,e]
   unfold RDs
   exact ⟨_,_,rfl,rv,pick_rd r f js⟩
theorem pick_vals {xs:List V} {us:List Value} (r:Vals xs us) (f:Nat->Nat):∀ js:List Nat,Vals (js.filterMap fun j=>xs[f j]?) (js.filterMap fun j=>us[f j]?)
 | []=>.nil
 | j::js=>by
  cases q:xs[f j]? with
  | none =>
   have:us[f j]?=none:=by rw [List.getElem?_eq_none_iff] at q ⊢;rw [<- r.length];exact q
   simp only [List.filterMap_cons,q,this]
   exact pick_vals r f js
  | some d =>
   obtain ⟨v,e,rv⟩:=r.get q
   simp only [List.filterMap_cons,q,e]
   exact .cons rv (pick_vals r f js)
theorem s_stp {a:C} {k:Int} {e ke:Expr} {pos p2:Pos} (hke:PE X ke (tC (.int k))) (ha:PE X e (tE X.K (ev G a))):PE X (.Subscript e (.Slice none none (some ke) p2) pos) (tE X.K (ev G (.stp a k))):=by
 intro pins s σ H Q I h
 obtain ⟨ads,M,ρ,sr,q⟩:=h
 have h1:tE X.K (ev G a) σ H (fun x H1=>∃ ads1 M1 w,MRel X.K ads1 H1 M1/\RW X.K ads1 H1 w x/\OkW X.K ads1 H1 Q (stpW w k M1)):=by
  refine tE_bind sr q fun w M1 v H1 ads1 s1 rw1 q1=>⟨ads1,M1,w,s1.mem,rw1,q1⟩
 refine Subscript_ (thn (ha pins s σ H _ I h1) ?_)
 rintro v s1 ⟨x,H1,I1,r1,ads1,M1,w,m1,rw1,q1⟩
 rcases w with ⟨_|_|_|_ | ds | _|_⟩|_ <;> first | exact q1.elim | skip
 have rw1:RD X.K ads1 H1 (.tup ds) x:=rw1
 unfold RD at rw1
 obtain ⟨p,xs,rfl,hp,rd⟩:=rw1
 cases r1
 simp only [stpW] at q1
 split at q1
 ·rename_i hk
  refine wpAny_Slice ?_
  rw [evalPart_none]
  refine wpAny_pure ?_
  refine wpAny_pure ?_
  rw [evalPart_some]
  refine thn (hke pins s1 σ H1 (fun z H'=>z=.int k/\H1=H') I1 ⟨rfl,rfl⟩) ?_
  rintro u s2 ⟨z,H2,I2,rz,rfl,rfl⟩
  obtain ⟨t,rfl⟩:=rz
  have I3:Inv X pins σ H1 { s2 with heap:=s2.heap.push { cls:=.type "slice",data:=.fields #[.none,.none,.int k t] } }:=I2.kept (t':=s2.toks) fun b ob q=>zqc _ q
  obtain ⟨its,rv,ht,hz⟩:=I3.tuple (SqT.of (K:=X.K) hp)
  have hlen:(stepL its k).length=(stepL ds k).length:=by
   have e1:its.length=xs.length:=rv.length.symm
   have e2:xs.length=ds.length:=rd.len.symm
   have r1:=(pick_rd rd (fun (j:Nat)=>((Builtin.Slice.sliceAdjust none none k (ds.length:Int)).1+(j:Int) * k).toNat) (List.range (Builtin.Slice.slicePlaces (Builtin.Slice.sliceAdjust none none k (ds.length:Int)).1 (Builtin.Slice.sliceAdjust none none k (ds.length:Int)).2 k))).len
   have r2:=(pick_vals rv (fun (j:Nat)=>((Builtin.Slice.sliceAdjust none none k (ds.length:Int)).1+(j:Int) * k).toNat) (List.range (Builtin.Slice.slicePlaces (Builtin.Slice.sliceAdjust none none k (ds.length:Int)).1 (Builtin.Slice.sliceAdjust none none k (ds.length:Int)).2 k))).length
   unfold stepL
   rw [e1,e2,<- r2,<- r1]
  have rd':RDs X.K ads1 H1 (stepL ds k) (stepL xs k):=by
   unfold stepL
   rw [<- rd.len]
   exact pick_rd rd _ _
  have rv':Vals (stepL xs k) (stepL its k):=by
   unfold stepL
   rw [<- rv.length]
   exact pick_vals rv _ _
  have hsl:({ s2 with heap:=s2.heap.push { cls:=.type "slice",data:=.fields #[.none,.none,.int k t] } }:Shared).heap.IsSliceOf s2.heap.objs.size .none .none (.int k t):=Heap.IsSliceOf.new ..
  show wpAny (model X.prog X.w) X.A (subscriptTail e (.Slice none none (some ke) p2) (.ref p) (.ref s2.heap.objs.size)) (EP X pins σ Q) X.xe { s2 with heap:=s2.heap.push { cls:=.type "slice",data:=.fields #[.none,.none,.int k t] } }
  refine tail_any (ops:=[.ref p,.ref s2.heap.objs.size]) ht.typeIs PyProof.Rows.slot_tuple_getitem.lookup (getItem_step ht hsl (by rcases hk.1 with z | z <;> rw [z] <;> decide) (by rcases hk.1 with z | z <;> rw [z] <;> decide) (by rw [hlen];exact hk.2) ?_) (by with_unfolding_all rfl)
  refine ⟨.ref _,_,I3.laid (t':=s2.toks) (o:=.tup (stepL xs k)) (fun b ob q=>zqc _ q) (zqg _) ?_,rfl,q1.tuple m1 rd' (I3.hok.fresh (zqg _))⟩
  exact ⟨by rw [rv'.length,hlen];exact hk.2,_,rv',IsTup.new _ _⟩
 ·exact q1.elim
theorem base_of {e:Expr} (h:notCall0 e=true) (n:Str) (env:Env) (wh:Sem Value):attributeBase e n env wh=wh:=by
 cases e <;> first | rfl | skip
 rename_i f args kws pos
 cases f <;> first | rfl | skip
 cases args <;> first | rfl | skip
 cases kws <;> first | rfl | exact absurd (show false=true from h) zqd
theorem me_key {m:Me} {o:C} {cs:List C} {σ:L2.St} {H:Hp} {Q:VK} (q:tE X.K (ev G (.me m o cs)) σ H Q):tBM X.K "list" (rMe X.K m) (tE X.K (ev G o)) (tDs X.K (evDs G cs)) σ H Q:=by
 obtain ⟨ads,M,ρ,s,q⟩:=q
 have q:OkW X.K ads H Q ((ev G o ρ M).bind fun x M=>if (lstW M x).isSome then (evDs G cs ρ M).bind fun ds M=>meW m x ds M else .stuck):=by simp only [ev] at q;exact q
 refine tE_bind s q fun w M1 v H1 ads1 s1 rw1 q1=>?_
 split at q1
 ·rename_i hs
  obtain ⟨es,he⟩:=Option.isSome_iff_exists.mp hs
  obtain ⟨a,xs,rfl,rd,ha⟩:=lst_ok s1.mem rw1 he
  refine ⟨.inl ⟨rfl,xs,SqL.of ha⟩,ads1,M1,ρ,s1,?_⟩
  cases hq:evDs G cs ρ M1 with
  | ok ds M2 =>
   rw [hq] at q1
   intro vs H2 ads2 g2 m2 r2
   exact ⟨ads2,M2,w,ds,m2,g2.rw rw1,r2,OkW.shift (o:=meW m w ds M2) q1 g2 s1.mem m2⟩
  | err _ _=>rw [hq] at q1;exact q1
  | stuck=>rw [hq] at q1;exact q1
 ·exact q1.elim
theorem me_key0 {m:Me} {o:C} {σ:L2.St} {H:Hp} {Q:VK} (q:tE X.K (ev G (.me m o [])) σ H Q):tBM0 X.K "list" (rMe X.K m) (tE X.K (ev G o)) σ H Q:=by
 obtain ⟨ads,M,ρ,s,q⟩:=q
 have q:OkW X.K ads H Q ((ev G o ρ M).bind fun x M=>if (lstW M x).isSome then (evDs G [] ρ M).bind fun ds M=>meW m x ds M else .stuck):=by simp only [ev] at q;exact q
 refine tE_bind s q fun w M1 v H1 ads1 s1 rw1 q1=>?_
 split at q1
 ·rename_i hs
  obtain ⟨es,he⟩:=Option.isSome_iff_exists.mp hs
  obtain ⟨a,xs,rfl,rd,ha⟩:=lst_ok s1.mem rw1 he
  exact ⟨.inl ⟨rfl,xs,SqL.of ha⟩,ads1,M1,w,[],s1.mem,rw1,(by unfold RDs;rfl),q1⟩
 ·exact q1.elim
theorem few_of {cs : List C} {es : List Expr} (h : chks cc cs es = true) (hl : es.length < 20) (env : Env) (cpos : Pos) :
    ((backTo cpos (starEach es env)).all (fun x=>!x.1) && (backToKw cpos (keywordEach [] env)).all (fun x=>x.1.isSome) && decide (es.length+([]:List Keyword).length+(if ([]:List Keyword).isEmpty then 0 else 1) < 30))=true:=by
  have h1:=noStar_any h env cpos
  have h2:(backTo cpos (starEach es env)).all (fun x=>!x.1)=true:=by
    rw [List.all_eq_true]
    intro x hx
    rw [List.any_eq_false] at h1
    have:=h1 x hx
    simpa using this
  rw [h2]
  simp [keywordEach,backToKw]
  omega
theorem s_me {m : Me} {o : C} {cs : List C} {e : Expr} {es : List Expr} {n : Str} {ap cp : Pos} (hn : n = meName m) (hm : meOk m = true) (hl : (ap.endLine == cp.line) = true) (h0 : notCall0 e = true) (hc : chks cc cs es = true) (hlen : es.length < 20)
    (ho:PE X e (tE X.K (ev G o))) (ha:PA X es (tDs X.K (evDs G cs))):PE X (.Call (.Attribute e n ap) es [] cp) (tE X.K (ev G (.me m o cs))):=by
  have hb:=base_of h0 n X.env (eval e X.env)
  subst hn
  cases es with
  | nil =>
    cases cs with
    | cons _ _=>cases hc
    | nil =>
      cases m with
      | append=>exact peI (pe_bm0 F.plainAttrs_list F.slot_list_append F.type_list_append me_append ho hb hl) fun σ H Q q=>me_key0 q
      | insert=>exact peI (pe_bm0 F.plainAttrs_list F.slot_list_insert F.type_list_insert me_insert ho hb hl) fun σ H Q q=>me_key0 q
      | reverse=>cases hm
      | extend=>exact peI (pe_bm0 F.plainAttrs_list F.slot_list_extend F.type_list_extend me_extend ho hb hl) fun σ H Q q=>me_key0 q
      | remove=>exact peI (pe_bm0 F.plainAttrs_list F.slot_list_remove F.type_list_remove me_remove ho hb hl) fun σ H Q q=>me_key0 q
  | cons e1 es =>
    have hst:notStar e1=true/\chks cc cs.tail es=true:=by
      cases cs with
      | nil=>cases hc
      | cons c cs =>
        have h':(notStar e1 && chk cc c e1 && chks cc cs es)=true:=hc
        simp only [zqf] at h'
        exact ⟨h'.1.1,h'.2⟩
    have hfew:=few_of hc hlen X.env cp
    cases m with
    | append=>exact peI (pe_bm F.plainAttrs_list F.slot_list_append F.type_list_append me_append ho ha hb hfew hl (star_of hst.1 es X.env) (noStar_any hst.2 X.env cp)) fun σ H Q q=>me_key q
    | insert=>exact peI (pe_bm F.plainAttrs_list F.slot_list_insert F.type_list_insert me_insert ho ha hb hfew hl (star_of hst.1 es X.env) (noStar_any hst.2 X.env cp)) fun σ H Q q=>me_key q
    | reverse=>cases hm
    | extend=>exact peI (pe_bm F.plainAttrs_list F.slot_list_extend F.type_list_extend me_extend ho ha hb hfew hl (star_of hst.1 es X.env) (noStar_any hst.2 X.env cp)) fun σ H Q q=>me_key q
    | remove=>exact peI (pe_bm F.plainAttrs_list F.slot_list_remove F.type_list_remove me_remove ho ha hb hfew hl (star_of hst.1 es X.env) (noStar_any hst.2 X.env cp)) fun σ H Q q=>me_key q
theorem s_glo {x:Str} {v:Int} {pos:Pos} (g:Good kk X cc G) (hg:glob cc x=true) (hp:plainName x=true) (hl:cc.gs.lookup x=some v):PE X (.Name x pos) (tE X.K (ev G (.glo x v))):=by
 obtain ⟨t,ht⟩:=g.gls x v hl
 refine peI (pe_glob (v:=.int v) (g.gl hg) ht ⟨t,rfl⟩ (plain_dbg hp).1) fun σ H Q q=>?_
 obtain ⟨ads,M,ρ,s,q⟩:=q
 exact OkW.plain q s.mem (rd_int _)
end
section
variable {kk:Nat} {X:Cx} {cc:CC} {G:Fns}
structure TF (H H':Hp):Prop where
 tup:TupK H H'
 frz:∀ b o u,H b=some (.frz o u)->H' b=some (.frz o u)
theorem TF.scr {K:PySem.W.Frag} {H H':Hp} (t:TF H H') {a:Addr} {xs:List V} (h:ScrL K H a xs):ScrL K H' a xs:=by
 rcases h with ⟨o,h⟩ | h
 ·exact .inl ⟨o,t.frz _ _ _ h⟩
 ·exact .inr h
mutual
theorem RD.keep {K:PySem.W.Frag} {ads:List Addr} {H H':Hp} (t:TF H H'):∀ (d:D) (v:V),RD K ads H d v->RD K ads H' d v
 | .non,_,h=>by unfold RD at *;exact h
 | .bl _,_,h=>by unfold RD at *;exact h
 | .int _,_,h=>by unfold RD at *;exact h
 | .str _,_,h=>by unfold RD at *;exact h
 | .adr n,v,h=>by unfold RD at *;exact h
 | .tup ds,v,h=>by unfold RD at *;obtain ⟨a,xs,e,h,r⟩:=h;exact ⟨a,xs,e,t.tup _ _ h,RDs.keep t ds xs r⟩
 | .ls ds,v,h=>by unfold RD at *;obtain ⟨a,xs,e,h,r⟩:=h;exact ⟨a,xs,e,t.scr h,RDs.keep t ds xs r⟩
theorem RDs.keep {K:PySem.W.Frag} {ads:List Addr} {H H':Hp} (t:TF H H'):∀ (ds:List D) (vs:List V),RDs K ads H ds vs->RDs K ads H' ds vs
 | [],_,h=>by unfold RDs at *;exact h
 | d::ds,vs,h=>by unfold RDs at *;obtain ⟨x,r,e,h1,h2⟩:=h;exact ⟨x,r,e,RD.keep t d x h1,RDs.keep t ds r h2⟩
end
theorem RKs.keep {κ:Type} {K:PySem.W.Frag} {ads:List Addr} {H H':Hp} (t:TF H H'):∀ (ds:List (κ×D)) (vs:List (κ×V)),RKs K ads H ds vs->RKs K ads H' ds vs
 | [],_,h=>by unfold RKs at *;exact h
 | d::ds,vs,h=>by unfold RKs at *;obtain ⟨x,r,e,h0,h1,h2⟩:=h;exact ⟨x,r,e,h0,RD.keep t d.2 x.2 h1,RKs.keep t ds r h2⟩
theorem MRel.keep {K:PySem.W.Frag} {ads:List Addr} {H H':Hp} {M:Mem} (m:MRel K ads H M) (t:TF H H') (k:∀ a∈ads,H' a=H a):MRel K ads H' M:=⟨m.nd,m.len,fun n o a e1 e2=>by
 have h:=m.obj n o a e1 e2
 have ha:=k a (zqj e2)
 cases o with
 | lst ds=>obtain ⟨xs,h,r⟩:=h;exact ⟨xs,ha.trans h,RDs.keep t _ _ r⟩
 | scr ds=>obtain ⟨o,xs,h,r⟩:=h;exact ⟨o,xs,ha.trans h,RDs.keep t _ _ r⟩
 | dK ds=>obtain ⟨xs,h,r⟩:=h;exact ⟨xs,ha.trans h,RKs.keep t _ _ r⟩
 | dT ds=>obtain ⟨xs,h,r⟩:=h;exact ⟨xs,ha.trans h,RKs.keep t _ _ r⟩⟩
theorem mergeK_nodup:∀ (kvs acc:List (Key×V)),(acc.map (·.1)++kvs.map (·.1)).Nodup->mergeK acc kvs=acc++kvs
 | [],acc,_=>by simp [mergeK]
 | p::ps,acc,h=>by
  have hn:¬ p.1∈acc.map (·.1):=by
   intro hm
   rw [List.nodup_append] at h
   exact h.2.2 _ hm _ (by simp) rfl
  have ha:(acc.any fun kv=>decide (kv.1=p.1))=false:=by
   rw [List.any_eq_false]
   intro x hx
   simp only [decide_eq_true_eq]
   exact fun e=>hn (e ▸ List.mem_map_of_mem hx)
  have e:mergeK acc (p::ps)=mergeK (acc++[p]) ps:=by
   show mergeK (putK acc p.1 p.2) ps=_
   unfold putK
   rw [ha]
   simp
  rw [e,mergeK_nodup ps (acc++[p]) (by simpa using h)]
  simp
def pairsT (K:PySem.W.Frag) (G:Fns):List Str->List C->List (TE×TE)
 | k::ks,c::cs=>(tC (.str k),tE K (ev G c))::pairsT K G ks cs
 | _,_=>[]
theorem pairs_mono {K:PySem.W.Frag} (ks:List Str) (cs:List C):∀ t∈pairsT K G ks cs,(∀ σ H A B,(∀ v H,A v H->B v H)->t.1 σ H A->t.1 σ H B)/\(∀ σ H A B,(∀ v H,A v H->B v H)->t.2 σ H A->t.2 σ H B):=by
 intro t ht
 have:∀ (ks:List Str) (cs:List C),t∈pairsT K G ks cs->∃ k c,t=(tC (.str k),tE K (ev G c)):=by
  intro ks
  induction ks with
  | nil=>intro cs h;cases cs <;> cases h
  | cons k ks ih =>
   intro cs h
   cases cs with
   | nil=>cases h
   | cons c cs =>
    rcases List.mem_cons.mp h with z | z
    ·exact ⟨k,c,z⟩
    ·exact ih cs z
 obtain ⟨k,c,rfl⟩:=this ks cs ht
 refine ⟨fun σ H A B f h=>f _ _ h,fun σ H A B f h=>?_⟩
 obtain ⟨ads,M,ρ,s,q⟩:=h
 refine ⟨ads,M,ρ,s,?_⟩
 cases hq:ev G c ρ M with
 | ok w M1=>rw [hq] at q;exact fun v H' ads' g m r=>f _ _ (q v H' ads' g m r)
 | err _ _=>rw [hq] at q;exact q
 | stuck=>rw [hq] at q;exact q
theorem pairs_ok {K : PySem.W.Frag} {ρ : En} {σ : L2.St} : ∀ (ks : List Str) (cs : List C) {ads : List Addr} {H : Hp} {M : Mem} {R : List V -> Hp -> Prop}, ks.length = cs.length -> SR K ads M ρ σ H -> OkDs K ads H R (evDs G cs ρ M) ->
    tPairs (pairsT K G ks cs) σ H fun ps H2=>∃ vs,ps=(ks.map V.str).zip vs/\vs.length=ks.length/\R vs H2
  | [],[],ads,H,M,R,_,s,h=>⟨[],rfl,rfl,h [] H ads (Grow.refl _ _) s.mem (by unfold RDs;rfl)⟩
  | [],_::_,_,_,_,_,e,_,_=>by cases e
  | _::_,[],_,_,_,_,e,_,_=>by cases e
  | k::ks,c::cs,ads,H,M,R,e,s,h=>by
    show tE K (ev G c) σ H fun y H2=>tPairs (pairsT K G ks cs) σ H2 fun ps H3=>_
    refine ⟨ads,M,ρ,s,?_⟩
    simp only [evDs] at h
    cases hq:ev G c ρ M with
    | ok w M1 =>
      rw [hq] at h
      intro v H1 ads1 g1 m1 r1
      cases ho:own w M1 with
      | ok d M2 =>
        have h:OkDs K ads H R ((own w M1).bind fun d M=>(evDs G cs ρ M).bind fun ds M=>.ok (d::ds) M):=h
        rw [ho] at h
        obtain ⟨ads2,g2,m2,rd⟩:=own_ok s.mem g1 m1 r1 ho
        have h:OkDs K ads H R ((evDs G cs ρ M2).bind fun ds M=>.ok (d::ds) M):=h
        have h2:OkDs K ads2 H1 (fun vs H'=>R (v::vs) H') (evDs G cs ρ M2):=by
          cases hq3:evDs G cs ρ M2 with
          | ok ds M3 =>
            rw [hq3] at h
            intro vs H3 ads3 g3 m3 r3
            refine h (v::vs) H3 ads3 (g2.trans g3) m3 ?_
            unfold RDs
            exact ⟨v,vs,rfl,g3.rd _ _ rd,r3⟩
          | err _ _=>rw [hq3] at h;exact h
          | stuck=>rw [hq3] at h;exact h
        have ih:=pairs_ok ks cs (by simpa using e) (s.grow g2 m2) h2
        have mono:∀ (trs:List (TE×TE)) (H:Hp) (P Q:List (V×V)->Hp->Prop),(∀ ps H,P ps H->Q ps H)->(∀ t∈trs,(∀ σ H A B,(∀ v H,A v H->B v H)->t.1 σ H A->t.1 σ H B)/\(∀ σ H A B,(∀ v H,A v H->B v H)->t.2 σ H A->t.2 σ H B))->tPairs trs σ H P->tPairs trs σ H Q:=by
          intro trs
          induction trs with
          | nil=>intro H P Q f _ h;exact f _ _ h
          | cons t trs ih =>
            intro H P Q f hm h
            obtain ⟨m1,m2⟩:=hm t List.mem_cons_self
            refine m1 σ H _ _ (fun x H1 h1=>m2 σ H1 _ _ (fun y H2 h2=>ih H2 _ _ (fun ps H3 h3=>f _ _ h3) (fun t ht=>hm t (zqi _ ht)) h2) h1) h
        refine mono _ _ _ _ ?_ ?_ ih
        · rintro ps H3 ⟨vs,rfl,hl,hR⟩
          exact ⟨v::vs,rfl,by simp [hl],hR⟩
        · intro t ht
          exact pairs_mono ks cs t ht
      | err _ _=>cases w <;> cases ho
      | stuck=>cases w <;> cases ho
    | err _ _=>rw [hq] at h;exact h
    | stuck=>rw [hq] at h;exact h
theorem pairs_pp {ks:List Str} {cs:List C}:∀ {keys:List (Option Expr)} {vs:List Expr} {pos:Pos},strKeys ks keys=true->ks.length=cs.length->chks cc cs vs=true->(∀ c∈cs,∀ e,chk cc c e=true->PE X e (tE X.K (ev G c)))->PPs X pos keys vs (pairsT X.K G ks cs):=by
 induction ks generalizing cs with
 | nil =>
  intro keys vs pos h1 h2 h3 ih
  cases keys with
  | cons _ _=>cases h1
  | nil =>
   cases cs with
   | cons _ _=>cases h2
   | nil =>
    cases vs with
    | cons _ _=>cases h3
    | nil=>exact pps_nil
 | cons k ks ihk =>
  intro keys vs pos h1 h2 h3 ih
  cases cs with
  | nil=>cases h2
  | cons c cs =>
   cases vs with
   | nil=>cases h3
   | cons e es =>
    have h':(notStar e && chk cc c e && chks cc cs es)=true:=h3
    simp only [zqf] at h'
    cases keys with
    | nil=>cases h1
    | cons ky keys =>
     cases ky with
     | none=>cases h1
     | some ke =>
      obtain ⟨h1,hk⟩:=(zqf _ _).mp h1
      refine onConstant_el (P:=fun ke=>PPs X pos (some ke::keys) (e::es) _) h1 fun cn j p h1=>?_
      cases cn <;> first | exact absurd (show false=true from h1) zqd | skip
      rename_i st
      obtain rfl:k=st:=eq_of_beq h1
      exact pps_cons pe_str (ih c List.mem_cons_self e h'.1.2) (ihk hk (by simpa using h2) h'.2 fun c hc=>ih c (zqi _ hc))
theorem strKeys_some:∀ {ks:List Str} {keys:List (Option Expr)},strKeys ks keys=true->keys.all (·.isSome)=true/\keys.length=ks.length
 | [],[],_=>⟨rfl,rfl⟩
 | [],_::_,h=>by cases h
 | _::_,[],h=>by cases h
 | k::ks,ky::keys,h=>by
  cases ky with
  | none=>cases h
  | some ke =>
   obtain ⟨a,b⟩:=strKeys_some ((zqf _ _).mp h).2
   exact ⟨by simp [a],by simp [b]⟩
theorem chks_len:∀ {cs:List C} {es:List Expr},chks cc cs es=true->cs.length=es.length
 | [],[],_=>rfl
 | [],_::_,h=>by cases h
 | _::_,[],h=>by cases h
 | c::cs,e::es,h=>by
  have h':(notStar e && chk cc c e && chks cc cs es)=true:=h
  simp only [zqf] at h'
  simp [chks_len h'.2]
theorem zip_fst {α β:Type}:∀ (l:List α) (r:List β),l.length=r.length->(l.zip r).map (·.1)=l
 | [],_,_=>by simp
 | a::l,[],h=>by simp at h
 | a::l,b::r,h=>by simp [zip_fst l r (by simpa using h)]
theorem rks_zip {K:PySem.W.Frag} {ads:List Addr} {H:Hp}:∀ (ks:List Key) {ds:List D} {vs:List V},RDs K ads H ds vs->ks.length=ds.length->RKs K ads H (ks.zip ds) (ks.zip vs)
 | [],ds,vs,r,h=>by simp;unfold RKs;rfl
 | k::ks,[],vs,r,h=>by simp at h
 | k::ks,d::ds,vs,r,h=>by
  unfold RDs at r
  obtain ⟨x,r',rfl,h1,h2⟩:=r
  show RKs K ads H ((k,d)::ks.zip ds) ((k,x)::ks.zip r')
  unfold RKs
  exact ⟨_,_,rfl,rfl,h1,rks_zip ks h2 (by simpa using h)⟩
theorem s_dct0 {pos:Pos}:PE X (.Dict [] [] pos) (tE X.K (ev G (.dct [] []))):=by
 refine peI pe_dnewK fun σ H Q q=>?_
 obtain ⟨ads,M,ρ,s,q⟩:=q
 intro p hp
 have q:OkW X.K ads H Q (.ok (.d (.adr M.length)) (M++[.dK []])):=by
  simp only [ev,evDs] at q
  exact q
 exact q.dnew s.mem hp (show RKs X.K ads H [] [] by unfold RKs;rfl)
theorem s_dct {ks : List Str} {cs : List C} {keys : List (Option Expr)} {vs : List Expr} {pos : Pos} (h1 : strKeys ks keys = true) (hn : ks.Nodup) (h0 : keys ≠ []) (h15 : keys.length <= 15) (hc : chks cc cs vs = true) (hl : ks.length = cs.length)
    (ih:∀ c∈cs,∀ e,chk cc c e=true->PE X e (tE X.K (ev G c))):PE X (.Dict keys vs pos) (tE X.K (ev G (.dct ks cs))):=by
  obtain ⟨k1,k2⟩:=strKeys_some h1
  refine peI (pe_disp (pairs_pp h1 hl hc ih) k1 (by rw [k2,hl,chks_len hc]) h0 h15) fun σ H Q q=>?_
  obtain ⟨ads,M,ρ,s,q⟩:=q
  intro p hp
  have hpn:=s.mem.fresh hp
  have g0:Grow ads ads H (upd H p (.dK [])):=Grow.new1 s.mem hp
  have s0:SR X.K ads M ρ σ (upd H p (.dK [])):=s.grow g0 (s.mem.new1 hp)
  simp only [ev] at q
  have main:OkDs X.K ads (upd H p (.dK [])) (fun vs H2=>H2 p=some (.dK [])/\(vs.length=ks.length->Q (.ref p) (upd H2 p (.dK ((ks.map Sum.inr).zip vs))))) (evDs G cs ρ M):=by
    cases hq:evDs G cs ρ M with
    | ok ds M1 =>
      rw [hq] at q
      have q:OkW X.K ads H Q (if ks.length=ds.length then .ok (.d (.adr M1.length)) (M1++[.dK ((ks.map Sum.inr).zip ds)]) else .stuck):=q
      split at q
      · rename_i hld
        intro vs H2 ads2 g2 m2 r2
        have e2:H2 p=some (.dK []):=g2.kept p _ hpn upd_same
        refine ⟨e2,fun hvl=>?_⟩
        have pn2:p∉ads2:=g2.notin hpn upd_same
        have tk:TF H2 (upd H2 p (.dK ((ks.map Sum.inr).zip vs))):=⟨fun b xs h=>by rw [upd_ne (fun z=>by subst z;rw [e2] at h;cases h)];exact h,fun b o u h=>by rw [upd_ne (fun z=>by subst z;rw [e2] at h;cases h)];exact h⟩
        have m3:MRel X.K ads2 (upd H2 p (.dK ((ks.map Sum.inr).zip vs))) M1:=m2.keep tk fun a ha=>upd_ne (fun z=>by subst z;exact pn2 ha)
        have r3:=RDs.keep (K:=X.K) (ads:=ads2) tk _ _ r2
        have m4:=m3.push (o:=.dK ((ks.map Sum.inr).zip ds)) pn2 ⟨_,upd_same,rks_zip (ks.map Sum.inr) r3 (by simpa using hld)⟩
        obtain ⟨t,et⟩:=g2.pre
        refine q (.ref p) _ (ads2++[p]) ⟨⟨t++[p],by rw [et,List.append_assoc]⟩,fun b hb nb=>?_,fun b x nb h=>?_,fun b xs h=>?_,fun b o u h=>?_⟩ m4 ?_
        · rcases zqr.mp hb with z | z
          · have:=g2.new b z nb
            by_cases hbp:b=p
            · subst hbp;exact hp
            · rw [upd_ne hbp] at this;exact this
          · have:b=p:=by simpa using z
            subst this;exact hp
        · have hbp:b≠p:=fun z=>by subst z;rw [hp] at h;cases h
          rw [upd_ne hbp]
          exact g2.kept b x nb (by rw [upd_ne hbp];exact h)
        · have hbp:b≠p:=fun z=>by subst z;rw [hp] at h;cases h
          rw [upd_ne hbp]
          exact g2.tups b xs (by rw [upd_ne hbp];exact h)
        · have hbp:b≠p:=fun z=>by subst z;rw [hp] at h;cases h
          rw [upd_ne hbp]
          exact g2.frz b o u (by rw [upd_ne hbp];exact h)
        · show RD X.K (ads2++[p]) (upd H2 p (.dK ((ks.map Sum.inr).zip vs))) (.adr M1.length) (.ref p)
          unfold RD
          exact ⟨p,rfl,by rw [List.getElem?_append_right (by rw [m2.len];exact zqg _)];simp [m2.len]⟩
      · exact q.elim
    | err _ _=>rw [hq] at q;exact q
    | stuck=>rw [hq] at q;exact q
  have h:=pairs_ok ks cs hl s0 main
  have mono:∀ (trs:List (TE×TE)) (H:Hp) (P Q:List (V×V)->Hp->Prop),(∀ ps H,P ps H->Q ps H)->(∀ t∈trs,(∀ σ H A B,(∀ v H,A v H->B v H)->t.1 σ H A->t.1 σ H B)/\(∀ σ H A B,(∀ v H,A v H->B v H)->t.2 σ H A->t.2 σ H B))->tPairs trs σ H P->tPairs trs σ H Q:=by
    intro trs
    induction trs with
    | nil=>intro H P Q f _ h;exact f _ _ h
    | cons t trs ih =>
      intro H P Q f hm h
      obtain ⟨m1,m2⟩:=hm t List.mem_cons_self
      refine m1 σ H _ _ (fun x H1 h1=>m2 σ H1 _ _ (fun y H2 h2=>ih H2 _ _ (fun ps H3 h3=>f _ _ h3) (fun t ht=>hm t (zqi _ ht)) h2) h1) h
  refine mono _ _ _ _ ?_ (pairs_mono ks cs) h
  rintro ps H2 ⟨vs,rfl,hvl,e2,hQ⟩
  refine ⟨e2,(ks.map Sum.inr).zip vs,?_,?_,?_⟩
  · rw [List.zip_map_left,List.zip_map_left,List.map_map]
    rfl
  · rw [List.length_zip,zqe,hvl]
    omega
  · have hnd : ((([] : List (Key × V)).map (·.1)) ++ ((ks.map (Sum.inr (α := Int))).zip vs).map (·.1)).Nodup := by
      rw [zip_fst _ _ (by rw [zqe];exact hvl.symm)]
      simp only [List.map_nil,List.nil_append]
      exact List.Pairwise.map _ (fun a b hab z=>hab (Sum.inr.inj z)) hn
    rw [mergeK_nodup _ _ hnd]
    exact hQ hvl
end
def RIt (K:PySem.W.Frag) (ads:List Addr) (H:Hp) (it:Ev.It) (J:L2.It):Prop :=
 ∀ (i:Nat) (ads1:List Addr) (H1:Hp) (M1:Mem),Grow ads ads1 H H1->MRel K ads1 H1 M1 ->
  (itemAt M1 i it=some none->J.stop i H1) /\
  (∀ d,itemAt M1 i it=some (some d)->J.go i H1/\∀ x H2,J.yld i H1 x H2->Grow ads1 ads1 H1 H2/\MRel K ads1 H2 M1/\RD K ads1 H2 d x)
def OkIt (K:PySem.W.Frag) (ads:List Addr) (H:Hp) (R:L2.It->Hp->Prop):Out Ev.It->Prop
 | .ok it M=>∀ J H' ads',Grow ads ads' H H'->MRel K ads' H' M->RIt K ads' H' it J->R J H'
 | _=>False
def tI (K:PySem.W.Frag) (o:En->Mem->Out Ev.It):TI:=fun σ H R=>∃ ads M ρ,SR K ads M ρ σ H/\OkIt K ads H R (o ρ M)
def evSrc (G:Fns) (k:SK) (src:List C) (ρ:En) (M:Mem):Out Ev.It:=(evWs G src ρ M).bind fun ws M=>srcW k ws M
section
variable {K:PySem.W.Frag} {ads:List Addr} {H:Hp} {M:Mem}
theorem rit_rng (lo:Int) (n:Nat):RIt K ads H (.rng lo n) (Itr lo n):=by
 intro i ads1 H1 M1 g1 m1
 refine ⟨fun e=>?_,fun d e=>?_⟩
 ·by_cases h:i < n
  ·simp [itemAt,h] at e
  ·exact Nat.not_lt.mp h
 ·by_cases h:i < n
  ·simp only [itemAt,if_pos h,Option.some.injEq] at e
   subst e
   refine ⟨h,fun x H2 y=>?_⟩
   obtain ⟨rfl,rfl⟩:=y
   exact ⟨Grow.refl _ _,m1,rd_int _⟩
  ·simp [itemAt,h] at e
theorem rit_list {it:Ev.It} {a:Addr} (h:∀ (i:Nat) (ads1:List Addr) (H1:Hp) (M1:Mem),Grow ads ads1 H H1->MRel K ads1 H1 M1->∀ o,itemAt M1 i it=some o->∃ ds xs,o=ds[i]?/\RDs K ads1 H1 ds xs/\SqL K H1 a xs):RIt K ads H it (Itl K a):=by
 intro i ads1 H1 M1 g1 m1
 refine ⟨fun e=>?_,fun d e=>?_⟩
 ·obtain ⟨ds,xs,e2,rd,sq⟩:=h i ads1 H1 M1 g1 m1 _ e
  refine ⟨xs,sq,?_⟩
  rw [<- rd.len]
  exact List.getElem?_eq_none_iff.mp e2.symm
 ·obtain ⟨ds,xs,e2,rd,sq⟩:=h i ads1 H1 M1 g1 m1 _ e
  obtain ⟨v,ev,rv⟩:=rd.get e2.symm
  refine ⟨⟨xs,v,sq,ev⟩,fun x H2 y=>?_⟩
  obtain ⟨rfl,y⟩:=y
  have:=y xs sq
  rw [ev] at this
  cases this
  exact ⟨Grow.refl _ _,m1,rv⟩
theorem rit_tup {ds:List D} {xs:List V} {a:Addr} (ha:H a=some (.tup xs)) (rd:RDs K ads H ds xs):RIt K ads H (.items ds) (Itt K a):=by
 intro i ads1 H1 M1 g1 m1
 have sq:SqT K H1 a xs:=SqT.of (g1.tups _ _ ha)
 have rd1:=g1.rds _ _ rd
 refine ⟨fun e=>?_,fun d e=>?_⟩
 ·refine ⟨xs,sq,?_⟩
  rw [<- rd.len]
  exact List.getElem?_eq_none_iff.mp (zql e)
 ·obtain ⟨v,ev,rv⟩:=rd1.get (zql e)
  refine ⟨⟨xs,v,sq,ev⟩,fun x H2 y=>?_⟩
  obtain ⟨rfl,y⟩:=y
  have:=y xs sq
  rw [ev] at this
  cases this
  exact ⟨Grow.refl _ _,m1,rv⟩
end
theorem at_list {K:PySem.W.Frag} {ads:List Addr} {H:Hp} {M:Mem} {n:Nat} {v:V} {p:Bool×List D} (m:MRel K ads H M) (r:RD K ads H (.adr n) v) (hp:seqW M (.d (.adr n))=some p):∃ a,v=.ref a/\∃ xs,SqL K H a xs:=by
 obtain ⟨l,ds⟩:=p
 obtain ⟨a,xs,e,rd,sq⟩:=seq_ok (w:=.d (.adr n)) m r hp
 rcases sq with ⟨_,sq⟩|⟨hl,_⟩
 ·exact ⟨a,e,xs,sq⟩
 ·simp only [seqW] at hp
  split at hp
  ·cases hp;cases hl
  ·cases hp;cases hl
  ·cases hp
theorem at_items {K : PySem.W.Frag} {ads ads2 : List Addr} {H H2 : Hp} {M2 : Mem} {n i : Nat} {a : Addr} {o : Option D} (r : RD K ads H (.adr n) (.ref a)) (g2 : Grow ads ads2 H H2) (m2 : MRel K ads2 H2 M2) (e : itemAt M2 i (.at n) = some o) :
    ∃ ds xs,o=ds[i]?/\RDs K ads2 H2 ds xs/\SqL K H2 a xs:=by
  unfold RD at r
  obtain ⟨b,eb,ea⟩:=r
  cases eb
  have ea2:=g2.get ea
  simp only [itemAt] at e
  split at e
  · rename_i ds q
    obtain ⟨xs,h,rd⟩:=m2.obj n _ a q ea2
    exact ⟨ds,xs,(zql e).symm,rd,SqL.of h⟩
  · rename_i ds q
    obtain ⟨o,xs,h,rd⟩:=m2.obj n _ a q ea2
    exact ⟨ds,xs,(zql e).symm,rd,.inl (.inr ⟨o,h⟩)⟩
  · cases e
section
variable {kk:Nat} {X:Cx} {cc:CC} {G:Fns} {tg:Expr} {K:PySem.W.Frag} {ads:List Addr} {H:Hp}
theorem piI {iter:Expr} {t u:TI} (h:PI X tg iter t) (f:∀ σ H R,u σ H R->t σ H R):PI X tg iter u:=fun pins s σ H R I q=>h pins s σ H R I (f σ H R q)
theorem src_seq {c:C} {iter:Expr} (he:PE X iter (tE X.K (ev G c))):PI X tg iter (tI X.K (evSrc G .seq [c])):=by
 intro pins s σ H R I q
 obtain ⟨ads,M,ρ,sr,q⟩:=q
 simp only [evSrc,evWs] at q
 cases hq:ev G c ρ M with
 | ok w M1 =>
  rw [hq] at q
  have q:OkIt X.K ads H R (srcW .seq [w] M1):=q
  cases w with
  | lv ds =>
   have q:OkIt X.K ads H R (.ok (.items ds) M1):=q
   refine pi_list he pins s σ H R I ⟨ads,M,ρ,sr,?_⟩
   rw [hq]
   intro v H1 ads1 g1 m1 r1
   obtain ⟨a,xs,rfl,h0,h1,n,rd⟩:=r1
   refine ⟨a,rfl,⟨xs,SqL.of h1⟩,q _ H1 ads1 g1 m1 (rit_list fun i ads2 H2 M2 g2 m2 o e=>?_)⟩
   exact ⟨ds,xs,(zql e).symm,g2.rds _ _ rd,SqL.of (g2.kept a _ n h1)⟩
  | d x =>
   cases x with
   | tup ds =>
    have q:OkIt X.K ads H R (.ok (.items ds) M1):=q
    refine pi_tup he pins s σ H R I ⟨ads,M,ρ,sr,?_⟩
    rw [hq]
    intro v H1 ads1 g1 m1 r1
    have r1:RD X.K ads1 H1 (.tup ds) v:=r1
    unfold RD at r1
    obtain ⟨a,xs,rfl,h1,rd⟩:=r1
    exact ⟨a,rfl,⟨xs,SqT.of h1⟩,q _ H1 ads1 g1 m1 (rit_tup h1 rd)⟩
   | ls ds =>
    have q:OkIt X.K ads H R (.ok (.items ds) M1):=q
    refine pi_list he pins s σ H R I ⟨ads,M,ρ,sr,?_⟩
    rw [hq]
    intro v H1 ads1 g1 m1 r1
    have r1:RD X.K ads1 H1 (.ls ds) v:=r1
    unfold RD at r1
    obtain ⟨a,xs,rfl,h1,rd⟩:=r1
    refine ⟨a,rfl,⟨xs,h1.sq⟩,q _ H1 ads1 g1 m1 (rit_list fun i ads2 H2 M2 g2 m2 o e=>?_)⟩
    exact ⟨ds,xs,(zql e).symm,g2.rds _ _ rd,(g2.scr h1).sq⟩
   | adr n =>
    have q:OkIt X.K ads H R (if (seqW M1 (.d (.adr n))).isSome then .ok (.at n) M1 else .stuck):=q
    split at q
    ·rename_i hs
     obtain ⟨p,hp⟩:=Option.isSome_iff_exists.mp hs
     refine pi_list he pins s σ H R I ⟨ads,M,ρ,sr,?_⟩
     rw [hq]
     intro v H1 ads1 g1 m1 r1
     obtain ⟨a,ea,sq⟩:=at_list m1 r1 hp
     subst ea
     exact ⟨a,rfl,sq,q _ H1 ads1 g1 m1 (rit_list fun i ads2 H2 M2 g2 m2 o e=>at_items r1 g2 m2 e)⟩
    ·exact q.elim
   | non=>exact q.elim
   | bl _=>exact q.elim
   | int _=>exact q.elim
   | str _=>exact q.elim
 | err _ _=>rw [hq] at q;exact q.elim
 | stuck=>rw [hq] at q;exact q.elim
theorem src_rng1 {c:C} {a:Expr} {x:Str} {p pos:Pos} (g:Good kk X cc G) (hx:x = "range") (hg:glob cc x=true) (hs:notStar a=true) (he:PE X a (tE X.K (ev G c))):PI X tg (.Call (.Name x p) [a] [] pos) (tI X.K (evSrc G .rng1 [c])):=by
 have hgl:=g.gl hg
 have hm:X.mg x=none:=g.blt x (by subst hx;show _∈bltNames;decide +kernel)
 subst hx
 refine piI (pi_range1 hgl hm (pa_cons he pa_nil (star_of hs [] X.env)) (star_of hs [] X.env)) fun σ H R q=>?_
 obtain ⟨ads,M,ρ,s,q⟩:=q
 simp only [evSrc,evWs] at q
 refine ⟨ads,M,ρ,s,?_⟩
 cases hq:ev G c ρ M with
 | ok w M1 =>
  rw [hq] at q
  have q:OkIt X.K ads H R (srcW .rng1 [w] M1):=q
  intro v H1 ads1 g1 m1 r1
  rcases w with ⟨_|_ | j | _|_|_⟩|_ <;> first | exact q.elim | skip
  have q:OkIt X.K ads H R (if -(2 ^ 62)<=j/\j < 2 ^ 62 then .ok (.rng 0 j.toNat) M1 else .stuck):=q
  split at q
  ·rename_i hj
   exact ⟨j,by rw [rw_int r1],hj.1,hj.2,q _ H1 ads1 g1 m1 (rit_rng _ _)⟩
  ·exact q.elim
 | err _ _=>rw [hq] at q;exact q.elim
 | stuck=>rw [hq] at q;exact q.elim
theorem rit_enum {it:Ev.It} {l:Bool} {a:Addr} (h:∀ (i:Nat) (ads1:List Addr) (H1:Hp) (M1:Mem),Grow ads ads1 H H1->MRel K ads1 H1 M1->∀ o,itemAt M1 i it=some o->∃ ds xs,o=(ds[i]?.map fun d=>D.tup [.int i,d])/\RDs K ads1 H1 ds xs/\SqB K H1 l a xs):RIt K ads H it (Ite K l a):=by
 intro i ads1 H1 M1 g1 m1
 refine ⟨fun e=>?_,fun d e=>?_⟩
 ·obtain ⟨ds,xs,e2,rd,sq⟩:=h i ads1 H1 M1 g1 m1 _ e
  refine ⟨xs,sq,?_⟩
  rw [<- rd.len]
  cases q:ds[i]? with
  | none=>exact List.getElem?_eq_none_iff.mp q
  | some d=>rw [q] at e2;cases e2
 ·obtain ⟨ds,xs,e2,rd,sq⟩:=h i ads1 H1 M1 g1 m1 _ e
  cases q:ds[i]? with
  | none=>rw [q] at e2;cases e2
  | some d' =>
   rw [q] at e2
   cases e2
   obtain ⟨v,ev,rv⟩:=rd.get q
   refine ⟨⟨xs,v,sq,ev⟩,fun x H2 y=>?_⟩
   obtain ⟨p,y,rfl,hp,rfl,hall⟩:=y
   have:=hall xs sq
   rw [ev] at this
   cases this
   refine ⟨Grow.new1 m1 hp,m1.new1 hp,?_⟩
   have g2:=Grow.new1 (o:=.tup [.int i,v]) m1 hp
   unfold RD
   refine ⟨p,_,rfl,upd_same,?_⟩
   unfold RDs
   exact ⟨.int i,[v],rfl,rd_int _,.one (g2.rd _ _ rv)⟩
theorem src_enum {c:C} {a t:Expr} {x:Str} {p pos:Pos} (g:Good kk X cc G) (hx:x = "enumerate") (ht:isTuple t=true) (hg:glob cc x=true) (hs:notStar a=true) (he:PE X a (tE X.K (ev G c))):PI X t (.Call (.Name x p) [a] [] pos) (tI X.K (evSrc G .enum [c])):=by
 have hgl:=g.gl hg
 have hm:X.mg x=none:=g.blt x (by subst hx;show _∈bltNames;decide +kernel)
 subst hx
 cases t <;> first | cases ht | skip
 refine piI (pi_enum hgl hm (pa_cons he pa_nil (star_of hs [] X.env)) (star_of hs [] X.env)) fun σ H R q=>?_
 obtain ⟨ads,M,ρ,s,q⟩:=q
 simp only [evSrc,evWs] at q
 refine ⟨ads,M,ρ,s,?_⟩
 cases hq:ev G c ρ M with
 | ok w M1 =>
  rw [hq] at q
  have q:OkIt X.K ads H R (srcW .enum [w] M1):=q
  intro v H1 ads1 g1 m1 r1
  rcases w with ⟨_|_|_|_ | ds | n | ds⟩ | ds <;> first | exact q.elim | skip
  ·have q:OkIt X.K ads H R (.ok (.enumIt ds) M1):=q
   have r1:RD X.K ads1 H1 (.tup ds) v:=r1
   unfold RD at r1
   obtain ⟨b,xs,rfl,h1,rd⟩:=r1
   refine ⟨false,b,rfl,⟨xs,SqT.of h1⟩,q _ H1 ads1 g1 m1 (rit_enum fun i ads2 H2 M2 g2 m2 o e=>⟨ds,xs,(zql e).symm,g2.rds _ _ rd,SqT.of (g2.tups _ _ h1)⟩)⟩
  ·have q:OkIt X.K ads H R (if (seqW M1 (.d (.adr n))).isSome then .ok (.enumAt n) M1 else .stuck):=q
   split at q
   ·rename_i hs
    obtain ⟨p,hp⟩:=Option.isSome_iff_exists.mp hs
    obtain ⟨b,ea,sq⟩:=at_list m1 r1 hp
    subst ea
    refine ⟨true,b,rfl,sq,q _ H1 ads1 g1 m1 (rit_enum fun i ads2 H2 M2 g2 m2 o e=>?_)⟩
    have e':∃ o',itemAt M2 i (.at n)=some o'/\o=o'.map fun d=>D.tup [.int i,d]:=by
     simp only [itemAt] at e ⊢
     split at e
     ·exact ⟨_,rfl,(zql e).symm⟩
     ·exact ⟨_,rfl,(zql e).symm⟩
     ·cases e
    obtain ⟨o',e1,e2⟩:=e'
    obtain ⟨ds,xs,e3,rd,sq2⟩:=at_items r1 g2 m2 e1
    exact ⟨ds,xs,by rw [e2,e3],rd,sq2⟩
   ·exact q.elim
  ·have q:OkIt X.K ads H R (.ok (.enumIt ds) M1):=q
   have r1:RD X.K ads1 H1 (.ls ds) v:=r1
   unfold RD at r1
   obtain ⟨b,xs,rfl,h1,rd⟩:=r1
   exact ⟨true,b,rfl,⟨xs,h1.sq⟩,q _ H1 ads1 g1 m1 (rit_enum fun i ads2 H2 M2 g2 m2 o e=>⟨ds,xs,(zql e).symm,g2.rds _ _ rd,(g2.scr h1).sq⟩)⟩
  ·have q:OkIt X.K ads H R (.ok (.enumIt ds) M1):=q
   obtain ⟨b,xs,rfl,h0,h1,n,rd⟩:=r1
   exact ⟨true,b,rfl,⟨xs,SqL.of h1⟩,q _ H1 ads1 g1 m1 (rit_enum fun i ads2 H2 M2 g2 m2 o e=>⟨ds,xs,(zql e).symm,g2.rds _ _ rd,SqL.of (g2.kept b _ n h1)⟩)⟩
 | err _ _=>rw [hq] at q;exact q.elim
 | stuck=>rw [hq] at q;exact q.elim
theorem z1_ok {K : PySem.W.Frag} {ads : List Addr} {H : Hp} {M : Mem} {w : W} {v : V} {z : Z1} (m : MRel K ads H M) (r : RW K ads H w v) (hz : z1W M w = some z) : ∃ (l : Bool) (a : Addr), v = .ref a /\ (∃ xs, SqB K H l a xs) /\
    ∀ ads2 H2 M2,Grow ads ads2 H H2->MRel K ads2 H2 M2->∀ ds,seqZ M2 z=some ds->∃ xs,RDs K ads2 H2 ds xs/\SqB K H2 l a xs:=by
  rcases w with ⟨_|_|_|_ | ds | n | ds⟩ | ds <;> first | cases hz | skip
  · have r:RD K ads H (.tup ds) v:=r
    unfold RD at r
    obtain ⟨b,xs,rfl,h1,rd⟩:=r
    exact ⟨false,b,rfl,⟨xs,SqT.of h1⟩,fun ads2 H2 M2 g2 m2 es e=>by cases e;exact ⟨xs,g2.rds _ _ rd,SqT.of (g2.tups _ _ h1)⟩⟩
  · have hz:(if (seqW M (.d (.adr n))).isSome then some (Z1.at n) else none)=some z:=hz
    split at hz
    · rename_i hs
      cases hz
      obtain ⟨p,hp⟩:=Option.isSome_iff_exists.mp hs
      obtain ⟨b,ea,sq⟩:=at_list m r hp
      subst ea
      refine ⟨true,b,rfl,sq,fun ads2 H2 M2 g2 m2 es e=>?_⟩
      have r:RD K ads H (.adr n) (.ref b):=r
      unfold RD at r
      obtain ⟨b',eb,ea⟩:=r
      cases eb
      have ea2:=g2.get ea
      simp only [seqZ] at e
      split at e
      · rename_i ds q
        cases e
        obtain ⟨xs,h,rd⟩:=m2.obj n _ b q ea2
        exact ⟨xs,rd,SqL.of h⟩
      · rename_i ds q
        cases e
        obtain ⟨o,xs,h,rd⟩:=m2.obj n _ b q ea2
        exact ⟨xs,rd,.inl (.inr ⟨o,h⟩)⟩
      · cases e
    · cases hz
  · have r:RD K ads H (.ls ds) v:=r
    unfold RD at r
    obtain ⟨b,xs,rfl,h1,rd⟩:=r
    exact ⟨true,b,rfl,⟨xs,h1.sq⟩,fun ads2 H2 M2 g2 m2 es e=>by cases e;exact ⟨xs,g2.rds _ _ rd,(g2.scr h1).sq⟩⟩
  · obtain ⟨b,xs,rfl,h1,n,rd⟩:=r
    exact ⟨true,b,rfl,⟨xs,SqL.of h1⟩,fun ads2 H2 M2 g2 m2 es e=>by cases e;exact ⟨xs,g2.rds _ _ rd,SqL.of (g2.kept b _ n h1)⟩⟩
theorem rit_zip {K : PySem.W.Frag} {ads : List Addr} {H : Hp} {z y : Z1} {l m : Bool} {a b : Addr} (h1 : ∀ ads2 H2 M2, Grow ads ads2 H H2 -> MRel K ads2 H2 M2 -> ∀ ds, seqZ M2 z = some ds -> ∃ xs, RDs K ads2 H2 ds xs /\ SqB K H2 l a xs)
    (h2:∀ ads2 H2 M2,Grow ads ads2 H H2->MRel K ads2 H2 M2->∀ ds,seqZ M2 y=some ds->∃ xs,RDs K ads2 H2 ds xs/\SqB K H2 m b xs):RIt K ads H (.zip z y) (Itz K l m a b):=by
  intro i ads1 H1 M1 g1 m1
  have key:∀ o,itemAt M1 i (.zip z y)=some o->∃ ds es xs ys,o=zipAt ds es i/\RDs K ads1 H1 ds xs/\SqB K H1 l a xs/\RDs K ads1 H1 es ys/\SqB K H1 m b ys:=fun o e=>by
    simp only [itemAt] at e
    split at e
    · rename_i ds es q1 q2
      obtain ⟨xs,r1,s1⟩:=h1 ads1 H1 M1 g1 m1 ds q1
      obtain ⟨ys,r2,s2⟩:=h2 ads1 H1 M1 g1 m1 es q2
      exact ⟨ds,es,xs,ys,(zql e).symm,r1,s1,r2,s2⟩
    · cases e
  refine ⟨fun e=>?_,fun d e=>?_⟩
  · obtain ⟨ds,es,xs,ys,e2,r1,s1,r2,s2⟩:=key _ e
    refine ⟨xs,ys,s1,s2,?_⟩
    rw [<- r1.len,<- r2.len]
    unfold zipAt at e2
    cases q1:ds[i]? with
    | none=>exact .inl (List.getElem?_eq_none_iff.mp q1)
    | some d1 =>
      cases q2:es[i]? with
      | none=>exact .inr (List.getElem?_eq_none_iff.mp q2)
      | some d2=>rw [q1,q2] at e2;cases e2
  · obtain ⟨ds,es,xs,ys,e2,r1,s1,r2,s2⟩:=key _ e
    unfold zipAt at e2
    cases q1:ds[i]? with
    | none=>rw [q1] at e2;cases e2
    | some d1 =>
      cases q2:es[i]? with
      | none=>rw [q1,q2] at e2;cases e2
      | some d2 =>
        rw [q1,q2] at e2
        cases e2
        obtain ⟨v1,ev1,rv1⟩:=r1.get q1
        obtain ⟨v2,ev2,rv2⟩:=r2.get q2
        refine ⟨⟨xs,ys,v1,v2,s1,s2,ev1,ev2⟩,fun x H2 yy=>?_⟩
        obtain ⟨p,x1,x2,rfl,hp,rfl,a1,a2⟩:=yy
        have t1:=a1 xs s1
        have t2:=a2 ys s2
        rw [ev1] at t1
        rw [ev2] at t2
        cases t1
        cases t2
        have g2:=Grow.new1 (o:=.tup [v1,v2]) m1 hp
        refine ⟨g2,m1.new1 hp,?_⟩
        unfold RD
        refine ⟨p,_,rfl,upd_same,?_⟩
        unfold RDs
        exact ⟨v1,[v2],rfl,g2.rd _ _ rv1,.one (g2.rd _ _ rv2)⟩
theorem src_zip {c d : C} {a b t : Expr} {x : Str} {p pos : Pos} (g : Good kk X cc G) (hx : x = "zip") (ht : isTuple t = true) (hg : glob cc x = true) (hs : notStar a = true) (hs2 : notStar b = true) (he : PE X a (tE X.K (ev G c))) (hd : PE X b (tE X.K (ev G d))) :
    PI X t (.Call (.Name x p) [a,b] [] pos) (tI X.K (evSrc G .zip [c,d])):=by
  have hgl:=g.gl hg
  have hm:X.mg x=none:=g.blt x (by subst hx;show _∈bltNames;decide +kernel)
  subst hx
  cases t <;> first | cases ht | skip
  refine piI (pi_zip hgl hm (pa_cons he (pa_cons hd pa_nil (star_of hs2 [] X.env)) (star_of hs [b] X.env)) (star_of hs [b] X.env) (star_of hs2 [] X.env)) fun σ H R q=>?_
  obtain ⟨ads,M,ρ,s,q⟩:=q
  simp only [evSrc,evWs] at q
  refine ⟨ads,M,ρ,s,?_⟩
  cases hq:ev G c ρ M with
  | ok w M1 =>
    rw [hq] at q
    intro v H1 ads1 g1 m1 r1
    have s1:=s.grow g1 m1
    refine ⟨ads1,M1,ρ,s1,?_⟩
    simp only [Out.bind] at q
    cases hq2:ev G d ρ M1 with
    | ok w2 M2 =>
      rw [hq2] at q
      have q:OkIt X.K ads H R (srcW .zip [w,w2] M2):=q
      intro v2 H2 ads2 g2 m2 r2
      have q:OkIt X.K ads H R (match z1W M2 w,z1W M2 w2 with
        | some a,some b=>.ok (.zip a b) M2
        | _,_=>.stuck):=q
      cases q1:z1W M2 w with
      | none=>rw [q1] at q;exact q.elim
      | some z1 =>
        cases q2:z1W M2 w2 with
        | none=>rw [q1,q2] at q;exact q.elim
        | some z2 =>
          rw [q1,q2] at q
          obtain ⟨l,a1,rfl,sq1,k1⟩:=z1_ok m2 (g2.rw r1.rw) q1
          obtain ⟨m,b1,rfl,sq2,k2⟩:=z1_ok m2 r2.rw q2
          exact ⟨l,m,a1,b1,rfl,sq1,sq2,q _ H2 ads2 (g1.trans g2) m2 (rit_zip k1 k2)⟩
    | err _ _=>rw [hq2] at q;exact q.elim
    | stuck=>rw [hq2] at q;exact q.elim
  | err _ _=>rw [hq] at q;exact q.elim
  | stuck=>rw [hq] at q;exact q.elim
end
def tG (K:PySem.W.Frag) (tg:List Nat):TG:=fun v σ H Q=>∃ ads M ρ d,SR K ads M ρ σ H/\RD K ads H d v/\∃ ρ',bindT tg d ρ=some ρ'/\∀ σ',SR K ads M ρ' σ' H->Q σ' H
theorem SR.set {K:PySem.W.Frag} {ads:List Addr} {M:Mem} {ρ:En} {σ:L2.St} {H:Hp} (s:SR K ads M ρ σ H) (i:Nat) {d:D} {v:V} (r:RD K ads H d v):SR K ads M (ρ.set i (some d)) (σ.set i (some v)) H :=
 ⟨s.mem,fun j d' e=>by
  by_cases h:i=j
  ·subst h
   have hl:i < ρ.length:=by
    have:=(zqa.mp e).1
    simpa using this
   rw [List.getElem?_set_self hl] at e
   cases e
   exact ⟨v,by rw [List.getElem?_set_self (by rw [<- s.ln];exact hl)],r⟩
  ·rw [List.getElem?_set_ne h] at e ⊢
   exact s.en j d' e,by simp [s.ln]⟩
def gN:List Nat->TGs
 | []=>gNil
 | i::r=>gCons (gName i) (gN r)
section
variable {kk:Nat} {X:Cx} {cc:CC} {G:Fns}
theorem Good.nm (g:Good kk X cc G) {x:Str} (h:(cc.names.lookup x == some .local || cc.names.lookup x == some .cell)=true):Loc X.env.scope x/\(X.fn x=true\/X.env.scope.names.lookup x=some .local):=by
 rw [Bool.or_eq_true] at h
 rcases h with h | h
 ·have h:=eq_of_beq h
  exact ⟨.inl (g.kinds x _ h),.inr (g.kinds x _ h)⟩
 ·have h:=eq_of_beq h
  exact ⟨.inr (g.kinds x _ h),.inl (g.fnc x h)⟩
theorem g_names (g:Good kk X cc G):∀ (tg:List Nat) (es:List Expr),chkNames cc tg es=true->PGs X es (gN tg)/\es.length=tg.length/\(assignEach es X.env).length=tg.length/\(assignEach es X.env).findIdx? (·.1)=none
 | [],[],_=>⟨pgs_nil,rfl,rfl,rfl⟩
 | [],_::_,h=>by cases h
 | _::_,[],h=>by cases h
 | i::tg,e::es,h=>by
  obtain ⟨h,h3⟩:=(zqf _ _).mp h
  obtain ⟨ih,l1,l2,l3⟩:=g_names g tg es h3
  refine onName_el (P:=fun e=>PGs X (e::es) (gN (i::tg))/\(e::es).length=(i::tg).length/\(assignEach (e::es) X.env).length=(i::tg).length/\(assignEach (e::es) X.env).findIdx? (·.1)=none) h fun x p h=>?_
  obtain ⟨h1,h2⟩:=(zqf _ _).mp h
  obtain ⟨n1,n2⟩:=g.nm h2
  refine ⟨pgs_cons (pg_name (by rw [g.N];exact g.nd) (by rw [g.N];exact eq_of_beq h1) n1 n2) ih,by simp [l1],?_,?_⟩
  ·show (assignEach es X.env).length+1=_
   rw [l2];rfl
  ·show List.findIdx? _ ((false,_)::assignEach es X.env)=none
   rw [List.findIdx?_cons]
   simp only [Bool.false_eq_true,if_false]
   rw [l3];rfl
theorem gN_of {K:PySem.W.Frag} {ads:List Addr} {M:Mem} {H:Hp} {Q:L2.St->Hp->Prop} {ρ':En} (hQ:∀ σ',SR K ads M ρ' σ' H->Q σ' H):∀ (tg:List Nat) (ds:List D) (xs:List V) (ρ:En) (σ:L2.St),SR K ads M ρ σ H->RDs K ads H ds xs->setAll tg ds ρ=some ρ'->gN tg xs σ H Q
 | [],[],xs,ρ,σ,s,r,e=>by
  unfold RDs at r
  subst r
  cases e
  exact ⟨rfl,hQ σ s⟩
 | [],_::_,_,_,_,_,_,e=>by cases e
 | _::_,[],_,_,_,_,_,e=>by cases e
 | i::tg,d::ds,xs,ρ,σ,s,r,e=>by
  unfold RDs at r
  obtain ⟨x,r',rfl,h1,h2⟩:=r
  exact ⟨x,r',rfl,gN_of hQ tg ds r' _ _ (s.set i h1) h2 e⟩
theorem setAll_len:∀ (tg:List Nat) (ds:List D) (ρ ρ':En),setAll tg ds ρ=some ρ'->ds.length=tg.length
 | [],[],_,_,_=>rfl
 | [],_::_,_,_,e=>by cases e
 | _::_,[],_,_,e=>by cases e
 | i::tg,d::ds,ρ,ρ',e=>by simp [setAll_len tg ds _ ρ' e]
theorem g_target (g:Good kk X cc G) {tg:List Nat} {t:Expr} (h:chkTg cc tg t=true):PG X t (tG X.K tg):=by
 rcases tg with _|⟨i,_|⟨j,tl⟩⟩
 ·exact absurd h zqd
 ·refine onName_el (P:=fun t=>PG X t _) ((zqf _ _).mp h).1 fun x p h=>?_
  obtain ⟨h1,h2⟩:=(zqf _ _).mp h
  obtain ⟨n1,n2⟩:=g.nm h2
  intro pins s σ H v u Q I r q
  refine pg_name (by rw [g.N];exact g.nd) (by rw [g.N];exact eq_of_beq h1) n1 n2 pins s σ H v u Q I r ?_
  obtain ⟨ads,M,ρ,d,sr,rd,ρ',e,hQ⟩:=q
  cases e
  exact hQ _ (sr.set i rd)
 ·refine onTuple_el (P:=fun t=>PG X t _) h fun es kq p h=>?_
  obtain ⟨a,l1,l2,l3⟩:=g_names g (i::j::tl) es ((zqf _ _).mp h).1
  intro pins s σ H v u Q I r q
  refine pg_tup (pos:=p) (k:=kq) g.calm a l2 l3 pins s σ H v u Q I r ?_
  obtain ⟨ads,M,ρ,d,sr,rd,ρ',e,hQ⟩:=q
  have e':∃ ds,d=.tup ds/\setAll (i::j::tl) ds ρ=some ρ':=by
   cases d <;> first | cases e | exact ⟨_,rfl,e⟩
  obtain ⟨ds,rfl,e2⟩:=e'
  unfold RD at rd
  obtain ⟨b,xs,rfl,hb,rd⟩:=rd
  exact ⟨b,xs,rfl,SqT.of hb,by rw [<- rd.len,setAll_len _ ds ρ ρ' e2],gN_of hQ _ ds xs ρ σ sr rd e2⟩
end
theorem closure_eq {env : Env} : ∀ (names : List (Str × NameKind)) (acc : List (Str × Addr)), (∀ y ∈ names, y.2 = .free -> ∃ c, env.cells.lookup y.1 = some c) -> (∀ x c, acc.lookup x = some c -> env.cells.lookup x = some c) ->
    ∃ cl,(forIn names acc fun (x:Str×NameKind) (r:List (Str×Addr))=>(match x with | (name,kind)=>if (kind == NameKind.free)=true then do let a <- cellOf env name;pure (ForInStep.yield ((name,a)::r)) else pure (ForInStep.yield r):Sem (ForInStep (List (Str×Addr)))))=pure cl /\
      (∀ x c,cl.lookup x=some c->env.cells.lookup x=some c)/\(∀ x,(acc.lookup x).isSome=true->(cl.lookup x).isSome=true)/\∀ y∈names,y.2=.free->(cl.lookup y.1).isSome=true
  | [],acc,_,h=>⟨acc,rfl,h,fun _ q=>q,fun y hy=>by cases hy⟩
  | (n,k)::r,acc,hn,h=>by
    by_cases hk:k=.free
    · subst hk
      obtain ⟨c,hc⟩:=hn (n,.free) List.mem_cons_self rfl
      have h2:∀ x c',((n,c)::acc).lookup x=some c'->env.cells.lookup x=some c':=fun x c' e=>by
        rw [List.lookup_cons] at e
        by_cases hx:x=n
        · subst hx;simp at e;rw [<- e];exact hc
        · have:(x == n)=false:=beq_eq_false_iff_ne.mpr hx
          rw [this] at e;exact h x c' e
      obtain ⟨cl,e1,e2,e3,e4⟩:=closure_eq r ((n,c)::acc) (fun y hy=>hn y (zqi _ hy)) h2
      refine ⟨cl,?_,e2,fun x q=>e3 x ?_,fun y hy hf=>?_⟩
      · rw [List.forIn_cons]
        have:cellOf env n=pure c:=by unfold cellOf;rw [hc]
        simp only [beq_self_eq_true,if_true,this]
        exact e1
      · rw [List.lookup_cons]
        by_cases hx:(x == n)=true
        · simp [hx]
        · simp only [hx];exact q
      · rcases List.mem_cons.mp hy with z | z
        · subst z;exact e3 _ (by simp [List.lookup_cons])
        · exact e4 y z hf
    · obtain ⟨cl,e1,e2,e3,e4⟩:=closure_eq r acc (fun y hy=>hn y (zqi _ hy)) h
      refine ⟨cl,?_,e2,e3,fun y hy hf=>?_⟩
      · rw [List.forIn_cons]
        have:(k == NameKind.free)=false:=by simpa using hk
        simp only [this,Bool.false_eq_true,if_false]
        exact e1
      · rcases List.mem_cons.mp hy with z | z
        · subst z;exact absurd hf hk
        · exact e4 y z hf
theorem clos_of {X:Cx} {sc:Scope} (h:∀ y∈sc.names,y.2=.free->∃ c,X.env.cells.lookup y.1=some c):∃ cl,Clos X sc cl:=by
 obtain ⟨cl,e1,e2,e3,e4⟩:=closure_eq sc.names [] h (fun x c e=>by cases e)
 refine ⟨cl,?_,e2,fun x hx=>Option.isSome_iff_exists.mp (e4 (x,.free) (PySem.mem_of_lookup hx) rfl)⟩
 unfold closureFor
 exact congrArg (fun m=>m >>= fun cs=>pure cs) e1
section
variable {kk:Nat} {X:Cx} {cc:CC} {G:Fns}
theorem scOk_of {sc : Scope} (h : scOk cc sc = true) : sc.kind = .function /\ (∀ y ∈ sc.names, y.2 = .cell -> sc.names.lookup y.1 = some .cell) /\ (∀ y ∈ sc.names, y.2 = .local -> sc.names.lookup y.1 = some .local) /\ (blockN sc).Nodup /\
    ∀ y∈sc.names,y.2=.free->sc.names.lookup y.1=some .free/\(cc.names.lookup y.1=some .cell\/cc.names.lookup y.1=some .free):=by
  unfold scOk at h
  simp only [zqf,beq_iff_eq,List.all_eq_true,bne_iff_ne,ne_eq,decide_eq_true_eq,Bool.or_eq_true] at h
  obtain ⟨⟨⟨⟨h1,h2⟩,h3⟩,h4⟩,h5⟩:=h
  refine ⟨h1,fun y hy hk=>?_,fun y hy hk=>?_,h4,fun y hy hk=>?_⟩
  · rcases h2 y hy with z | z
    · exact absurd hk z
    · exact z
  · rcases h3 y hy with z | z
    · exact absurd hk z
    · exact z
  · rcases h5 y hy with z | z
    · exact absurd hk z
    · exact z
theorem Good.block (g:Good kk X cc G) {sc:Scope} (h:scOk cc sc=true) {cl:List (Str×Addr)} (C:Addr) (s:Shared) (H:Hp) (fp:List Addr):Good kk (X.block sc cl C (blockN sc) s H fp []) (blk cc sc) G:=by
 obtain ⟨h1,h2,h3,h4,h5⟩:=scOk_of h
 refine ⟨g.calm,g.room,rfl,h4,fun x k e=>?_,fun x e=>?_,g.blt,g.gls,g.fns⟩
 ·have e:sc.names.lookup x=some k:=e
  have r:=lookup_relabel (env:=X.env) e
  have kd:(X.block sc cl C (blockN sc) s H fp []).env.kindOf x=some (if (k == NameKind.free && X.env.scope.kind == .function && X.env.kindOf x == some .cell) then .cell else k):=r
  cases k with
  | «local»=>exact kd
  | cell=>exact kd
  | free =>
   show _\/_
   rw [kd]
   split
   ·exact .inl rfl
   ·exact .inr rfl
  | globalExplicit=>exact True.intro
  | globalImplicit=>exact kd
 ·have e:sc.names.lookup x=some .cell:=e
  show (sc.names.lookup x == some .cell)=true
  rw [e]
  rfl
theorem cap_ok (g:Good kk X cc G) {sc:Scope} (h:scOk cc sc=true):CapOk X sc (blockN sc) (capOf cc sc):=by
 obtain ⟨h1,h2,h3,h4,h5⟩:=scOk_of h
 refine ⟨by simp [capOf],fun i j x e1 e2=>?_⟩
 unfold capOf at e1
 rw [zqk,e2] at e1
 simp only [Option.map_some,Option.some.injEq] at e1
 split at e1
 ·rename_i hf
  have hf:sc.names.lookup x=some .free:=by simpa using hf
  obtain ⟨_,ho⟩:=h5 (x,.free) (PySem.mem_of_lookup hf) rfl
  refine ⟨?_,hf,?_⟩
  ·rw [g.N]
   obtain ⟨hj,hx,_⟩:=List.findIdx?_eq_some_iff_getElem.mp e1
   rw [zqb hj]
   have:cc.N[j]=x:=by simpa using hx
   rw [this]
  ·rcases ho with ho | ho
   ·exact .inl (g.kinds x _ ho)
   ·exact g.kinds x _ ho
 ·cases e1
theorem capEn_sr {K:PySem.W.Frag} {ads:List Addr} {M:Mem} {ρ:En} {σ:L2.St} {H:Hp} (s:SR K ads M ρ σ H) (cap:List (Option Nat)):SR K ads M (capEn cap ρ) (capσ cap σ) H:=by
 refine ⟨s.mem,fun i d e=>?_,by simp [capEn,capσ]⟩
 unfold capEn at e
 unfold capσ
 rw [zqk] at e ⊢
 cases q:cap[i]? with
 | none=>rw [q] at e;cases e
 | some o =>
  rw [q] at e
  cases o with
  | none=>cases e
  | some j =>
   have e:(ρ[j]?).join=some d:=zql e
   have e2:ρ[j]?=some (some d):=by
    cases r:ρ[j]? with
    | none=>rw [r] at e;cases e
    | some z=>rw [r] at e;cases z with
     | none=>cases e
     | some y=>cases e;rfl
   obtain ⟨v,ev,rv⟩:=s.en j d e2
   exact ⟨v,by simp [ev],rv⟩
theorem Grow.upd_new {ads ads':List Addr} {H H':Hp} {D:Addr} {o:HO} (g:Grow ads ads' H H') (h:H D=none):Grow ads ads' H (upd H' D o) :=
 ⟨g.pre,g.new,fun b x n e=>by rw [upd_ne (fun z=>by subst z;rw [h] at e;cases e)];exact g.kept b x n e,fun b x e=>by rw [upd_ne (fun z=>by subst z;rw [h] at e;cases e)];exact g.tups b x e,
  fun b x u e=>by rw [upd_ne (fun z=>by subst z;rw [h] at e;cases e)];exact g.frz b x u e⟩
theorem comp_key {K : PySem.W.Frag} {G : Fns} {it : Ev.It} {J : L2.It} {tg : List Nat} {cond : Option Tst} {elt : C} {cap : List (Option Nat)} {ads : List Addr} {M : Mem} {ρ : En} {σ : L2.St} {H : Hp} {Q : VK} {f : Nat}
    (s:SR K ads M ρ σ H) (hJ:RIt K ads H it J) (q:OkW K ads H Q (compGo (fun τ M=>evCond G cond τ M) (fun τ M=>(ev G elt τ M).bind own) it tg f 0 (capEn cap ρ) M [])) :
    tCompL cap (tG K tg) (cond.map fun t=>tTs K (evT G t)) (tE K (ev G elt)) σ J H Q:=by
  intro D hD
  have hDn:=s.mem.fresh hD
  refine ⟨fun i m τ H' ys=>∃ ads' M' τρ acc,SR K ads' M' τρ τ H'/\Grow ads ads' H H'/\D∉ads'/\H' D=some (.lst ys)/\RDs K ads' H' acc ys/\OkW K ads H Q (compGo (fun τ M=>evCond G cond τ M) (fun τ M=>(ev G elt τ M).bind own) it tg m i τρ M' acc),
    ⟨f,ads,M,capEn cap ρ,[],?_,(Grow.refl _ _).upd_new hD,hDn,upd_same,(by unfold RDs;rfl),q⟩,?_⟩
  · have g0:Grow ads ads H (upd H D (.lst [])):=Grow.new1 s.mem hD
    exact (capEn_sr s cap).grow g0 (s.mem.new1 hD)
  rintro i m τ H' ys ⟨ads',M',τρ,acc,s',g',dn,hl,ra,q'⟩
  refine ⟨hl,?_⟩
  obtain ⟨r1,r2⟩:=hJ i ads' H' M' g' s'.mem
  have stop:itemAt M' i it=some none->OkW K ads H Q (.ok (.lv acc) M')->(J.stop i H'/\Q (.ref D) H'):=fun hi q' =>
    ⟨r1 hi,q' (.ref D) H' ads' g' s'.mem ⟨D,ys,rfl,hD,hl,dn,ra⟩⟩
  cases m with
  | zero =>
    unfold compGo at q'
    split at q'
    · rename_i hi
      exact .inl (stop hi q')
    · exact q'.elim
  | succ m =>
    unfold compGo at q'
    split at q'
    · rename_i hi
      exact .inl (stop hi q')
    · rename_i d hi
      obtain ⟨go,yl⟩:=r2 d hi
      cases hb:bindT tg d τρ with
      | none=>rw [hb] at q';exact q'.elim
      | some τ1 =>
        rw [hb] at q'
        dsimp only at q'
        split at q'
        · rename_i hz
          refine .inr ⟨go,by rw [<- ra.len];exact hz,fun x H2 y=>?_⟩
          obtain ⟨g2,m2,rd⟩:=yl x H2 y
          have hl2:H2 D=some (.lst ys):=g2.kept D _ dn hl
          refine ⟨ads',M',τρ,d,s'.grow g2 m2,rd,τ1,hb,fun τ2 s2=>?_⟩
          have rest : ∀ b M3 H3 ads3, Grow ads' ads3 H2 H3 -> MRel K ads3 H3 M3 -> OkW K ads H Q (if b = true then ((ev G elt τ1 M3).bind own).bind fun x M => compGo (fun τ M => evCond G cond τ M) (fun τ M => (ev G elt τ M).bind own) it tg m (i + 1) τ1 M (acc ++ [x]) else compGo (fun τ M => evCond G cond τ M) (fun τ M => (ev G elt τ M).bind own) it tg m (i + 1) τ1 M3 acc) ->
              (if b=true then tE K (ev G elt) τ2 H3 fun v H4=>H4 D=some (.lst ys)/\∃ m',m' < m+1/\∃ ads' M' τρ acc,SR K ads' M' τρ τ2 (upd H4 D (.lst (ys++[v])))/\Grow ads ads' H (upd H4 D (.lst (ys++[v])))/\D∉ads'/\(upd H4 D (.lst (ys++[v]))) D=some (.lst (ys++[v]))/\RDs K ads' (upd H4 D (.lst (ys++[v]))) acc (ys++[v])/\OkW K ads H Q (compGo (fun τ M=>evCond G cond τ M) (fun τ M=>(ev G elt τ M).bind own) it tg m' (i+1) τρ M' acc)
               else ∃ m',m' < m+1/\∃ ads' M' τρ acc,SR K ads' M' τρ τ2 H3/\Grow ads ads' H H3/\D∉ads'/\H3 D=some (.lst ys)/\RDs K ads' H3 acc ys/\OkW K ads H Q (compGo (fun τ M=>evCond G cond τ M) (fun τ M=>(ev G elt τ M).bind own) it tg m' (i+1) τρ M' acc)):=by
            intro b M3 H3 ads3 g3 m3 q3
            have dn3:D∉ads3:=g3.notin dn hl2
            have hl3:H3 D=some (.lst ys):=g3.kept D _ dn hl2
            have s3:=s2.grow g3 m3
            have gg:=(g'.trans g2).trans g3
            have ra3:=(g2.trans g3).rds _ _ ra
            cases b with
            | false =>
              rw [if_neg (by simp)] at q3 ⊢
              exact ⟨m,Nat.lt_succ_self _,ads3,M3,τ1,acc,s3,gg,dn3,hl3,ra3,q3⟩
            | true =>
              rw [if_pos rfl] at q3 ⊢
              refine ⟨ads3,M3,τ1,s3,?_⟩
              cases he:ev G elt τ1 M3 with
              | ok w M4 =>
                rw [he] at q3
                intro v H4 ads4 g4 m4 r4
                have q3:OkW K ads H Q ((own w M4).bind fun x M=>compGo (fun τ M=>evCond G cond τ M) (fun τ M=>(ev G elt τ M).bind own) it tg m (i+1) τ1 M (acc++[x])):=q3
                have hl4:H4 D=some (.lst ys):=g4.kept D _ dn3 hl3
                refine ⟨hl4,m,Nat.lt_succ_self _,?_⟩
                cases ho:own w M4 with
                | ok dd M5 =>
                  rw [ho] at q3
                  obtain ⟨ads5,g5,m5,rd5⟩:=own_ok s3.mem g4 m4 r4 ho
                  have dn5:D∉ads5:=g5.notin dn3 hl3
                  have tk:TF H4 (upd H4 D (.lst (ys++[v]))):=⟨fun b xs e=>by rw [upd_ne (fun z=>by subst z;rw [hl4] at e;cases e)];exact e,fun b o u e=>by rw [upd_ne (fun z=>by subst z;rw [hl4] at e;cases e)];exact e⟩
                  have m6:MRel K ads5 (upd H4 D (.lst (ys++[v]))) M5:=m5.keep tk fun a ha=>upd_ne (fun z=>by subst z;exact dn5 ha)
                  have en6:REn K ads5 (upd H4 D (.lst (ys++[v]))) τ1 τ2:=fun j d e=>by
                    obtain ⟨u,e1,r⟩:=g5.ren s3.en j d e
                    exact ⟨u,e1,RD.keep tk _ _ r⟩
                  exact ⟨ads5,M5,τ1,acc++[dd],⟨m6,en6,s3.ln⟩,(gg.trans g5).upd_new hD,dn5,upd_same,RDs.keep tk _ _ ((g5.rds _ _ ra3).app (.one rd5)),q3⟩
                | err _ _=>cases w <;> cases ho
                | stuck=>cases w <;> cases ho
              | err _ _=>rw [he] at q3;exact q3
              | stuck=>rw [he] at q3;exact q3
          cases cond with
          | none =>
            exact rest true M' H2 ads' (Grow.refl _ _) m2 q'
          | some t =>
            show tTs K (evT G t) τ2 H2 _
            refine ⟨ads',M',τ1,s2,?_⟩
            have q':OkW K ads H Q ((evT G t τ1 M').bind fun b M=>if b=true then ((ev G elt τ1 M).bind own).bind fun x M=>compGo (fun τ M=>evCond G (some t) τ M) (fun τ M=>(ev G elt τ M).bind own) it tg m (i+1) τ1 M (acc++[x]) else compGo (fun τ M=>evCond G (some t) τ M) (fun τ M=>(ev G elt τ M).bind own) it tg m (i+1) τ1 M acc):=q'
            cases ht:evT G t τ1 M' with
            | ok b M3 =>
              rw [ht] at q'
              intro H3 ads3 g3 m3
              exact rest b M3 H3 ads3 g3 m3 q'
            | err _ _=>rw [ht] at q';exact q'
            | stuck=>rw [ht] at q';exact q'
        · exact q'.elim
    · exact q'.elim
end
section
variable {kk:Nat} {G:Fns}
theorem foldSet {e:Expr} (h:notSet e=true) (env:Env):∀ x,foldedSetIterable e env x=pure x:=by
 intro x
 cases e <;> first | rfl | exact absurd (show false=true from h) zqd
theorem s_comp {X : Cx} {cc : CC} {k : SK} {src : List C} {tg : List Nat} {cond : Option Tst} {elt : C} {cap : List (Option Nat)} {el t iter : Expr} {ifs : List Expr} {sc : Scope} {pos : Pos} (g : Good kk X cc G) (hsc : scOk cc sc = true) (hcap : cap = capOf cc sc) (hns : notSet iter = true)
    (hsrc:PI X t iter (tI X.K (evSrc G k src))) (htg:chkTg (blk cc sc) tg t=true) (hcond:chkC (blk cc sc) cond ifs=true)
    (ihc:∀ t,cond=some t->∀ X':Cx,X'.K=X.K->Good kk X' (blk cc sc) G->∀ e,chkT (blk cc sc) t e=true->PT X' e (tTs X'.K (evT G t))) (ihe:∀ X':Cx,X'.K=X.K->Good kk X' (blk cc sc) G->PE X' el (tE X'.K (ev G elt))) :
    ∃ (wi:TI) (cl:(X:Cx)->Prop),True/\PE X (.ListComp el [⟨t,iter,ifs,0⟩] sc pos) (tE X.K (ev G (.comp k src tg cond elt cap))):=by
  refine ⟨fun _ _ _=>True,fun _=>True,True.intro,?_⟩
  intro pins s σ H Q I q
  obtain ⟨h1,h2,h3,h4,h5⟩:=scOk_of hsc
  obtain ⟨cl,hcl⟩:=clos_of (X:=X) (sc:=sc) fun y hy hf=>by
    obtain ⟨_,ho⟩:=h5 y hy hf
    refine I.ok.has y.1 ?_
    rcases ho with ho | ho
    · exact .inl (g.kinds _ _ ho)
    · exact g.kinds _ _ ho
  have ck:CompOk X sc (blockN sc) cap cl t el ifs (tG X.K tg) (cond.map fun t=>tTs X.K (evT G t)) (tE X.K (ev G elt)):=by
    refine ⟨h1,h2,h3,hcl,hcap ▸ cap_ok g hsc,fun C s H fp=>g_target (g.block hsc C s H fp) htg,?_,fun C s H fp=>ihe _ rfl (g.block hsc C s H fp)⟩
    cases cond with
    | none =>
      cases ifs with
      | nil=>rfl
      | cons _ _=>cases hcond
    | some tt =>
      cases ifs with
      | nil=>cases hcond
      | cons e es =>
        cases es with
        | cons _ _=>cases hcond
        | nil=>exact ⟨e,rfl,fun C s H fp=>ihc tt rfl (X.block sc cl C (blockN sc) s H fp []) rfl (g.block hsc C s H fp) e hcond⟩
  refine pe_comp g.calm hsrc ck (foldSet hns X.env) pins s σ H Q I ?_
  obtain ⟨ads,M,ρ,sr,q⟩:=q
  refine ⟨ads,M,ρ,sr,?_⟩
  have q:OkW X.K ads H Q ((evSrc G k src ρ M).bind fun it M=>compGo (fun τ M=>evCond G cond τ M) (fun τ M=>(ev G elt τ M).bind own) it tg (itLen M it) 0 (capEn cap ρ) M []):=by
    simp only [ev] at q
    unfold evSrc
    cases hw:evWs G src ρ M with
    | ok ws M1=>rw [hw] at q;exact q
    | err _ _=>rw [hw] at q;exact q
    | stuck=>rw [hw] at q;exact q
  cases hs:evSrc G k src ρ M with
  | ok it M1 =>
    rw [hs] at q
    intro J H1 ads1 g1 m1 rj
    exact comp_key (sr.grow g1 m1) rj (OkW.shift (o:=compGo (fun τ M=>evCond G cond τ M) (fun τ M=>(ev G elt τ M).bind own) it tg (itLen M1 it) 0 (capEn cap ρ) M1 []) q g1 sr.mem m1)
  | err _ _=>rw [hs] at q;exact q
  | stuck=>rw [hs] at q;exact q
end
theorem t_pl {X:Cx} {cc:CC} {G:Fns} {c:C} {e:Expr} (h:(plainTest e && chk cc c e)=true) (k:chk cc c e=true->PE X e (tE X.K (ev G c))):PT X e (tTs X.K (evT G (.val c))):=t_plain ((zqf _ _).mp h).1 (k ((zqf _ _).mp h).2)
mutual
theorem ok_e {kk:Nat} {G:Fns}:∀ (c:C) (cc:CC) (X:Cx) (e:Expr),Good kk X cc G->chk cc c e=true->PE X e (tE X.K (ev G c))
 | .var i,cc,X,e,g,h=>s_var g h
 | .cst d,cc,X,e,g,h=>s_cst h
 | .bin op a b,cc,X,e,g,h=>s_bin (fun e h=>ok_e a cc X e g h) (fun e h=>ok_e b cc X e g h) h
 | .cmp op a b,cc,X,e,g,h=>(s_cmp g (fun e h=>ok_e a cc X e g h) (fun e h=>ok_e b cc X e g h) h).1
 | .chain o1 o2 a b c,cc,X,e,g,h=>(s_chain g (fun e h=>ok_e a cc X e g h) (fun e h=>ok_e b cc X e g h) (fun e h=>ok_e c cc X e g h) h).1
 | .conj cs,cc,X,e,g,h=>by
  refine onBoolOp_el (P:=fun e=>PE X e _) h fun op es pos h=>?_
  simp only [zqf,Bool.not_eq_true',List.isEmpty_eq_false_iff] at h
  cases op with
  | Or=>exact absurd h.1.1 zqd
  | And=>exact peI (s_and (op:=.And) cs es pos (ok_all cs cc X g) h.1.2 h.2) fun σ H Q q=>q
 | .disj cs,cc,X,e,g,h=>by
  refine onBoolOp_el (P:=fun e=>PE X e _) h fun op es pos h=>?_
  simp only [zqf,Bool.not_eq_true',List.isEmpty_eq_false_iff] at h
  cases op with
  | And=>exact absurd h.1.1.symm zqd
  | Or=>exact peI (s_or cs es pos (ok_all cs cc X g) h.1.2 h.2) fun σ H Q q=>q
 | .neg a,cc,X,e,g,h=>s_neg (fun e h=>ok_e a cc X e g h) h
 | .ite t a b,cc,X,e,g,h=>onIfExp_el (P:=fun e=>PE X e _) h fun c x y pos h=>by
  simp only [zqf] at h
  exact s_ite (ok_t t cc X c g h.1.1) (ok_e a cc X x g h.1.2) (ok_e b cc X y g h.2)
 | .tup cs,cc,X,e,g,h=>s_tup (fun es h=>ok_ds cs cc X es g h) h
 | .lst cs,cc,X,e,g,h=>s_lst (fun es h=>ok_ds cs cc X es g h) h
 | .sub a b,cc,X,e,g,h=>onSubscript_el (P:=fun e=>PE X e _) h fun e i pos h=>by
  simp only [zqf] at h
  exact s_sub g h.1.1 (ok_e a cc X e g h.1.2) (ok_e b cc X i g h.2)
 | .slc a lo hi,cc,X,e,g,h=>onSubscript_el (P:=fun e=>PE X e _) h fun e i pos h=>onSlice_el (P:=fun i=>PE X (.Subscript e i pos) _) h fun l u st p h=>by
  simp only [zqf] at h
  cases st with
  | some _=>exact absurd h.1.1.1 zqd
  | none=>exact s_slc (ok_e a cc X e g h.1.1.2) (ok_o lo cc X l g h.1.2) (ok_o hi cc X u g h.2)
 | .stp a k,cc,X,e,g,h=>onSubscript_el (P:=fun e=>PE X e _) h fun e i pos h=>onSlice_el (P:=fun i=>PE X (.Subscript e i pos) _) h fun l u st p h=>by
  rcases l with _|_ <;> first | exact absurd h zqd | skip
  rcases u with _|_ <;> first | exact absurd h zqd | skip
  rcases st with _ | ke <;> first | exact absurd h zqd | skip
  replace h:=(zqf _ _).mp h
  refine s_stp ?_ (ok_e a cc X e g h.2)
  rcases (Bool.or_eq_true _ _).mp h.1 with h | h
  ·refine onConstant_el (P:=fun ke=>PE X ke _) h fun c j p2 h=>?_
   cases c <;> first | exact absurd h zqd | skip
   obtain rfl:=eq_of_beq h
   exact pe_int
  ·refine onUnaryOp_el (P:=fun ke=>PE X ke _) h fun op x p2 h=>?_
   replace h:=(zqf _ _).mp h
   cases op <;> first | exact absurd h.1 zqd | skip
   refine onConstant_el (P:=fun x=>PE X (.UnaryOp .USub x p2) _) h.2 fun c j p3 h=>?_
   cases c <;> first | exact absurd h zqd | skip
   rename_i jj
   obtain rfl:k=-jj:=by have:=eq_of_beq h;omega
   exact peI (pe_un un_neg pe_int) fun σ H Q q=>⟨jj,rfl,q⟩
 | .sfind a b,_,_,_,_,h=>absurd (show false=true from h) zqd
 | .call f cs,cc,X,e,g,h=>onCall_el (P:=fun e=>PE X e _) h fun fe args kws pos h=>onName_el (P:=fun fe=>PE X (.Call fe args kws pos) _) h fun x p h=>by
  rcases args with _|⟨e,es⟩ <;> first | exact absurd h zqd | skip
  cases kws <;> first | exact absurd h zqd | skip
  simp only [zqf,beq_iff_eq] at h
  exact s_call g h.1.1.1 h.1.1.2 h.1.2 h.2 (ok_ds cs cc X (e::es) g h.2)
 | .bi b cs,cc,X,e,g,h=>onCall_el (P:=fun e=>PE X e _) h fun fe args kws pos h0=>onName_el (P:=fun fe=>PE X (.Call fe args kws pos) _) h0 fun x p h=>by
  clear h0
  replace h:=(zqf _ _).mp h
  have h1:=h.1
  replace h:=h.2
  simp only [zqf,List.isEmpty_iff] at h1
  obtain ⟨⟨rfl,hx⟩,hg⟩:=h1
  cases hb:isiTy b with
  | none =>
   rw [hb] at h
   rcases args with _|⟨e,es⟩ <;> first | exact absurd h zqd | skip
   replace h:=(zqf _ _).mp h
   have hst:notStar e=true/\chks cc cs.tail es=true:=by
    cases cs with
    | nil=>exact absurd h.2 zqd
    | cons c cs =>
     have h':(notStar e && chk cc c e && chks cc cs es)=true:=h.2
     simp only [zqf] at h'
     exact ⟨h'.1.1,h'.2⟩
   exact s_bi g h.1 (eq_of_beq hx) hg hst.1 hst.2 (ok_ws cs cc X (e::es) g h.2)
  | some t =>
   rw [hb] at h
   obtain rfl:=isiTy_some hb
   rcases args with _|⟨e,_|⟨f,_|⟨f2,fs⟩⟩⟩ <;> first | exact absurd h zqd | skip
   replace h:=(zqf _ _).mp h
   refine onName_el (P:=fun f=>PE X (.Call (.Name x p) [e,f] [] pos) _) h.1 fun y py hy=>?_
   simp only [zqf,decide_eq_true_eq] at hy
   rcases cs with _|⟨c,_|⟨c2,cs⟩⟩
   ·exact absurd h.2 zqd
   ·have h7:(notStar e && chk cc c e && true)=true:=h.2
    simp only [zqf] at h7
    exact s_isi g (eq_of_beq hx) hg (eq_of_beq hy.1.1) hy.1.2 hy.2 h7.1.1 (ok_e c cc X e g h7.1.2)
   ·have h7:(notStar e && chk cc c e && chks cc (c2::cs) [])=true:=h.2
    simp only [zqf] at h7
    exact absurd h7.2 zqd
 | .me m o cs,cc,X,e,g,h=>onCall_el (P:=fun e=>PE X e _) h fun fe args kws pos h=>onAttribute_el (P:=fun fe=>PE X (.Call fe args kws pos) _) h fun e n ap h=>by
  simp only [zqf,List.isEmpty_iff] at h
  obtain ⟨⟨⟨⟨⟨⟨⟨rfl,h1⟩,h2⟩,h3⟩,h4⟩,h5⟩,h6⟩,h7⟩:=h
  exact s_me (eq_of_beq h1) h2 h3 h4 h6 (of_decide_eq_true h7) (ok_e o cc X e g h5) (ok_ds cs cc X args g h6)
 | .dct ks cs,cc,X,e,g,h=>onDict_el (P:=fun e=>PE X e _) h fun keys vs pos h=>by
  simp only [Bool.or_eq_true,zqf,Bool.not_eq_true',List.isEmpty_eq_false_iff,decide_eq_true_eq,List.isEmpty_iff] at h
  rcases h with ⟨⟨⟨⟨⟨h1,h2⟩,h3⟩,h4⟩,h5⟩,h6⟩|⟨⟨⟨rfl,rfl⟩,rfl⟩,rfl⟩
  ·exact s_dct h1 h2 h3 h4 h5 h6 (ok_all cs cc X g)
  ·exact s_dct0
 | .rng tp cs,cc,X,e,g,h=>onCall_el (P:=fun e=>PE X e _) h fun fe args kws pos2 h=>onName_el (P:=fun fe=>PE X (.Call fe args kws pos2) _) h fun x p2 h=>by
  rcases args with _|⟨a,_|⟨a2,as⟩⟩ <;> first | exact absurd h zqd | skip
  cases kws <;> first | exact absurd h zqd | skip
  refine onCall_el (P:=fun a=>PE X (.Call (.Name x p2) [a] [] pos2) _) h fun f2 args kws pos h=>onName_el (P:=fun f2=>PE X (.Call (.Name x p2) [.Call f2 args kws pos] [] pos2) _) h fun y p h=>?_
  rcases args with _|⟨e,es⟩ <;> first | exact absurd h zqd | skip
  cases kws <;> first | exact absurd h zqd | skip
  simp only [zqf] at h
  obtain ⟨⟨⟨⟨h1,h2⟩,h3⟩,h4⟩,h5⟩:=h
  have hst:notStar e=true/\chks cc cs.tail es=true:=by
   cases cs with
   | nil=>exact absurd h5 zqd
   | cons c cs =>
    have h':(notStar e && chk cc c e && chks cc cs es)=true:=h5
    simp only [zqf] at h'
    exact ⟨h'.1.1,h'.2⟩
  exact s_rng g (eq_of_beq h1) (eq_of_beq h2) h3 h4 hst.1 hst.2 (ok_ws cs cc X (e::es) g h5)
 | .glo x v,cc,X,e,g,h=>onName_el (P:=fun e=>PE X e _) h fun y pos h=>by
  simp only [zqf,beq_iff_eq] at h
  obtain ⟨⟨⟨rfl,h1⟩,h2⟩,h3⟩:=h
  exact s_glo g h1 h2 h3
 | .isTr ng a,cc,X,e,g,h=>(s_isTr (fun e h=>ok_e a cc X e g h) h).1
 | .usub a,_,_,_,_,h=>absurd (show false=true from h) zqd
 | .minD a b,_,_,_,_,h=>absurd (show false=true from h) zqd
 | .comp k src tg cond elt cap,cc,X,e,g,h=>onListComp_el (P:=fun e=>PE X e _) h fun el gens sc pos h=>by
  rcases gens with _|⟨⟨t,iter,ifs,as⟩,_|⟨_,_⟩⟩ <;> first | exact absurd h zqd | skip
  simp only [zqf,beq_iff_eq,decide_eq_true_eq] at h
  obtain ⟨⟨⟨⟨⟨⟨rfl,h1⟩,h2⟩,h3⟩,h4⟩,h5⟩,h6⟩:=h
  obtain ⟨hsrc,hns⟩:=ok_src src k cc X t iter g h3
  obtain ⟨_,_,_,r⟩:=s_comp (pos:=pos) g h1 h2 hns hsrc h4 h5 (fun t ht X' _ g' e he=>ok_cond cond (blk cc sc) X' g' t ht e he) (fun X' _ g'=>ok_e elt (blk cc sc) X' el g' h6)
  exact r
theorem ok_t {kk:Nat} {G:Fns}:∀ (t:Tst) (cc:CC) (X:Cx) (e:Expr),Good kk X cc G->chkT cc t e=true->PT X e (tTs X.K (evT G t))
 | .val (.cmp op a b),cc,X,e,g,h=>t_test bl_cmp (s_cmp g (fun e h=>ok_e a cc X e g h) (fun e h=>ok_e b cc X e g h) h).2
 | .val (.chain o1 o2 a b c),cc,X,e,g,h=>t_test bl_chain (s_chain g (fun e h=>ok_e a cc X e g h) (fun e h=>ok_e b cc X e g h) (fun e h=>ok_e c cc X e g h) h).2
 | .val (.var i),cc,X,e,g,h=>t_pl h (ok_e (.var i) cc X e g)
 | .val (.cst d),cc,X,e,g,h=>t_pl h (ok_e (.cst d) cc X e g)
 | .val (.bin op a b),cc,X,e,g,h=>t_pl h (ok_e (.bin op a b) cc X e g)
 | .val (.conj cs),cc,X,e,g,h=>t_pl h (ok_e (.conj cs) cc X e g)
 | .val (.disj cs),cc,X,e,g,h=>t_pl h (ok_e (.disj cs) cc X e g)
 | .val (.neg a),cc,X,e,g,h=>t_pl h (ok_e (.neg a) cc X e g)
 | .val (.ite t a b),cc,X,e,g,h=>t_pl h (ok_e (.ite t a b) cc X e g)
 | .val (.tup cs),cc,X,e,g,h=>t_pl h (ok_e (.tup cs) cc X e g)
 | .val (.lst cs),cc,X,e,g,h=>t_pl h (ok_e (.lst cs) cc X e g)
 | .val (.sub a b),cc,X,e,g,h=>t_pl h (ok_e (.sub a b) cc X e g)
 | .val (.slc a lo hi),cc,X,e,g,h=>t_pl h (ok_e (.slc a lo hi) cc X e g)
 | .val (.stp a k),cc,X,e,g,h=>t_pl h (ok_e (.stp a k) cc X e g)
 | .val (.sfind a b),cc,X,e,g,h=>t_pl h (ok_e (.sfind a b) cc X e g)
 | .val (.call f cs),cc,X,e,g,h=>t_pl h (ok_e (.call f cs) cc X e g)
 | .val (.bi b cs),cc,X,e,g,h=>t_pl h (ok_e (.bi b cs) cc X e g)
 | .val (.me m o cs),cc,X,e,g,h=>t_pl h (ok_e (.me m o cs) cc X e g)
 | .val (.dct ks cs),cc,X,e,g,h=>t_pl h (ok_e (.dct ks cs) cc X e g)
 | .val (.rng tp cs),cc,X,e,g,h=>t_pl h (ok_e (.rng tp cs) cc X e g)
 | .val (.isTr ng a),cc,X,e,g,h=>t_test bl_isTr (s_isTr (fun e h=>ok_e a cc X e g h) h).2
 | .val (.glo x v),cc,X,e,g,h=>t_pl h (ok_e (.glo x v) cc X e g)
 | .val (.usub a),cc,X,e,g,h=>t_pl h (ok_e (.usub a) cc X e g)
 | .val (.minD a b),cc,X,e,g,h=>t_pl h (ok_e (.minD a b) cc X e g)
 | .val (.comp k src tg cond elt cap),cc,X,e,g,h=>t_pl h (ok_e (.comp k src tg cond elt cap) cc X e g)
 | .conj ts,cc,X,e,g,h=>by
  refine onBoolOp_el (P:=fun e=>PT X e _) h fun op es pos h=>?_
  simp only [zqf,Bool.not_eq_true',List.isEmpty_eq_false_iff] at h
  cases op with
  | Or=>exact absurd h.1.1 zqd
  | And=>exact ptI (t_all ts es pos (ok_ts ts cc X g) h.1.2 h.2).pt fun σ H Q q=>q
 | .disj ts,cc,X,e,g,h=>by
  refine onBoolOp_el (P:=fun e=>PT X e _) h fun op es pos h=>?_
  simp only [zqf,Bool.not_eq_true',List.isEmpty_eq_false_iff] at h
  cases op with
  | And=>exact absurd h.1.1.symm zqd
  | Or=>exact ptI (t_any ts es pos (ok_ts ts cc X g) h.1.2 h.2).pt fun σ H Q q=>q
 | .neg t,cc,X,e,g,h=>by
  refine onUnaryOp_el (P:=fun e=>PT X e _) h fun op x pos h=>?_
  replace h:=(zqf _ _).mp h
  cases op <;> first | exact absurd h.1 zqd | skip
  exact t_neg (ok_t t cc X x g h.2)
theorem ok_ds {kk:Nat} {G:Fns}:∀ (cs:List C) (cc:CC) (X:Cx) (es:List Expr),Good kk X cc G->chks cc cs es=true->PA X es (tDs X.K (evDs G cs))
 | [],cc,X,[],g,h=>s_nil
 | [],cc,X,_::_,g,h=>by cases h
 | _::_,cc,X,[],g,h=>by cases h
 | c::cs,cc,X,e::es,g,h=>by
  have h':(notStar e && chk cc c e && chks cc cs es)=true:=h
  simp only [zqf] at h'
  exact s_cons h'.1.1 (ok_e c cc X e g h'.1.2) (ok_ds cs cc X es g h'.2)
theorem ok_ws {kk:Nat} {G:Fns}:∀ (cs:List C) (cc:CC) (X:Cx) (es:List Expr),Good kk X cc G->chks cc cs es=true->PA X es (tWs X.K (evWs G cs))
 | [],cc,X,[],g,h=>w_nil
 | [],cc,X,_::_,g,h=>by cases h
 | _::_,cc,X,[],g,h=>by cases h
 | c::cs,cc,X,e::es,g,h=>by
  have h':(notStar e && chk cc c e && chks cc cs es)=true:=h
  simp only [zqf] at h'
  exact w_cons h'.1.1 (ok_e c cc X e g h'.1.2) (ok_ws cs cc X es g h'.2)
theorem ok_all {kk:Nat} {G:Fns}:∀ (cs:List C) (cc:CC) (X:Cx),Good kk X cc G->∀ c∈cs,∀ e,chk cc c e=true->PE X e (tE X.K (ev G c))
 | [],cc,X,g,c,hc,e,h=>by cases hc
 | c::cs,cc,X,g,c',hc,e,h=>by
  rcases List.mem_cons.mp hc with z | z
  ·rw [z] at h ⊢;exact ok_e c cc X e g h
  ·exact ok_all cs cc X g c' z e h
theorem ok_ts {kk:Nat} {G:Fns}:∀ (ts:List Tst) (cc:CC) (X:Cx),Good kk X cc G->∀ t∈ts,∀ e,chkT cc t e=true->PT X e (tTs X.K (evT G t))
 | [],cc,X,g,c,hc,e,h=>by cases hc
 | c::cs,cc,X,g,c',hc,e,h=>by
  rcases List.mem_cons.mp hc with z | z
  ·rw [z] at h ⊢;exact ok_t c cc X e g h
  ·exact ok_ts cs cc X g c' z e h
theorem ok_o {kk:Nat} {G:Fns}:∀ (o:Option C) (cc:CC) (X:Cx) (e:Option Expr),Good kk X cc G->chkO cc o e=true->PO X e (tO X.K (evO G o))
 | none,cc,X,none,g,h=>s_optN
 | none,cc,X,some _,g,h=>by cases h
 | some _,cc,X,none,g,h=>by cases h
 | some c,cc,X,some e,g,h=>s_optS (ok_e c cc X e g h)
theorem ok_cond {kk:Nat} {G:Fns}:∀ (o:Option Tst) (cc:CC) (X:Cx),Good kk X cc G->∀ t,o=some t->∀ e,chkT cc t e=true->PT X e (tTs X.K (evT G t))
 | none,cc,X,g,t,ht,e,h=>by cases ht
 | some c,cc,X,g,t,ht,e,h=>by cases ht;exact ok_t c cc X e g h
theorem ok_src {kk:Nat} {G:Fns}:∀ (src:List C) (k:SK) (cc:CC) (X:Cx) (t iter:Expr),Good kk X cc G->chkSrc cc k src t iter=true->PI X t iter (tI X.K (evSrc G k src))/\notSet iter=true
 | [],k,cc,X,t,iter,g,h=>by cases k <;> cases h
 | [c],.seq,cc,X,t,iter,g,h=>by
  have h':(notSet iter && chk cc c iter)=true:=h
  simp only [zqf] at h'
  exact ⟨src_seq (ok_e c cc X iter g h'.2),h'.1⟩
 | [c],.rng1,cc,X,t,iter,g,h=>by
  refine onCall_el (P:=fun iter=>PI X t iter _/\notSet iter=true) h fun fe args kws pos h=>onName_el (P:=fun fe=>PI X t (.Call fe args kws pos) _/\notSet (.Call fe args kws pos)=true) h fun x p h=>?_
  rcases args with _|⟨a,_|⟨a2,as⟩⟩ <;> first | exact absurd h zqd | skip
  cases kws <;> first | exact absurd h zqd | skip
  simp only [zqf] at h
  exact ⟨src_rng1 g (eq_of_beq h.1.1.1) h.1.1.2 h.1.2 (ok_e c cc X a g h.2),rfl⟩
 | [c],.enum,cc,X,t,iter,g,h=>by
  refine onCall_el (P:=fun iter=>PI X t iter _/\notSet iter=true) h fun fe args kws pos h=>onName_el (P:=fun fe=>PI X t (.Call fe args kws pos) _/\notSet (.Call fe args kws pos)=true) h fun x p h=>?_
  rcases args with _|⟨a,_|⟨a2,as⟩⟩ <;> first | exact absurd h zqd | skip
  cases kws <;> first | exact absurd h zqd | skip
  simp only [zqf] at h
  exact ⟨src_enum g (eq_of_beq h.1.1.1.1) h.1.1.1.2 h.1.1.2 h.1.2 (ok_e c cc X a g h.2),rfl⟩
 | [c],.rng2,cc,X,t,iter,g,h=>by cases h
 | [c],.zip,cc,X,t,iter,g,h=>by cases h
 | [c],.rngd,cc,X,t,iter,g,h=>by cases h
 | [c,d],.rng2,cc,X,t,iter,g,h=>by cases h
 | [c,d],.seq,cc,X,t,iter,g,h=>by cases h
 | [c,d],.rngd,cc,X,t,iter,g,h=>by cases h
 | [c,d],.rng1,cc,X,t,iter,g,h=>by cases h
 | [c,d],.enum,cc,X,t,iter,g,h=>by cases h
 | [c,d],.zip,cc,X,t,iter,g,h=>by
  refine onCall_el (P:=fun iter=>PI X t iter _/\notSet iter=true) h fun fe args kws pos h=>onName_el (P:=fun fe=>PI X t (.Call fe args kws pos) _/\notSet (.Call fe args kws pos)=true) h fun x p h=>?_
  rcases args with _|⟨a,_|⟨b,_|⟨a2,as⟩⟩⟩ <;> first | exact absurd h zqd | skip
  cases kws <;> first | exact absurd h zqd | skip
  simp only [zqf] at h
  exact ⟨src_zip g (eq_of_beq h.1.1.1.1.1.1) h.1.1.1.1.1.2 h.1.1.1.1.2 h.1.1.1.2 h.1.1.2 (ok_e c cc X a g h.1.2) (ok_e d cc X b g h.2),rfl⟩
 | [c,d,m],.rngd,cc,X,t,iter,g,h=>by cases h
 | [c,d,m],.seq,cc,X,t,iter,g,h=>by cases h
 | [c,d,m],.rng1,cc,X,t,iter,g,h=>by cases h
 | [c,d,m],.rng2,cc,X,t,iter,g,h=>by cases h
 | [c,d,m],.enum,cc,X,t,iter,g,h=>by cases h
 | [c,d,m],.zip,cc,X,t,iter,g,h=>by cases h
 | _::_::_::_::_,k,cc,X,t,iter,g,h=>by cases k <;> cases h
end
inductive S where
 | asg (tg:List Nat) (c:C)
 | asgC (i:Nat) (c:C)
 | put (o i v:C)
 | par (i j:Nat) (a b:C)
 | expr (c:C)
 | ret (c:C)
 | retN
 | iff (t:Tst) (a b:List S)
 | forr (tg:List Nat) (k:SK) (src:List C) (b:List S)
 | never | pass | brk | cont
inductive OutS where
 | nx (ρ:En) (M:Mem) | rt (w:W) (M:Mem) | bk (ρ:En) (M:Mem) | ct (ρ:En) (M:Mem) | stuck
def OutS.ofE {α:Type} (o:Out α) (f:α->Mem->OutS):OutS:=match o with
 | .ok a M=>f a M
 | _=>.stuck
def OutS.seq (o:OutS) (f:En->Mem->OutS):OutS:=match o with
 | .nx ρ M=>f ρ M
 | o=>o
def forGo (body:En->Mem->OutS) (it:Ev.It) (tg:List Nat):Nat->Nat->En->Mem->OutS
 | 0,i,ρ,M=>match itemAt M i it with
  | some none=>.nx ρ M
  | _=>.stuck
 | f+1,i,ρ,M=>match itemAt M i it with
  | some none=>.nx ρ M
  | some (some d)=>match bindT tg d ρ with
   | none=>.stuck
   | some ρ=>match body ρ M with
    | .nx ρ M=>forGo body it tg f (i+1) ρ M
    | .ct ρ M=>forGo body it tg f (i+1) ρ M
    | .bk ρ M=>.nx ρ M
    | .rt w M=>.rt w M
    | .stuck=>.stuck
  | none=>.stuck
mutual
def evS (G:Fns):S->En->Mem->OutS
 | .asg tg c,ρ,M=>OutS.ofE ((ev G c ρ M).bind own) fun d M=>match bindT tg d ρ with
  | some ρ=>.nx ρ M
  | none=>.stuck
 | .asgC i c,ρ,M=>OutS.ofE ((ev G c ρ M).bind own) fun d M=>.nx (ρ.set i (some d)) M
 | .put o i v,ρ,M=>OutS.ofE ((ev G v ρ M).bind own) fun d M=>OutS.ofE (ev G o ρ M) fun x M=>OutS.ofE (ev G i ρ M) fun y M=>OutS.ofE (setW x y d M) fun _ M=>.nx ρ M
 | .par i j a b,ρ,M=>OutS.ofE (evDs G [a,b] ρ M) fun ds M=>match ds with
  | [x,y]=>.nx ((ρ.set i (some x)).set j (some y)) M
  | _=>.stuck
 | .expr c,ρ,M=>OutS.ofE (ev G c ρ M) fun _ M=>.nx ρ M
 | .ret c,ρ,M=>OutS.ofE (ev G c ρ M) fun w M=>.rt w M
 | .retN,_,M=>.rt (.d .non) M
 | .iff t a b,ρ,M=>OutS.ofE (evT G t ρ M) fun r M=>if r then evSs G a ρ M else evSs G b ρ M
 | .forr tg k src b,ρ,M=>OutS.ofE (evSrc G k src ρ M) fun it M=>forGo (fun ρ M=>evSs G b ρ M) it tg (itLen M it) 0 ρ M
 | .never,_,_=>.stuck
 | .pass,ρ,M=>.nx ρ M
 | .brk,ρ,M=>.bk ρ M
 | .cont,ρ,M=>.ct ρ M
def evSs (G:Fns):List S->En->Mem->OutS
 | [],ρ,M=>.nx ρ M
 | s::ss,ρ,M=>(evS G s ρ M).seq fun ρ M=>evSs G ss ρ M
end
def isComp (e:Expr):Bool:=Nat.beq e.ctorIdx 8 || (Nat.beq e.ctorIdx 9 || Nat.beq e.ctorIdx 10)
def okVal (cc:CC) (t v:Expr):Bool:=(!isComp v && !(isTuple t && isTuple v)) || onName t fun x _=>cc.names.lookup x == some .cell
mutual
def chkS (cc:CC):S->Stmt->Bool
 | .asg tg c,s=>stAssign s fun ts v _=>match ts with
  | [t]=>chkTg cc tg t && okVal cc t v && (!isComp v || Nat.beq v.ctorIdx 8) && chk cc c v
  | _=>false
 | .asgC i c,s=>stAssign s fun ts v _=>match ts with
  | [t]=>onName t fun x p=>onListComp v fun el gens sc q=>cc.N[i]? == some x && cc.names.lookup x == some .local && p.line == q.line && !(sc.names.any fun (n,k)=>n == x && (k == .local || k == .cell)) && chk cc c (.ListComp el gens sc q)
  | _=>false
 | .put o i v,s=>stAssign s fun ts w _=>match ts with
  | [t]=>onSubscript t fun e f _=>noSlice f && chk cc o e && chk cc i f && chk cc v w
  | _=>false
 | .par i j a b,s=>false
 | .expr c,s=>stExpr s fun e _=>!isComp e && chk cc c e
 | .ret c,s=>stReturn s fun o _=>match o with
  | some e=>chk cc c e
  | none=>false
 | .retN,s=>stReturn s fun o _=>o.isNone
 | .iff t a b,s=>stIf s fun c x y _=>chkT cc t c && chkSs cc a x && chkSs cc b y
 | .forr tg k src b,s=>stFor s fun t iter body els _=>els.isEmpty && chkSrc cc k src t iter && chkTg cc tg t && chkSs cc b body
 | .never,_=>true
 | .pass,s=>stPass s fun _=>true
 | .brk,s=>stBreak s fun _=>true
 | .cont,s=>stContinue s fun _=>true
def chkSs (cc:CC):List S->List Stmt->Bool
 | [],[]=>true
 | s::ss,t::ts=>chkS cc s t && chkSs cc ss ts
 | _,_=>false
end
def OkS (K:PySem.W.Frag) (ads:List Addr) (H:Hp) (D:Ends):OutS->Prop
 | .nx ρ M=>∀ σ' H' ads',Grow ads ads' H H'->SR K ads' M ρ σ' H'->D.nx σ' H'
 | .bk ρ M=>∀ σ' H' ads',Grow ads ads' H H'->SR K ads' M ρ σ' H'->D.bk σ' H'
 | .ct ρ M=>∀ σ' H' ads',Grow ads ads' H H'->SR K ads' M ρ σ' H'->D.ct σ' H'
 | .rt w M=>PostW K ads H w M D.rt
 | .stuck=>False
def tSt (K:PySem.W.Frag) (o:En->Mem->OutS):TS:=fun D σ H=>∃ ads M ρ,SR K ads M ρ σ H/\OkS K ads H D (o ρ M)
theorem OkS.shift {K:PySem.W.Frag} {ads ads':List Addr} {H H':Hp} {M M2:Mem} {D:Ends} {o:OutS} (p:OkS K ads H D o) (g:Grow ads ads' H H') (m:MRel K ads H M) (m':MRel K ads' H' M2):OkS K ads' H' D o:=by
 cases o with
 | nx ρ M=>exact fun σ H1 ads1 g1 s1=>p σ H1 ads1 (g.trans g1) s1
 | bk ρ M=>exact fun σ H1 ads1 g1 s1=>p σ H1 ads1 (g.trans g1) s1
 | ct ρ M=>exact fun σ H1 ads1 g1 s1=>p σ H1 ads1 (g.trans g1) s1
 | rt w M=>exact PostW.shift p g m m'
 | stuck=>exact p
theorem psI {X:Cx} {st:Stmt} {t u:TS} (h:PS X st t) (f:∀ D σ H,u D σ H->t D σ H):PS X st u:=fun pins s σ H D I q=>h pins s σ H D I (f D σ H q)
theorem pssI {X:Cx} {st:List Stmt} {t u:TS} (h:PSs X st t) (f:∀ D σ H,u D σ H->t D σ H):PSs X st u:=fun pins s σ H D I q=>h pins s σ H D I (f D σ H q)
section
variable {kk:Nat} {X:Cx} {cc:CC} {G:Fns}
theorem swap_no {e:Expr} (h:isComp e=false) (t:Option Expr) (l:Nat) (env:Env):swapsWith e t l env=pure false:=by
 cases e <;> first | rfl | exact absurd (show true=false from h).symm zqd
theorem s_seq {K:PySem.W.Frag} {o:En->Mem->OutS} {k:En->Mem->OutS} {σ:L2.St} {H:Hp} {D:Ends} (h:tSt K (fun ρ M=>(o ρ M).seq k) D σ H):tSeq (tSt K o) (tSt K k) D σ H:=by
 obtain ⟨ads,M,ρ,s,q⟩:=h
 have q:OkS K ads H D ((o ρ M).seq k):=q
 refine ⟨ads,M,ρ,s,?_⟩
 cases hq:o ρ M with
 | nx ρ1 M1 =>
  rw [hq] at q
  intro σ1 H1 ads1 g1 s1
  exact ⟨ads1,M1,ρ1,s1,OkS.shift (o:=k ρ1 M1) q g1 s.mem s1.mem⟩
 | bk ρ M=>rw [hq] at q;exact q
 | ct ρ M=>rw [hq] at q;exact q
 | rt w M=>rw [hq] at q;exact q
 | stuck=>rw [hq] at q;exact q
theorem for_key {K : PySem.W.Frag} {body : En -> Mem -> OutS} {it : Ev.It} {J : L2.It} {tg : List Nat} {tb : TS} (hb : ∀ D σ H, tSt K body D σ H -> tb D σ H) {ads : List Addr} {M : Mem} {ρ : En} {σ : L2.St} {H : Hp} {D : Ends} {f : Nat}
    (s:SR K ads M ρ σ H) (hJ:RIt K ads H it J) (q:OkS K ads H D (forGo body it tg f 0 ρ M)) :
    ∃ W:Nat->Nat->L2.St->Hp->Prop,(∃ m,W 0 m σ H)/\∀ i m σ H,W i m σ H ->
      (J.stop i H/\D.nx σ H)\/(J.go i H/\∃ N:L2.St->Hp->Prop,(∀ σ' H',N σ' H'->∃ m',m' < m/\W (i+1) m' σ' H')/\∀ x H',J.yld i H x H'->tG K tg x σ H' fun σ2 H2=>tb { D with nx:=N,ct:=N,bk:=D.nx } σ2 H2):=by
  refine ⟨fun i m σ' H'=>∃ ads' M' ρ',SR K ads' M' ρ' σ' H'/\Grow ads ads' H H'/\OkS K ads H D (forGo body it tg m i ρ' M'),⟨f,ads,M,ρ,s,Grow.refl _ _,q⟩,?_⟩
  rintro i m σ' H' ⟨ads',M',ρ',s',g',q'⟩
  obtain ⟨r1,r2⟩:=hJ i ads' H' M' g' s'.mem
  cases m with
  | zero =>
    unfold forGo at q'
    split at q'
    · rename_i hi
      exact .inl ⟨r1 hi,q' σ' H' ads' g' s'⟩
    · exact q'.elim
  | succ m =>
    unfold forGo at q'
    split at q'
    · rename_i hi
      exact .inl ⟨r1 hi,q' σ' H' ads' g' s'⟩
    · rename_i d hi
      obtain ⟨go,yl⟩:=r2 d hi
      cases hbd:bindT tg d ρ' with
      | none=>rw [hbd] at q';exact q'.elim
      | some ρ1 =>
        rw [hbd] at q'
        dsimp only at q'
        refine .inr ⟨go,fun σ2 H2=>∃ ads2 M2 ρ2,SR K ads2 M2 ρ2 σ2 H2/\Grow ads ads2 H H2/\OkS K ads H D (forGo body it tg m (i+1) ρ2 M2),fun σ2 H2 h=>⟨m,Nat.lt_succ_self _,h⟩,fun x H2 y=>?_⟩
        obtain ⟨g2,m2,rd⟩:=yl x H2 y
        refine ⟨ads',M',ρ',d,s'.grow g2 m2,rd,ρ1,hbd,fun σ2 s2=>hb _ _ _ ⟨ads',M',ρ1,s2,?_⟩⟩
        have gg:=g'.trans g2
        cases hq:body ρ1 M' with
        | nx ρ3 M3=>rw [hq] at q';exact fun σ3 H3 ads3 g3 s3=>⟨ads3,M3,ρ3,s3,gg.trans g3,q'⟩
        | ct ρ3 M3=>rw [hq] at q';exact fun σ3 H3 ads3 g3 s3=>⟨ads3,M3,ρ3,s3,gg.trans g3,q'⟩
        | bk ρ3 M3=>rw [hq] at q';exact fun σ3 H3 ads3 g3 s3=>q' σ3 H3 ads3 (gg.trans g3) s3
        | rt w M3=>rw [hq] at q';exact PostW.shift (M:=M) (M2:=M') q' gg s.mem s2.mem
        | stuck=>rw [hq] at q';exact q'.elim
    · exact q'.elim
theorem st_e {K : PySem.W.Frag} {ads : List Addr} {M : Mem} {ρ : En} {σ : L2.St} {H : Hp} {D : Ends} {o : En -> Mem -> Out W} {k : W -> Mem -> OutS} {R : V -> Hp -> Prop} (s : SR K ads M ρ σ H) (q : OkS K ads H D (OutS.ofE (o ρ M) k))
    (hk:∀ w M1 v H1 ads1,SR K ads1 M1 ρ σ H1->RW K ads1 H1 w v->OkS K ads1 H1 D (k w M1)->R v H1):tE K o σ H R:=by
  refine ⟨ads,M,ρ,s,?_⟩
  cases hq:o ρ M with
  | ok w M1 =>
    rw [hq] at q
    intro v H1 ads1 g1 m1 r1
    exact hk w M1 v H1 ads1 (s.grow g1 m1) r1.rw (OkS.shift (o:=k w M1) q g1 s.mem m1)
  | err _ _=>rw [hq] at q;exact q
  | stuck=>rw [hq] at q;exact q
theorem st_d {K : PySem.W.Frag} {ads : List Addr} {M : Mem} {ρ : En} {σ : L2.St} {H : Hp} {D : Ends} {c : C} {k : Ev.D -> Mem -> OutS} {R : V -> Hp -> Prop} (s : SR K ads M ρ σ H) (q : OkS K ads H D (OutS.ofE ((ev G c ρ M).bind own) k))
    (hk:∀ (d:Ev.D) M1 v H1 ads1,SR K ads1 M1 ρ σ H1->RD K ads1 H1 d v->OkS K ads1 H1 D (k d M1)->R v H1):tE K (ev G c) σ H R:=by
  refine ⟨ads,M,ρ,s,?_⟩
  cases hq:ev G c ρ M with
  | ok w M1 =>
    rw [hq] at q
    intro v H1 ads1 g1 m1 r1
    have q:OkS K ads H D (OutS.ofE (own w M1) k):=q
    cases ho:own w M1 with
    | ok d M2 =>
      rw [ho] at q
      obtain ⟨ads2,g2,m2,rd⟩:=own_ok s.mem g1 m1 r1 ho
      exact hk d M2 v H1 ads2 (s.grow g2 m2) rd (OkS.shift (o:=k d M2) q g2 s.mem m2)
    | err _ _=>cases w <;> cases ho
    | stuck=>cases w <;> cases ho
  | err _ _=>rw [hq] at q;exact q
  | stuck=>rw [hq] at q;exact q
theorem tg_kind {tg:List Nat} {t:Expr} (h:chkTg cc tg t=true):(∃ x p,t=.Name x p)\/∃ es k p,t=.Tuple es k p:=by
 rcases tg with _|⟨i,_|⟨j,r⟩⟩
 ·exact absurd h zqd
 ·exact .inl (onName_el (P:=fun t=>∃ x p,t=.Name x p) ((zqf _ _).mp h).1 fun x p _=>⟨x,p,rfl⟩)
 ·exact .inr (onTuple_el (P:=fun t=>∃ es k p,t=.Tuple es k p) h fun es k p _=>⟨es,k,p,rfl⟩)
theorem swap_comp {el : Expr} {gens : List Comprehension} {sc : Scope} {q p : Pos} {x : Str} {l : Nat} {env : Env} : swapsWith (.ListComp el gens sc q) (some (.Name x p)) l env =
    pure (env.blockKind == .function && env.kindOf x == some .local && p.line == q.line && !(sc.names.any fun (n,k)=>n == x && (k == .local || k == .cell))):=rfl
theorem s_asg {tg:List Nat} {c:C} {t v:Expr} {pos:Pos} (g:Good kk X cc G) (ht:chkTg cc tg t=true) (hv:okVal cc t v=true) (hlc:isComp v=true->∃ el gens sc q,v=.ListComp el gens sc q) (he:PE X v (tE X.K (ev G c))):PS X (.Assign [t] v pos) (tSt X.K (evS G (.asg tg c))):=by
 have hg:=g_target g ht
 have key:∀ D σ H,tSt X.K (evS G (.asg tg c)) D σ H->tAsg (tE X.K (ev G c)) (tG X.K tg) D σ H:=by
  intro D σ H q
  obtain ⟨ads,M,ρ,s,q⟩:=q
  refine st_d s (by simp only [evS] at q;exact q) fun d M1 v H1 ads1 s1 rd q1=>?_
  cases hb:bindT tg d ρ with
  | none=>simp only [hb] at q1;exact q1.elim
  | some ρ' =>
   simp only [hb] at q1
   exact ⟨ads1,M1,ρ,d,s1,rd,ρ',hb,fun σ' s'=>q1 σ' H1 ads1 (Grow.refl _ _) s'⟩
 rcases tg_kind ht with ⟨x,p,rfl⟩|⟨es,k,p,rfl⟩
 ·refine psI (ps_asg he hg ?_ (by unfold swappedStores;cases v <;> rfl) rfl) key
  show swapsWith v (some (.Name x p)) pos.line X.env=pure false
  cases hc:isComp v with
  | false=>exact swap_no hc _ _ _
  | true =>
   have hv:((!isComp v && !(false && isTuple v)) || (cc.names.lookup x == some .cell))=true:=hv
   rw [hc] at hv
   have hk:X.env.kindOf x=some .cell:=g.kinds x .cell (by simpa using hv)
   obtain ⟨el,gens,sc,q,rfl⟩:=hlc hc
   rw [swap_comp,hk,show ((some NameKind.cell:Option NameKind) == some NameKind.local)=false from rfl]
   simp
 ·have hv':((!isComp v && !(true && isTuple v)) || false)=true:=hv
  simp only [Bool.or_false,Bool.true_and,zqf,Bool.not_eq_true'] at hv'
  refine psI (ps_asg he hg (show swapsWithSole [.Tuple es k p] v pos.line X.env=pure false from swap_no hv'.1 (some (.Tuple es k p)) pos.line X.env) ?_ rfl) key
  unfold swappedStores
  cases v <;> first | rfl | exact absurd (show true=false from hv'.2).symm zqd
theorem s_asgC {i : Nat} {c : C} {x : Str} {p q pos : Pos} {el t iter : Expr} {ifs : List Expr} {sc : Scope} {N' : List Str} {cap : List (Option Nat)} {wi : TI} {gt : TG} {tc : Option TT} {te : TE} (g : Good kk X cc G) (hk : X.env.blockKind = .function)
    (hx:cc.N[i]?=some x) (hl:cc.names.lookup x=some .local) (hp:p.line=q.line) (hn:(sc.names.any fun (n,k)=>n == x && (k == .local || k == .cell))=false)
    (hw:∀ (pins:List (Addr×Obj)) (s:Shared) (σ:L2.St) (H:Hp),Inv X pins σ H s->∃ cl,PI X t iter wi/\CompOk X sc N' cap cl t el ifs gt tc te) (hfs:∀ x,foldedSetIterable iter X.env x=pure x)
    (key:∀ σ H Q,tE X.K (ev G c) σ H Q->tComp cap wi gt tc te σ H Q):PS X (.Assign [.Name x p] (.ListComp el [⟨t,iter,ifs,0⟩] sc q) pos) (tSt X.K (evS G (.asgC i c))):=by
  intro pins s σ H D I h
  obtain ⟨cl,hi,ck⟩:=hw pins s σ H I
  refine ps_comp (i:=i) g.calm (by rw [g.N];exact g.nd) (by rw [g.N];exact hx) (g.kinds x _ hl) ?_ hi ck hfs pins s σ H D I ?_
  · rw [swap_comp,hk,show X.env.kindOf x=some .local from g.kinds x _ hl,hn,hp]
    simp
  · obtain ⟨ads,M,ρ,sr,h⟩:=h
    refine key σ H _ (st_d sr (by simp only [evS] at h;exact h) fun d M1 v H1 ads1 s1 rd q1=>?_)
    exact q1 _ H1 ads1 (Grow.refl _ _) (s1.set i rd)
theorem s_put {o i v:C} {e f w:Expr} {sp pos:Pos} (g:Good kk X cc G) (hf:noSlice f=true) (ho:PE X e (tE X.K (ev G o))) (hi:PE X f (tE X.K (ev G i))) (hv:PE X w (tE X.K (ev G v))):PS X (.Assign [.Subscript e f sp] w pos) (tSt X.K (evS G (.put o i v))):=by
 have hun:=g.room.un
 refine psI (ps_asg hv (pg_sub ho hi (set_ok (by omega)) (by intro _;cases f <;> first | rfl | exact absurd (show false=true from hf) zqd)) (show swapsWithSole [.Subscript e f sp] w pos.line X.env=pure false from (by cases w <;> rfl)) (by unfold swappedStores;cases w <;> rfl) rfl) fun D σ H q=>?_
 obtain ⟨ads,M,ρ,s,q⟩:=q
 refine st_d s (by simp only [evS] at q;exact q) fun d M1 v H1 ads1 s1 rd q1=>?_
 refine ⟨ads1,M1,ρ,s1,?_⟩
 cases h2:ev G o ρ M1 with
 | ok wo M2 =>
  rw [h2] at q1
  intro vo H2 ads2 g2 m2 ro
  have s2:=s1.grow g2 m2
  refine ⟨ads2,M2,ρ,s2,?_⟩
  have q2:OkS X.K ads1 H1 D (OutS.ofE (ev G i ρ M2) fun y M=>OutS.ofE (setW wo y d M) fun _ M=>.nx ρ M):=q1
  cases h3:ev G i ρ M2 with
  | ok wi M3 =>
   rw [h3] at q2
   intro vi H3 ads3 g3 m3 ri
   have s3:=s2.grow g3 m3
   have q3:OkS X.K ads1 H1 D (OutS.ofE (setW wo wi d M3) fun _ M=>.nx ρ M):=q2
   refine ⟨ads3,M3,wo,wi,d,m3,g3.rw ro.rw,ri.rw,(g2.trans g3).rd _ _ rd,?_⟩
   cases h4:setW wo wi d M3 with
   | ok u M4 =>
    rw [h4] at q3
    intro H4 ads4 g4 m4
    exact q3 σ H4 ads4 ((g2.trans g3).trans g4) (s3.grow g4 m4)
   | err _ _=>rw [h4] at q3;exact q3
   | stuck=>rw [h4] at q3;exact q3
  | err _ _=>rw [h3] at q2;exact q2
  | stuck=>rw [h3] at q2;exact q2
 | err _ _=>rw [h2] at q1;exact q1
 | stuck=>rw [h2] at q1;exact q1
theorem s_expr {c:C} {e:Expr} {pos:Pos} (hc:isComp e=false) (he:PE X e (tE X.K (ev G c))):PS X (.Expr e pos) (tSt X.K (evS G (.expr c))):=by
 refine psI (ps_expr he (swap_no hc _ _ _)) fun D σ H q=>?_
 obtain ⟨ads,M,ρ,s,q⟩:=q
 exact st_e (k:=fun _ M=>.nx ρ M) s (by simp only [evS] at q;exact q) fun w M1 v H1 ads1 s1 r1 q1=>q1 σ H1 ads1 (Grow.refl _ _) s1
theorem s_ret {c:C} {e:Expr} {pos:Pos} (he:PE X e (tE X.K (ev G c))):PS X (.Return (some e) pos) (tSt X.K (evS G (.ret c))):=by
 refine psI (ps_ret he) fun D σ H q=>?_
 obtain ⟨ads,M,ρ,s,q⟩:=q
 refine ⟨ads,M,ρ,s,?_⟩
 simp only [evS] at q
 cases hq:ev G c ρ M with
 | ok w M1=>rw [hq] at q;exact q
 | err _ _=>rw [hq] at q;exact q
 | stuck=>rw [hq] at q;exact q
theorem s_if {t:Tst} {a b:List S} {c:Expr} {x y:List Stmt} {pos:Pos} (ht:PT X c (tTs X.K (evT G t))) (ha:PSs X x (tSt X.K (evSs G a))) (hb:PSs X y (tSt X.K (evSs G b))):PS X (.If c x y pos) (tSt X.K (evS G (.iff t a b))):=by
 refine psI (ps_if ht ha hb) fun D σ H q=>?_
 obtain ⟨ads,M,ρ,s,q⟩:=q
 refine ⟨ads,M,ρ,s,?_⟩
 simp only [evS] at q
 cases hq:evT G t ρ M with
 | ok r M1 =>
  rw [hq] at q
  intro H1 ads1 g1 m1
  have q:OkS X.K ads H D (if r then evSs G a ρ M1 else evSs G b ρ M1):=q
  have q:=q.shift g1 s.mem m1
  cases r with
  | true=>rw [if_pos rfl] at q ⊢;exact ⟨ads1,M1,ρ,s.grow g1 m1,q⟩
  | false=>rw [if_neg (by simp)] at q ⊢;exact ⟨ads1,M1,ρ,s.grow g1 m1,q⟩
 | err _ _=>rw [hq] at q;exact q
 | stuck=>rw [hq] at q;exact q
theorem s_for {tg : List Nat} {k : SK} {src : List C} {b : List S} {t iter : Expr} {body : List Stmt} {pos : Pos} (g : Good kk X cc G) (hx : X.xe = fun _ _ => False) (hs : PI X t iter (tI X.K (evSrc G k src))) (hn : notSet iter = true) (ht : chkTg cc tg t = true) (hb : PSs X body (tSt X.K (evSs G b))) :
    PS X (.For t iter body [] pos) (tSt X.K (evS G (.forr tg k src b))):=by
  refine psI (ps_for (by rw [hx];exact PassesOwn.never) g.calm hs (g_target g ht) hb (foldSet hn X.env)) fun D σ H q=>?_
  obtain ⟨ads,M,ρ,s,q⟩:=q
  refine ⟨ads,M,ρ,s,?_⟩
  simp only [evS] at q
  cases hq:evSrc G k src ρ M with
  | ok it M1 =>
    rw [hq] at q
    intro J H1 ads1 g1 m1 rj
    exact for_key (fun D σ H h=>h) (s.grow g1 m1) rj (OkS.shift (o:=forGo (fun ρ M=>evSs G b ρ M) it tg (itLen M1 it) 0 ρ M1) q g1 s.mem m1)
  | err _ _=>rw [hq] at q;exact q
  | stuck=>rw [hq] at q;exact q
end
section
variable {kk:Nat} {G:Fns} {X:Cx} {cc:CC}
theorem comp_ck {tg : List Nat} {cond : Option Tst} {elt : C} {cap : List (Option Nat)} {el t : Expr} {ifs : List Expr} {sc : Scope} (g : Good kk X cc G) (hsc : scOk cc sc = true) (hcap : cap = capOf cc sc)
    (htg:chkTg (blk cc sc) tg t=true) (hcond:chkC (blk cc sc) cond ifs=true) (helt:chk (blk cc sc) elt el=true) (pins:List (Addr×Obj)) (s:Shared) (σ:L2.St) (H:Hp) (I:Inv X pins σ H s) :
    ∃ cl,CompOk X sc (blockN sc) cap cl t el ifs (tG X.K tg) (cond.map fun t=>tTs X.K (evT G t)) (tE X.K (ev G elt)):=by
  obtain ⟨h1,h2,h3,h4,h5⟩:=scOk_of hsc
  obtain ⟨cl,hcl⟩:=clos_of (X:=X) (sc:=sc) fun y hy hf=>by
    obtain ⟨_,ho⟩:=h5 y hy hf
    refine I.ok.has y.1 ?_
    rcases ho with ho | ho
    · exact .inl (g.kinds _ _ ho)
    · exact g.kinds _ _ ho
  refine ⟨cl,h1,h2,h3,hcl,hcap ▸ cap_ok g hsc,fun C s H fp=>g_target (g.block hsc C s H fp) htg,?_,fun C s H fp=>ok_e elt (blk cc sc) _ el (g.block hsc C s H fp) helt⟩
  cases cond with
  | none =>
    cases ifs with
    | nil=>rfl
    | cons _ _=>cases hcond
  | some tt =>
    cases ifs with
    | nil=>cases hcond
    | cons e es =>
      cases es with
      | cons _ _=>cases hcond
      | nil=>exact ⟨e,rfl,fun C s H fp=>ok_t tt (blk cc sc) (X.block sc cl C (blockN sc) s H fp []) e (g.block hsc C s H fp) hcond⟩
theorem comp_rd {k : SK} {src : List C} {tg : List Nat} {cond : Option Tst} {elt : C} {cap : List (Option Nat)} (σ : L2.St) (H : Hp) (Q : VK) (q : tE X.K (ev G (.comp k src tg cond elt cap)) σ H Q) :
    tComp cap (tI X.K (evSrc G k src)) (tG X.K tg) (cond.map fun t=>tTs X.K (evT G t)) (tE X.K (ev G elt)) σ H Q:=by
  obtain ⟨ads,M,ρ,sr,q⟩:=q
  refine ⟨ads,M,ρ,sr,?_⟩
  have q:OkW X.K ads H Q ((evSrc G k src ρ M).bind fun it M=>compGo (fun τ M=>evCond G cond τ M) (fun τ M=>(ev G elt τ M).bind own) it tg (itLen M it) 0 (capEn cap ρ) M []):=by
    simp only [ev] at q
    unfold evSrc
    cases hw:evWs G src ρ M with
    | ok ws M1=>rw [hw] at q;exact q
    | err _ _=>rw [hw] at q;exact q
    | stuck=>rw [hw] at q;exact q
  cases hs:evSrc G k src ρ M with
  | ok it M1 =>
    rw [hs] at q
    intro J H1 ads1 g1 m1 rj
    exact comp_key (sr.grow g1 m1) rj (OkW.shift (o:=compGo (fun τ M=>evCond G cond τ M) (fun τ M=>(ev G elt τ M).bind own) it tg (itLen M1 it) 0 (capEn cap ρ) M1 []) q g1 sr.mem m1)
  | err _ _=>rw [hs] at q;exact q
  | stuck=>rw [hs] at q;exact q
structure GoodS (kk:Nat) (X:Cx) (cc:CC) (G:Fns):Prop where
 g:Good kk X cc G
 bk:X.env.blockKind=.function
 nx:X.xe=fun _ _=>False
theorem comp_list {v:Expr} (h:(!isComp v || Nat.beq v.ctorIdx 8)=true) (hc:isComp v=true):∃ el gens sc q,v=.ListComp el gens sc q:=by
 rw [hc] at h
 exact Expr.ListComp.elim (motive_1:=fun v=>∃ el gens sc q,v=.ListComp el gens sc q) v (Nat.eq_of_beq_eq_true h) fun el gens sc q=>⟨el,gens,sc,q,rfl⟩
theorem comp_c {c:C} {el:Expr} {gens:List Comprehension} {sc:Scope} {q:Pos} (h:chk cc c (.ListComp el gens sc q)=true):∃ k src tg cond elt cap,c=.comp k src tg cond elt cap:=by
 cases c <;> first | exact absurd (show false=true from h) zqd | exact ⟨_,_,_,_,_,_,rfl⟩
end
mutual
theorem ok_s {kk:Nat} {G:Fns}:∀ (s:S) (cc:CC) (X:Cx) (st:Stmt),GoodS kk X cc G->chkS cc s st=true->PS X st (tSt X.K (evS G s))
 | .asg tg c,cc,X,st,g,h=>stAssign_el (P:=fun st=>PS X st _) h fun ts v pos h=>by
  rcases ts with _|⟨t,_|⟨_,_⟩⟩ <;> first | exact absurd h zqd | skip
  simp only [zqf] at h
  exact s_asg g.g h.1.1.1 h.1.1.2 (comp_list h.1.2) (ok_e c cc X v g.g h.2)
 | .asgC i c,cc,X,st,g,h=>stAssign_el (P:=fun st=>PS X st _) h fun ts v pos h=>by
  rcases ts with _|⟨t,_|⟨_,_⟩⟩ <;> first | exact absurd h zqd | skip
  refine onName_el (P:=fun t=>PS X (.Assign [t] v pos) _) h fun x p h=>onListComp_el (P:=fun v=>PS X (.Assign [.Name x p] v pos) _) h fun el gens sc q h=>?_
  simp only [zqf,Bool.not_eq_true'] at h
  obtain ⟨⟨⟨⟨h1,h2⟩,h3⟩,h4⟩,h5⟩:=h
  obtain ⟨k,src,tg,cond,elt,cap,rfl⟩:=comp_c h5
  rcases gens with _|⟨⟨t,iter,ifs,as⟩,_|⟨_,_⟩⟩ <;> first | exact absurd (show false=true from h5) zqd | skip
  have h6:(as == 0 && scOk cc sc && decide (cap=capOf cc sc) && chkSrc cc k src t iter && chkTg (blk cc sc) tg t && chkC (blk cc sc) cond ifs && chk (blk cc sc) elt el)=true:=h5
  simp only [zqf,beq_iff_eq,decide_eq_true_eq] at h6
  obtain ⟨⟨⟨⟨⟨⟨rfl,k1⟩,k2⟩,k3⟩,k4⟩,k5⟩,k6⟩:=h6
  obtain ⟨hsrc,hns⟩:=ok_src src k cc X t iter g.g k3
  exact s_asgC g.g g.bk (eq_of_beq h1) (eq_of_beq h2) (eq_of_beq h3) h4 (fun pins s σ H I=>by
   obtain ⟨cl,ck⟩:=comp_ck g.g k1 k2 k4 k5 k6 pins s σ H I
   exact ⟨cl,hsrc,ck⟩) (foldSet hns X.env) comp_rd
 | .par i j a b,_,_,_,_,h=>absurd (show false=true from h) zqd
 | .put o i v,cc,X,st,g,h=>stAssign_el (P:=fun st=>PS X st _) h fun ts w pos h=>by
  rcases ts with _|⟨t,_|⟨_,_⟩⟩ <;> first | exact absurd h zqd | skip
  refine onSubscript_el (P:=fun t=>PS X (.Assign [t] w pos) _) h fun e f sp h=>?_
  simp only [zqf] at h
  obtain ⟨⟨⟨h1,h3⟩,h4⟩,h5⟩:=h
  exact s_put g.g h1 (ok_e o cc X e g.g h3) (ok_e i cc X f g.g h4) (ok_e v cc X w g.g h5)
 | .expr c,cc,X,st,g,h=>stExpr_el (P:=fun st=>PS X st _) h fun e pos h=>by
  simp only [zqf,Bool.not_eq_true'] at h
  exact s_expr h.1 (ok_e c cc X e g.g h.2)
 | .ret c,cc,X,st,g,h=>stReturn_el (P:=fun st=>PS X st _) h fun v pos h=>by
  cases v with
  | none=>exact absurd h zqd
  | some e=>exact s_ret (ok_e c cc X e g.g h)
 | .retN,cc,X,st,g,h=>stReturn_el (P:=fun st=>PS X st _) h fun v pos h=>by
  cases v with
  | some e=>exact absurd h zqd
  | none =>
   refine psI ps_retN fun D σ H q=>?_
   obtain ⟨ads,M,ρ,s,q⟩:=q
   exact q .non H ads (Grow.refl _ _) s.mem (show RD X.K ads H .non .non from rd_non)
 | .iff t a b,cc,X,st,g,h=>stIf_el (P:=fun st=>PS X st _) h fun c x y pos h=>by
  simp only [zqf] at h
  exact s_if (ok_t t cc X c g.g h.1.1) (ok_ss a cc X x g h.1.2) (ok_ss b cc X y g h.2)
 | .forr tg k src b,cc,X,st,g,h=>stFor_el (P:=fun st=>PS X st _) h fun t iter body els pos h=>by
  simp only [zqf,List.isEmpty_iff] at h
  obtain ⟨⟨⟨rfl,h1⟩,h2⟩,h3⟩:=h
  obtain ⟨hs,hn⟩:=ok_src src k cc X t iter g.g h1
  exact s_for g.g g.nx hs hn h2 (ok_ss b cc X body g h3)
 | .never,cc,X,st,g,h=>psI ps_never fun D σ H q=>by
  obtain ⟨ads,M,ρ,s,q⟩:=q
  exact q
 | .pass,cc,X,st,g,h=>stPass_el (P:=fun st=>PS X st _) h fun pos h=>psI ps_pass fun D σ H q=>by
  obtain ⟨ads,M,ρ,s,q⟩:=q
  exact q σ H ads (Grow.refl _ _) s
 | .brk,cc,X,st,g,h=>stBreak_el (P:=fun st=>PS X st _) h fun pos h=>psI ps_break fun D σ H q=>by
  obtain ⟨ads,M,ρ,s,q⟩:=q
  exact q σ H ads (Grow.refl _ _) s
 | .cont,cc,X,st,g,h=>stContinue_el (P:=fun st=>PS X st _) h fun pos h=>psI ps_continue fun D σ H q=>by
  obtain ⟨ads,M,ρ,s,q⟩:=q
  exact q σ H ads (Grow.refl _ _) s
theorem ok_ss {kk:Nat} {G:Fns}:∀ (ss:List S) (cc:CC) (X:Cx) (st:List Stmt),GoodS kk X cc G->chkSs cc ss st=true->PSs X st (tSt X.K (evSs G ss))
 | [],cc,X,[],g,h=>pssI pss_nil fun D σ H q=>by
  obtain ⟨ads,M,ρ,s,q⟩:=q
  exact q σ H ads (Grow.refl _ _) s
 | [],cc,X,_::_,g,h=>by cases h
 | _::_,cc,X,[],g,h=>by cases h
 | s::ss,cc,X,t::ts,g,h=>by
  have h':(chkS cc s t && chkSs cc ss ts)=true:=h
  simp only [zqf] at h'
  exact pssI (pss_cons (ok_s s cc X t g h'.1) (ok_ss ss cc X ts g h'.2)) fun D σ H q=>s_seq q
end
def startE (n:Nat) (ds:List D):En:=ds.map some++List.replicate (n - ds.length) none
def runDef (G:Fns) (n:Nat) (body:List S) (ds:List D) (M:Mem):Out W:=match evSs G body (startE n ds) M with
 | .rt w M=>.ok w M
 | .nx _ M=>.ok (.d .non) M
 | _=>.stuck
theorem start_en {K:PySem.W.Frag} {ads:List Addr} {H:Hp}:∀ {ds:List D} {vs:List V} (r:RDs K ads H ds vs) (k:Nat),REn K ads H (ds.map some++List.replicate k none) (vs.map some++List.replicate k none)
 | ds,vs,r,k=>by
  intro i d e
  by_cases hi:i < ds.length
  ·rw [zqt (by simpa using hi),zqk] at e
   cases q:ds[i]? with
   | none=>rw [q] at e;cases e
   | some d' =>
    rw [q] at e
    cases e
    obtain ⟨v,ev,rv⟩:=r.get q
    exact ⟨v,by rw [zqt (by rw [zqe,<- r.len];exact hi),zqk,ev];rfl,rv⟩
  ·rw [List.getElem?_append_right (by simpa using hi),List.getElem?_replicate] at e
   split at e <;> cases e
theorem def_ok {P : Program} {w : World} {K : PySem.W.Frag} {mg : Str -> Option Value} {base : Heap} {x qual : Str} {st : Stmt} {f : Addr} {fd : FuncData} {N ps : List Str} {k : Nat} {G : Fns} {fs : List (Str × Nat)} {gs : List (Str × Int)} {body : List S} {n : Nat}
    (F:Fun K x qual st f fd) (Sc:FnScope N ps (defScope st)) (hn:ps.length=n) (hb:chkSs ⟨N,(defScope st).names,fs,gs⟩ body (defBody st)=true) (hblt:∀ b∈bltNames,mg b=none) (hgs:∀ (x:Str) (v:Int),gs.lookup x=some v->∃ t,mg x=some (.int v t))
    (hfs:∀ (i:Nat) (x:Str) (n:Nat),fs[i]?=some (x,n)->∃ f fd ps,FnOk P w K mg base CX0 k f fd ps (spD K n (G i))/\mg x=some (.ref f)/\PySem.W.keepIn K (.ref f)=true/\Binds K fd ps []) :
    FnOk P w K mg base CX0 (k+1) f fd ps (spD K n (runDef G N.length body)):=by
  have hpl:ps.length<=N.length:=by have:=congrArg List.length Sc.pre;rw [List.length_take] at this;omega
  refine F.ok Sc (fun vs H Q E h=>?_) fun cdv A outer s H vs Q E hr hsp=>?_
  · obtain ⟨ads,M,ds,m,r,hl,_⟩:=h
    rw [<- r.len,hl,hn]
  · have gs : GoodS k (cxOf CX0 P w K mg base N qual (defScope st) f cdv A outer s H E).nox ⟨N, (defScope st).names, fs, gs⟩ G := by
      refine ⟨⟨rfl,hr,rfl,Sc.nd,fun x k e=>?_,fun _ _=>rfl,hblt,hgs,hfs⟩,?_,rfl⟩
      · have e:(defScope st).names.lookup x=some k:=e
        cases k with
        | «local»=>exact e
        | cell=>exact e
        | free=>exact absurd rfl (Sc.nofree _ (PySem.mem_of_lookup e))
        | globalExplicit=>exact True.intro
        | globalImplicit=>exact e
      · show (if (defScope st).kind.isAnnotationScope then ScopeKind.function else (defScope st).kind)=_
        rw [Sc.kind]
        rfl
    refine ⟨_,ok_ss body _ _ (defBody st) gs hb,?_⟩
    obtain ⟨ads,M,ds,m,r,hl,q⟩:=hsp
    have hlen:(startE N.length ds).length=N.length:=by
      unfold startE
      rw [zqp,zqe,List.length_replicate]
      omega
    refine ⟨ads,M,startE N.length ds,⟨m,?_,?_⟩,?_⟩
    · unfold startE L2.start
      rw [<- r.len]
      exact start_en r _
    · rw [hlen]
      unfold L2.start
      rw [zqp,zqe,List.length_replicate,<- r.len]
      omega
    · unfold runDef at q
      cases hq:evSs G body (startE N.length ds) M with
      | nx ρ M1=>rw [hq] at q;exact fun σ' H' ads' g s'=>q .non H' ads' g s'.mem (show RD K ads' H' .non .non from rd_non)
      | rt w M1=>rw [hq] at q;exact q
      | bk _ _=>rw [hq] at q;exact q.elim
      | ct _ _=>rw [hq] at q;exact q.elim
      | stuck=>rw [hq] at q;exact q.elim
def tab (l:List (List D->Mem->Out W)):Fns:=fun i ds M=>match l[i]? with
 | some f=>f ds M
 | none=>.stuck
@[elab_as_elim] theorem len1 {P:List Value->Prop} (h:∀ a,P [a]) (us:List Value) (z0:us.length=1):P us:=by
 rcases us with _|⟨a,_|⟨z,us⟩⟩ <;> first | exact h a | (simp at z0)
@[elab_as_elim] theorem len2 {P:List Value->Prop} (h:∀ a b,P [a,b]) (us:List Value) (z0:us.length=2):P us:=by
 rcases us with _|⟨a,_|⟨b,_|⟨z,us⟩⟩⟩ <;> first | exact h a b | (simp at z0)
@[elab_as_elim] theorem len3 {P:List Value->Prop} (h:∀ a b c,P [a,b,c]) (us:List Value) (z0:us.length=3):P us:=by
 rcases us with _|⟨a,_|⟨b,_|⟨c,_|⟨z,us⟩⟩⟩⟩ <;> first | exact h a b c | (simp at z0)
@[elab_as_elim] theorem len4 {P:List Value->Prop} (h:∀ a b c d,P [a,b,c,d]) (us:List Value) (z0:us.length=4):P us:=by
 rcases us with _|⟨a,_|⟨b,_|⟨c,_|⟨d,_|⟨z,us⟩⟩⟩⟩⟩ <;> first | exact h a b c d | (simp at z0)
theorem fmk {K : PySem.W.Frag} {x qual : Str} {st : Stmt} {f : Addr} {an : Option Addr} {kV doc pm cdv ct : Value} (l : K.lookup f = some ⟨.type "function", none, .func (PySem.W.fnOf x qual (defArgs st) (defBody st) (defScope st) .none kV doc pm an cdv ct), #[]⟩)
    (c:PySem.W.codeIn K cdv qual=true) (k:PySem.W.keepIn K (.ref f)=true):Fun K x qual st f (PySem.W.fnOf x qual (defArgs st) (defBody st) (defScope st) .none kV doc pm an cdv ct):=fun_mk l c k
abbrev fq (x:Str) (s:Stmt) (m c:Value):FuncData:=PySem.W.fnOf x x (defArgs s) (defBody s) (defScope s) .none .none .none m none c .none
def fo (f:FuncData):Obj:=⟨.type "function",none,.func f,#[]⟩
theorem gob_of {K : PySem.W.Frag} {h : Heap} {mg : Str -> Option Value} {gs : List (Str × Int)} (X : K.In h) (G : h.Ns mainGlobals mg) (z : gs.all (fun p => match PySem.W.nsIn K mainGlobals p.1 with | some (some (.int v _)) => v == p.2 | _ => false) = true) :
    ∀ (x:Str) (v:Int),gs.lookup x=some v->∃ t,mg x=some (.int v t):=by
  intro x v e
  have q:=List.all_eq_true.mp z (x,v) (PySem.mem_of_lookup e)
  dsimp only at q
  split at q
  · rename_i w t e2
    obtain rfl:=eq_of_beq q
    exact ⟨t,PySem.W.mg_of X G e2⟩
  · exact absurd q zqd
@[irreducible] def Okp {α:Type} (o:Out α) (P:α->Mem->Prop):Prop:=match o with
 | .ok a M=>P a M
 | _=>False
theorem okp_ok {α:Type} {a:α} {M:Mem} {P:α->Mem->Prop}:Okp (.ok a M) P=P a M:=by unfold Okp;exact propext Iff.rfl
theorem okp_stuck {α:Type} {P:α->Mem->Prop}:Okp .stuck P=False:=by unfold Okp;exact propext Iff.rfl
theorem okp_err {α:Type} {P:α->Mem->Prop} {x:Exn} {M:Mem}:Okp (.err x M) P=False:=by unfold Okp;exact propext Iff.rfl
theorem okp_bind {α β:Type} {o:Out α} {f:α->Mem->Out β} {P:β->Mem->Prop}:Okp (o.bind f) P=Okp o fun a M=>Okp (f a M) P:=by
 cases o with
 | ok a M=>rw [okp_ok];rfl
 | err _ _=>rw [okp_err];exact okp_err
 | stuck=>rw [okp_stuck];exact okp_stuck
theorem Okp.imp {α:Type} {o:Out α} {P Q:α->Mem->Prop} (h:Okp o P) (k:∀ a M,P a M->Q a M):Okp o Q:=by
 cases o with
 | ok a M=>rw [okp_ok] at h ⊢;exact k a M h
 | err _ _=>rw [okp_err] at h;exact h.elim
 | stuck=>rw [okp_stuck] at h;exact h.elim
theorem okp_guard {α:Type} {c:Prop} [Decidable c] {o:Out α} {P:α->Mem->Prop}:Okp (if c then o else .stuck) P=(c/\Okp o P):=by
 by_cases h:c
 ·rw [if_pos h];exact propext ⟨fun q=>⟨h,q⟩,fun q=>q.2⟩
 ·rw [if_neg h,okp_stuck];exact propext ⟨fun q=>q.elim,fun q=>absurd q.1 h⟩
theorem okp_eq {α:Type} {o:Out α} {P:α->Mem->Prop} (h:Okp o P):∃ a M,o=.ok a M/\P a M:=by
 cases o with
 | ok a M=>rw [okp_ok] at h;exact ⟨a,M,rfl,h⟩
 | err _ _=>rw [okp_err] at h;exact h.elim
 | stuck=>rw [okp_stuck] at h;exact h.elim
@[irreducible] def OkT (o:OutS) (nx:En->Mem->Prop) (rt:W->Mem->Prop) (bk ct:En->Mem->Prop):Prop:=match o with
 | .nx ρ M=>nx ρ M
 | .rt w M=>rt w M
 | .bk ρ M=>bk ρ M
 | .ct ρ M=>ct ρ M
 | .stuck=>False
section
variable {nx:En->Mem->Prop} {rt:W->Mem->Prop} {bk ct:En->Mem->Prop}
theorem okt_nx {ρ:En} {M:Mem}:OkT (.nx ρ M) nx rt bk ct=nx ρ M:=by unfold OkT;exact propext Iff.rfl
theorem okt_rt {w:W} {M:Mem}:OkT (.rt w M) nx rt bk ct=rt w M:=by unfold OkT;exact propext Iff.rfl
theorem okt_bk {ρ:En} {M:Mem}:OkT (.bk ρ M) nx rt bk ct=bk ρ M:=by unfold OkT;exact propext Iff.rfl
theorem okt_ct {ρ:En} {M:Mem}:OkT (.ct ρ M) nx rt bk ct=ct ρ M:=by unfold OkT;exact propext Iff.rfl
theorem okt_stuck:OkT .stuck nx rt bk ct=False:=by unfold OkT;exact propext Iff.rfl
theorem okt_ofE {α:Type} {o:Out α} {f:α->Mem->OutS}:OkT (OutS.ofE o f) nx rt bk ct=Okp o fun a M=>OkT (f a M) nx rt bk ct:=by
 cases o with
 | ok a M=>rw [okp_ok];rfl
 | err _ _=>rw [okp_err];exact okt_stuck
 | stuck=>rw [okp_stuck];exact okt_stuck
theorem okt_seq {o:OutS} {f:En->Mem->OutS}:OkT (o.seq f) nx rt bk ct=OkT o (fun ρ M=>OkT (f ρ M) nx rt bk ct) rt bk ct:=by
 cases o with
 | nx ρ M=>rw [okt_nx];rfl
 | rt ρ M=>rw [okt_rt];exact okt_rt
 | bk ρ M=>rw [okt_bk];exact okt_bk
 | ct ρ M=>rw [okt_ct];exact okt_ct
 | stuck=>rw [okt_stuck];exact okt_stuck
end
theorem okp_run {G:Fns} {n:Nat} {b:List S} {ds:List D} {M:Mem} {P:W->Mem->Prop}:Okp (runDef G n b ds M) P=OkT (evSs G b (startE n ds) M) (fun _ M=>P (.d .non) M) P (fun _ _=>False) (fun _ _=>False):=by
 unfold runDef
 cases evSs G b (startE n ds) M with
 | nx ρ M=>rw [okt_nx];exact okp_ok
 | rt ρ M=>rw [okt_rt];exact okp_ok
 | bk ρ M=>rw [okt_bk];exact okp_stuck
 | ct ρ M=>rw [okt_ct];exact okp_stuck
 | stuck=>rw [okt_stuck];exact okp_stuck
section
variable {G:Fns} {ρ:En} {M:Mem} {P:W->Mem->Prop}
theorem k_cst {d:D}:Okp (ev G (.cst d) ρ M) P=P (.d d) M:=by simp only [ev,okp_ok]
theorem k_bin {op:BOp} {a b:C}:Okp (ev G (.bin op a b) ρ M) P=Okp (ev G a ρ M) fun x M=>Okp (ev G b ρ M) fun y M=>Okp (binW op x y M) P:=by simp only [ev,okp_bind]
theorem k_cmp {op:COp} {a b:C}:Okp (ev G (.cmp op a b) ρ M) P=Okp (ev G a ρ M) fun x M=>Okp (ev G b ρ M) fun y M=>Okp (cmpW op x y M) fun r M=>P (.d (.bl r)) M:=by simp only [ev,okp_bind,okp_ok]
theorem k_ite {c:Tst} {a b:C}:Okp (ev G (.ite c a b) ρ M) P=Okp (evT G c ρ M) fun r M=>if r then Okp (ev G a ρ M) P else Okp (ev G b ρ M) P:=by
 simp only [ev,okp_bind]
 congr 1;funext r M
 cases r <;> rfl
theorem k_tup {cs:List C}:Okp (ev G (.tup cs) ρ M) P=Okp (evDs G cs ρ M) fun ds M=>ds.length<=sizeLine/\P (.d (.tup ds)) M:=by
 simp only [ev,okp_bind,okp_guard,okp_ok]
theorem k_lst {cs:List C}:Okp (ev G (.lst cs) ρ M) P=Okp (evDs G cs ρ M) fun ds M=>ds.length<=sizeLine/\P (.lv ds) M:=by
 simp only [ev,okp_bind,okp_guard,okp_ok]
theorem k_sub {a b:C}:Okp (ev G (.sub a b) ρ M) P=Okp (ev G a ρ M) fun x M=>Okp (ev G b ρ M) fun y M=>Okp (subW x y M) P:=by simp only [ev,okp_bind]
theorem k_slc {a:C} {lo hi:Option C}:Okp (ev G (.slc a lo hi) ρ M) P=Okp (ev G a ρ M) fun x M=>Okp (evO G lo ρ M) fun l M=>Okp (evO G hi ρ M) fun h M=>Okp (slcW x l h M) P:=by simp only [ev,okp_bind]
theorem k_stp {a:C} {k:Int}:Okp (ev G (.stp a k) ρ M) P=Okp (ev G a ρ M) fun x M=>Okp (stpW x k M) P:=by simp only [ev,okp_bind]
theorem k_o0 {P:Option Int->Mem->Prop}:Okp (evO G none ρ M) P=P none M:=by simp only [evO,okp_ok]
theorem k_call {f:Nat} {cs:List C}:Okp (ev G (.call f cs) ρ M) P=Okp (evDs G cs ρ M) fun ds M=>Okp (G f ds M) P:=by simp only [ev,okp_bind]
theorem k_bi {b:Bi} {cs:List C}:Okp (ev G (.bi b cs) ρ M) P=Okp (evWs G cs ρ M) fun ws M=>Okp (biW b ws M) P:=by simp only [ev,okp_bind]
theorem k_me {m:Me} {o:C} {cs:List C}:Okp (ev G (.me m o cs) ρ M) P=Okp (ev G o ρ M) fun x M=>(lstW M x).isSome=true/\Okp (evDs G cs ρ M) fun ds M=>Okp (meW m x ds M) P:=by
 simp only [ev,okp_bind,okp_guard]
theorem k_dct {ks:List Str} {cs:List C}:Okp (ev G (.dct ks cs) ρ M) P=Okp (evDs G cs ρ M) fun ds M=>ks.length=ds.length/\P (.d (.adr M.length)) (M++[.dK ((ks.map Sum.inr).zip ds)]):=by
 simp only [ev,okp_bind,okp_guard,okp_ok]
theorem k_comp {k:SK} {src:List C} {tg:List Nat} {cond:Option Tst} {elt:C} {cap:List (Option Nat)}:Okp (ev G (.comp k src tg cond elt cap) ρ M) P=Okp (evWs G src ρ M) fun ws M=>Okp (srcW k ws M) fun it M=>Okp (compGo (fun τ M=>evCond G cond τ M) (fun τ M=>(ev G elt τ M).bind own) it tg (itLen M it) 0 (capEn cap ρ) M []) P:=by simp only [ev,okp_bind]
theorem k_d0 {P:List D->Mem->Prop}:Okp (evDs G [] ρ M) P=P [] M:=by simp only [evDs,okp_ok]
theorem k_d1 {c:C} {cs:List C} {P:List D->Mem->Prop}:Okp (evDs G (c::cs) ρ M) P=Okp (ev G c ρ M) fun w M=>Okp (own w M) fun d M=>Okp (evDs G cs ρ M) fun ds M=>P (d::ds) M:=by simp only [evDs,okp_bind,okp_ok]
theorem k_w0 {P:List W->Mem->Prop}:Okp (evWs G [] ρ M) P=P [] M:=by simp only [evWs,okp_ok]
theorem k_w1 {c:C} {cs:List C} {P:List W->Mem->Prop}:Okp (evWs G (c::cs) ρ M) P=Okp (ev G c ρ M) fun w M=>Okp (evWs G cs ρ M) fun ds M=>P (w::ds) M:=by simp only [evWs,okp_bind,okp_ok]
theorem k_val {c:C} {P:Bool->Mem->Prop}:Okp (evT G (.val c) ρ M) P=Okp (ev G c ρ M) fun w M=>∃ r,truW M w=some r/\P r M:=by
 simp only [evT,okp_bind]
 congr 1;funext w M
 cases h:truW M w with
 | none=>simp only [reduceCtorEq,false_and,exists_false,okp_stuck]
 | some r=>simp only [Option.some.injEq,exists_eq_left',okp_ok]
theorem k_neg {a:Tst} {P:Bool->Mem->Prop}:Okp (evT G (.neg a) ρ M) P=Okp (evT G a ρ M) fun r M=>P (!r) M:=by simp only [evT,okp_bind,okp_ok]
theorem k_all1 {a:Tst} {P:Bool->Mem->Prop}:Okp (evAll G [a] ρ M) P=Okp (evT G a ρ M) P:=by simp only [evAll,okp_bind,okp_ok]
theorem k_any1 {a:Tst} {P:Bool->Mem->Prop}:Okp (evAny G [a] ρ M) P=Okp (evT G a ρ M) P:=by simp only [evAny,okp_bind,okp_ok]
theorem k_all2 {a b:Tst} {cs:List Tst} {P:Bool->Mem->Prop}:Okp (evAll G (a::b::cs) ρ M) P=Okp (evT G a ρ M) fun r M=>if r then Okp (evAll G (b::cs) ρ M) P else P false M:=by
 rw [evAll]
 simp only [okp_bind]
 congr 1;funext r M
 cases r with
 | true=>rfl
 | false=>exact okp_ok
theorem k_any2 {a b:Tst} {cs:List Tst} {P:Bool->Mem->Prop}:Okp (evAny G (a::b::cs) ρ M) P=Okp (evT G a ρ M) fun r M=>if r then P true M else Okp (evAny G (b::cs) ρ M) P:=by
 rw [evAny]
 simp only [okp_bind]
 congr 1;funext r M
 cases r with
 | true=>exact okp_ok
 | false=>rfl
theorem k_conj {ts:List Tst} {P:Bool->Mem->Prop}:Okp (evT G (.conj ts) ρ M) P=Okp (evAll G ts ρ M) P:=by simp only [evT]
theorem k_disj {ts:List Tst} {P:Bool->Mem->Prop}:Okp (evT G (.disj ts) ρ M) P=Okp (evAny G ts ρ M) P:=by simp only [evT]
end
section
variable {G:Fns} {ρ:En} {M:Mem} {nx:En->Mem->Prop} {rt:W->Mem->Prop} {bk ct:En->Mem->Prop}
theorem t_asgC {i:Nat} {c:C}:OkT (evS G (.asgC i c) ρ M) nx rt bk ct=Okp (ev G c ρ M) fun w M=>Okp (own w M) fun d M=>nx (ρ.set i (some d)) M:=by simp only [evS,okt_ofE,okp_bind,okt_nx]
theorem t_put {o i v:C}:OkT (evS G (.put o i v) ρ M) nx rt bk ct=Okp (ev G v ρ M) fun w M=>Okp (own w M) fun d M=>Okp (ev G o ρ M) fun x M=>Okp (ev G i ρ M) fun y M=>Okp (setW x y d M) fun _ M=>nx ρ M:=by simp only [evS,okt_ofE,okp_bind,okt_nx]
theorem t_expr {c:C}:OkT (evS G (.expr c) ρ M) nx rt bk ct=Okp (ev G c ρ M) fun _ M=>nx ρ M:=by simp only [evS,okt_ofE,okt_nx]
theorem t_ret {c:C}:OkT (evS G (.ret c) ρ M) nx rt bk ct=Okp (ev G c ρ M) rt:=by simp only [evS,okt_ofE,okt_rt]
theorem t_if {t:Tst} {a b:List S}:OkT (evS G (.iff t a b) ρ M) nx rt bk ct=Okp (evT G t ρ M) fun r M=>if r then OkT (evSs G a ρ M) nx rt bk ct else OkT (evSs G b ρ M) nx rt bk ct:=by
 simp only [evS,okt_ofE]
 congr 1;funext r M
 cases r <;> rfl
theorem t_for {tg:List Nat} {k:SK} {src:List C} {b:List S}:OkT (evS G (.forr tg k src b) ρ M) nx rt bk ct=Okp (evWs G src ρ M) fun ws M=>Okp (srcW k ws M) fun it M=>OkT (forGo (fun ρ M=>evSs G b ρ M) it tg (itLen M it) 0 ρ M) nx rt bk ct:=by
 simp only [evS,okt_ofE,evSrc,okp_bind]
theorem t_nil:OkT (evSs G [] ρ M) nx rt bk ct=nx ρ M:=by simp only [evSs,okt_nx]
theorem t_cons {s:S} {ss:List S}:OkT (evSs G (s::ss) ρ M) nx rt bk ct=OkT (evS G s ρ M) (fun ρ M=>OkT (evSs G ss ρ M) nx rt bk ct) rt bk ct:=by simp only [evSs,okt_seq]
end
theorem for_ok {body : En -> Mem -> OutS} {it : It} {tg : List Nat} {ds : List D} {nx : En -> Mem -> Prop} {rt : W -> Mem -> Prop} {bk ct : En -> Mem -> Prop} (I : Nat -> En -> Mem -> Prop) (hd : ∀ i ρ M, I i ρ M -> i <= ds.length -> itemAt M i it = some ds[i]?)
    (hs:∀ i ρ M d,I i ρ M->ds[i]?=some d->∃ ρ',bindT tg d ρ=some ρ'/\OkT (body ρ' M) (I (i+1)) rt nx (I (i+1))) (he:∀ ρ M,I ds.length ρ M->nx ρ M) :
    ∀ (f i:Nat) (ρ:En) (M:Mem),I i ρ M->i+f=ds.length->OkT (forGo body it tg f i ρ M) nx rt bk ct
  | 0,i,ρ,M,h,e=>by
    unfold forGo
    have:i=ds.length:=by omega
    subst this
    rw [hd _ _ _ h (zqg _),List.getElem?_eq_none (zqg _)]
    dsimp only
    rw [okt_nx]
    exact he _ _ h
  | f+1,i,ρ,M,h,e=>by
    unfold forGo
    have hi:i < ds.length:=by omega
    rw [hd _ _ _ h (Nat.le_of_lt hi),zqb hi]
    obtain ⟨ρ',e1,e2⟩:=hs i ρ M ds[i] h (zqb hi)
    dsimp only
    rw [e1]
    dsimp only
    cases q:body ρ' M with
    | nx ρ2 M2=>rw [q,okt_nx] at e2;exact for_ok I hd hs he f (i+1) ρ2 M2 e2 (by omega)
    | ct ρ2 M2=>rw [q,okt_ct] at e2;exact for_ok I hd hs he f (i+1) ρ2 M2 e2 (by omega)
    | bk ρ2 M2=>rw [q,okt_bk] at e2;dsimp only;rw [okt_nx];exact e2
    | rt w M2=>rw [q,okt_rt] at e2;dsimp only;rw [okt_rt];exact e2
    | stuck=>rw [q,okt_stuck] at e2;exact e2.elim
theorem comp_ok {cond : En -> Mem -> Out Bool} {elt : En -> Mem -> Out D} {it : It} {tg : List Nat} {ds : List D} {P : W -> Mem -> Prop} (I : Nat -> En -> Mem -> List D -> Prop) (hd : ∀ i ρ M acc, I i ρ M acc -> i <= ds.length -> itemAt M i it = some ds[i]?)
    (hs:∀ i ρ M acc d,I i ρ M acc->ds[i]?=some d->acc.length < sizeLine/\∃ ρ',bindT tg d ρ=some ρ'/\Okp (cond ρ' M) fun b M=>if b then Okp (elt ρ' M) fun x M=>I (i+1) ρ' M (acc++[x]) else I (i+1) ρ' M acc) (he:∀ ρ M acc,I ds.length ρ M acc->P (.lv acc) M) :
    ∀ (f i:Nat) (ρ:En) (M:Mem) (acc:List D),I i ρ M acc->i+f=ds.length->Okp (compGo cond elt it tg f i ρ M acc) P
  | 0,i,ρ,M,acc,h,e=>by
    unfold compGo
    have:i=ds.length:=by omega
    subst this
    rw [hd _ _ _ _ h (zqg _),List.getElem?_eq_none (zqg _)]
    dsimp only
    rw [okp_ok]
    exact he _ _ _ h
  | f+1,i,ρ,M,acc,h,e=>by
    unfold compGo
    have hi:i < ds.length:=by omega
    rw [hd _ _ _ _ h (Nat.le_of_lt hi),zqb hi]
    obtain ⟨hl,ρ',e1,e2⟩:=hs i ρ M acc ds[i] h (zqb hi)
    dsimp only
    rw [e1]
    dsimp only
    rw [if_pos hl,okp_bind]
    refine e2.imp fun b M2 q=>?_
    cases b with
    | true =>
      rw [if_pos rfl] at q ⊢
      rw [okp_bind]
      exact q.imp fun x M3 q=>comp_ok I hd hs he f (i+1) ρ' M3 _ q (by omega)
    | false =>
      rw [if_neg (by simp)] at q ⊢
      exact comp_ok I hd hs he f (i+1) ρ' M2 _ q (by omega)
def Opk {α:Type} (o:Out α) (P:α->Mem->Prop):Prop:=match o with
 | .ok a M=>P a M
 | _=>False
theorem okp_opk {α:Type} {o:Out α} {P:α->Mem->Prop}:Okp o P=Opk o P:=by
 cases o with
 | ok a M=>rw [okp_ok];rfl
 | err _ _=>rw [okp_err];rfl
 | stuck=>rw [okp_stuck];rfl
def andK (x:W) (A B:Prop):Prop:=match x with
 | .d (.bl true)=>A
 | .d (.bl false)=>B
 | _=>False
def bK (b:Bool) (A B:Prop):Prop:=match b with
 | true=>A
 | false=>B
theorem bK_if {b:Bool} {A B:Prop}:bK b A B=if b=true then A else B:=by cases b <;> simp [bK]
def truK (o:Option Bool) (P:Bool->Prop):Prop:=match o with
 | some r=>P r
 | none=>False
def varK (o:Option (Option D)) (P:D->Prop):Prop:=match o with
 | some (some d)=>P d
 | _=>False
def enK (o:Option En) (P:En->Prop):Prop:=match o with
 | some ρ=>P ρ
 | none=>False
def intK (w:W) (P:Int->Prop):Prop:=match w with
 | .d (.int i)=>P i
 | _=>False
def strK (w:W) (P:Str->Prop):Prop:=match w with
 | .d (.str i)=>P i
 | _=>False
def isNon:D->Bool
 | .non=>true
 | _=>false
theorem sh_int {i:Int}:SeqAt.shaped (.int i)=true:=by unfold SeqAt.shaped;rw [PyData.canLay0.eq_3,PyData.depth.eq_6];rfl
theorem c_eqI {M:Mem} {i j:Int}:cmpW .eq (.d (.int i)) (.d (.int j)) M=.ok (i == j) M:=by
 unfold cmpW
 have h1:∀ i,pyW M (.d (.int i))=some (.int i):=fun i=>by show pyD M 30 (.int i)=_;unfold pyD;rfl
 simp only [h1,sh_int,and_self,if_true,PyData.eqv.eq_5]
theorem c_neI {M:Mem} {i j:Int}:cmpW .ne (.d (.int i)) (.d (.int j)) M=.ok (!(i == j)) M:=by
 unfold cmpW
 have h1:∀ i,pyW M (.d (.int i))=some (.int i):=fun i=>by show pyD M 30 (.int i)=_;unfold pyD;rfl
 simp only [h1,sh_int,and_self,if_true,PyData.eqv.eq_5]
def wBin (op:BOp) (x y:W) (M:Mem) (P:W->Mem->Prop):Prop:=match op,x,y with
 | .add,.d (.int i),.d (.int j)=>P (.d (.int (i+j))) M
 | .sub,.d (.int i),.d (.int j)=>P (.d (.int (i - j))) M
 | .mul,.d (.int i),.d (.int j)=>((-(2 ^ 64) < i/\i < 2 ^ 64)\/(-(2 ^ 64) < j/\j < 2 ^ 64))/\P (.d (.int (i * j))) M
 | .fdiv,.d (.int i),.d (.int j)=>(0 < j/\j < 1073741824)/\P (.d (.int (i / j))) M
 | .mod,.d (.int i),.d (.int j)=>0 < j/\P (.d (.int (i % j))) M
 | .add,.d (.tup xs),.d (.tup ys)=>xs.length+ys.length<=sizeLine/\P (.d (.tup (xs++ys))) M
 | .add,.lv xs,.lv ys=>xs.length+ys.length<=sizeLine/\P (.lv (xs++ys)) M
 | op,x,y=>Opk (binW op x y M) P
theorem opk_if {α:Type} {c:Prop} [Decidable c] {a:α} {M:Mem} {P:α->Mem->Prop}:Opk (if c then .ok a M else .stuck) P=(c/\P a M):=by
 by_cases h:c
 ·rw [if_pos h];exact propext ⟨fun q=>⟨h,q⟩,fun q=>q.2⟩
 ·rw [if_neg h];exact propext ⟨fun q=>q.elim,fun q=>absurd q.1 h⟩
theorem opk_bin {op:BOp} {x y:W} {M:Mem} {P:W->Mem->Prop}:Opk (binW op x y M) P=wBin op x y M P:=by
 unfold wBin
 split <;> first | rfl | exact opk_if
def wCmp (op:COp) (x y:W) (M:Mem) (P:Bool->Mem->Prop):Prop:=match op,x,y with
 | .eq,.d (.int i),.d (.int j)=>P (i == j) M
 | .ne,.d (.int i),.d (.int j)=>P (!(i == j)) M
 | .isN,.d d,_=>P (isNon d) M
 | .notN,.d d,_=>P (!isNon d) M
 | op,x,y=>Opk (cmpW op x y M) P
theorem opk_cmp {op:COp} {x y:W} {M:Mem} {P:Bool->Mem->Prop}:Opk (cmpW op x y M) P=wCmp op x y M P:=by
 unfold wCmp
 split
 ·rw [c_eqI];rfl
 ·rw [c_neI];rfl
 ·rename_i d;cases d <;> rfl
 ·rename_i d;cases d <;> rfl
 ·rfl
def wSrc (k:SK) (ws:List W) (M:Mem) (P:It->Mem->Prop):Prop:=match k,ws with
 | .rng1,[.d (.int j)]=>(-(2 ^ 62)<=j/\j < 2 ^ 62)/\P (.rng 0 j.toNat) M
 | .rng2,[.d (.int i),.d (.int j)]=>(-(2 ^ 62)<=i/\i < 2 ^ 62/\-(2 ^ 62)<=j/\j < 2 ^ 62)/\P (.rng i (j - i).toNat) M
 | k,ws=>Opk (srcW k ws M) P
theorem opk_src {k:SK} {ws:List W} {M:Mem} {P:It->Mem->Prop}:Opk (srcW k ws M) P=wSrc k ws M P:=by
 unfold wSrc
 split <;> first | rfl | exact opk_if
def wRng (tp:Bool) (ws:List W) (M:Mem) (P:W->Mem->Prop):Prop:=match rngArg ws with
 | some (i,j)=>((-(2 ^ 62)<=i/\i < 2 ^ 62/\-(2 ^ 62)<=j/\j < 2 ^ 62)/\(j - i).toNat<=2 ^ 24)/\P (rngOut tp (rngD i (j - i).toNat)) M
 | none=>False
theorem opk_rng {tp:Bool} {ws:List W} {M:Mem} {P:W->Mem->Prop}:Opk (rngW tp ws M) P=wRng tp ws M P:=by
 unfold rngW wRng
 cases rngArg ws with
 | none=>rfl
 | some ij=>exact opk_if
mutual
def wE (G:Fns):C->En->Mem->(W->Mem->Prop)->Prop
  | .var i,ρ,M,P=>varK ρ[i]? fun d=>P (.d d) M
  | .cst d,_,M,P=>P (.d d) M
  | .bin op a b,ρ,M,P=>wE G a ρ M fun x M=>wE G b ρ M fun y M=>wBin op x y M P
  | .cmp op a b,ρ,M,P=>wE G a ρ M fun x M=>wE G b ρ M fun y M=>wCmp op x y M fun r M=>P (.d (.bl r)) M
  | .chain o1 o2 a b c, ρ, M, P => wE G a ρ M fun x M => wE G b ρ M fun y M => wCmp o1 x y M fun r M =>
      bK r (wE G c ρ M fun z M=>wCmp o2 y z M fun r M=>P (.d (.bl r)) M) (P (.d (.bl false)) M)
  | .conj cs,ρ,M,P=>wAnd G cs ρ M P
  | .disj cs,ρ,M,P=>wOr G cs ρ M P
  | .neg a,ρ,M,P=>wE G a ρ M fun x M=>andK x (P (.d (.bl false)) M) (P (.d (.bl true)) M)
  | .ite c a b,ρ,M,P=>wT G c ρ M fun r M=>bK r (wE G a ρ M P) (wE G b ρ M P)
  | .tup cs,ρ,M,P=>wDs G cs ρ M fun ds M=>ds.length<=sizeLine/\P (.d (.tup ds)) M
  | .lst cs,ρ,M,P=>wDs G cs ρ M fun ds M=>ds.length<=sizeLine/\P (.lv ds) M
  | .sub a b,ρ,M,P=>wE G a ρ M fun x M=>wE G b ρ M fun y M=>Opk (subW x y M) P
  | .slc a lo hi,ρ,M,P=>wE G a ρ M fun x M=>wO G lo ρ M fun l M=>wO G hi ρ M fun h M=>Opk (slcW x l h M) P
  | .stp a k,ρ,M,P=>wE G a ρ M fun x M=>Opk (stpW x k M) P
  | .sfind a b,ρ,M,P=>wE G a ρ M fun x M=>strK x fun z=>wE G b ρ M fun y M=>Opk (findW (.d (.str z)) y M) P
  | .call f cs,ρ,M,P=>wDs G cs ρ M fun ds M=>Okp (G f ds M) P
  | .bi b cs,ρ,M,P=>wWs G cs ρ M fun ws M=>Opk (biW b ws M) P
  | .me m o cs,ρ,M,P=>wE G o ρ M fun x M=>(lstW M x).isSome=true/\wDs G cs ρ M fun ds M=>Opk (meW m x ds M) P
  | .dct ks cs,ρ,M,P=>wDs G cs ρ M fun ds M=>ks.length=ds.length/\P (.d (.adr M.length)) (M++[.dK ((ks.map Sum.inr).zip ds)])
  | .rng tp cs,ρ,M,P=>wWs G cs ρ M fun ws M=>wRng tp ws M P
  | .usub a,ρ,M,P=>wE G a ρ M fun x M=>Opk (negW x M) P
  | .glo _ v,_,M,P=>P (.d (.int v)) M
  | .isTr ng a,ρ,M,P=>wE G a ρ M fun x M=>Opk (isTrW ng x M) P
  | .minD a b,ρ,M,P=>wE G a ρ M fun x M=>wE G b ρ M fun y M=>Opk (minDW x y M) P
  | .comp k src tg cond elt cap,ρ,M,P=>wWs G src ρ M fun ws M=>wSrc k ws M fun it M=>Okp (compGo (fun τ M=>evCond G cond τ M) (fun τ M=>(ev G elt τ M).bind own) it tg (itLen M it) 0 (capEn cap ρ) M []) P
def wT (G:Fns):Tst->En->Mem->(Bool->Mem->Prop)->Prop
 | .conj ts,ρ,M,P=>wAll G ts ρ M P
 | .disj ts,ρ,M,P=>wAny G ts ρ M P
 | .neg a,ρ,M,P=>wT G a ρ M fun r M=>P (!r) M
 | .val c,ρ,M,P=>wE G c ρ M fun w M=>truK (truW M w) fun r=>P r M
def wAnd (G:Fns):List C->En->Mem->(W->Mem->Prop)->Prop
 | [],_,_,_=>False
 | c::cs,ρ,M,P=>match cs with
  | []=>wE G c ρ M P
  | _::_=>wE G c ρ M fun x M=>andK x (wAnd G cs ρ M P) (P (.d (.bl false)) M)
def wOr (G:Fns):List C->En->Mem->(W->Mem->Prop)->Prop
 | [],_,_,_=>False
 | c::cs,ρ,M,P=>match cs with
  | []=>wE G c ρ M P
  | _::_=>wE G c ρ M fun x M=>andK x (P (.d (.bl true)) M) (wOr G cs ρ M P)
def wAll (G:Fns):List Tst->En->Mem->(Bool->Mem->Prop)->Prop
 | [],_,_,_=>False
 | c::cs,ρ,M,P=>match cs with
  | []=>wT G c ρ M P
  | _::_=>wT G c ρ M fun r M=>bK r (wAll G cs ρ M P) (P false M)
def wAny (G:Fns):List Tst->En->Mem->(Bool->Mem->Prop)->Prop
 | [],_,_,_=>False
 | c::cs,ρ,M,P=>match cs with
  | []=>wT G c ρ M P
  | _::_=>wT G c ρ M fun r M=>bK r (P true M) (wAny G cs ρ M P)
def wDs (G:Fns):List C->En->Mem->(List D->Mem->Prop)->Prop
 | [],_,M,P=>P [] M
 | c::cs,ρ,M,P=>wE G c ρ M fun w M=>Opk (own w M) fun d M=>wDs G cs ρ M fun ds M=>P (d::ds) M
def wWs (G:Fns):List C->En->Mem->(List W->Mem->Prop)->Prop
 | [],_,M,P=>P [] M
 | c::cs,ρ,M,P=>wE G c ρ M fun w M=>wWs G cs ρ M fun ws M=>P (w::ws) M
def wO (G:Fns):Option C->En->Mem->(Option Int->Mem->Prop)->Prop
 | none,_,M,P=>P none M
 | some c,ρ,M,P=>wE G c ρ M fun w M=>intK w fun i=>P (some i) M
end
def wCond (G:Fns) (o:Option Tst) (ρ:En) (M:Mem) (P:Bool->Mem->Prop):Prop:=match o with
 | none=>P true M
 | some t=>wT G t ρ M P
mutual
theorem w_e {G:Fns}:∀ (c:C) (ρ:En) (M:Mem) (P:W->Mem->Prop),Okp (ev G c ρ M) P=wE G c ρ M P
 | .var i,ρ,M,P=>by
  simp only [ev,wE]
  rcases ρ[i]? with _|_ | d
  ·exact okp_stuck
  ·exact okp_stuck
  ·exact okp_ok
 | .cst d,ρ,M,P=>by rw [k_cst];rfl
 | .bin op a b,ρ,M,P=>by rw [k_bin,w_e a];simp only [w_e b,okp_opk,wE,opk_bin]
 | .cmp op a b,ρ,M,P=>by rw [k_cmp,w_e a];simp only [w_e b,okp_opk,wE,opk_cmp]
 | .chain o1 o2 a b c,ρ,M,P=>by
  simp only [ev,okp_bind,wE]
  rw [w_e a]
  congr 1;funext x M
  rw [w_e b]
  congr 1;funext y M
  rw [okp_opk,opk_cmp]
  congr 1;funext r M
  cases r with
  | true=>simp only [okp_bind,okp_ok,if_true,w_e c];simp only [okp_opk,opk_cmp];rfl
  | false=>simp [okp_ok,bK]
 | .conj cs,ρ,M,P=>by rw [ev,w_and cs];rfl
 | .disj cs,ρ,M,P=>by rw [ev,w_or cs];rfl
 | .neg a,ρ,M,P=>by
  simp only [ev,okp_bind,wE]
  rw [w_e a]
  congr 1;funext x M
  rcases x with ⟨_ | b | _|_|_|_|_⟩|_
  ·exact okp_stuck
  ·cases b <;> exact okp_ok
  all_goals exact okp_stuck
 | .ite c a b,ρ,M,P=>by rw [k_ite,w_t c];simp only [w_e a,w_e b,wE,bK_if]
 | .tup cs,ρ,M,P=>by rw [k_tup,w_ds cs];rfl
 | .lst cs,ρ,M,P=>by rw [k_lst,w_ds cs];rfl
 | .sub a b,ρ,M,P=>by rw [k_sub,w_e a];simp only [w_e b,okp_opk,wE]
 | .slc a lo hi,ρ,M,P=>by rw [k_slc,w_e a];simp only [w_o lo,w_o hi,okp_opk,wE]
 | .stp a k,ρ,M,P=>by rw [k_stp,w_e a];simp only [okp_opk,wE]
 | .sfind a b,ρ,M,P=>by
  simp only [ev,okp_bind,wE]
  rw [w_e a]
  congr 1;funext x M
  rcases x with ⟨_|_|_ | z | _|_|_⟩|_
  ·exact okp_stuck
  ·exact okp_stuck
  ·exact okp_stuck
  ·simp only [okp_bind,w_e b];simp only [okp_opk];rfl
  all_goals exact okp_stuck
 | .call f cs,ρ,M,P=>by rw [k_call,w_ds cs];rfl
 | .bi b cs,ρ,M,P=>by rw [k_bi,w_ws cs];simp only [okp_opk,wE]
 | .me m o cs,ρ,M,P=>by rw [k_me,w_e o];simp only [w_ds cs,okp_opk,wE]
 | .dct ks cs,ρ,M,P=>by rw [k_dct,w_ds cs];rfl
 | .rng tp cs,ρ,M,P=>by simp only [ev,okp_bind,wE];rw [w_ws cs];simp only [okp_opk,opk_rng]
 | .glo x v,ρ,M,P=>by rw [ev];exact okp_ok
 | .isTr ng a,ρ,M,P=>by simp only [ev,okp_bind,wE];rw [w_e a];simp only [okp_opk]
 | .usub a,ρ,M,P=>by simp only [ev,okp_bind,wE];rw [w_e a];simp only [okp_opk]
 | .minD a b,ρ,M,P=>by simp only [ev,okp_bind,wE];rw [w_e a];simp only [w_e b,okp_opk]
 | .comp k src tg cond elt cap,ρ,M,P=>by rw [k_comp,w_ws src];simp only [okp_opk,wE,opk_src]
theorem w_t {G:Fns}:∀ (c:Tst) (ρ:En) (M:Mem) (P:Bool->Mem->Prop),Okp (evT G c ρ M) P=wT G c ρ M P
 | .conj cs,ρ,M,P=>by rw [k_conj,w_all cs];rfl
 | .disj cs,ρ,M,P=>by rw [k_disj,w_any cs];rfl
 | .neg a,ρ,M,P=>by rw [k_neg,w_t a];rfl
 | .val c,ρ,M,P=>by
  rw [k_val,w_e c]
  simp only [wT]
  congr 1;funext w M
  cases truW M w with
  | none=>simp [truK]
  | some r=>simp [truK]
theorem w_and {G:Fns}:∀ (cs:List C) (ρ:En) (M:Mem) (P:W->Mem->Prop),Okp (evAnd G cs ρ M) P=wAnd G cs ρ M P
 | [],ρ,M,P=>by rw [evAnd];exact okp_stuck
 | [c],ρ,M,P=>by simp only [evAnd,wAnd,okp_bind,okp_ok,w_e c]
 | c::b::cs,ρ,M,P=>by
  rw [evAnd,wAnd,okp_bind,w_e c]
  congr 1;funext x M
  rw [<- w_and (b::cs)]
  rcases x with ⟨_ | b | _|_|_|_|_⟩|_
  ·exact okp_stuck
  ·cases b with
   | true=>rfl
   | false=>exact okp_ok
  all_goals exact okp_stuck
theorem w_or {G:Fns}:∀ (cs:List C) (ρ:En) (M:Mem) (P:W->Mem->Prop),Okp (evOr G cs ρ M) P=wOr G cs ρ M P
 | [],ρ,M,P=>by rw [evOr];exact okp_stuck
 | [c],ρ,M,P=>by simp only [evOr,wOr,okp_bind,okp_ok,w_e c]
 | c::b::cs,ρ,M,P=>by
  rw [evOr,wOr,okp_bind,w_e c]
  congr 1;funext x M
  rw [<- w_or (b::cs)]
  rcases x with ⟨_ | b | _|_|_|_|_⟩|_
  ·exact okp_stuck
  ·cases b with
   | true=>exact okp_ok
   | false=>rfl
  all_goals exact okp_stuck
theorem w_all {G:Fns}:∀ (cs:List Tst) (ρ:En) (M:Mem) (P:Bool->Mem->Prop),Okp (evAll G cs ρ M) P=wAll G cs ρ M P
 | [],ρ,M,P=>by rw [evAll];exact okp_stuck
 | [c],ρ,M,P=>by rw [k_all1,w_t c];rfl
 | c::b::cs,ρ,M,P=>by rw [k_all2,w_t c];simp only [w_all (b::cs),<- bK_if];rfl
theorem w_any {G:Fns}:∀ (cs:List Tst) (ρ:En) (M:Mem) (P:Bool->Mem->Prop),Okp (evAny G cs ρ M) P=wAny G cs ρ M P
 | [],ρ,M,P=>by rw [evAny];exact okp_stuck
 | [c],ρ,M,P=>by rw [k_any1,w_t c];rfl
 | c::b::cs,ρ,M,P=>by rw [k_any2,w_t c];simp only [w_any (b::cs),<- bK_if];rfl
theorem w_ds {G:Fns}:∀ (cs:List C) (ρ:En) (M:Mem) (P:List D->Mem->Prop),Okp (evDs G cs ρ M) P=wDs G cs ρ M P
 | [],ρ,M,P=>by rw [k_d0];rfl
 | c::cs,ρ,M,P=>by rw [k_d1,w_e c];simp only [w_ds cs,okp_opk,wDs]
theorem w_ws {G:Fns}:∀ (cs:List C) (ρ:En) (M:Mem) (P:List W->Mem->Prop),Okp (evWs G cs ρ M) P=wWs G cs ρ M P
 | [],ρ,M,P=>by rw [k_w0];rfl
 | c::cs,ρ,M,P=>by rw [k_w1,w_e c];simp only [w_ws cs,okp_opk,wWs]
theorem w_o {G:Fns}:∀ (o:Option C) (ρ:En) (M:Mem) (P:Option Int->Mem->Prop),Okp (evO G o ρ M) P=wO G o ρ M P
 | none,ρ,M,P=>by rw [k_o0];rfl
 | some c,ρ,M,P=>by
  simp only [evO,okp_bind,wO]
  rw [w_e c]
  congr 1;funext x M
  rcases x with ⟨_|_ | z | _|_|_|_⟩|_
  ·exact okp_stuck
  ·exact okp_stuck
  ·exact okp_ok
  all_goals exact okp_stuck
end
theorem w_cond {G:Fns} {o:Option Tst} {ρ:En} {M:Mem} {P:Bool->Mem->Prop}:Okp (evCond G o ρ M) P=wCond G o ρ M P:=by
 cases o with
 | none=>exact okp_ok
 | some t=>exact w_t t ρ M P
theorem w_own {G:Fns} {c:C} {ρ:En} {M:Mem} {P:D->Mem->Prop}:Okp ((ev G c ρ M).bind own) P=wE G c ρ M fun w M=>Opk (own w M) P:=by
 rw [okp_bind,w_e]
 simp only [okp_opk]
mutual
def wS (G:Fns):S->En->Mem->(En->Mem->Prop)->(W->Mem->Prop)->(En->Mem->Prop)->(En->Mem->Prop)->Prop
 | .asg tg c,ρ,M,nx,_,_,_=>wE G c ρ M fun w M=>Opk (own w M) fun d M=>enK (bindT tg d ρ) fun ρ=>nx ρ M
 | .asgC i c,ρ,M,nx,_,_,_=>wE G c ρ M fun w M=>Opk (own w M) fun d M=>nx (ρ.set i (some d)) M
 | .put o i v,ρ,M,nx,_,_,_=>wE G v ρ M fun w M=>Opk (own w M) fun d M=>wE G o ρ M fun x M=>wE G i ρ M fun y M=>Opk (setW x y d M) fun _ M=>nx ρ M
 | .par i j a b,ρ,M,nx,_,_,_=>wE G a ρ M fun w M=>Opk (own w M) fun x M=>wE G b ρ M fun w M=>Opk (own w M) fun y M=>nx ((ρ.set i (some x)).set j (some y)) M
 | .expr c,ρ,M,nx,_,_,_=>wE G c ρ M fun _ M=>nx ρ M
 | .ret c,ρ,M,_,rt,_,_=>wE G c ρ M rt
 | .retN,_,M,_,rt,_,_=>rt (.d .non) M
 | .iff t a b,ρ,M,nx,rt,bk,ct=>wT G t ρ M fun r M=>bK r (wSs G a ρ M nx rt bk ct) (wSs G b ρ M nx rt bk ct)
 | .forr tg k src b,ρ,M,nx,rt,bk,ct=>wWs G src ρ M fun ws M=>wSrc k ws M fun it M=>OkT (forGo (fun ρ M=>evSs G b ρ M) it tg (itLen M it) 0 ρ M) nx rt bk ct
 | .never,_,_,_,_,_,_=>False
 | .pass,ρ,M,nx,_,_,_=>nx ρ M
 | .brk,ρ,M,_,_,bk,_=>bk ρ M
 | .cont,ρ,M,_,_,_,ct=>ct ρ M
def wSs (G:Fns):List S->En->Mem->(En->Mem->Prop)->(W->Mem->Prop)->(En->Mem->Prop)->(En->Mem->Prop)->Prop
 | [],ρ,M,nx,_,_,_=>nx ρ M
 | s::ss,ρ,M,nx,rt,bk,ct=>wS G s ρ M (fun ρ M=>wSs G ss ρ M nx rt bk ct) rt bk ct
end
mutual
theorem w_s {G:Fns}:∀ (s:S) (ρ:En) (M:Mem) (nx:En->Mem->Prop) (rt:W->Mem->Prop) (bk ct:En->Mem->Prop),OkT (evS G s ρ M) nx rt bk ct=wS G s ρ M nx rt bk ct
 | .asg tg c,ρ,M,nx,rt,bk,ct=>by
  simp only [evS,okt_ofE,wS]
  rw [w_own]
  congr 1;funext w M
  congr 1;funext d M
  cases bindT tg d ρ with
  | none=>exact okt_stuck
  | some ρ=>exact okt_nx
 | .asgC i c,ρ,M,nx,rt,bk,ct=>by rw [t_asgC,w_e c];simp only [okp_opk,wS]
 | .put o i v,ρ,M,nx,rt,bk,ct=>by rw [t_put,w_e v];simp only [w_e o,w_e i,okp_opk,wS]
 | .par i j a b,ρ,M,nx,rt,bk,ct=>by
  simp only [evS,okt_ofE]
  rw [w_ds]
  show wE G a ρ M (fun w M=>Opk (own w M) fun x M=>wE G b ρ M fun w M=>Opk (own w M) fun y M=>OkT (.nx ((ρ.set i (some x)).set j (some y)) M) nx rt bk ct)=_
  simp only [okt_nx,wS]
 | .expr c,ρ,M,nx,rt,bk,ct=>by rw [t_expr,w_e c];rfl
 | .ret c,ρ,M,nx,rt,bk,ct=>by rw [t_ret,w_e c];rfl
 | .retN,ρ,M,nx,rt,bk,ct=>okt_rt
 | .iff t a b,ρ,M,nx,rt,bk,ct=>by rw [t_if,w_t t];simp only [w_ss a,w_ss b,wS,bK_if]
 | .forr tg k src b,ρ,M,nx,rt,bk,ct=>by rw [t_for,w_ws src];simp only [okp_opk,wS,opk_src]
 | .never,ρ,M,nx,rt,bk,ct=>okt_stuck
 | .pass,ρ,M,nx,rt,bk,ct=>okt_nx
 | .brk,ρ,M,nx,rt,bk,ct=>okt_bk
 | .cont,ρ,M,nx,rt,bk,ct=>okt_ct
theorem w_ss {G:Fns}:∀ (ss:List S) (ρ:En) (M:Mem) (nx:En->Mem->Prop) (rt:W->Mem->Prop) (bk ct:En->Mem->Prop),OkT (evSs G ss ρ M) nx rt bk ct=wSs G ss ρ M nx rt bk ct
 | [],ρ,M,nx,rt,bk,ct=>t_nil
 | s::ss,ρ,M,nx,rt,bk,ct=>by rw [t_cons,w_s s];simp only [w_ss ss];rfl
end
theorem w_run {G:Fns} {n:Nat} {b:List S} {ds:List D} {M:Mem} {P:W->Mem->Prop}:Okp (runDef G n b ds M) P=wSs G b (startE n ds) M (fun _ M=>P (.d .non) M) P (fun _ _=>False) (fun _ _=>False):=by
 rw [okp_run,w_ss]
abbrev Fn:=List D->Mem->Out W
def Fr (w:Nat) (M M':Mem):Prop:=M.length<=M'.length/\∀ n,n < M.length->n≠w->M'[n]?=M[n]?
abbrev Ex (M M':Mem):Prop:=Fr M.length M M'
theorem lt_of_get {M:Mem} {n:Nat} {o:MO} (h:M[n]?=some o):n < M.length:=(zqa.mp h).1
theorem app_get {M X:Mem} {n:Nat} {o:MO} (h:M[n]?=some o):(M++X)[n]?=some o:=by rw [zqt (lt_of_get h)];exact h
theorem app_last {M:Mem} {o:MO}:(M++[o])[M.length]?=some o:=by simp
theorem set_get {M:Mem} {n m:Nat} {o u:MO} (h:M[n]?=some o) (hn:n≠m):(M.set m u)[n]?=some o:=by rw [List.getElem?_set_ne (Ne.symm hn)];exact h
theorem set_same {M:Mem} {n:Nat} {o u:MO} (h:M[n]?=some o):(M.set n u)[n]?=some u:=List.getElem?_set_self (lt_of_get h)
theorem Fr.refl (w:Nat) (M:Mem):Fr w M M:=⟨zqg _,fun _ _ _=>rfl⟩
theorem Fr.trans {w:Nat} {M M1 M2:Mem} (a:Fr w M M1) (b:Fr w M1 M2):Fr w M M2:=⟨Nat.le_trans a.1 b.1,fun n h k=>(b.2 n (Nat.lt_of_lt_of_le h a.1) k).trans (a.2 n h k)⟩
theorem Fr.app {w:Nat} {M M1 X:Mem} (a:Fr w M M1):Fr w M (M1++X):=⟨by have:=a.1;simp only [zqp];omega,fun n h k=>by rw [zqt (Nat.lt_of_lt_of_le h a.1)];exact a.2 n h k⟩
theorem Fr.set {w n:Nat} {M M1:Mem} {o:MO} (a:Fr w M M1) (h:M.length<=n):Fr w M (M1.set n o):=⟨by rw [List.length_set];exact a.1,fun m hm k=>by rw [List.getElem?_set_ne (by omega)];exact a.2 m hm k⟩
theorem Fr.setw {w:Nat} {M M1:Mem} {o:MO} (a:Fr w M M1):Fr w M (M1.set w o):=⟨by rw [List.length_set];exact a.1,fun m hm k=>by rw [List.getElem?_set_ne (Ne.symm k)];exact a.2 m hm k⟩
theorem Fr.get {w n:Nat} {M M1:Mem} {o:MO} (a:Fr w M M1) (h:M[n]?=some o) (k:n≠w):M1[n]?=some o:=(a.2 n (lt_of_get h) k).trans h
theorem Fr.back {w v:Nat} {M M1 M2:Mem} (a:Fr w M M1) (b:Fr v M1 M2) (h:M.length<=v\/v=w):Fr w M M2:=⟨Nat.le_trans a.1 b.1,fun n hn k=>(b.2 n (Nat.lt_of_lt_of_le hn a.1) (by omega)).trans (a.2 n hn k)⟩
theorem Ex.refl (M:Mem):Ex M M:=Fr.refl _ M
theorem Ex.get {n:Nat} {M M1:Mem} {o:MO} (a:Ex M M1) (h:M[n]?=some o):M1[n]?=some o:=Fr.get a h (Nat.ne_of_lt (lt_of_get h))
theorem Ex.trans {M M1 M2:Mem} (a:Ex M M1) (b:Ex M1 M2):Ex M M2:=Fr.back a b (.inl a.1)
section
variable {M:Mem} {n:Nat} {ds:List D} {i:Int} {x:D}
theorem ix_at (hi:0<=i) (h:ds[i.toNat]?=some x):ixD ds i=some x:=by
 have hl:=(zqa.mp h).1
 unfold ixD atI ixN
 rw [if_pos hi,if_pos (by omega)]
 exact h
theorem sub_lst (hM:M[n]?=some (.lst ds)) (hi:0<=i) (h:ds[i.toNat]?=some x):subW (.d (.adr n)) (.d (.int i)) M=.ok (.d x) M:=by
 unfold subW seqW;simp only [hM,ix_at hi h]
theorem sub_lv (hi:0<=i) (h:ds[i.toNat]?=some x):subW (.lv ds) (.d (.int i)) M=.ok (.d x) M:=by
 unfold subW seqW;simp only [ix_at hi h]
theorem sub_tup (hi:0<=i) (h:ds[i.toNat]?=some x):subW (.d (.tup ds)) (.d (.int i)) M=.ok (.d x) M:=by
 unfold subW seqW;simp only [ix_at hi h]
theorem sub_tupN {m:Nat} (h:ds[m]?=some x):subW (.d (.tup ds)) (.d (.int m)) M=.ok (.d x) M:=sub_tup (Int.natCast_nonneg m) (by rw [Int.toNat_natCast];exact h)
theorem sub_lstN {m:Nat} (hM:M[n]?=some (.lst ds)) (h:ds[m]?=some x):subW (.d (.adr n)) (.d (.int m)) M=.ok (.d x) M:=sub_lst hM (Int.natCast_nonneg m) (by rw [Int.toNat_natCast];exact h)
theorem sub_ls (hi:0<=i) (h:ds[i.toNat]?=some x):subW (.d (.ls ds)) (.d (.int i)) M=.ok (.d x) M:=by
 unfold subW seqW;simp only [ix_at hi h]
theorem m_append (hM:M[n]?=some (.lst ds)) (hl:ds.length < sizeLine):meW .append (.d (.adr n)) [x] M=.ok (.d .non) (M.set n (.lst (ds++[x]))):=by
 unfold meW;simp only [hM,if_pos hl]
theorem m_insert (hM:M[n]?=some (.lst ds)) (hl:ds.length < sizeLine) (h0:0<=i) (h1:i<=ds.length):meW .insert (.d (.adr n)) [.int i,x] M=.ok (.d .non) (M.set n (.lst (ds.take i.toNat++x::ds.drop i.toNat))):=by
 unfold meW;simp only [hM];rw [if_pos ⟨hl,h0,h1⟩]
theorem lst_some (hM:M[n]?=some (.lst ds)):(lstW M (.d (.adr n))).isSome=true:=by unfold lstW;simp only [hM];rfl
theorem len_lst (hM:M[n]?=some (.lst ds)):biW .len [.d (.adr n)] M=.ok (.d (.int ds.length)) M:=by unfold biW seqW;simp only [hM]
theorem tuple_lst (hM:M[n]?=some (.lst ds)):biW .tuple1 [.d (.adr n)] M=.ok (.d (.tup ds)) M:=by unfold biW seqW;simp only [hM]
theorem sr_lst (hM:M[n]?=some (.lst ds)):srcW .seq [.d (.adr n)] M=.ok (.at n) M:=by
 unfold srcW seqW;simp only [hM];rfl
theorem l_at (hM:M[n]?=some (.lst ds)):itLen M (.at n)=ds.length:=by unfold itLen;simp only [hM]
theorem put_lst {m:Nat} (hM:M[n]?=some (.lst ds)) (hm:m < ds.length):setW (.d (.adr n)) (.d (.int m)) x M=.ok () (M.set n (.lst (ds.set m x))):=by
 unfold setW;simp only [hM]
 have:ixN ds.length (m:Int)=some m:=by
  unfold ixN
  rw [if_pos (by omega),if_pos (by omega)]
  simp
 simp only [this]
theorem put_lstI (hM:M[n]?=some (.lst ds)) (hi:0<=i) (hm:i.toNat < ds.length):setW (.d (.adr n)) (.d (.int i)) x M=.ok () (M.set n (.lst (ds.set i.toNat x))):=by
 have:=put_lst (x:=x) hM hm
 rw [show ((i.toNat:Nat):Int)=i by omega] at this
 exact this
end
theorem small_le {n:Nat} (h:n<=1000):n<=sizeLine:=Nat.le_trans h (by decide)
theorem small_lt {n:Nat} (h:n<=1000):n < sizeLine:=Nat.lt_of_le_of_lt h (by decide)
theorem take_next {α:Type} {l:List α} {k:Nat} {x:α} (h:l[k]?=some x):l.take (k+1)=l.take k++[x]:=by
 rw [List.take_add_one,h];rfl
theorem sh_str {x:Str} (h:PyData.strOk x=true):SeqAt.shaped (.str x)=true:=by
 unfold SeqAt.shaped
 rw [PyData.canLay0.eq_4,h,PyData.depth.eq_7];rfl
theorem eqv_str {x y:Str}:PyData.eqv (.str x) (.str y)=(x == y):=PyData.eqv.eq_6 x y
theorem py_str {M:Mem} {x:Str}:pyW M (.d (.str x))=some (.str x):=by show pyD M 30 (.str x)=_;unfold pyD;rfl
theorem c_eqS {M:Mem} {x y:Str} (hx:PyData.strOk x=true) (hy:PyData.strOk y=true):cmpW .eq (.d (.str x)) (.d (.str y)) M=.ok (x == y) M:=by
 unfold cmpW;simp only [py_str,sh_str hx,sh_str hy,and_self,if_true,eqv_str]
theorem c_neS {M:Mem} {x y:Str} (hx:PyData.strOk x=true) (hy:PyData.strOk y=true):cmpW .ne (.d (.str x)) (.d (.str y)) M=.ok (!(x == y)) M:=by
 unfold cmpW;simp only [py_str,sh_str hx,sh_str hy,and_self,if_true,eqv_str]
section
variable {G:Fns} {b:List S} {tg:List Nat} {ρ:En} {M:Mem} {nx:En->Mem->Prop} {rt:W->Mem->Prop} {bk ct:En->Mem->Prop}
theorem f_rng {lo : Int} {n : Nat} (I : Nat -> En -> Mem -> Prop) (h0 : I 0 ρ M)
    (hs:∀ i ρ M,i < n->I i ρ M->enK (bindT tg (.int (lo+i)) ρ) fun ρ=>wSs G b ρ M (I (i+1)) rt nx (I (i+1))) (he:∀ ρ M,I n ρ M->nx ρ M):OkT (forGo (fun ρ M=>evSs G b ρ M) (.rng lo n) tg n 0 ρ M) nx rt bk ct:=by
  have hlen:((List.range n).map fun i=>D.int (lo+(i:Nat))).length=n:=by simp
  refine for_ok (ds:=(List.range n).map fun i=>D.int (lo+(i:Nat))) I (fun i ρ M _ hi=>?_) (fun i ρ M d h e=>?_) (fun ρ M h=>he ρ M (by rw [hlen] at h;exact h)) n 0 ρ M h0 (by rw [hlen];omega)
  · rw [hlen] at hi
    show some (if i < n then some (D.int (lo+i)) else none)=_
    by_cases q:i < n
    · rw [if_pos q];simp [q]
    · rw [if_neg q,List.getElem?_eq_none (by rw [hlen];omega)]
  · have hi:i < n:=by have:=(zqa.mp e).1;rw [hlen] at this;exact this
    have:d=.int (lo+i):=by rw [zqk,List.getElem?_range hi] at e;exact (zql e).symm
    subst this
    have q:=hs i ρ M hi h
    cases e2:bindT tg (.int (lo+i)) ρ with
    | none=>rw [e2] at q;exact q.elim
    | some ρ'=>rw [e2] at q;exact ⟨ρ',rfl,by rw [w_ss];exact q⟩
theorem f_items {ds : List D} (I : Nat -> En -> Mem -> Prop) (h0 : I 0 ρ M)
    (hs:∀ i ρ M d,ds[i]?=some d->I i ρ M->enK (bindT tg d ρ) fun ρ=>wSs G b ρ M (I (i+1)) rt nx (I (i+1))) (he:∀ ρ M,I ds.length ρ M->nx ρ M):OkT (forGo (fun ρ M=>evSs G b ρ M) (.items ds) tg ds.length 0 ρ M) nx rt bk ct :=
  for_ok (ds:=ds) I (fun i ρ M _ _=>rfl) (fun i ρ M d h e=>by
    have q:=hs i ρ M d e h
    cases e2:bindT tg d ρ with
    | none=>rw [e2] at q;exact q.elim
    | some ρ'=>rw [e2] at q;exact ⟨ρ',rfl,by rw [w_ss];exact q⟩) he ds.length 0 ρ M h0 (by omega)
theorem f_at {n : Nat} {ds : List D} (I : Nat -> En -> Mem -> Prop) (hM : ∀ i ρ M, I i ρ M -> M[n]? = some (.lst ds)) (h0 : I 0 ρ M)
    (hs:∀ i ρ M d,ds[i]?=some d->I i ρ M->enK (bindT tg d ρ) fun ρ=>wSs G b ρ M (I (i+1)) rt nx (I (i+1))) (he:∀ ρ M,I ds.length ρ M->nx ρ M):OkT (forGo (fun ρ M=>evSs G b ρ M) (.at n) tg (itLen M (.at n)) 0 ρ M) nx rt bk ct:=by
  rw [l_at (hM 0 ρ M h0)]
  exact for_ok (ds:=ds) I (fun i ρ M h _=>by unfold itemAt;simp only [hM i ρ M h]) (fun i ρ M d h e=>by
    have q:=hs i ρ M d e h
    cases e2:bindT tg d ρ with
    | none=>rw [e2] at q;exact q.elim
    | some ρ'=>rw [e2] at q;exact ⟨ρ',rfl,by rw [w_ss];exact q⟩) he ds.length 0 ρ M h0 (by omega)
end
theorem setAll_set:∀ (tg:List Nat) (ds:List D) (ρ:En) (i:Nat) (o:Option D),i∉tg->setAll tg ds (ρ.set i o)=(setAll tg ds ρ).map (·.set i o)
 | [],[],_,_,_,_=>rfl
 | [],_::_,_,_,_,_=>rfl
 | _::_,[],_,_,_,_=>rfl
 | j::tg,d::ds,ρ,i,o,h=>by
  have h1:i≠j:=fun z=>h (by rw [z];exact List.mem_cons_self)
  show setAll tg ds ((ρ.set i o).set j (some d))=_
  rw [List.set_comm _ _ h1,setAll_set tg ds _ i o fun z=>h (zqi _ z)]
  rfl
theorem setAll_twice:∀ (tg:List Nat) (ds es:List D) (ρ ρ':En),tg.Nodup->setAll tg ds ρ=some ρ'->setAll tg es ρ'=setAll tg es ρ
 | [],[],[],_,_,_,e=>by cases e;rfl
 | [],[],_::_,_,_,_,e=>by cases e;rfl
 | [],_::_,_,_,_,_,e=>by cases e
 | _::_,[],_,_,_,_,e=>by cases e
 | j::tg,d::ds,[],ρ,ρ',n,e=>rfl
 | j::tg,d::ds,f::es,ρ,ρ',n,e=>by
  have n1:=List.nodup_cons.mp n
  have e:setAll tg ds (ρ.set j (some d))=some ρ':=e
  show setAll tg es (ρ'.set j (some f))=setAll tg es (ρ.set j (some f))
  have e2:=setAll_set tg ds (ρ.set j (some d)) j (some f) n1.1
  rw [e,List.set_set] at e2
  exact setAll_twice tg ds es _ _ n1.2 e2
theorem bindT_twice {tg:List Nat} {d e:D} {ρ ρ':En} (n:tg.Nodup) (h:bindT tg d ρ=some ρ'):bindT tg e ρ'=bindT tg e ρ:=by
 match tg,n,h with
 | [i],_,h =>
  have h:some (ρ.set i (some d))=some ρ':=h
  cases h
  show some ((ρ.set i (some d)).set i (some e))=some (ρ.set i (some e))
  rw [List.set_set]
 | [],_,h =>
  cases d <;> first | cases h | skip
  cases e <;> first | rfl | skip
  exact setAll_twice [] _ _ _ _ List.nodup_nil h
 | i::j::tg,n,h =>
  cases d <;> first | cases h | skip
  cases e <;> first | rfl | skip
  exact setAll_twice (i::j::tg) _ _ _ _ n h
section
variable {G:Fns} {cond:Option Tst} {elt:C} {tg:List Nat} {ρ:En} {M:Mem} {P:W->Mem->Prop}
theorem c_gen {it : It} {ds : List D} (I : Nat -> Mem -> List D -> Prop) (n : tg.Nodup) (hit : ∀ i M acc, I i M acc -> i <= ds.length -> itemAt M i it = some ds[i]?) (h0 : I 0 M [])
    (hs:∀ i M acc d,ds[i]?=some d->I i M acc->acc.length < sizeLine/\enK (bindT tg d ρ) fun τ=>wCond G cond τ M fun r M=>if r=true then wE G elt τ M fun w M=>Opk (own w M) fun x M=>I (i+1) M (acc++[x]) else I (i+1) M acc)
    (he:∀ M acc,I ds.length M acc->P (.lv acc) M) {k:Nat} (hk:k=ds.length):Okp (compGo (fun τ M=>evCond G cond τ M) (fun τ M=>(ev G elt τ M).bind own) it tg k 0 ρ M []) P:=by
  subst hk
  refine comp_ok (ds:=ds) (fun i τ M acc=>I i M acc/\(τ=ρ\/∃ d,bindT tg d ρ=some τ)) (fun i τ M acc h hi=>hit i M acc h.1 hi) (fun i τ M acc d h e=>?_) (fun τ M acc h=>he M acc h.1) ds.length 0 ρ M [] ⟨h0,.inl rfl⟩ (by omega)
  obtain ⟨q1,q2⟩:=hs i M acc d e h.1
  have hb:bindT tg d τ=bindT tg d ρ:=by
    rcases h.2 with z | ⟨d',z⟩
    · rw [z]
    · exact bindT_twice n z
  refine ⟨q1,?_⟩
  cases e2:bindT tg d ρ with
  | none=>rw [e2] at q2;exact q2.elim
  | some τ' =>
    rw [e2] at q2
    refine ⟨τ',by rw [hb,e2],?_⟩
    have q2:wCond G cond τ' M (fun r M=>if r=true then wE G elt τ' M fun w M=>Opk (own w M) fun x M=>I (i+1) M (acc++[x]) else I (i+1) M acc):=q2
    rw [<- w_cond] at q2
    refine q2.imp fun r M1 q3=>?_
    cases r with
    | true =>
      rw [if_pos rfl] at q3 ⊢
      rw [w_own]
      rw [<- w_own] at q3 ⊢
      exact q3.imp fun x M2 q4=>⟨q4,.inr ⟨d,e2⟩⟩
    | false =>
      rw [if_neg (by simp)] at q3 ⊢
      exact ⟨q3,.inr ⟨d,e2⟩⟩
theorem c_map {it : It} {ds : List D} (f : D -> Option D) (n : tg.Nodup) (hit : ∀ M', Ex M M' -> ∀ i, i <= ds.length -> itemAt M' i it = some ds[i]?) (hl : ds.length <= sizeLine)
    (hs:∀ (i:Nat) M' d,ds[i]?=some d->Ex M M'->enK (bindT tg d ρ) fun τ=>wCond G cond τ M' fun r M1=>if r=true then wE G elt τ M1 fun w M1=>Opk (own w M1) fun x M1=>f d=some x/\Ex M M1 else f d=none/\Ex M M1)
    (he:∀ M',Ex M M'->P (.lv (ds.filterMap f)) M') {k:Nat} (hk:k=ds.length):Okp (compGo (fun τ M=>evCond G cond τ M) (fun τ M=>(ev G elt τ M).bind own) it tg k 0 ρ M []) P:=by
  refine c_gen (ds:=ds) (fun i M' acc=>Ex M M'/\acc=(ds.take i).filterMap f) n (fun i M' acc h hi=>hit M' h.1 i hi) ⟨Ex.refl M,rfl⟩ ?_ (fun M' acc h=>?_) hk
  · rintro i M' acc d hd ⟨h1,rfl⟩
    have hi:=(zqa.mp hd).1
    refine ⟨?_,?_⟩
    · have:=List.length_filterMap_le f (ds.take i)
      rw [List.length_take] at this
      omega
    · have q:=hs i M' d hd h1
      have e:∀ o,f d=o->(ds.take (i+1)).filterMap f=(ds.take i).filterMap f++o.toList:=fun o ho=>by
        rw [take_next hd,List.filterMap_append]
        cases o <;> simp [List.filterMap_cons,ho]
      cases e2:bindT tg d ρ with
      | none=>rw [e2] at q;exact q.elim
      | some τ' =>
        rw [e2] at q
        have q:wCond G cond τ' M' (fun r M1=>if r=true then wE G elt τ' M1 fun w M1=>Opk (own w M1) fun x M1=>f d=some x/\Ex M M1 else f d=none/\Ex M M1):=q
        show wCond G cond τ' M' (fun r M1=>if r=true then wE G elt τ' M1 fun w M1=>Opk (own w M1) fun x M1=>Ex M M1/\(ds.take i).filterMap f++[x]=(ds.take (i+1)).filterMap f else Ex M M1/\(ds.take i).filterMap f=(ds.take (i+1)).filterMap f)
        rw [<- w_cond] at q ⊢
        refine q.imp fun r M1 q3=>?_
        cases r with
        | true =>
          rw [if_pos rfl] at q3 ⊢
          rw [<- w_own] at q3 ⊢
          exact q3.imp fun x M2 q4=>⟨q4.2,by rw [e _ q4.1];rfl⟩
        | false =>
          rw [if_neg (by simp)] at q3 ⊢
          exact ⟨q3.2,by rw [e _ q3.1];simp⟩
  · obtain ⟨h1,rfl⟩:=h
    rw [List.take_length]
    exact he M' h1
theorem it_items {M:Mem} {ds:List D}:∀ M',Ex M M'->∀ i,i<=ds.length->itemAt M' i (.items ds)=some ds[i]?:=fun _ _ _ _=>rfl
theorem it_at {M:Mem} {n:Nat} {ds:List D} (h:M[n]?=some (.lst ds)):∀ M',Ex M M'->∀ i,i<=ds.length->itemAt M' i (.at n)=some ds[i]?:=fun M' e i _=>by unfold itemAt;simp only [Ex.get e h]
theorem it_rng {M:Mem} {lo:Int} {n:Nat}:∀ M',Ex M M'->∀ i,i<=((List.range n).map fun i=>D.int (lo+(i:Nat))).length->itemAt M' i (.rng lo n)=some ((List.range n).map fun i=>D.int (lo+(i:Nat)))[i]?:=fun M' e i hi=>by
 have hlen:((List.range n).map fun i=>D.int (lo+(i:Nat))).length=n:=by simp
 rw [hlen] at hi
 show some (if i < n then some (D.int (lo+i)) else none)=_
 by_cases q:i < n
 ·rw [if_pos q];simp [q]
 ·rw [if_neg q,List.getElem?_eq_none (by rw [hlen];omega)]
theorem c_rng {lo : Int} {n : Nat} (I : Nat -> Mem -> List D -> Prop) (nd : tg.Nodup) (h0 : I 0 M [])
    (hs:∀ i M acc,i < n->I i M acc->acc.length < sizeLine/\enK (bindT tg (.int (lo+i)) ρ) fun τ=>wCond G cond τ M fun r M=>if r=true then wE G elt τ M fun w M=>Opk (own w M) fun x M=>I (i+1) M (acc++[x]) else I (i+1) M acc)
    (he:∀ M acc,I n M acc->P (.lv acc) M):Okp (compGo (fun τ M=>evCond G cond τ M) (fun τ M=>(ev G elt τ M).bind own) (.rng lo n) tg (itLen M (.rng lo n)) 0 ρ M []) P:=by
  have hlen:((List.range n).map fun i=>D.int (lo+(i:Nat))).length=n:=by simp
  refine c_gen (ds:=(List.range n).map fun i=>D.int (lo+(i:Nat))) I nd (fun i M' acc _ hi=>it_rng M' (Ex.refl M') i hi) h0 (fun i M' acc d e h=>?_) (fun M' acc h=>he M' acc (by rw [hlen] at h;exact h)) (by rw [hlen];rfl)
  have hi:i < n:=by have:=(zqa.mp e).1;rw [hlen] at this;exact this
  have:d=.int (lo+i):=by rw [zqk,List.getElem?_range hi] at e;exact (zql e).symm
  subst this
  exact hs i M' acc hi h
theorem it_zip {M:Mem} {xs ys:List D}:∀ M',Ex M M'->∀ i,i<=(List.zipWith (fun a b=>D.tup [a,b]) xs ys).length->itemAt M' i (.zip (.items xs) (.items ys))=some (List.zipWith (fun a b=>D.tup [a,b]) xs ys)[i]?:=fun M' _ i _=>by
 show some (zipAt xs ys i)=_
 unfold zipAt
 rw [List.getElem?_zipWith]
 cases xs[i]? <;> cases ys[i]? <;> rfl
end
end Ev
end
local macro_rules
  | `(tactic| nofun) => `(tactic| conv => whnf)
section
namespace Ev
open L2
open PySem PySem.Spec PyProof.Rows
def bAnswer:List S:=[.forr [4] .seq [(.sub (.sub (.sub (.var 0) (.cst (.int 0))) (.var 1)) (.cst (.int 1)))] [.iff (.conj [(.val (.cmp .eq (.sub (.var 4) (.cst (.int 0))) (.var 2))),(.val (.cmp .eq (.sub (.var 4) (.cst (.int 1))) (.var 3)))]) [.ret (.tup [(.sub (.var 4) (.cst (.int 2))),(.sub (.var 4) (.cst (.int 3))),(.sub (.var 4) (.cst (.int 4)))])] []],.iff (.val (.cmp .eq (.var 3) (.cst (.str "own")))) [.ret (.cst .non)] [],.ret (.tup [(.var 2),(.tup []),(.cst .non)])]
def bWell:List S:=[.asg [2] (.bin .mul (.cst (.int 31)) (.var 1)),.iff (.val (.cmp .gt (.bi .len [(.var 0)]) (.cst (.int 0)))) [.asg [2] (.bin .add (.sub (.var 0) (.bin .mod (.var 1) (.bi .len [(.var 0)]))) (.bin .mul (.cst (.int 7919)) (.bin .fdiv (.var 1) (.bi .len [(.var 0)]))))] [],.ret (.dct ["cell","left","turn"] [(.var 2),(.bin .mul (.bi .max2 [(.cst (.int 0)),(.var 2)]) (.bi .int1 [(.cmp .ge (.var 2) (.bin .pow (.cst (.int 10)) (.cst (.int 18))))])),(.cst (.int 0))])]
def bDraw:List S:=[.asg [2] (.sub (.var 0) (.cst (.str "turn"))),.put (.var 0) (.cst (.str "turn")) (.bin .add (.var 2) (.cst (.int 1))),.asg [3] (.sub (.var 0) (.cst (.str "left"))),.iff (.val (.cmp .gt (.var 3) (.cst (.int 0)))) [.put (.var 0) (.cst (.str "left")) (.bin .fdiv (.var 3) (.var 1)),.ret (.bin .mod (.var 3) (.var 1))] [],.asg [4] (.bin .add (.bin .add (.bin .mod (.sub (.var 0) (.cst (.str "cell"))) (.cst (.int 2147483647))) (.bin .mul (.bin .mul (.cst (.int 31)) (.var 2)) (.var 2))) (.cst (.int 1))),.asg [5] (.bin .mod (.bin .mul (.var 4) (.bin .add (.cst (.int 48271)) (.bin .mul (.cst (.int 40)) (.var 2)))) (.cst (.int 2147483629))),.ret (.bin .mod (.bin .fdiv (.bin .mod (.bin .add (.bin .mul (.bin .fdiv (.var 5) (.cst (.int 11))) (.cst (.int 69621))) (.var 2)) (.cst (.int 998244353))) (.cst (.int 7))) (.var 1))]
def bRoads (kDraw:Nat):List S:=[.asg [2] (.lst []),.iff (.val (.cmp .gt (.var 1) (.cst (.int 1)))) [.asg [3] (.lst [(.call kDraw [(.var 0),(.cst (.int 4))]),(.bin .add (.cst (.int 1)) (.call kDraw [(.var 0),(.cst (.int 5))])),(.cst (.int 8))]),.forr [4] .rng1 [(.sub (.var 3) (.bin .fdiv (.call kDraw [(.var 0),(.cst (.int 9))]) (.cst (.int 4))))] [.asg [5] (.call kDraw [(.var 0),(.var 1)]),.asg [6] (.bin .mod (.bin .add (.bin .add (.var 5) (.cst (.int 1))) (.call kDraw [(.var 0),(.bin .sub (.var 1) (.cst (.int 1)))])) (.var 1)),.expr (.me .append (.var 2) [(.tup [(.var 5),(.var 6),(.sub (.lst [(.cst (.str "row")),(.cst (.str "heap"))]) (.call kDraw [(.var 0),(.cst (.int 2))]))])])]] [],.ret (.bi .tuple1 [(.var 2)])]
def bStates (kDraw:Nat):List S:=[.asg [1] (.lst [(.call kDraw [(.var 0),(.cst (.int 100))])]),.asg [2] (.lst [(.call kDraw [(.var 0),(.cst (.int 3))]),(.cst (.int 6))]),.forr [3] .rng1 [(.sub (.var 2) (.bin .fdiv (.call kDraw [(.var 0),(.cst (.int 16))]) (.cst (.int 15))))] [.asg [4] (.sub (.lst [(.call kDraw [(.var 0),(.cst (.int 100))]),(.var 3)]) (.call kDraw [(.var 0),(.cst (.int 2))])),.iff (.val (.cmp .notin (.var 4) (.var 1))) [.expr (.me .append (.var 1) [(.var 4)])] []],.ret (.var 1)]
def bSends (kDraw:Nat):List S:=[.asg [2] (.lst []),.forr [3] .rng1 [(.bin .mul (.sub (.lst [(.cst (.int 0)),(.cst (.int 0)),(.cst (.int 1)),(.cst (.int 1)),(.cst (.int 1)),(.cst (.int 2)),(.cst (.int 3))]) (.call kDraw [(.var 0),(.cst (.int 7))])) (.bi .int1 [(.cmp .gt (.bi .len [(.var 1)]) (.cst (.int 0)))]))] [.asg [4] (.sub (.var 1) (.call kDraw [(.var 0),(.bi .len [(.var 1)])])),.expr (.me .append (.var 2) [(.tup [(.var 4),(.sub (.cst (.str "abcz")) (.call kDraw [(.var 0),(.cst (.int 4))]))])])],.ret (.bi .tuple1 [(.var 2)])]
def bMoves (kDraw:Nat) (kSends:Nat):List S:=[.asg [3] (.lst [(.cst .non),(.cst .non),(.cst .non),(.cst (.str "x")),(.cst (.str "yes")),(.cst (.str "abcdefgh")),(.cst (.str "own")),(.cst (.str "a"))]),.asg [4] (.lst []),.forr [5] .seq [(.var 1)] [.forr [6] .seq [(.tup [(.cst (.str "own")),(.cst (.str "a")),(.cst (.str "b")),(.cst (.str "z"))])] [.iff (.val (.cmp .gt (.call kDraw [(.var 0),(.cst (.int 4))]) (.cst (.int 0)))) [.asg [7] (.sub (.var 1) (.call kDraw [(.var 0),(.bi .len [(.var 1)])])),.asg [8] (.call kSends [(.var 0),(.var 2)]),.asg [9] (.sub (.var 3) (.call kDraw [(.var 0),(.cst (.int 8))])),.asg [10] (.call kDraw [(.var 0),(.bin .add (.bi .len [(.var 4)]) (.cst (.int 1)))]),.expr (.me .insert (.var 4) [(.var 10),(.tup [(.var 5),(.var 6),(.var 7),(.var 8),(.var 9)])])] []]],.ret (.bi .tuple1 [(.var 4)])]
def bForm (kWell:Nat) (kDraw:Nat) (kRoads:Nat) (kStates:Nat) (kMoves:Nat):List S:=[.asg [1] (.call kWell [(.var 0),(.cst (.int 0))]),.asg [2] (.sub (.lst [(.cst (.int 2)),(.cst (.int 1)),(.cst (.int 3)),(.cst (.int 2)),(.cst (.int 4)),(.cst (.int 3))]) (.call kDraw [(.var 1),(.cst (.int 6))])),.asg [3] (.call kRoads [(.var 1),(.var 2)]),.asg [4] (.lst []),.forr [5] .rng1 [(.var 2)] [.asg [1] (.call kWell [(.var 0),(.bin .add (.cst (.int 1)) (.var 5))]),.asg [6] (.call kStates [(.var 1)]),.asgC 7 (.comp .rng1 [(.bi .len [(.var 3)])] [1] (some (.val (.cmp .eq (.sub (.sub (.var 3) (.var 1)) (.cst (.int 0))) (.var 2)))) (.var 1) [none,none,some 5,some 3]),.asg [8] (.sub (.var 6) (.call kDraw [(.var 1),(.bi .len [(.var 6)])])),.expr (.me .append (.var 4) [(.tup [(.var 8),(.call kMoves [(.var 1),(.var 6),(.var 7)])])])],.ret (.tup [(.bi .tuple1 [(.var 4)]),(.var 3)])]
def bLawAns:List S:=[.asgC 4 (.comp .seq [(.sub (.sub (.sub (.var 0) (.cst (.int 0))) (.var 1)) (.cst (.int 1)))] [1] (some (.val (.cmp .eq (.slc (.var 1) none (some (.cst (.int 2)))) (.tup [(.var 3),(.var 2)])))) (.slc (.var 1) (some (.cst (.int 2))) none) [none,none,some 3,some 2]),.iff (.val (.cmp .ne (.var 4) (.lst []))) [.ret (.sub (.var 4) (.cst (.int 0)))] [],.ret (.ite (.val (.cmp .eq (.var 3) (.cst (.str "own")))) (.cst .non) (.tup [(.var 2),(.tup []),(.cst .non)]))]
def wellO (c l t:Int):MO:=.dK [(Sum.inr ("cell" : Str),.int c),(Sum.inr ("left" : Str),.int l),(Sum.inr ("turn" : Str),.int t)]
section
variable {M:Mem} {w:Nat} {c l t:Int}
theorem get_cell (h:M[w]?=some (wellO c l t)):subW (.d (.adr w)) (.d (.str "cell")) M=.ok (.d (.int c)) M:=by
 unfold subW;simp only [h];rfl
theorem get_left (h:M[w]?=some (wellO c l t)):subW (.d (.adr w)) (.d (.str "left")) M=.ok (.d (.int l)) M:=by
 unfold subW;simp only [h];rfl
theorem get_turn (h:M[w]?=some (wellO c l t)):subW (.d (.adr w)) (.d (.str "turn")) M=.ok (.d (.int t)) M:=by
 unfold subW;simp only [h];rfl
theorem put_left (h:M[w]?=some (wellO c l t)) (i:Int):setW (.d (.adr w)) (.d (.str "left")) (.int i) M=.ok () (M.set w (wellO c i t)):=by
 unfold setW;simp only [h];rfl
theorem put_turn (h:M[w]?=some (wellO c l t)) (i:Int):setW (.d (.adr w)) (.d (.str "turn")) (.int i) M=.ok () (M.set w (wellO c l i)):=by
 unfold setW;simp only [h];rfl
end
theorem draw_ok {G : Fns} {M : Mem} {w : Nat} {c l t many : Int} (h : M[w]? = some (wellO c l t)) (ht : 0 <= t /\ t < 2 ^ 40) (hl : 0 <= l) (hm : 0 < many /\ many < 1073741824) :
    Okp (runDef G 6 bDraw [.adr w,.int many] M) fun r M'=>∃ i l',r=.d (.int i)/\0<=i/\i < many/\0<=l'/\M'=M.set w (wellO c l' (t+1)):=by
  have hw:w < M.length:=(zqa.mp h).1
  rw [w_run]
  show wSs G bDraw [some (.adr w),some (.int many),none,none,none,none] M _ _ _ _
  have h1:(M.set w (wellO c l (t+1)))[w]?=some (wellO c l (t+1)):=List.getElem?_set_self hw
  nofun
  rw [get_turn h]
  nofun
  rw [put_turn h]
  nofun
  rw [get_left h1]
  nofun
  by_cases hp:0 < l
  · rw [decide_eq_true hp]
    nofun
    refine ⟨hm,?_⟩
    nofun
    rw [put_left h1]
    nofun
    refine ⟨hm.1,_,l / many,rfl,Int.emod_nonneg _ (by omega),Int.emod_lt_of_pos _ hm.1,Int.ediv_nonneg hl (by omega),?_⟩
    rw [List.set_set]
  · rw [decide_eq_false hp]
    nofun
    rw [get_cell h1]
    nofun
    refine ⟨by omega,?_⟩
    nofun
    refine ⟨by omega,?_⟩
    nofun
    refine ⟨by omega,?_⟩
    nofun
    refine ⟨by omega,?_⟩
    nofun
    refine ⟨by omega,?_⟩
    nofun
    refine ⟨by omega,?_⟩
    nofun
    refine ⟨by omega,?_⟩
    nofun
    refine ⟨by omega,?_⟩
    nofun
    refine ⟨by omega,?_⟩
    nofun
    refine ⟨by omega,?_⟩
    nofun
    exact ⟨hm.1,_,l,rfl,Int.emod_nonneg _ (by omega),Int.emod_lt_of_pos _ hm.1,hl,rfl⟩
def WA (M:Mem) (w:Nat) (T:Int):Prop:=∃ c l t,M[w]?=some (wellO c l t)/\0<=l/\0<=t/\t<=T
theorem WA.lt {M:Mem} {w:Nat} {T:Int} (h:WA M w T):w < M.length:=by obtain ⟨c,l,t,h,_⟩:=h;exact lt_of_get h
theorem WA.app {M X:Mem} {w:Nat} {T:Int} (h:WA M w T):WA (M++X) w T:=by obtain ⟨c,l,t,h,q⟩:=h;exact ⟨c,l,t,app_get h,q⟩
theorem WA.set {M:Mem} {w n:Nat} {T:Int} {o:MO} (h:WA M w T) (k:w≠n):WA (M.set n o) w T:=by obtain ⟨c,l,t,h,q⟩:=h;exact ⟨c,l,t,set_get h k,q⟩
theorem WA.mono {M:Mem} {w:Nat} {T T2:Int} (h:WA M w T) (k:T<=T2):WA M w T2:=by obtain ⟨c,l,t,h,a,b,q⟩:=h;exact ⟨c,l,t,h,a,b,Int.le_trans q k⟩
theorem WA.fr {M M1:Mem} {w v:Nat} {T:Int} (h:WA M w T) (f:Fr v M M1) (k:w≠v):WA M1 w T:=by obtain ⟨c,l,t,h,q⟩:=h;exact ⟨c,l,t,f.get h k,q⟩
section
variable {M:Mem} {n:Nat} {ds:List D} {i:Int} {x:D}
theorem pick {P:D->Prop} {k:Nat} (h:∀ d∈ds,P d) (h0:0<=i) (h1:i < k) (hk:k=ds.length):∃ d,ds[i.toNat]?=some d/\P d:=by
 have hl:i.toNat < ds.length:=by omega
 exact ⟨ds[i.toNat],zqb hl,h _ (List.getElem_mem hl)⟩
end
def DrawAt (F:Fn):Prop:=∀ (M:Mem) (w:Nat) (T many:Int),WA M w T->T < 2 ^ 40->0 < many->many < 1073741824->Okp (F [.adr w,.int many] M) fun r M'=>∃ i,r=.d (.int i)/\0<=i/\i < many/\WA M' w (T+1)/\Fr w M M'
theorem drawAt {G:Fns}:DrawAt (runDef G 6 bDraw):=by
 intro M w T many ⟨c,l,t,h,hl,h0,h1⟩ hT hm hm2
 refine (draw_ok h ⟨h0,by omega⟩ hl ⟨hm,hm2⟩).imp ?_
 rintro r M' ⟨i,l',e,a,b,hl',rfl⟩
 exact ⟨i,e,a,b,⟨c,l',t+1,set_same h,hl',by omega,by omega⟩,(Fr.refl w M).setw⟩
def WellF (F:Fn):Prop:=∀ (M:Mem) (ns:List Int) (k:Int),0<=k->k < 2 ^ 40->ns.length<=63->Okp (F [.ls (ns.map D.int),.int k] M) fun r M'=>r=.d (.adr M.length)/\M'.length=M.length+1/\WA M' M.length 0/\Fr M.length M M'
theorem wellF {G:Fns}:WellF (runDef G 3 bWell):=by
 intro M ns k hk hk2 hns
 rw [w_run]
 show wSs G bWell [some (.ls (ns.map D.int)),some (.int k),none] M _ _ _ _
 have fin:∀ (c:Int) (b:Bool),WA (M++[MO.dK ((List.map Sum.inr [(("cell" : Str)),"left","turn"]).zip [D.int c,D.int ((if c > 0 then c else 0) * if b=true then 1 else 0),D.int 0])]) M.length 0:=by
  intro c b
  refine ⟨c,_,0,app_last,?_,zqm _,zqm _⟩
  refine Int.mul_nonneg ?_ ?_ <;> split <;> omega
 have hb:∀ b:Bool,(-(2 ^ 64):Int) < (if b=true then 1 else 0)/\(if b=true then 1 else 0) < (2 ^ 64:Int):=fun b=>by split <;> omega
 have hlen:∀ x:MO,(M++[x]).length=M.length+1:=fun x=>by simp
 nofun
 refine ⟨by omega,?_⟩
 nofun
 by_cases hp:(0:Int) < (ns.map D.int).length
 ·rw [decide_eq_true hp]
  have hl:(ns.map D.int).length=ns.length:=zqe _
  have hr:0<=k % ((ns.map D.int).length:Int):=Int.emod_nonneg _ (by omega)
  have hr2:k % ((ns.map D.int).length:Int) < ((ns.map D.int).length:Int):=Int.emod_lt_of_pos _ hp
  have hlt:(k % ((ns.map D.int).length:Int)).toNat < ns.length:=by omega
  have hg:(ns.map D.int)[(k % ((ns.map D.int).length:Int)).toNat]?=some (.int ns[(k % ((ns.map D.int).length:Int)).toNat]):=by
   rw [zqk,zqb hlt];rfl
  nofun
  refine ⟨by omega,?_⟩
  nofun
  rw [sub_ls hr hg]
  nofun
  refine ⟨⟨by omega,by omega⟩,?_⟩
  nofun
  refine ⟨.inl (by omega),?_⟩
  nofun
  refine ⟨.inr (hb _),?_⟩
  nofun
  exact ⟨rfl,rfl,hlen _,fin _ _,(Fr.refl _ M).app⟩
 ·rw [decide_eq_false hp]
  nofun
  refine ⟨.inr (hb _),?_⟩
  nofun
  exact ⟨rfl,rfl,hlen _,fin _ _,(Fr.refl _ M).app⟩
def RoadD (m:Int) (d:D):Prop:=∃ a b k,d=.tup [.int a,.int b,.str k]/\0<=a/\a < m/\0<=b/\b < m/\a≠b/\(k = "row" \/ k = "heap")
def RoadsF (F:Fn):Prop:=∀ (M:Mem) (w:Nat) (T m:Int),WA M w T->T < 2 ^ 39->1<=m->m<=4->Okp (F [.adr w,.int m] M) fun r M'=>∃ ds,r=.d (.tup ds)/\ds.length<=8/\(∀ d∈ds,RoadD m d)/\WA M' w (T+100)/\Fr w M M'
theorem roadsF {G:Fns} {kDraw:Nat} (hD:DrawAt (G kDraw)):RoadsF (runDef G 7 (bRoads kDraw)):=by
 intro M w T m hw hT hm1 hm4
 have hwl:=hw.lt
 rw [w_run]
 show wSs G (bRoads kDraw) [some (.adr w),some (.int m),none,none,none,none,none] M _ _ _ _
 nofun
 refine ⟨(show (0:Nat)<=sizeLine by decide),?_⟩
 nofun
 by_cases hm:1 < m
 ·rw [decide_eq_true hm]
  have h0:(M++[MO.lst []])[M.length]?=some (.lst []):=app_last
  nofun
  refine (hD _ w T 4 hw.app (by omega) (by omega) (by omega)).imp ?_
  rintro r M1 ⟨i1,rfl,i10,i11,hw1,f1⟩
  nofun
  refine (hD _ w _ 5 hw1 (by omega) (by omega) (by omega)).imp ?_
  rintro r M2 ⟨i2,rfl,i20,i21,hw2,f2⟩
  nofun
  refine ⟨(show (3:Nat)<=sizeLine by decide),?_⟩
  have h2:M2[M.length]?=some (.lst []):=f2.get (f1.get h0 (by omega)) (by omega)
  have l2:=lt_of_get h2
  nofun
  refine (hD _ w _ 9 hw2.app (by omega) (by omega) (by omega)).imp ?_
  rintro r M3 ⟨i3,rfl,i30,i31,hw3,f3⟩
  nofun
  refine ⟨⟨by omega,by omega⟩,?_⟩
  have h3:M3[M.length]?=some (.lst []):=f3.get (app_get h2) (by omega)
  have hm3:M3[M2.length]?=some (.lst [.int i1,.int (1+i2),.int 8]):=f3.get app_last (by omega)
  have fr3:Fr w M M3:=(((Fr.refl w M).app.trans f1).trans f2).app.trans f3
  obtain ⟨d,hd,j,e,hj0,hj8⟩:=pick (P:=fun d=>∃ j:Int,d=.int j/\0<=j/\j<=8) (ds:=[.int i1,.int (1+i2),.int 8]) (i:=i3 / 4) (k:=3) (by
   intro d hd
   simp only [List.mem_cons,List.mem_nil_iff,or_false] at hd
   rcases hd with rfl | rfl | rfl
   ·exact ⟨_,rfl,by omega,by omega⟩
   ·exact ⟨_,rfl,by omega,by omega⟩
   ·exact ⟨_,rfl,by omega,by omega⟩) (by omega) (by omega) rfl
  subst e
  nofun
  rw [sub_lst hm3 (show (0:Int)<=i3 / 4 by omega) hd]
  nofun
  refine ⟨⟨by omega,by omega⟩,?_⟩
  refine f_rng (n:=j.toNat) (fun i ρ M'=>∃ ds o4 o5 o6,ρ=[some (.adr w),some (.int m),some (.adr M.length),some (.adr M2.length),o4,o5,o6]/\M'[M.length]?=some (.lst ds)/\ds.length=i/\(∀ d∈ds,RoadD m d)/\WA M' w (T+3+3 * i)/\Fr w M M') ⟨[],none,none,none,rfl,h3,rfl,(by intro d h;cases h),hw3.mono (by omega),fr3⟩ ?_ ?_
  ·rintro i ρ M4 hi ⟨ds,o4,o5,o6,rfl,h4,hl4,hr4,hw4,fr4⟩
   have hi8:(i:Int) < 8:=by omega
   have hwl4:=lt_of_get h4
   nofun
   refine (hD _ w _ m hw4 (by omega) (by omega) (by omega)).imp ?_
   rintro r M5 ⟨i5,rfl,i50,i51,hw5,f5⟩
   nofun
   refine (hD _ w _ (m - 1) hw5 (by omega) (by omega) (by omega)).imp ?_
   rintro r M6 ⟨i6,rfl,i60,i61,hw6,f6⟩
   nofun
   have h6:M6[M.length]?=some (.lst ds):=f6.get (f5.get h4 (by omega)) (by omega)
   refine ⟨by omega,?_⟩
   nofun
   refine ⟨lst_some h6,?_⟩
   nofun
   refine ⟨(show (2:Nat)<=sizeLine by decide),?_⟩
   nofun
   refine (hD _ w _ 2 hw6 (by omega) (by omega) (by omega)).imp ?_
   rintro r M7 ⟨i7,rfl,i70,i71,hw7,f7⟩
   obtain ⟨k,hk,k',e,hk'⟩:=pick (P:=fun d=>∃ k:Str,d=.str k/\(k = "row" \/ k = "heap")) (ds:=[.str "row",.str "heap"]) (i:=i7) (k:=2) (by
    intro d hd
    simp only [List.mem_cons,List.mem_nil_iff,or_false] at hd
    rcases hd with rfl | rfl
    ·exact ⟨_,rfl,.inl rfl⟩
    ·exact ⟨_,rfl,.inr rfl⟩) i70 i71 rfl
   subst e
   nofun
   rw [sub_lv i70 hk]
   nofun
   refine ⟨(show (3:Nat)<=sizeLine by decide),?_⟩
   have h7:M7[M.length]?=some (.lst ds):=f7.get h6 (by omega)
   nofun
   rw [m_append h7 (small_lt (by omega))]
   refine ⟨ds++[.tup [.int i5,.int ((i5+1+i6) % m),.str k']],_,_,_,rfl,set_same h7,by simp [hl4],?_,?_,?_⟩
   ·intro d hd
    rcases zqr.mp hd with q | q
    ·exact hr4 d q
    ·have:d=.tup [.int i5,.int ((i5+1+i6) % m),.str k']:=by simpa using q
     subst this
     have hm':m=2\/m=3\/m=4:=by omega
     refine ⟨_,_,_,rfl,i50,i51,Int.emod_nonneg _ (by omega),Int.emod_lt_of_pos _ (by omega),?_,hk'⟩
     rcases hm' with rfl | rfl | rfl <;> omega
   ·exact (hw7.set (by omega)).mono (by omega)
   ·exact (((fr4.trans f5).trans f6).trans f7).set (zqg _)
  ·rintro ρ M4 ⟨ds,o4,o5,o6,rfl,h4,hl4,hr4,hw4,fr4⟩
   nofun
   rw [tuple_lst h4]
   exact ⟨ds,rfl,by omega,hr4,hw4.mono (by omega),fr4⟩
 ·rw [decide_eq_false hm]
  nofun
  rw [tuple_lst app_last]
  exact ⟨[],rfl,by decide,(by intro d h;cases h),hw.app.mono (by omega),(Fr.refl w M).app⟩
def StD (d:D):Prop:=∃ i:Int,d=.int i/\0<=i/\i < 100
theorem st_py {M:Mem}:∀ {ds:List D},(∀ d∈ds,StD d)->∃ qs,pyDs M 30 ds=some qs/\qs.all SeqAt.shaped=true
 | [],_=>⟨[],by unfold pyDs;rfl,rfl⟩
 | d::ds,h=>by
  obtain ⟨i,rfl,_,_⟩:=h d (List.mem_cons_self ..)
  obtain ⟨qs,e,k⟩:=st_py (M:=M) (ds:=ds) fun d hd=>h d (zqi _ hd)
  refine ⟨.int i::qs,by unfold pyDs;rw [e];unfold pyD;rfl,?_⟩
  rw [List.all_cons,sh_int,k];rfl
theorem notin_st {M:Mem} {n:Nat} {ds:List D} {d:D} (hM:M[n]?=some (.lst ds)) (h:∀ d∈ds,StD d) (hd:StD d):∃ b,cmpW .notin (.d d) (.d (.adr n)) M=.ok b M:=by
 obtain ⟨i,rfl,_,_⟩:=hd
 obtain ⟨qs,e,k⟩:=st_py (M:=M) h
 refine ⟨!inPy (.int i) qs,?_⟩
 unfold cmpW
 have h1:pyW M (.d (.int i))=some (.int i):=by show pyD M 30 (.int i)=_;unfold pyD;rfl
 have h2:seqW M (.d (.adr n))=some (true,ds):=by unfold seqW;simp only [hM]
 simp only [h1,h2,e,sh_int,k,and_self,if_true]
def StatesF (F:Fn):Prop:=∀ (M:Mem) (w:Nat) (T:Int),WA M w T->T < 2 ^ 39->Okp (F [.adr w] M) fun r M'=>∃ n ds,r=.d (.adr n)/\M.length<=n/\M'[n]?=some (.lst ds)/\1<=ds.length/\ds.length<=7/\(∀ d∈ds,StD d)/\WA M' w (T+100)/\Fr w M M'
theorem statesF {G:Fns} {kDraw:Nat} (hD:DrawAt (G kDraw)):StatesF (runDef G 5 (bStates kDraw)):=by
 intro M w T hw hT
 have hwl:=hw.lt
 rw [w_run]
 show wSs G (bStates kDraw) [some (.adr w),none,none,none,none] M _ _ _ _
 nofun
 refine (hD _ w T 100 hw (by omega) (by omega) (by omega)).imp ?_
 rintro r M1 ⟨i1,rfl,i10,i11,hw1,f1⟩
 nofun
 refine ⟨(show (1:Nat)<=sizeLine by decide),?_⟩
 have l1:=f1.1
 nofun
 refine (hD _ w _ 3 hw1.app (by omega) (by omega) (by omega)).imp ?_
 rintro r M2 ⟨i2,rfl,i20,i21,hw2,f2⟩
 nofun
 refine ⟨(show (2:Nat)<=sizeLine by decide),?_⟩
 have h2:M2[M1.length]?=some (.lst [.int i1]):=f2.get app_last (by omega)
 have l2:=lt_of_get h2
 nofun
 refine (hD _ w _ 16 hw2.app (by omega) (by omega) (by omega)).imp ?_
 rintro r M3 ⟨i3,rfl,i30,i31,hw3,f3⟩
 nofun
 refine ⟨⟨by omega,by omega⟩,?_⟩
 have h3:M3[M1.length]?=some (.lst [.int i1]):=f3.get (app_get h2) (by omega)
 have hm3:M3[M2.length]?=some (.lst [.int i2,.int 6]):=f3.get app_last (by omega)
 have fr3:Fr w M M3:=(f1.app.trans f2).app.trans f3
 obtain ⟨d,hd,j,e,hj0,hj8⟩:=pick (P:=fun d=>∃ j:Int,d=.int j/\0<=j/\j<=6) (ds:=[.int i2,.int 6]) (i:=i3 / 15) (k:=2) (by
  intro d hd
  simp only [List.mem_cons,List.mem_nil_iff,or_false] at hd
  rcases hd with rfl | rfl
  ·exact ⟨_,rfl,by omega,by omega⟩
  ·exact ⟨_,rfl,by omega,by omega⟩) (by omega) (by omega) rfl
 subst e
 nofun
 rw [sub_lst hm3 (show (0:Int)<=i3 / 15 by omega) hd]
 nofun
 refine ⟨⟨by omega,by omega⟩,?_⟩
 have hone:∀ d∈[D.int i1],StD d:=by
  intro d h
  have:d=.int i1:=by simpa using h
  subst this;exact ⟨_,rfl,i10,i11⟩
 refine f_rng (n:=j.toNat) (fun i ρ M'=>∃ ds o3 o4,ρ=[some (.adr w),some (.adr M1.length),some (.adr M2.length),o3,o4]/\M'[M1.length]?=some (.lst ds)/\1<=ds.length/\ds.length<=i+1/\(∀ d∈ds,StD d)/\WA M' w (T+3+2 * i)/\Fr w M M') ⟨[.int i1],none,none,rfl,h3,zqg _,zqg _,hone,hw3.mono (by omega),fr3⟩ ?_ ?_
 ·rintro i ρ M4 hi ⟨ds,o3,o4,rfl,h4,hl1,hl4,hr4,hw4,fr4⟩
  have hi8:(i:Int) < 6:=by omega
  have hwl4:=lt_of_get h4
  nofun
  refine (hD _ w _ 100 hw4 (by omega) (by omega) (by omega)).imp ?_
  rintro r M5 ⟨i5,rfl,i50,i51,hw5,f5⟩
  nofun
  refine ⟨(show (2:Nat)<=sizeLine by decide),?_⟩
  nofun
  refine (hD _ w _ 2 hw5 (by omega) (by omega) (by omega)).imp ?_
  rintro r M6 ⟨i6,rfl,i60,i61,hw6,f6⟩
  obtain ⟨d,hd,hst⟩:=pick (P:=StD) (ds:=[.int i5,.int (0+i)]) (i:=i6) (k:=2) (by
   intro d hd
   simp only [List.mem_cons,List.mem_nil_iff,or_false] at hd
   rcases hd with rfl | rfl
   ·exact ⟨_,rfl,by omega,by omega⟩
   ·exact ⟨_,rfl,by omega,by omega⟩) i60 i61 rfl
  nofun
  rw [sub_lv i60 hd]
  have h6:M6[M1.length]?=some (.lst ds):=f6.get (f5.get h4 (by omega)) (by omega)
  nofun
  obtain ⟨b,hb⟩:=notin_st h6 hr4 hst
  rw [hb]
  cases b with
  | false=>exact ⟨ds,_,_,rfl,h6,hl1,by omega,hr4,hw6.mono (by omega),(fr4.trans f5).trans f6⟩
  | true =>
   nofun
   refine ⟨lst_some h6,?_⟩
   nofun
   rw [m_append h6 (small_lt (by omega))]
   refine ⟨ds++[d],_,_,rfl,set_same h6,by simp,by simp;omega,?_,(hw6.set (by omega)).mono (by omega),((fr4.trans f5).trans f6).set (by omega)⟩
   intro x hx
   rcases zqr.mp hx with q | q
   ·exact hr4 x q
   ·have:x=d:=by simpa using q
    subst this;exact hst
 ·rintro ρ M4 ⟨ds,o3,o4,rfl,h4,hl1,hl4,hr4,hw4,fr4⟩
  exact ⟨_,ds,rfl,l1,h4,hl1,by omega,hr4,hw4.mono (by omega),fr4⟩
def SendD (P:Int->Prop) (d:D):Prop:=∃ r c,d=.tup [.int r,.str c]/\P r/\(c = "a" \/ c = "b" \/ c = "c" \/ c = "z")
theorem abcz {M:Mem} {i:Int} (h0:0<=i) (h1:i < 4):∃ c,subW (.d (.str "abcz")) (.d (.int i)) M=.ok (.d (.str c)) M/\(c = "a" \/ c = "b" \/ c = "c" \/ c = "z"):=by
 have:i=0\/i=1\/i=2\/i=3:=by omega
 rcases this with rfl | rfl | rfl | rfl
 ·exact ⟨"a",rfl,.inl rfl⟩
 ·exact ⟨"b",rfl,.inr (.inl rfl)⟩
 ·exact ⟨"c",rfl,.inr (.inr (.inl rfl))⟩
 ·exact ⟨"z",rfl,.inr (.inr (.inr rfl))⟩
def SendsF (F:Fn):Prop:=∀ (P:Int->Prop) (M:Mem) (w nw:Nat) (T:Int) (ways:List D),WA M w T->T < 2 ^ 39+10000->M[nw]?=some (.lst ways)->nw≠w->(∀ d∈ways,∃ r,d=.int r/\P r)->ways.length<=100 ->
 Okp (F [.adr w,.adr nw] M) fun r M'=>∃ ds,r=.d (.tup ds)/\ds.length<=3/\(∀ d∈ds,SendD P d)/\WA M' w (T+20)/\Fr w M M'
theorem sendsF {G:Fns} {kDraw:Nat} (hD:DrawAt (G kDraw)):SendsF (runDef G 5 (bSends kDraw)):=by
 intro P M w nw T ways hw hT hn hne hP h100
 have hwl:=hw.lt
 have hnl:=lt_of_get hn
 rw [w_run]
 show wSs G (bSends kDraw) [some (.adr w),some (.adr nw),none,none,none] M _ _ _ _
 nofun
 refine ⟨(show (0:Nat)<=sizeLine by decide),?_⟩
 nofun
 refine ⟨(show (7:Nat)<=sizeLine by decide),?_⟩
 nofun
 refine (hD _ w T 7 hw.app (by omega) (by omega) (by omega)).imp ?_
 rintro r M1 ⟨i1,rfl,i10,i11,hw1,f1⟩
 obtain ⟨d,hd,j,e,hj0,hj3⟩:=pick (P:=fun d=>∃ j:Int,d=.int j/\0<=j/\j<=3) (ds:=[.int 0,.int 0,.int 1,.int 1,.int 1,.int 2,.int 3]) (i:=i1) (k:=7) (by
  intro d hd
  simp only [List.mem_cons,List.mem_nil_iff,or_false] at hd
  rcases hd with rfl | rfl | rfl | rfl | rfl | rfl | rfl <;> exact ⟨_,rfl,by omega,by omega⟩) i10 i11 rfl
 subst e
 nofun
 rw [sub_lv i10 hd]
 have h1:M1[nw]?=some (.lst ways):=f1.get (app_get hn) hne
 have ho:M1[M.length]?=some (.lst []):=f1.get app_last (by omega)
 have fr1:Fr w M M1:=(Fr.refl w M).app.trans f1
 nofun
 rw [len_lst h1]
 nofun
 refine ⟨.inl (by omega),?_⟩
 have hj:0<=j * (if decide ((0:Int) < ways.length)=true then 1 else 0)/\j * (if decide ((0:Int) < ways.length)=true then 1 else 0)<=3/\(0 < j * (if decide ((0:Int) < ways.length)=true then 1 else 0)->(0:Int) < ways.length):=by
  by_cases q:(0:Int) < ways.length
  ·simp only [decide_eq_true q,if_true,Int.mul_one];exact ⟨hj0,hj3,fun _=>q⟩
  ·simp only [decide_eq_false q];simp
 generalize hjj:j * (if decide ((0:Int) < ways.length)=true then 1 else 0)=jj at hj
 obtain ⟨hj0,hj3,hj1⟩:=hj
 have hjj':j * (if decide ((ways.length:Int) > 0)=true then 1 else 0)=jj:=hjj
 nofun
 refine ⟨⟨by first | omega | (rw [hjj'];omega) | (show _<=j * (if decide ((0:Int) < ways.length)=true then 1 else 0);rw [hjj];omega),by first | omega | (rw [hjj'];omega) | (show j * (if decide ((0:Int) < ways.length)=true then 1 else 0) < _;rw [hjj];omega)⟩,?_⟩
 refine f_rng (n:=jj.toNat) (fun i ρ M'=>∃ ds o3 o4,ρ=[some (.adr w),some (.adr nw),some (.adr M.length),o3,o4]/\M'[M.length]?=some (.lst ds)/\ds.length=i/\(∀ d∈ds,SendD P d)/\WA M' w (T+1+2 * i)/\Fr w M M') ⟨[],none,none,rfl,ho,rfl,(by intro d h;cases h),hw1.mono (by omega),fr1⟩ ?_ ?_
 ·rintro i ρ M4 hi ⟨ds,o3,o4,rfl,h4,hl4,hr4,hw4,fr4⟩
  have hwp:(0:Int) < ways.length:=hj1 (by omega)
  have hn4:M4[nw]?=some (.lst ways):=fr4.get hn hne
  nofun
  rw [len_lst hn4]
  nofun
  refine (hD _ w _ _ hw4 (by omega) hwp (by omega)).imp ?_
  rintro r M5 ⟨i5,rfl,i50,i51,hw5,f5⟩
  have hn5:M5[nw]?=some (.lst ways):=f5.get hn4 hne
  obtain ⟨d,hd,r,e,hPr⟩:=pick (ds:=ways) (i:=i5) (k:=ways.length) hP i50 i51 rfl
  subst e
  nofun
  rw [sub_lst hn5 i50 hd]
  have h5:M5[M.length]?=some (.lst ds):=f5.get h4 (by omega)
  nofun
  refine ⟨lst_some h5,?_⟩
  nofun
  refine (hD _ w _ 4 hw5 (by omega) (by omega) (by omega)).imp ?_
  rintro r6 M6 ⟨i6,rfl,i60,i61,hw6,f6⟩
  obtain ⟨c,hc,hc'⟩:=abcz (M:=M6) i60 i61
  nofun
  rw [hc]
  nofun
  refine ⟨(show (2:Nat)<=sizeLine by decide),?_⟩
  have h6:M6[M.length]?=some (.lst ds):=f6.get h5 (by omega)
  nofun
  rw [m_append h6 (small_lt (by omega))]
  refine ⟨ds++[.tup [.int r,.str c]],_,_,rfl,set_same h6,by simp [hl4],?_,(hw6.set (by omega)).mono (by omega),((fr4.trans f5).trans f6).set (zqg _)⟩
  intro x hx
  rcases zqr.mp hx with q | q
  ·exact hr4 x q
  ·have:x=.tup [.int r,.str c]:=by simpa using q
   subst this;exact ⟨_,_,rfl,hPr,hc'⟩
 ·rintro ρ M4 ⟨ds,o3,o4,rfl,h4,hl4,hr4,hw4,fr4⟩
  nofun
  rw [tuple_lst h4]
  exact ⟨ds,rfl,by omega,hr4,hw4.mono (by omega),fr4⟩
def WordD (d:D):Prop:=d=.non\/∃ x:Str,d=.str x/\(x = "x" \/ x = "yes" \/ x = "abcdefgh" \/ x = "own" \/ x = "a")
def CauseD (d:D):Prop:=∃ x:Str,d=.str x/\(x = "own" \/ x = "a" \/ x = "b" \/ x = "z")
def MoveD (P:Int->Prop) (d:D):Prop:=∃ s c a sends wd,d=.tup [s,c,a,.tup sends,wd]/\StD s/\CauseD c/\StD a/\sends.length<=3/\(∀ x∈sends,SendD P x)/\WordD wd
def MovesF (F:Fn):Prop:=∀ (P:Int->Prop) (M:Mem) (w ns nw:Nat) (T:Int) (some' ways:List D),WA M w T->T < 2 ^ 39->M[ns]?=some (.lst some')->ns≠w->M[nw]?=some (.lst ways)->nw≠w->(∀ d∈some',StD d)->1<=some'.length->some'.length<=7->(∀ d∈ways,∃ r,d=.int r/\P r)->ways.length<=100 ->
 Okp (F [.adr w,.adr ns,.adr nw] M) fun r M'=>∃ ds,r=.d (.tup ds)/\ds.length<=28/\(∀ d∈ds,MoveD P d)/\WA M' w (T+1000)/\Fr w M M'
theorem movesF {G:Fns} {kDraw kSends:Nat} (hD:DrawAt (G kDraw)) (hS:SendsF (G kSends)):MovesF (runDef G 11 (bMoves kDraw kSends)):=by
 intro P M w ns nw T sm ways hw hT hs hsw hn hne hst hs1 hs7 hP h100
 have hwl:=hw.lt
 have hnl:=lt_of_get hn
 have hsl:=lt_of_get hs
 rw [w_run]
 show wSs G (bMoves kDraw kSends) [some (.adr w),some (.adr ns),some (.adr nw),none,none,none,none,none,none,none,none] M _ _ _ _
 nofun
 refine ⟨(show (8:Nat)<=sizeLine by decide),?_⟩
 nofun
 refine ⟨(show (0:Nat)<=sizeLine by decide),?_⟩
 have hsA:((M++[MO.lst [.non,.non,.non,.str "x",.str "yes",.str "abcdefgh",.str "own",.str "a"]])++[MO.lst []])[ns]?=some (.lst sm):=app_get (app_get hs)
 have hwd:∀ d∈[D.non,.non,.non,.str "x",.str "yes",.str "abcdefgh",.str "own",.str "a"],WordD d:=by
  intro d hd
  simp only [List.mem_cons,List.mem_nil_iff,or_false] at hd
  rcases hd with rfl | rfl | rfl | rfl | rfl | rfl | rfl | rfl
  ·exact .inl rfl
  ·exact .inl rfl
  ·exact .inl rfl
  ·exact .inr ⟨_,rfl,.inl rfl⟩
  ·exact .inr ⟨_,rfl,.inr (.inl rfl)⟩
  ·exact .inr ⟨_,rfl,.inr (.inr (.inl rfl))⟩
  ·exact .inr ⟨_,rfl,.inr (.inr (.inr (.inl rfl)))⟩
  ·exact .inr ⟨_,rfl,.inr (.inr (.inr (.inr rfl)))⟩
 have hA1:((M++[MO.lst [.non,.non,.non,.str "x",.str "yes",.str "abcdefgh",.str "own",.str "a"]])++[MO.lst []])[M.length]?=some (.lst [.non,.non,.non,.str "x",.str "yes",.str "abcdefgh",.str "own",.str "a"]):=app_get app_last
 have hA2:((M++[MO.lst [.non,.non,.non,.str "x",.str "yes",.str "abcdefgh",.str "own",.str "a"]])++[MO.lst []])[M.length+1]?=some (.lst []):=by
  have:=app_last (M:=M++[MO.lst [.non,.non,.non,.str "x",.str "yes",.str "abcdefgh",.str "own",.str "a"]]) (o:=MO.lst [])
  simpa using this
 have hlen:(M++[MO.lst [.non,.non,.non,.str "x",.str "yes",.str "abcdefgh",.str "own",.str "a"]]).length=M.length+1:=by simp
 nofun
 rw [hlen]
 generalize hWW:([.non,.non,.non,.str "x",.str "yes",.str "abcdefgh",.str "own",.str "a"]:List D)=WW at *
 have hW8:WW.length=8:=by rw [<- hWW];rfl
 rw [sr_lst hsA]
 refine f_at (n:=ns) (ds:=sm) (fun i ρ M'=>∃ ds o5 o6 o7 o8 o9 o10,ρ=[some (.adr w),some (.adr ns),some (.adr nw),some (.adr M.length),some (.adr (M.length+1)),o5,o6,o7,o8,o9,o10]/\M'[M.length]?=some (.lst WW)/\M'[M.length+1]?=some (.lst ds)/\ds.length<=4 * i/\(∀ d∈ds,MoveD P d)/\WA M' w (T+100 * i)/\Fr w M M')
  (fun i ρ M' ⟨ds,_,_,_,_,_,_,_,_,_,_,_,_,f⟩=>f.get hs hsw) ⟨[],none,none,none,none,none,none,rfl,hA1,hA2,Nat.zero_le _,(by intro d h;cases h),(hw.app.app).mono (by omega),((Fr.refl w M).app).app⟩ ?_ ?_
 ·rintro i ρ M4 d hd ⟨ds,o5,o6,o7,o8,o9,o10,rfl,hW4,h4,hl4,hr4,hw4,fr4⟩
  have hi:i < sm.length:=(zqa.mp hd).1
  have hdS:StD d:=hst d (zqj hd)
  nofun
  refine ⟨(show (4:Nat)<=sizeLine by decide),?_⟩
  refine f_items (ds:=[.str "own",.str "a",.str "b",.str "z"]) (fun j ρ M'=>∃ ds o6 o7 o8 o9 o10,ρ=[some (.adr w),some (.adr ns),some (.adr nw),some (.adr M.length),some (.adr (M.length+1)),some d,o6,o7,o8,o9,o10]/\M'[M.length]?=some (.lst WW)/\M'[M.length+1]?=some (.lst ds)/\ds.length<=4 * i+j/\(∀ d∈ds,MoveD P d)/\WA M' w (T+100 * i+25 * j)/\Fr w M M')
   ⟨ds,o6,o7,o8,o9,o10,rfl,hW4,h4,by omega,hr4,hw4.mono (by omega),fr4⟩ ?_ ?_
  ·rintro j ρ M5 c hc ⟨ds,o6,o7,o8,o9,o10,rfl,hW5,h5,hl5,hr5,hw5,fr5⟩
   have hj:j < 4:=(zqa.mp hc).1
   have hcC:CauseD c:=by
    have hm:=zqj hc
    simp only [List.mem_cons,List.mem_nil_iff,or_false] at hm
    rcases hm with rfl | rfl | rfl | rfl
    ·exact ⟨_,rfl,.inl rfl⟩
    ·exact ⟨_,rfl,.inr (.inl rfl)⟩
    ·exact ⟨_,rfl,.inr (.inr (.inl rfl))⟩
    ·exact ⟨_,rfl,.inr (.inr (.inr rfl))⟩
   nofun
   refine (hD _ w _ 4 hw5 (by omega) (by omega) (by omega)).imp ?_
   rintro r6 M6 ⟨i6,rfl,i60,i61,hw6,f6⟩
   nofun
   by_cases hp:0 < i6
   ·rw [decide_eq_true hp]
    have fr6:Fr w M M6:=fr5.trans f6
    have hs6:M6[ns]?=some (.lst sm):=fr6.get hs hsw
    nofun
    rw [len_lst hs6]
    nofun
    refine (hD _ w _ _ hw6 (by omega) (by omega) (by omega)).imp ?_
    rintro r7 M7 ⟨i7,rfl,i70,i71,hw7,f7⟩
    have fr7:Fr w M M7:=fr6.trans f7
    obtain ⟨a,ha,haS⟩:=pick (P:=StD) (ds:=sm) (i:=i7) (k:=sm.length) hst i70 i71 rfl
    nofun
    rw [sub_lst (fr7.get hs hsw) i70 ha]
    nofun
    refine (hS P M7 w nw _ ways hw7 (by omega) (fr7.get hn hne) hne hP h100).imp ?_
    rintro r8 M8 ⟨sd,rfl,hsd3,hsd,hw8,f8⟩
    have fr8:Fr w M M8:=fr7.trans f8
    nofun
    refine (hD _ w _ 8 hw8 (by omega) (by omega) (by omega)).imp ?_
    rintro r9 M9 ⟨i9,rfl,i90,i91,hw9,f9⟩
    have fr9:Fr w M M9:=fr8.trans f9
    have hW9:M9[M.length]?=some (.lst WW):=f9.get (f8.get (f7.get (f6.get hW5 (by omega)) (by omega)) (by omega)) (by omega)
    have h9:M9[M.length+1]?=some (.lst ds):=f9.get (f8.get (f7.get (f6.get h5 (by omega)) (by omega)) (by omega)) (by omega)
    obtain ⟨wd,hwd',hwdS⟩:=pick (P:=WordD) (ds:=WW) (i:=i9) (k:=8) hwd i90 i91 hW8.symm
    nofun
    rw [sub_lst hW9 i90 hwd']
    nofun
    rw [len_lst h9]
    nofun
    refine (hD _ w _ _ hw9 (by omega) (by omega) (by omega)).imp ?_
    rintro rA MA ⟨iA,rfl,iA0,iA1,hwA,fA⟩
    have frA:Fr w M MA:=fr9.trans fA
    have hA:MA[M.length+1]?=some (.lst ds):=fA.get h9 (by omega)
    nofun
    refine ⟨lst_some hA,?_⟩
    nofun
    refine ⟨(show (5:Nat)<=sizeLine by decide),?_⟩
    nofun
    rw [m_insert hA (small_lt (by omega)) iA0 (by omega)]
    refine ⟨ds.take iA.toNat++.tup [d,c,a,.tup sd,wd]::ds.drop iA.toNat,_,_,_,_,_,rfl,set_get (fA.get hW9 (by omega)) (by omega),set_same hA,?_,?_,(hwA.set (by omega)).mono (by omega),frA.set (by omega)⟩
    ·rw [zqp,List.length_cons,List.length_take,List.length_drop];omega
    ·intro x hx
     have hx:x=.tup [d,c,a,.tup sd,wd]\/x∈ds:=by
      rcases zqr.mp hx with q | q
      ·exact .inr (List.mem_of_mem_take q)
      ·rcases List.mem_cons.mp q with q | q
       ·exact .inl q
       ·exact .inr (List.mem_of_mem_drop q)
     rcases hx with rfl | hx
     ·exact ⟨_,_,_,_,_,rfl,hdS,hcC,haS,hsd3,hsd,hwdS⟩
     ·exact hr5 x hx
   ·rw [decide_eq_false hp]
    exact ⟨ds,_,_,_,_,_,rfl,f6.get hW5 (by omega),f6.get h5 (by omega),by omega,hr5,hw6.mono (by omega),fr5.trans f6⟩
  ·rintro ρ M5 ⟨ds,o6,o7,o8,o9,o10,rfl,hW5,h5,hl5,hr5,hw5,fr5⟩
   have e4:[D.str "own",D.str "a",D.str "b",D.str "z"].length=4:=rfl
   rw [e4] at hl5 hw5
   exact ⟨ds,_,_,_,_,_,_,rfl,hW5,h5,by omega,hr5,hw5.mono (by omega),fr5⟩
 ·rintro ρ M4 ⟨ds,o5,o6,o7,o8,o9,o10,rfl,hW4,h4,hl4,hr4,hw4,fr4⟩
  nofun
  rw [tuple_lst h4]
  exact ⟨ds,rfl,by omega,hr4,hw4.mono (by omega),fr4⟩
def RoadOf (roads:List D) (m:Nat) (r:Int):Prop:=0<=r/\∃ b k,roads[r.toNat]?=some (.tup [.int m,b,k])
def RuleD (roads:List D) (m:Nat) (d:D):Prop:=∃ st moves,d=.tup [st,.tup moves]/\StD st/\moves.length<=28/\∀ y∈moves,MoveD (RoadOf roads m) y
def FormD (d:D):Prop:=∃ rules roads,d=.tup [.tup rules,.tup roads]/\1<=rules.length/\rules.length<=4/\roads.length<=8/\(∀ x∈roads,RoadD rules.length x)/\∀ m x,rules[m]?=some x->RuleD roads m x
def FormF (F:Fn):Prop:=∀ (M:Mem) (ns:List Int),ns.length<=63->Okp (F [.ls (ns.map D.int)] M) fun r M'=>∃ d,r=.d d/\FormD d/\Fr M.length M M'
theorem Fr.none {w:Nat} {M M1 M2:Mem} (a:Fr M.length M M1) (b:Fr w M1 M2) (h:M.length<=w):Fr M.length M M2:=⟨Nat.le_trans a.1 b.1,fun n hn k=>(b.2 n (Nat.lt_of_lt_of_le hn a.1) (by omega)).trans (a.2 n hn k)⟩
theorem roads_at {m:Int} {roads:List D} {i:Nat} (h:∀ x∈roads,RoadD m x) (hi:i < roads.length):∃ a b k,roads[i]?=some (.tup [.int a,.int b,.str k]):=by
 obtain ⟨a,b,k,e,_⟩:=h roads[i] (List.getElem_mem hi)
 exact ⟨a,b,k,by rw [zqb hi,e]⟩
def waysC:C:=.comp .rng1 [.bi .len [.var 3]] [1] (some (.val (.cmp .eq (.sub (.sub (.var 3) (.var 1)) (.cst (.int 0))) (.var 2)))) (.var 1) [none,none,some 5,some 3]
theorem ways_ok {G : Fns} {ρ : En} {M : Mem} {m : Int} {i : Nat} {roads : List D} {P : W -> Mem -> Prop} (h5 : ρ[5]? = some (some (.int i))) (h3 : ρ[3]? = some (some (.tup roads))) (hr8 : roads.length <= 8) (hrd : ∀ x ∈ roads, RoadD m x)
    (q:∀ ways,ways.length<=8->(∀ d∈ways,∃ r,d=.int r/\RoadOf roads i r)->P (.lv ways) M):wE G waysC ρ M P:=by
  unfold waysC
  nofun
  rw [h3]
  nofun
  refine ⟨⟨by omega,by omega⟩,?_⟩
  rw [show capEn [none,none,some 5,some 3] ρ=[none,none,some (.int i),some (.tup roads)] by unfold capEn;simp only [List.map_cons,List.map_nil,Option.bind_none,Option.bind_some,h5,h3,Option.join_some]]
  refine c_rng (n:=(roads.length:Int).toNat) (fun k M' acc=>M=M'/\acc.length<=k/\∀ d∈acc,∃ r,d=.int r/\RoadOf roads i r) (by decide) ⟨rfl,zqg _,(by intro d h;cases h)⟩ ?_ ?_
  · rintro k M7 acc hk ⟨rfl,hal,hac⟩
    have hk':k < roads.length:=by omega
    refine ⟨small_lt (by omega),?_⟩
    obtain ⟨a,b,kk,hrk⟩:=roads_at hrd hk'
    have hrk':roads[((0:Int)+(k:Nat)).toNat]?=some (.tup [.int a,.int b,.str kk]):=by rw [show ((0:Int)+(k:Nat)).toNat=k by omega];exact hrk
    nofun
    rw [sub_tup (show (0:Int)<=0+(k:Nat) by omega) hrk']
    nofun
    cases q:(a == (i:Int)) with
    | true =>
      have q:a=i:=by simpa using q
      subst q
      refine ⟨rfl,by simp;omega,?_⟩
      intro d hd
      rcases zqr.mp hd with z | z
      · exact hac d z
      · have:d=.int (0+k):=by simpa using z
        subst this
        exact ⟨_,rfl,by omega,.int b,.str kk,hrk'⟩
    | false=>exact ⟨rfl,by omega,hac⟩
  · rintro M7 ways ⟨rfl,hal,hac⟩
    exact q ways (by omega) hac
def formB (kWell kDraw kStates kMoves:Nat):List S:=[.asg [1] (.call kWell [(.var 0),(.bin .add (.cst (.int 1)) (.var 5))]),.asg [6] (.call kStates [(.var 1)]),.asgC 7 waysC,.asg [8] (.sub (.var 6) (.call kDraw [(.var 1),(.bi .len [(.var 6)])])),.expr (.me .append (.var 4) [(.tup [(.var 8),(.call kMoves [(.var 1),(.var 6),(.var 7)])])])]
theorem form_step {G : Fns} {kWell kDraw kStates kMoves : Nat} (hW : WellF (G kWell)) (hD : DrawAt (G kDraw)) (hSt : StatesF (G kStates)) (hMv : MovesF (G kMoves)) {ns : List Int} (hns : ns.length <= 63) {m : Int} {i : Nat} {roads rules : List D} {M4 : Mem} {n3 : Nat} {o1 d2 o6 o7 o8 : Option D} {nx : En -> Mem -> Prop} {rt : W -> Mem -> Prop} {bk ct : En -> Mem -> Prop}
    (hi:i < 4) (hr8:roads.length<=8) (hrd:∀ x∈roads,RoadD m x) (h4:M4[n3]?=some (.lst rules)) (hl4:rules.length=i)
    (q:∀ o1 o6 o7 o8 M9 x,RuleD roads i x->Fr n3 M4 M9->M9[n3]?=some (.lst (rules++[x]))->nx [some (.ls (ns.map D.int)),o1,d2,some (.tup roads),some (.adr n3),some (.int i),o6,o7,o8] M9) :
    wSs G (formB kWell kDraw kStates kMoves) [some (.ls (ns.map D.int)),o1,d2,some (.tup roads),some (.adr n3),some (.int i),o6,o7,o8] M4 nx rt bk ct:=by
  have l4:=lt_of_get h4
  nofun
  refine (hW M4 ns (1+i) (by omega) (by omega) hns).imp ?_
  rintro r M5 ⟨rfl,hl5,hw5,f5⟩
  nofun
  refine (hSt M5 _ _ hw5 (by omega)).imp ?_
  rintro r M6 ⟨n6,st,rfl,hn6,h6,hs1,hs7,hst,hw6,f6⟩
  have l6:=lt_of_get h6
  show wE G waysC [some (.ls (ns.map D.int)),some (.adr M4.length),d2,some (.tup roads),some (.adr n3),some (.int i),some (.adr n6),o7,o8] M6 _
  refine ways_ok (m:=m) (i:=i) (by rfl) (by rfl) hr8 hrd fun ways hl hac=>?_
  nofun
  have h7:(M6++[MO.lst ways])[n6]?=some (.lst st):=app_get h6
  rw [len_lst h7]
  nofun
  refine (hD _ _ _ _ hw6.app (by omega) (by omega) (by omega)).imp ?_
  rintro r8 M8 ⟨i8,rfl,i80,i81,hw8,f8⟩
  have hn4:n6≠M4.length:=by omega
  have h8:M8[n6]?=some (.lst st):=f8.get h7 hn4
  have h8w:M8[M6.length]?=some (.lst ways):=f8.get app_last (by omega)
  obtain ⟨s0,hs0,hs0S⟩:=pick (P:=StD) (ds:=st) (i:=i8) (k:=st.length) hst i80 i81 rfl
  nofun
  rw [sub_lst h8 i80 hs0]
  nofun
  have h5R:M5[n3]?=some (.lst rules):=f5.get h4 (by omega)
  have h6R:M6[n3]?=some (.lst rules):=f6.get h5R (by omega)
  have h8R:M8[n3]?=some (.lst rules):=f8.get (app_get h6R) (by omega)
  refine ⟨lst_some h8R,?_⟩
  nofun
  refine (hMv (RoadOf roads i) M8 M4.length n6 M6.length _ st ways hw8 (by omega) h8 hn4 h8w (by omega) hst hs1 hs7 hac (by omega)).imp ?_
  rintro r9 M9 ⟨mv,rfl,hmv,hmvD,hw9,f9⟩
  nofun
  refine ⟨(show (2:Nat)<=sizeLine by decide),?_⟩
  have h9R:M9[n3]?=some (.lst rules):=f9.get h8R (by omega)
  nofun
  rw [m_append h9R (small_lt (by omega))]
  refine q _ _ _ _ _ (.tup [s0,.tup mv]) ⟨_,_,rfl,hs0S,hmv,hmvD⟩ ?_ (set_same h9R)
  have g5:Fr M4.length M4 M9:=(((f5.none f6 (zqg _)).app).none f8 (zqg _)).none f9 (zqg _)
  refine ⟨by rw [List.length_set];exact g5.1,fun n hn k=>?_⟩
  rw [List.getElem?_set_ne (Ne.symm k)]
  exact g5.2 n hn (by omega)
theorem formF {G:Fns} {kWell kDraw kRoads kStates kMoves:Nat} (hW:WellF (G kWell)) (hD:DrawAt (G kDraw)) (hR:RoadsF (G kRoads)) (hSt:StatesF (G kStates)) (hMv:MovesF (G kMoves)):FormF (runDef G 9 (bForm kWell kDraw kRoads kStates kMoves)):=by
 intro M ns hns
 rw [w_run]
 show wSs G (bForm kWell kDraw kRoads kStates kMoves) [some (.ls (ns.map D.int)),none,none,none,none,none,none,none,none] M _ _ _ _
 have hb:bForm kWell kDraw kRoads kStates kMoves=[.asg [1] (.call kWell [(.var 0),(.cst (.int 0))]),.asg [2] (.sub (.lst [(.cst (.int 2)),(.cst (.int 1)),(.cst (.int 3)),(.cst (.int 2)),(.cst (.int 4)),(.cst (.int 3))]) (.call kDraw [(.var 1),(.cst (.int 6))])),.asg [3] (.call kRoads [(.var 1),(.var 2)]),.asg [4] (.lst []),.forr [5] .rng1 [(.var 2)] (formB kWell kDraw kStates kMoves),.ret (.tup [(.bi .tuple1 [(.var 4)]),(.var 3)])]:=rfl
 rw [hb]
 nofun
 refine (hW M ns 0 (by omega) (by omega) hns).imp ?_
 rintro r M1 ⟨rfl,hl1,hw1,f1⟩
 nofun
 refine ⟨(show (6:Nat)<=sizeLine by decide),?_⟩
 nofun
 refine (hD _ _ _ 6 hw1 (by omega) (by omega) (by omega)).imp ?_
 rintro r M2 ⟨i2,rfl,i20,i21,hw2,f2⟩
 obtain ⟨d,hd,m,e,hm1,hm4⟩:=pick (P:=fun d=>∃ j:Int,d=.int j/\1<=j/\j<=4) (ds:=[.int 2,.int 1,.int 3,.int 2,.int 4,.int 3]) (i:=i2) (k:=6) (by
  intro d hd
  simp only [List.mem_cons,List.mem_nil_iff,or_false] at hd
  rcases hd with rfl | rfl | rfl | rfl | rfl | rfl <;> exact ⟨_,rfl,by omega,by omega⟩) i20 i21 rfl
 subst e
 nofun
 rw [sub_lv i20 hd]
 nofun
 refine (hR _ _ _ m hw2 (by omega) hm1 hm4).imp ?_
 rintro r M3 ⟨roads,rfl,hr8,hrd,hw3,f3⟩
 nofun
 refine ⟨(show (0:Nat)<=sizeLine by decide),?_⟩
 nofun
 refine ⟨⟨by omega,by omega⟩,?_⟩
 have fr3:Fr M.length M M3:=(f1.trans f2).trans f3
 have l3:=fr3.1
 refine f_rng (n:=m.toNat) (fun i ρ M'=>∃ rules o1 o5 o6 o7 o8,ρ=[some (.ls (ns.map D.int)),o1,some (.int m),some (.tup roads),some (.adr M3.length),o5,o6,o7,o8]/\M'[M3.length]?=some (.lst rules)/\rules.length=i/\(∀ k x,rules[k]?=some x->RuleD roads k x)/\Fr M.length M M')
  ⟨[],_,none,none,none,none,rfl,app_last,rfl,(by intro k x h;simp at h),fr3.app⟩ ?_ ?_
 ·rintro i ρ M4 hi ⟨rules,o1,o5,o6,o7,o8,rfl,h4,hl4,hr4,fr4⟩
  rw [show (0:Int)+(i:Int)=i by omega]
  refine form_step hW hD hSt hMv hns (m:=m) (i:=i) (by omega) hr8 hrd h4 hl4 fun p1 p6 p7 p8 M9 x hx f9 h9=>?_
  refine ⟨rules++[x],_,_,_,_,_,rfl,h9,by simp [hl4],?_,fr4.none f9 l3⟩
  intro k y hk
  by_cases hk':k < rules.length
  ·rw [zqt hk'] at hk
   exact hr4 k y hk
  ·have hkk:k=rules.length:=by have:=(zqa.mp hk).1;simp at this;omega
   subst hkk
   simp at hk
   subst hk
   rw [hl4]
   exact hx
 ·rintro ρ M4 ⟨rules,o1,o5,o6,o7,o8,rfl,h4,hl4,hr4,fr4⟩
  nofun
  rw [tuple_lst h4]
  nofun
  refine ⟨(show (2:Nat)<=sizeLine by decide),_,rfl,⟨rules,roads,rfl,by omega,by omega,hr8,?_,hr4⟩,fr4⟩
  have:(rules.length:Int)=m:=by omega
  rw [this]
  exact hrd
theorem ok_app (a b:Str):PyData.strOk (a++b)=(PyData.strOk a && PyData.strOk b):=by
 show (a.cps++b.cps).all _=_
 rw [Array.all_append]
 rfl
def Tx (b:Nat) (x:Str):Prop:=x.length<=b/\PyData.strOk x=true
theorem Tx.app {a b:Nat} {x y:Str} (h:Tx a x) (k:Tx b y):Tx (a+b) (x++y):=⟨by rw [strLen_append];have:=h.1;have:=k.1;omega,by rw [ok_app,h.2,k.2];rfl⟩
theorem Tx.mono {a b:Nat} {x:Str} (h:Tx a x) (k:a<=b):Tx b x:=⟨Nat.le_trans h.1 k,h.2⟩
theorem tx_join {b:Nat}:∀ {l:List Str},(∀ x∈l,Tx b x)->Tx (l.length * (b+2)) ((Str.ofString ", ").join l)
 | [],_=>by rw [Str.join.eq_1];exact ⟨Nat.zero_le _,⋯⟩
 | [x],h=>by rw [Str.join.eq_2];exact (h x (List.mem_cons_self ..)).mono (by simp)
 | x::y::r,h=>by
  rw [Str.join.eq_3 _ _ _ (fun q=>by cases q)]
  have h1:=h x (List.mem_cons_self ..)
  have h2:=tx_join (l:=y::r) fun z hz=>h z (zqi _ hz)
  have h3:Tx 2 (Str.ofString ", "):=⟨⋯,⋯⟩
  refine ((h1.app h3).app h2).mono ?_
  rw [List.length_cons (a:=x),Nat.add_mul]
  omega
theorem tx_tuple {b:Nat} {l:List Str} (h:∀ x∈l,Tx b x):Tx (l.length * (b+2)+3) (tupleText l):=by
 unfold tupleText
 have h1:Tx 1 (Str.ofString "("):=⟨⋯,⋯⟩
 have h2:Tx 2 (Str.ofString (if (l.length == 1)=true then ",)" else ")")):=by
  split <;> exact ⟨⋯,⋯⟩
 exact ((h1.app (tx_join h)).app h2).mono (by omega)
theorem tx_from {b:Nat}:∀ {l:List Str} {n a:Nat} {x:Str},Tx a x->(∀ x∈l,Tx b x)->Tx (a+l.length * (b+2)) (textFrom n x l)
 | [],_,_,_,h,_=>by rw [textFrom.eq_1];exact h.mono (by simp)
 | t::ts,n,a,x,h,k=>by
  rw [textFrom.eq_2]
  have h2:Tx 2 (Str.ofString (if n > 0 then ", " else "")):=by split <;> exact ⟨⋯,⋯⟩
  refine (tx_from (l:=ts) (n:=n+1) ((h.app h2).app (k t (List.mem_cons_self ..))) fun z hz=>k z (zqi _ hz)).mono ?_
  rw [List.length_cons,Nat.add_mul]
  omega
theorem tx_list {b:Nat} {l:List Str} (h:∀ x∈l,Tx b x):Tx (l.length * (b+2)+2) (listText l):=by
 unfold listText
 have h1:Tx 1 (Str.ofString "["):=⟨⋯,⋯⟩
 have h2:Tx 1 (Str.ofString "]"):=⟨⋯,⋯⟩
 exact ((tx_from h1 h).app h2).mono (by omega)
def SmP (b h:Nat) (p:PyData):Prop:=p.canLay0=true/\p.showable=true/\p.depth<=h/\Tx b p.shown
def Sm (b h:Nat) (d:D):Prop:=∃ p:PyData,(∀ M n,h<=n->pyD M n d=some p)/\SmP b h p
theorem Sm.mono {b c h k:Nat} {d:D} (x:Sm b h d) (hb:b<=c) (hk:h<=k):Sm c k d:=by
 obtain ⟨p,e,q1,q2,q3,q4⟩:=x
 exact ⟨p,fun M n hn=>e M n (by omega),q1,q2,by omega,q4.mono hb⟩
theorem Sm.non:Sm 4 0 .non:=⟨.none,fun M n _=>by cases n <;> (unfold pyD;rfl),PyData.canLay0.eq_1,PyData.showable.eq_1,Nat.le_of_eq PyData.depth.eq_4,by rw [PyData.shown.eq_1];exact ⟨⋯,⋯⟩⟩
theorem ints_small:∀ i:Fin 100,(Str.ofString (toString ((i.val:Nat):Int))).length<=2/\PyData.strOk (Str.ofString (toString ((i.val:Nat):Int)))=true/\(PyData.int ((i.val:Nat):Int)).showable=true:=⋯
theorem Sm.int {i:Int} (h0:0<=i) (h1:i < 100):Sm 2 0 (.int i):=by
 have q:=ints_small ⟨i.toNat,by omega⟩
 have e:((i.toNat:Nat):Int)=i:=by omega
 simp only [e] at q
 exact ⟨.int i,fun M n _=>by cases n <;> (unfold pyD;rfl),PyData.canLay0.eq_3 i,q.2.2,Nat.le_of_eq (PyData.depth.eq_6 i),by rw [PyData.shown.eq_3];exact ⟨q.1,q.2.1⟩⟩
theorem Sm.str {x:Str} {b:Nat} (h:PyData.strOk x=true) (k:Tx b (reprText x)):Sm b 0 (.str x) :=
 ⟨.str x,fun M n _=>by cases n <;> (unfold pyD;rfl),(PyData.canLay0.eq_4 x).trans h,PyData.showable.eq_3 x,Nat.le_of_eq (PyData.depth.eq_7 x),by rw [PyData.shown.eq_4];exact k⟩
theorem SmP.all {b h:Nat}:∀ {ps:List PyData},(∀ p∈ps,SmP b h p)->PyData.canLayAll0 ps=true/\PyData.showableAll ps=true/\PyData.depthAll ps<=h/\(∀ x∈PyData.shownAll ps,Tx b x)/\(PyData.shownAll ps).length=ps.length
 | [],_=>⟨PyData.canLayAll0.eq_1,PyData.showableAll.eq_1,by rw [PyData.depthAll.eq_1];omega,by rw [PyData.shownAll.eq_1];intro x h;(cases h),by rw [PyData.shownAll.eq_1];rfl⟩
 | p::ps,q=>by
  obtain ⟨a1,a2,a3,a4,a5⟩:=SmP.all (ps:=ps) fun p hp=>q p (zqi _ hp)
  obtain ⟨b1,b2,b3,b4⟩:=q p (List.mem_cons_self ..)
  refine ⟨by rw [PyData.canLayAll0.eq_2,a1,b1];rfl,by rw [PyData.showableAll.eq_2,a2,b2];rfl,by rw [PyData.depthAll.eq_2];omega,?_,by rw [PyData.shownAll.eq_2,List.length_cons,a5,List.length_cons]⟩
  rw [PyData.shownAll.eq_2]
  intro x hx
  rcases List.mem_cons.mp hx with rfl | hx
  ·exact b4
  ·exact a4 x hx
theorem SmP.tup {b h k:Nat} {ps:List PyData} (q:∀ p∈ps,SmP b h p) (hk:ps.length<=k):SmP (k * (b+2)+3) (h+1) (.tuple ps):=by
 obtain ⟨a1,a2,a3,a4,a5⟩:=SmP.all q
 refine ⟨(PyData.canLay0.eq_6 ps).trans a1,(PyData.showable.eq_6 ps).trans a2,by rw [PyData.depth.eq_2];omega,?_⟩
 rw [PyData.shown.eq_6]
 refine (tx_tuple a4).mono ?_
 rw [a5]
 exact Nat.add_le_add_right (Nat.mul_le_mul_right _ hk) _
theorem SmP.list {b h k:Nat} {ps:List PyData} (q:∀ p∈ps,SmP b h p) (hk:ps.length<=k):SmP (k * (b+2)+2) (h+1) (.list ps):=by
 obtain ⟨a1,a2,a3,a4,a5⟩:=SmP.all q
 refine ⟨(PyData.canLay0.eq_5 ps).trans a1,(PyData.showable.eq_5 ps).trans a2,by rw [PyData.depth.eq_1];omega,?_⟩
 rw [PyData.shown.eq_5]
 refine (tx_list a4).mono ?_
 rw [a5]
 exact Nat.add_le_add_right (Nat.mul_le_mul_right _ hk) _
theorem Sm.ds {b h:Nat}:∀ {ds:List D},(∀ d∈ds,Sm b h d)->∃ ps,(∀ M n,h<=n->pyDs M n ds=some ps)/\(∀ p∈ps,SmP b h p)/\ps.length=ds.length
 | [],_=>⟨[],fun M n _=>by unfold pyDs;rfl,(by intro p h;cases h),rfl⟩
 | d::ds,q=>by
  obtain ⟨ps,e,a,l⟩:=Sm.ds (ds:=ds) fun d hd=>q d (zqi _ hd)
  obtain ⟨p,ep,ap⟩:=q d (List.mem_cons_self ..)
  refine ⟨p::ps,fun M n hn=>by unfold pyDs;rw [ep M n hn,e M n hn],?_,by simp [l]⟩
  intro x hx
  rcases List.mem_cons.mp hx with rfl | hx
  ·exact ap
  ·exact a x hx
theorem Sm.tup {b h k:Nat} {ds:List D} (q:∀ d∈ds,Sm b h d) (hk:ds.length<=k):Sm (k * (b+2)+3) (h+1) (.tup ds):=by
 obtain ⟨ps,e,a,l⟩:=Sm.ds q
 refine ⟨.tuple ps,fun M n hn=>?_,SmP.tup a (by omega)⟩
 obtain ⟨n,rfl⟩:∃ m,n=m+1:=⟨n - 1,by omega⟩
 unfold pyD
 rw [e M n (by omega)]
 rfl
theorem SmP.shaped {b h:Nat} {p:PyData} (q:SmP b h p) (hh:h<=40):SeqAt.shaped p=true:=by
 unfold SeqAt.shaped
 rw [q.1,Bool.true_and]
 exact decide_eq_true (by have:=q.2.2.1;omega)
def mvIs (s:Int) (c:Str):D->Bool
 | .tup (.int s'::.str c'::_)=>s' == s && c' == c
 | _=>false
def mvAns:D->D
 | .tup (_::_::r)=>.tup r
 | d=>d
def ans (moves:List D) (s:Int) (c:Str):D:=match moves.find? (mvIs s c) with
 | some d=>mvAns d
 | none=>if c == "own" then .non else .tup [.int s,.tup [],.non]
theorem so_own:PyData.strOk "own" = true:=⋯
theorem cause_ok {x:Str} (h:x = "own" \/ x = "a" \/ x = "b" \/ x = "z"):PyData.strOk x=true:=by
 rcases h with rfl | rfl | rfl | rfl <;> decide +kernel
theorem tup_is {M:Mem} {s s':Int} {c c':Str} (hc:PyData.strOk c=true) (hc':PyData.strOk c'=true):cmpW .eq (.d (.tup [.int s',.str c'])) (.d (.tup [.int s,.str c])) M=.ok (s' == s && c' == c) M:=by
 have h1:∀ (s:Int) (c:Str),pyW M (.d (.tup [.int s,.str c]))=some (.tuple [.int s,.str c]):=fun s c=>by
  show pyD M 30 (.tup [.int s,.str c])=_
  try simp only [pyD,pyDs,Option.map_some]
 have h2:∀ (s:Int) {c:Str},PyData.strOk c=true->SeqAt.shaped (.tuple [.int s,.str c])=true:=fun s c h=>by
  unfold SeqAt.shaped
  try simp only [PyData.canLay0.eq_6,PyData.canLayAll0.eq_2,PyData.canLayAll0.eq_1,PyData.canLay0.eq_3,PyData.canLay0.eq_4,h,PyData.depth.eq_2,PyData.depthAll.eq_2,PyData.depthAll.eq_1,PyData.depth.eq_6,PyData.depth.eq_7]
  rfl
 unfold cmpW
 try simp only [h1,h2 _ hc,h2 _ hc',and_self,if_true,PyData.eqv.eq_8,PyData.eqvAll.eq_2,PyData.eqvAll.eq_1,PyData.eqv.eq_5,PyData.eqv.eq_6,Bool.and_true]
theorem find_step {α:Type} {p:α->Bool} {l:List α} {k:Nat} {x:α} (h:l[k]?=some x) (hn:(l.take k).find? p=none) (hp:p x=true):l.find? p=some x:=by
 have hk:=(zqa.mp h).1
 have e:l=l.take k++(x::l.drop (k+1)):=by
  have:l.drop k=x::l.drop (k+1):=by
   rw [List.drop_eq_getElem_cons hk]
   congr 1
   rw [zqb hk] at h
   exact zql h
  rw [<- this,List.take_append_drop]
 rw [e,List.find?_append,hn]
 simp [hp]
def AnswerF (F:Fn):Prop:=∀ (P:Int->Prop) (M:Mem) (rules roads moves:List D) (st:D) (m:Nat) (s:Int) (c:Str),rules[m]?=some (.tup [st,.tup moves])->(∀ y∈moves,MoveD P y)->PyData.strOk c=true ->
 Okp (F [.tup [.tup rules,.tup roads],.int m,.int s,.str c] M) fun r M'=>M=M'/\r=.d (ans moves s c)
theorem nat_at {ds:List D} {m:Nat} {x:D} (h:ds[m]?=some x):ds[((m:Nat):Int).toNat]?=some x:=by rw [Int.toNat_natCast];exact h
theorem answerF {G:Fns}:AnswerF (runDef G 5 bAnswer):=by
 intro P M rules roads moves st m s c hm hmv hc
 rw [w_run]
 show wSs G bAnswer [some (.tup [.tup rules,.tup roads]),some (.int m),some (.int s),some (.str c),none] M _ _ _ _
 nofun
 rw [sub_tup (M:=M) (ds:=rules) (i:=(m:Nat)) (by omega) (nat_at hm)]
 nofun
 refine f_items (ds:=moves) (fun k ρ M'=>∃ o4,M=M'/\ρ=[some (.tup [.tup rules,.tup roads]),some (.int m),some (.int s),some (.str c),o4]/\(moves.take k).find? (mvIs s c)=none) ⟨none,rfl,rfl,by simp⟩ ?_ ?_
 ·rintro k ρ M' d hd ⟨o4,rfl,rfl,hnone⟩
  obtain ⟨s',c',a,sd,wd,rfl,⟨i,rfl,_,_⟩,⟨cx,rfl,hcx⟩,_⟩:=hmv d (zqj hd)
  have hno:(i == s && cx == c)=false->(moves.take (k+1)).find? (mvIs s c)=none:=fun q=>by
   rw [take_next hd,List.find?_append,hnone]
   try simp only [List.find?_cons,mvIs,q]
   rfl
  nofun
  cases q:(i == s) with
  | true =>
   nofun
   rw [c_eqS (cause_ok hcx) hc]
   cases q2:(cx == c) with
   | true =>
    nofun
    refine ⟨(show (3:Nat)<=sizeLine by decide),rfl,?_⟩
    unfold ans
    rw [find_step hd hnone (by simp [mvIs,q,q2])]
    rfl
   | false=>exact ⟨_,rfl,rfl,hno (by simp [q2])⟩
  | false=>exact ⟨_,rfl,rfl,hno (by simp [q])⟩
 ·rintro ρ M' ⟨o4,rfl,rfl,hnone⟩
  rw [List.take_length] at hnone
  nofun
  rw [c_eqS hc so_own]
  cases q:(c == "own") with
  | true =>
   refine ⟨rfl,?_⟩
   unfold ans
   rw [hnone]
   show _=W.d (if (c == "own")=true then _ else _)
   rw [q]
   rfl
  | false =>
   nofun
   refine ⟨(show (0:Nat)<=sizeLine by decide),?_⟩
   nofun
   refine ⟨(show (3:Nat)<=sizeLine by decide),rfl,?_⟩
   unfold ans
   rw [hnone]
   show _=W.d (if (c == "own")=true then _ else _)
   rw [q]
   rfl
theorem sm_word {d:D} (h:WordD d):Sm 12 0 d:=by
 rcases h with rfl | ⟨x,rfl,h⟩
 ·exact Sm.non.mono (by decide) (by decide)
 ·rcases h with rfl | rfl | rfl | rfl | rfl <;> exact Sm.str (⋯) ⟨⋯,⋯⟩
theorem sm_st {d:D} (h:StD d):Sm 2 0 d:=by
 obtain ⟨i,rfl,h0,h1⟩:=h
 exact Sm.int h0 h1
theorem sm_send {P:Int->Prop} (hP:∀ r,P r->0<=r/\r < 100) {d:D} (h:SendD P d):Sm 20 1 d:=by
 obtain ⟨r,c,rfl,h1,h2⟩:=h
 have hc:Sm 3 0 (.str c):=by rcases h2 with rfl | rfl | rfl | rfl <;> exact Sm.str (⋯) ⟨⋯,⋯⟩
 refine (Sm.tup (b:=3) (h:=0) (k:=2) (ds:=[.int r,.str c]) ?_ (zqg 2)).mono (by decide) (by decide)
 intro d hd
 simp only [List.mem_cons,List.mem_nil_iff,or_false] at hd
 rcases hd with rfl | rfl
 ·exact (Sm.int (hP r h1).1 (hP r h1).2).mono (by decide) (by decide)
 ·exact hc
theorem sm_ans {P:Int->Prop} (hP:∀ r,P r->0<=r/\r < 100) {d:D} (h:MoveD P d):Sm 300 3 (mvAns d):=by
 obtain ⟨s,c,a,sd,wd,rfl,_,_,ha,hl,hsd,hw⟩:=h
 show Sm 300 3 (.tup [a,.tup sd,wd])
 have h1:Sm 69 2 (.tup sd):=Sm.tup (b:=20) (h:=1) (k:=3) (fun x hx=>sm_send hP (hsd x hx)) hl
 refine (Sm.tup (b:=69) (h:=2) (k:=3) (ds:=[a,.tup sd,wd]) ?_ (zqg 3)).mono (by decide) (by decide)
 intro d hd
 simp only [List.mem_cons,List.mem_nil_iff,or_false] at hd
 rcases hd with rfl | rfl | rfl
 ·exact (sm_st ha).mono (by decide) (by decide)
 ·exact h1
 ·exact (sm_word hw).mono (by decide) (by decide)
theorem ne_nil {M:Mem} {n:Nat} {ds:List D} {b h:Nat} (hM:M[n]?=some (.lst ds)) (q:∀ d∈ds,Sm b h d) (hl:ds.length<=1000) (hh:h<=20):cmpW .ne (.d (.adr n)) (.lv []) M=.ok (!ds.isEmpty) M:=by
 obtain ⟨ps,e,a,l⟩:=Sm.ds q
 have h1:pyW M (.d (.adr n))=some (.list ps):=by
  show pyD M 30 (.adr n)=_
  unfold pyD
  try simp only [hM]
  rw [e M 29 (by omega)]
  rfl
 have h2:pyW M (.lv [])=some (.list []):=by show (pyDs M 30 []).map _=_;unfold pyDs;rfl
 have h3:=(SmP.list (k:=1000) a (by omega)).shaped (by omega)
 have h4:SeqAt.shaped (.list [])=true:=⋯
 unfold cmpW
 try simp only [h1,h2,h3,h4,and_self,if_true,PyData.eqv.eq_7]
 cases ds with
 | nil =>
  have:ps=[]:=List.eq_nil_of_length_eq_zero l
  subst this
  rw [PyData.eqvAll.eq_1];rfl
 | cons d ds =>
  cases ps with
  | nil=>simp at l
  | cons p ps =>
   have:PyData.eqvAll (p::ps) []=false:=by simp only [PyData.eqvAll]
   rw [this];rfl
def LawAnsF (F:Fn):Prop:=∀ (P:Int->Prop) (M:Mem) (rules roads moves:List D) (st:D) (m:Nat) (s:Int) (c:Str),(∀ r,P r->0<=r/\r < 100)->rules[m]?=some (.tup [st,.tup moves])->(∀ y∈moves,MoveD P y)->moves.length<=28->PyData.strOk c=true ->
 Okp (F [.tup [.tup rules,.tup roads],.int m,.int s,.str c] M) fun r M'=>Fr M.length M M'/\r=.d (ans moves s c)
theorem filter_next {α:Type} {p:α->Bool} {l:List α} {k:Nat} {x:α} (h:l[k]?=some x):(l.take (k+1)).filter p=(l.take k).filter p++(if p x then [x] else []):=by
 rw [take_next h,List.filter_append]
 cases q:p x <;> simp [q]
theorem find_filter {α:Type} {p:α->Bool} {l:List α}:l.find? p=(l.filter p).head?:=by
 induction l with
 | nil=>rfl
 | cons x l ih =>
  cases q:p x
  ·rw [List.find?_cons_of_neg (by simp [q]),List.filter_cons_of_neg (by simp [q])];exact ih
  ·rw [List.find?_cons_of_pos q,List.filter_cons_of_pos q];rfl
theorem lawAnsF {G:Fns}:LawAnsF (runDef G 5 bLawAns):=by
 intro P M rules roads moves st m s c hP hm hmv h28 hc
 rw [w_run]
 show wSs G bLawAns [some (.tup [.tup rules,.tup roads]),some (.int m),some (.int s),some (.str c),none] M _ _ _ _
 nofun
 rw [sub_tup (M:=M) (ds:=rules) (i:=(m:Nat)) (by omega) (nat_at hm)]
 nofun
 refine c_gen (ds:=moves) (fun k M' acc=>M=M'/\acc=((moves.take k).filter (mvIs s c)).map mvAns/\acc.length<=k) (by decide) (fun i M' acc _ _=>rfl) ⟨rfl,by simp,zqg _⟩ ?_ ?_ rfl
 ·rintro k M' acc d hd ⟨rfl,hacc,hal⟩
  have hk:=(zqa.mp hd).1
  refine ⟨small_lt (by omega),?_⟩
  obtain ⟨s',c',a,sd,wd,rfl,⟨i,rfl,_,_⟩,⟨cx,rfl,hcx⟩,_⟩:=hmv d (zqj hd)
  have hn:=filter_next (p:=mvIs s c) hd
  nofun
  refine ⟨(show (2:Nat)<=sizeLine by decide),?_⟩
  show Opk (cmpW .eq (.d (.tup [.int i,.str cx])) (.d (.tup [.int s,.str c])) M) _
  rw [tup_is hc (cause_ok hcx)]
  cases q:(i == s && cx == c) with
  | true =>
   nofun
   refine ⟨rfl,?_,by simp;omega⟩
   rw [hn,if_pos (show mvIs s c (.tup [.int i,.str cx,a,.tup sd,wd])=true from q),zqs,hacc]
   rfl
  | false =>
   refine ⟨rfl,?_,by omega⟩
   rw [hn,if_neg (show ¬ mvIs s c (.tup [.int i,.str cx,a,.tup sd,wd])=true from fun z=>by rw [show mvIs s c (.tup [.int i,.str cx,a,.tup sd,wd])=false from q] at z;cases z),List.append_nil,hacc]
 ·rintro M' told ⟨rfl,hacc,hal⟩
  rw [List.take_length] at hacc
  have hM:(M++[MO.lst told])[M.length]?=some (.lst told):=app_last
  have hsm:∀ d∈told,Sm 300 3 d:=by
   intro d hd
   rw [hacc] at hd
   obtain ⟨y,hy,rfl⟩:=zqo.mp hd
   exact sm_ans hP (hmv y (List.mem_filter.mp hy |>.1))
  nofun
  refine ⟨(show (0:Nat)<=sizeLine by decide),?_⟩
  nofun
  rw [ne_nil hM hsm (by omega) (by decide)]
  have hans:ans moves s c=told.head?.getD (if c == "own" then .non else .tup [.int s,.tup [],.non]):=by
   unfold ans
   rw [find_filter,hacc,List.head?_map]
   cases (moves.filter (mvIs s c)).head? <;> rfl
  cases told with
  | cons d r =>
   nofun
   rw [sub_lst hM (i:=0) (x:=d) (zqm 0) rfl]
   exact ⟨(Fr.refl _ M).app,by rw [hans];rfl⟩
  | nil =>
   nofun
   rw [c_eqS hc so_own]
   have hans:ans moves s c=if (c == "own")=true then .non else .tup [.int s,.tup [],.non]:=hans
   cases q:(c == "own") with
   | true =>
    rw [q] at hans
    exact ⟨(Fr.refl _ M).app,by rw [hans];rfl⟩
   | false =>
    rw [q] at hans
    nofun
    refine ⟨(show (0:Nat)<=sizeLine by decide),?_⟩
    nofun
    refine ⟨(show (3:Nat)<=sizeLine by decide),(Fr.refl _ M).app,?_⟩
    rw [hans]
    rfl
section
variable {M:Mem} {n:Nat} {ds:List D} {i:Int} {x:D}
abbrev iD (ks:List Int):List D:=ks.map D.int
theorem py_ints {k:Nat}:∀ (ks:List Int),pyDs M k (iD ks)=some (ks.map PyData.int)
 | []=>by show pyDs M k []=_;unfold pyDs;rfl
 | i::ks=>by
  show pyDs M k (.int i::iD ks)=_
  unfold pyDs
  have:pyD M k (.int i)=some (.int i):=by cases k <;> (unfold pyD;rfl)
  rw [this,py_ints ks]
  rfl
theorem sh_ints:∀ (ks:List Int),(ks.map PyData.int).all SeqAt.shaped=true
 | []=>rfl
 | i::ks=>by
  show (SeqAt.shaped (.int i) && (ks.map PyData.int).all SeqAt.shaped)=true
  rw [sh_int,sh_ints ks];rfl
theorem in_ints {i:Int}:∀ (ks:List Int),inPy (.int i) (ks.map PyData.int)=decide (i∈ks)
 | []=>by simp [inPy]
 | k::ks=>by
  show (PyData.eqv (.int k) (.int i) || inPy (.int i) (ks.map PyData.int))=_
  rw [in_ints ks,PyData.eqv.eq_5]
  by_cases h:k=i
  ·subst h;simp
  ·have h2:(k == i)=false:=beq_eq_false_iff_ne.mpr h
   rw [h2,Bool.false_or]
   by_cases h3:i∈ks
   ·rw [decide_eq_true h3,decide_eq_true (zqi _ h3)]
   ·rw [decide_eq_false h3,decide_eq_false (fun z=>by
     rcases List.mem_cons.mp z with z | z
     ·exact h z.symm
     ·exact h3 z)]
theorem py_int {i:Int}:pyW M (.d (.int i))=some (.int i):=by show pyD M 30 (.int i)=_;unfold pyD;rfl
theorem ni_tup {i:Int} {ks:List Int}:cmpW .notin (.d (.int i)) (.d (.tup (iD ks))) M=.ok (!decide (i∈ks)) M:=by
 unfold cmpW;simp only [py_int,seqW,py_ints,sh_int,sh_ints,and_self,if_true,in_ints]
theorem ni_lst {i:Int} {ks:List Int} (h:M[n]?=some (.lst (iD ks))):cmpW .notin (.d (.int i)) (.d (.adr n)) M=.ok (!decide (i∈ks)) M:=by
 unfold cmpW;simp only [py_int,seqW,h,py_ints,sh_int,sh_ints,and_self,if_true,in_ints]
end
def feedO (c:Nat) (a l t:Int):MO:=.lst [.adr c,.int a,.int l,.int t]
section
variable {M:Mem} {w c:Nat} {a l t:Int}
theorem fd0 (h:M[w]?=some (feedO c a l t)):subW (.d (.adr w)) (.d (.int 0)) M=.ok (.d (.adr c)) M:=sub_lst (ds:=[.adr c,.int a,.int l,.int t]) h (by decide) rfl
theorem fd1 (h:M[w]?=some (feedO c a l t)):subW (.d (.adr w)) (.d (.int 1)) M=.ok (.d (.int a)) M:=sub_lst (ds:=[.adr c,.int a,.int l,.int t]) h (by decide) rfl
theorem fd2 (h:M[w]?=some (feedO c a l t)):subW (.d (.adr w)) (.d (.int 2)) M=.ok (.d (.int l)) M:=sub_lst (ds:=[.adr c,.int a,.int l,.int t]) h (by decide) rfl
theorem fd3 (h:M[w]?=some (feedO c a l t)):subW (.d (.adr w)) (.d (.int 3)) M=.ok (.d (.int t)) M:=sub_lst (ds:=[.adr c,.int a,.int l,.int t]) h (by decide) rfl
end
end Ev
end
section
namespace Ev
open PySem
def pWhole:List S:=[.ret (.conj [(.bi (.isi .int) [(.var 0)]),(.neg (.bi (.isi .bool) [(.var 0)]))])]
def pBelow (kWhole:Nat):List S:=[.ret (.conj [(.call kWhole [(.var 0)]),(.chain .le .lt (.cst (.int 0)) (.var 0) (.var 1))])]
def pSign:List S:=[.ret (.conj [(.bi (.isi .str) [(.var 0)]),(.cmp .eq (.bi .len [(.var 0)]) (.cst (.int 1))),(.chain .le .le (.cst (.str "a")) (.var 0) (.cst (.str "z")))])]
def pWaits:List S:=[.ret (.bi .list1 [(.sub (.sub (.sub (.var 0) (.cst (.int 1))) (.var 1)) (.cst (.int 1)))])]
def pPlain (kBelow:Nat) (kSign:Nat) (kWhole:Nat):List S:=[.iff (.disj [(.neg (.val (.bi (.isi .tuple) [(.var 1)]))),(.val (.cmp .notin (.bi .len [(.var 1)]) (.tup [(.cst (.int 2)),(.cst (.int 3))])))]) [.ret (.cst (.bl false))] [],.iff (.val (.cmp .eq (.bi .len [(.var 1)]) (.cst (.int 2)))) [.ret (.conj [(.cmp .eq (.sub (.var 1) (.cst (.int 0))) (.cst (.str "own"))),(.call kBelow [(.sub (.var 1) (.cst (.int 1))),(.bi .len [(.sub (.var 0) (.cst (.int 0)))])])])] [],.iff (.val (.cmp .eq (.sub (.var 1) (.cst (.int 0))) (.cst (.str "hear")))) [.ret (.conj [(.call kBelow [(.sub (.var 1) (.cst (.int 1))),(.bi .len [(.sub (.var 0) (.cst (.int 0)))])]),(.call kSign [(.sub (.var 1) (.cst (.int 2)))])])] [],.ret (.conj [(.cmp .eq (.sub (.var 1) (.cst (.int 0))) (.cst (.str "come"))),(.call kBelow [(.sub (.var 1) (.cst (.int 1))),(.bi .len [(.sub (.var 0) (.cst (.int 1)))])]),(.call kWhole [(.sub (.var 1) (.cst (.int 2)))])])]
def pMach:List S:=[.iff (.val (.cmp .eq (.sub (.var 1) (.cst (.int 0))) (.cst (.str "come")))) [.ret (.sub (.sub (.sub (.var 0) (.cst (.int 1))) (.sub (.var 1) (.cst (.int 1)))) (.cst (.int 1)))] [],.ret (.sub (.var 1) (.cst (.int 1)))]
def pMay (kWaits:Nat):List S:=[.asg [3] (.call kWaits [(.var 1),(.var 2)]),.iff (.val (.cmp .eq (.sub (.sub (.sub (.var 0) (.cst (.int 1))) (.var 2)) (.cst (.int 2))) (.cst (.str "row")))) [.asg [3] (.slc (.var 3) none (some (.cst (.int 1))))] [],.ret (.comp .seq [(.var 3)] [1,2] none (.var 1) [none,none,none])]
def pCan (kPlain:Nat) (kAnswer:Nat) (kMay:Nat):List S:=[.iff (.neg (.val (.call kPlain [(.var 0),(.var 2)]))) [.ret (.cst (.bl false))] [],.iff (.val (.cmp .eq (.sub (.var 2) (.cst (.int 0))) (.cst (.str "own")))) [.ret (.cmp .notN (.call kAnswer [(.var 0),(.sub (.var 2) (.cst (.int 1))),(.sub (.sub (.var 1) (.cst (.int 0))) (.sub (.var 2) (.cst (.int 1)))),(.cst (.str "own"))]) (.cst .non))] [],.iff (.val (.cmp .eq (.sub (.var 2) (.cst (.int 0))) (.cst (.str "come")))) [.ret (.cmp .isin (.sub (.var 2) (.cst (.int 2))) (.call kMay [(.var 0),(.var 1),(.sub (.var 2) (.cst (.int 1)))]))] [],.ret (.cst (.bl true))]
def pCause (kWaits:Nat):List S:=[.iff (.val (.cmp .eq (.sub (.var 1) (.cst (.int 0))) (.cst (.str "own")))) [.ret (.cst (.str "own"))] [],.iff (.val (.cmp .eq (.sub (.var 1) (.cst (.int 0))) (.cst (.str "hear")))) [.ret (.sub (.var 1) (.cst (.int 2)))] [],.ret (.sub (.bi .dict1 [(.call kWaits [(.var 0),(.sub (.var 1) (.cst (.int 1)))])]) (.sub (.var 1) (.cst (.int 2))))]
def pLess:List S:=[.ret (.tup [(.sub (.var 0) (.cst (.int 0))),(.bi .tuple1 [(.comp .seq [(.sub (.var 0) (.cst (.int 1)))] [1] (some (.val (.cmp .ne (.sub (.var 1) (.cst (.int 0))) (.var 2)))) (.var 1) [none,none,some 1])])])]
def pMore:List S:=[.ret (.tup [(.bin .add (.sub (.var 0) (.cst (.int 0))) (.cst (.int 1))),(.bin .add (.sub (.var 0) (.cst (.int 1))) (.tup [(.tup [(.sub (.var 0) (.cst (.int 0))),(.var 1)])]))])]
def pOutc (kMach:Nat) (kAnswer:Nat) (kCause:Nat) (kLess:Nat) (kMore:Nat):List S:=[.asg [3] (.call kMach [(.var 0),(.var 2)]),.asg [4] (.call kAnswer [(.var 0),(.var 3),(.sub (.sub (.var 1) (.cst (.int 0))) (.var 3)),(.call kCause [(.var 1),(.var 2)])]),.asg [5] (.bi .list1 [(.sub (.var 1) (.cst (.int 0)))]),.put (.var 5) (.var 3) (.sub (.var 4) (.cst (.int 0))),.asg [6] (.bi .list1 [(.sub (.var 1) (.cst (.int 1)))]),.iff (.val (.cmp .eq (.sub (.var 2) (.cst (.int 0))) (.cst (.str "come")))) [.put (.var 6) (.sub (.var 2) (.cst (.int 1))) (.call kLess [(.sub (.var 6) (.sub (.var 2) (.cst (.int 1)))),(.sub (.var 2) (.cst (.int 2)))])] [],.forr [7,8] .seq [(.sub (.var 4) (.cst (.int 1)))] [.put (.var 6) (.var 7) (.call kMore [(.sub (.var 6) (.var 7)),(.var 8)])],.asg [9] (.cst .non),.iff (.val (.cmp .notN (.sub (.var 4) (.cst (.int 2))) (.cst .non))) [.asg [9] (.tup [(.var 3),(.sub (.var 4) (.cst (.int 2)))])] [],.ret (.tup [(.tup [(.bi .tuple1 [(.var 5)]),(.bi .tuple1 [(.var 6)])]),(.var 9)])]
def pDone (kCan:Nat) (kOutc:Nat):List S:=[.iff (.neg (.val (.call kCan [(.var 0),(.var 1),(.var 2)]))) [.never] [],.ret (.call kOutc [(.var 0),(.var 1),(.var 2)])]
def pLComes:List S:=[.asg [2] (.lst []),.forr [3] .rng1 [(.bi .len [(.sub (.var 0) (.cst (.int 1)))])] [.asg [4] (.bi .list1 [(.sub (.sub (.sub (.var 1) (.cst (.int 1))) (.var 3)) (.cst (.int 1)))]),.iff (.val (.cmp .eq (.sub (.sub (.sub (.var 0) (.cst (.int 1))) (.var 3)) (.cst (.int 2))) (.cst (.str "row")))) [.asg [4] (.slc (.var 4) none (some (.cst (.int 1))))] [],.asg [2] (.bin .add (.var 2) (.comp .seq [(.var 4)] [1,2] none (.tup [(.var 3),(.var 1),(.var 2)]) [none,none,none,some 3]))],.ret (.var 2)]
def pLAnsd (kLAns:Nat) (kLComes:Nat):List S:=[.iff (.val (.cmp .ne (.sub (.var 2) (.cst (.int 0))) (.cst (.str "come")))) [.asg [3] (.sub (.var 2) (.cst (.int 1))),.ret (.call kLAns [(.var 0),(.var 3),(.sub (.sub (.var 1) (.cst (.int 0))) (.var 3)),(.sub (.stp (.var 2) 2) (.cst (.int (-1))))])] [],.forr [4,5,6] .seq [(.call kLComes [(.var 0),(.var 1)])] [.iff (.val (.cmp .eq (.tup [(.var 4),(.var 5)]) (.slc (.var 2) (some (.cst (.int 1))) none))) [.asg [3] (.sub (.sub (.sub (.var 0) (.cst (.int 1))) (.var 4)) (.cst (.int 1))),.ret (.call kLAns [(.var 0),(.var 3),(.sub (.sub (.var 1) (.cst (.int 0))) (.var 3)),(.var 6)])] []],.ret (.cst .non)]
def pLMach:List S:=[.ret (.ite (.val (.cmp .eq (.sub (.var 1) (.cst (.int 0))) (.cst (.str "come")))) (.sub (.sub (.sub (.var 0) (.cst (.int 1))) (.sub (.var 1) (.cst (.int 1)))) (.cst (.int 1))) (.sub (.var 1) (.cst (.int 1))))]
def pLDone (kLAnsd:Nat) (kLMach:Nat):List S:=[.asg [3,4,5] (.call kLAnsd [(.var 0),(.var 1),(.var 2)]),.asg [6] (.call kLMach [(.var 0),(.var 2)]),.asg [7] (.bi .list1 [(.sub (.var 1) (.cst (.int 0)))]),.put (.var 7) (.var 6) (.var 3),.asgC 9 (.comp .seq [(.sub (.var 1) (.cst (.int 1)))] [1] none (.lst [(.sub (.var 1) (.cst (.int 0))),(.bi .list1 [(.sub (.var 1) (.cst (.int 1)))])]) [none,none]),.iff (.val (.cmp .eq (.sub (.var 2) (.cst (.int 0))) (.cst (.str "come")))) [.asg [8] (.sub (.var 9) (.sub (.var 2) (.cst (.int 1)))),.put (.var 8) (.cst (.int 1)) (.comp .seq [(.sub (.var 8) (.cst (.int 1)))] [1] (some (.val (.cmp .ne (.sub (.var 1) (.cst (.int 0))) (.sub (.var 2) (.cst (.int 2)))))) (.var 1) [none,none,some 2])] [],.forr [10,11] .seq [(.var 4)] [.expr (.me .append (.sub (.sub (.var 9) (.var 10)) (.cst (.int 1))) [(.tup [(.sub (.sub (.var 9) (.var 10)) (.cst (.int 0))),(.var 11)])]),.put (.sub (.var 9) (.var 10)) (.cst (.int 0)) (.bin .add (.sub (.sub (.var 9) (.var 10)) (.cst (.int 0))) (.cst (.int 1)))],.asg [12] (.bi .tuple1 [(.comp .seq [(.var 9)] [1] none (.tup [(.sub (.var 1) (.cst (.int 0))),(.bi .tuple1 [(.sub (.var 1) (.cst (.int 1)))])]) [none,none])]),.ret (.tup [(.tup [(.bi .tuple1 [(.var 7)]),(.var 12)]),(.ite (.val (.cmp .isN (.var 5) (.cst .non))) (.cst .non) (.tup [(.var 6),(.var 5)]))])]
def pLLoad (kDraw:Nat):List S:=[.asg [2] (.lst [(.cst (.int 0)),(.call kDraw [(.var 0),(.cst (.int 6))]),(.call kDraw [(.var 0),(.bin .sub (.bin .pow (.cst (.int 10)) (.cst (.int 9))) (.cst (.int 1000)))])]),.asg [3] (.sub (.var 2) (.bin .fdiv (.call kDraw [(.var 0),(.cst (.int 5))]) (.cst (.int 2)))),.asg [4] (.lst []),.asg [5] (.var 3),.forr [6] .rng1 [(.bi .min2 [(.var 3),(.call kDraw [(.var 0),(.cst (.int 4))])])] [.asg [5] (.bin .sub (.bin .sub (.var 5) (.cst (.int 1))) (.bin .mul (.bi .int1 [(.cmp .eq (.var 1) (.cst (.str "heap")))]) (.call kDraw [(.var 0),(.cst (.int 3))]))),.iff (.val (.cmp .ge (.var 5) (.cst (.int 0)))) [.expr (.me .insert (.var 4) [(.cst (.int 0)),(.tup [(.var 5),(.sub (.cst (.str "abcz")) (.call kDraw [(.var 0),(.cst (.int 4))]))])])] []],.ret (.tup [(.var 3),(.bi .tuple1 [(.var 4)])])]
def pLStand (kWell:Nat) (kDraw:Nat) (kLLoad:Nat):List S:=[.asg [2] (.call kWell [(.var 0),(.cst (.int 5))]),.asg [3] (.bi .tuple1 [(.comp .seq [(.sub (.var 1) (.cst (.int 1)))] [1] none (.tup [(.cst (.int 0)),(.tup [])]) [none,none])]),.asg [4] (.bi .tuple1 [(.comp .seq [(.sub (.var 1) (.cst (.int 0)))] [1] none (.sub (.var 1) (.cst (.int 0))) [none,none])]),.iff (.val (.cmp .gt (.call kDraw [(.var 2),(.cst (.int 3))]) (.cst (.int 0)))) [.asg [3] (.bi .tuple1 [(.comp .seq [(.sub (.var 1) (.cst (.int 1)))] [1] none (.call kLLoad [(.var 2),(.sub (.var 1) (.cst (.int 2)))]) [none,none,some 2])]),.iff (.val (.cmp .eq (.call kDraw [(.var 2),(.cst (.int 4))]) (.cst (.int 0)))) [.asg [4] (.bi .tuple1 [(.comp .seq [(.sub (.var 1) (.cst (.int 0)))] [1] none (.call kDraw [(.var 2),(.cst (.int 100))]) [none,none,some 2])])] []] [],.ret (.tup [(.var 4),(.var 3)])]
def pLNext (kLComes:Nat) (kLAnsd:Nat) (kDraw:Nat):List S:=[.asgC 3 (.comp .seq [(.call kLComes [(.var 1),(.var 2)])] [1,2,3] none (.tup [(.cst (.str "come")),(.var 1),(.var 2)]) [none,none,none,none]),.asg [4] (.lst []),.forr [5] .rng1 [(.bi .len [(.sub (.var 1) (.cst (.int 0)))])] [.iff (.val (.cmp .notN (.call kLAnsd [(.var 1),(.var 2),(.tup [(.cst (.str "own")),(.var 5)])]) (.cst .non))) [.expr (.me .append (.var 4) [(.tup [(.cst (.str "own")),(.var 5)])])] []],.asg [6] (.call kDraw [(.var 0),(.cst (.int 8))]),.iff (.conj [(.val (.cmp .ne (.var 3) (.lst []))),(.val (.cmp .lt (.var 6) (.cst (.int 4))))]) [.ret (.sub (.var 3) (.call kDraw [(.var 0),(.bi .len [(.var 3)])]))] [],.iff (.conj [(.val (.cmp .ne (.var 4) (.lst []))),(.val (.cmp .lt (.var 6) (.cst (.int 7))))]) [.ret (.sub (.var 4) (.call kDraw [(.var 0),(.bi .len [(.var 4)])]))] [],.ret (.tup [(.cst (.str "hear")),(.call kDraw [(.var 0),(.bi .len [(.sub (.var 1) (.cst (.int 0)))])]),(.sub (.cst (.str "abcz")) (.call kDraw [(.var 0),(.cst (.int 4))]))])]
end Ev
end
section
namespace Ev
open L2
open PySem PySem.Spec PyProof.Rows
structure Mv where
 s:Int
 c:Str
 a:Int
 sd:List (Int×Str)
 w:Option Str
structure Fm where
 ru:List (Int×List Mv)
 ro:List (Int×Int×Str)
structure Sd where
 st:List Int
 ld:List (Int×List (Int×Str))
def pD (p:Int×Str):D:=.tup [.int p.1,.str p.2]
def wdD:Option Str->D
 | none=>.non
 | some x=>.str x
def mvD (m:Mv):D:=.tup [.int m.s,.str m.c,.int m.a,.tup (m.sd.map pD),wdD m.w]
def ruD (r:Int×List Mv):D:=.tup [.int r.1,.tup (r.2.map mvD)]
def roD (r:Int×Int×Str):D:=.tup [.int r.1,.int r.2.1,.str r.2.2]
def fmD (f:Fm):D:=.tup [.tup (f.ru.map ruD),.tup (f.ro.map roD)]
def ldD (l:Int×List (Int×Str)):D:=.tup [.int l.1,.tup (l.2.map pD)]
def sdd (s:Sd):D:=.tup [.tup (s.st.map D.int),.tup (s.ld.map ldD)]
inductive Dn where
 | own (m:Nat) | hear (m:Nat) (c:Str) | come (r:Nat) (k:Int)
def dnD:Dn->D
 | .own m=>.tup [.str "own",.int m]
 | .hear m c=>.tup [.str "hear",.int m,.str c]
 | .come r k=>.tup [.str "come",.int r,.int k]
def SigOk (s:Str):Prop:=s = "a" \/ s = "b" \/ s = "c" \/ s = "z"
theorem SigOk.ok {s:Str} (h:SigOk s):PyData.strOk s=true/\(s == "own")=false:=by
 rcases h with rfl | rfl | rfl | rfl <;> exact ⟨⋯,⋯⟩
def WdOk (w:Option Str):Prop:=∀ x,w=some x->x = "x" \/ x = "yes" \/ x = "abcdefgh" \/ x = "own" \/ x = "a"
structure MvOk (ro:List (Int×Int×Str)) (m:Nat) (y:Mv):Prop where
 s:0<=y.s/\y.s < 100
 c:y.c = "own" \/ y.c = "a" \/ y.c = "b" \/ y.c = "z"
 a:0<=y.a/\y.a < 100
 l:y.sd.length<=3
 sd:∀ p∈y.sd,SigOk p.2/\0<=p.1/\∃ r,ro[p.1.toNat]?=some r/\r.1=m
 w:WdOk y.w
structure RoOk (n:Nat) (r:Int×Int×Str):Prop where
 a:0<=r.1/\r.1 < n
 b:0<=r.2.1/\r.2.1 < n
 ab:r.1≠r.2.1
 k:r.2.2 = "row" \/ r.2.2 = "heap"
structure FmOk (f:Fm):Prop where
 l1:1<=f.ru.length
 l4:f.ru.length<=4
 l8:f.ro.length<=8
 ro:∀ r∈f.ro,RoOk f.ru.length r
 ru:∀ m x,f.ru[m]?=some x->(0<=x.1/\x.1 < 100)/\x.2.length<=28/\∀ y∈x.2,MvOk f.ro m y
structure LdOk (N:Nat) (l:Int×List (Int×Str)):Prop where
 s:0<=l.1/\l.1<=1000000000+N
 n:l.2.length<=N
 p:∀ p∈l.2,SigOk p.2/\0<=p.1/\p.1 < l.1
 r:l.2.Pairwise fun p q=>p.1 < q.1
structure SdOk (f:Fm) (N:Nat) (s:Sd):Prop where
 ls:s.st.length=f.ru.length
 st:∀ x∈s.st,0<=x/\x < 100
 ll:s.ld.length=f.ro.length
 ld:∀ l∈s.ld,LdOk N l
def DnOk (f:Fm):Dn->Prop
 | .own m=>m < f.ru.length
 | .hear m c=>m < f.ru.length/\SigOk c
 | .come r _=>r < f.ro.length
theorem typed {α:Type} {toD:α->D}:∀ {ds:List D} {Q:Nat->α->Prop},(∀ m x,ds[m]?=some x->∃ a,x=toD a/\Q m a)->∃ as:List α,ds=as.map toD/\∀ m a,as[m]?=some a->Q m a
  | [],Q,_=>⟨[],rfl,fun m a h=>by simp at h⟩
  | d::ds,Q,h=>by
    obtain ⟨as,e,q⟩:=typed (toD:=toD) (ds:=ds) (Q:=fun m a=>Q (m+1) a) fun m x hx=>h (m+1) x (by simpa using hx)
    obtain ⟨a,e0,q0⟩:=h 0 d (by simp)
    refine ⟨a::as,by rw [List.map_cons,<- e,e0],fun m b hb=>?_⟩
    cases m with
    | zero => have : a = b := by simpa using hb
              subst this;exact q0
    | succ m=>exact q m b (by simpa using hb)
theorem typedA {α:Type} {toD:α->D} {ds:List D} {Q:α->Prop} (h:∀ x∈ds,∃ a,x=toD a/\Q a):∃ as:List α,ds=as.map toD/\∀ a∈as,Q a:=by
 obtain ⟨as,e,q⟩:=typed (toD:=toD) (ds:=ds) (Q:=fun _ a=>Q a) fun m x hx=>h x (zqj hx)
 exact ⟨as,e,fun a ha=>by obtain ⟨i,hi,rfl⟩:=List.mem_iff_getElem.mp ha;exact q i _ (zqb hi)⟩
theorem form_typed {d:D} (h:FormD d):∃ f,d=fmD f/\FmOk f:=by
 obtain ⟨rules,roads,rfl,h1,h4,h8,hrd,hru⟩:=h
 obtain ⟨ro,rfl,hro⟩:=typedA (toD:=roD) (ds:=roads) (Q:=RoOk rules.length) fun x hx=>by
  obtain ⟨a,b,k,rfl,a0,a1,b0,b1,ab,hk⟩:=hrd x hx
  exact ⟨(a,b,k),rfl,⟨a0,a1⟩,⟨b0,b1⟩,ab,hk⟩
 obtain ⟨ru,e,hr⟩:=typed (toD:=ruD) (ds:=rules) (Q:=fun m x=>(0<=x.1/\x.1 < 100)/\x.2.length<=28/\∀ y∈x.2,MvOk ro m y) fun m x hx=>by
  obtain ⟨st,moves,rfl,⟨i,rfl,i0,i1⟩,hl,hm⟩:=hru m x hx
  obtain ⟨mv,rfl,hmv⟩:=typedA (toD:=mvD) (ds:=moves) (Q:=MvOk ro m) fun y hy=>by
   obtain ⟨s,c,a,sd,wd,rfl,⟨s',rfl,s0,s1⟩,⟨c',rfl,hc⟩,⟨a',rfl,a0,a1⟩,hl,hsd,hw⟩:=hm y hy
   obtain ⟨sd',rfl,hs⟩:=typedA (toD:=pD) (ds:=sd) (Q:=fun p=>SigOk p.2/\0<=p.1/\∃ r,ro[p.1.toNat]?=some r/\r.1=(m:Int)) fun z hz=>by
    obtain ⟨r,c,rfl,⟨r0,b,k,hr⟩,hc⟩:=hsd z hz
    rw [zqk] at hr
    cases e:ro[r.toNat]? with
    | none=>rw [e] at hr;cases hr
    | some q =>
     rw [e] at hr
     have hr:roD q=.tup [.int m,b,k]:=zql hr
     refine ⟨(r,c),rfl,hc,r0,q,e,?_⟩
     unfold roD at hr
     simp only [D.tup.injEq,List.cons.injEq,D.int.injEq] at hr
     exact hr.1
   have hw':∃ w,wd=wdD w/\WdOk w:=by
    rcases hw with rfl | ⟨x,rfl,hx⟩
    ·exact ⟨none,rfl,fun x h=>by cases h⟩
    ·exact ⟨some x,rfl,fun y h=>by cases h;exact hx⟩
   obtain ⟨w,rfl,hw2⟩:=hw'
   exact ⟨⟨s',c',a',sd',w⟩,rfl,⟨s0,s1⟩,hc,⟨a0,a1⟩,by simpa using hl,hs,hw2⟩
  exact ⟨(i,mv),rfl,⟨i0,i1⟩,by simpa using hl,hmv⟩
 subst e
 rw [zqe] at h1 h4
 exact ⟨⟨ru,ro⟩,rfl,h1,h4,by simpa using h8,by simpa using hro,hr⟩
def an (mv:List Mv) (s:Int) (c:Str):Option (Int×List (Int×Str)×Option Str):=match mv.find? fun m=>m.s == s && m.c == c with
 | some m=>some (m.a,m.sd,m.w)
 | none=>if c == "own" then none else some (s,[],none)
def anD:Option (Int×List (Int×Str)×Option Str)->D
 | none=>.non
 | some (a,sd,w)=>.tup [.int a,.tup (sd.map pD),wdD w]
def sel (o:Str) (ps:List (Int×Str)):List (Int×Str):=if (o == "row")=true then ps.take 1 else ps
def mvs (f:Fm) (m:Nat):List Mv:=(f.ru.getD m (0,[])).2
def road (f:Fm) (r:Nat):Int×Int×Str:=f.ro.getD r (0,0,"")
def load (s:Sd) (r:Nat):Int×List (Int×Str):=s.ld.getD r (0,[])
def mc (f:Fm):Dn->Nat
 | .own m=>m
 | .hear m _=>m
 | .come r _=>(road f r).2.1.toNat
def cs (f:Fm) (s:Sd):Dn->Option Str
 | .own _=>some "own"
 | .hear _ c=>some c
 | .come r k=>((sel (road f r).2.2 (load s r).2).find? fun p=>p.1 == k).map (·.2)
def rp (f:Fm) (s:Sd) (d:Dn):Option (Int×List (Int×Str)×Option Str):=(cs f s d).bind fun c=>an (mvs f (mc f d)) (s.st.getD (mc f d) 0) c
def cn (f:Fm) (s:Sd) (d:Dn):Bool:=(rp f s d).isSome
def less (l:Int×List (Int×Str)) (k:Int):Int×List (Int×Str):=(l.1,l.2.filter fun p=>!(p.1 == k))
def more (l:Int×List (Int×Str)) (c:Str):Int×List (Int×Str):=(l.1+1,l.2++[(l.1,c)])
def lessD (ld:List (Int×List (Int×Str))):Dn->List (Int×List (Int×Str))
 | .come r k=>ld.set r (less (ld.getD r (0,[])) k)
 | _=>ld
def send (ld:List (Int×List (Int×Str))) (sd:List (Int×Str)):List (Int×List (Int×Str)):=sd.foldl (fun ld p=>ld.set p.1.toNat (more (ld.getD p.1.toNat (0,[])) p.2)) ld
def aft (f:Fm) (s:Sd) (d:Dn) (x:Int×List (Int×Str)×Option Str):Sd:=⟨s.st.set (mc f d) x.1,send (lessD s.ld d) x.2.1⟩
def tld (f:Fm) (d:Dn) (x:Int×List (Int×Str)×Option Str):D:=match x.2.2 with
 | none=>.non
 | some w=>.tup [.int (mc f d),.str w]
theorem find_map {α β:Type} {g:α->β} {p:β->Bool} {q:α->Bool} (h:∀ a,p (g a)=q a):∀ l:List α,(l.map g).find? p=(l.find? q).map g
 | []=>rfl
 | a::l=>by
  have:=find_map h l
  rw [List.map_cons,List.find?_cons,List.find?_cons,h a,this]
  cases q a <;> rfl
theorem ans_an {mv:List Mv} {s:Int} {c:Str}:ans (mv.map mvD) s c=anD (an mv s c):=by
 unfold ans an
 rw [find_map (q:=fun m=>m.s == s && m.c == c) (fun a=>rfl)]
 cases mv.find? (fun m=>m.s == s && m.c == c) with
 | none =>
  show (if (c == "own")=true then D.non else .tup [.int s,.tup [],.non])=_
  cases hc:(c == "own") <;> rfl
 | some m=>rfl
theorem MvOk.md {ro:List (Int×Int×Str)} {m:Nat} {y:Mv} (h:MvOk ro m y):MoveD (fun r=>0<=r/\r < ro.length) (mvD y):=by
 refine ⟨_,_,_,_,_,rfl,⟨_,rfl,h.s⟩,⟨_,rfl,h.c⟩,⟨_,rfl,h.a⟩,by simpa using h.l,?_,?_⟩
 ·intro d hd
  obtain ⟨p,hp,rfl⟩:=zqo.mp hd
  obtain ⟨h1,h2,r,h3,_⟩:=h.sd p hp
  refine ⟨_,_,rfl,⟨h2,?_⟩,h1⟩
  have:=(zqa.mp h3).1
  omega
 ·cases hw:y.w with
  | none=>exact .inl rfl
  | some x=>exact .inr ⟨x,rfl,h.w x hw⟩
theorem FmOk.at {f:Fm} (h:FmOk f) {m:Nat} (hm:m < f.ru.length):(f.ru.map ruD)[m]?=some (.tup [.int (f.ru.getD m (0,[])).1,.tup ((mvs f m).map mvD)]):=by
 unfold mvs
 rw [zqk,zqh,zqb hm]
 rfl
theorem FmOk.mv {f:Fm} (h:FmOk f) {m:Nat} (hm:m < f.ru.length):(mvs f m).length<=28/\∀ y∈mvs f m,MvOk f.ro m y:=by
 unfold mvs
 rw [zqh,zqb hm]
 exact (h.ru m _ (zqb hm)).2
theorem FmOk.mvd {f:Fm} (h:FmOk f) {m:Nat} (hm:m < f.ru.length):∀ y∈(mvs f m).map mvD,MoveD (fun r=>0<=r/\r < f.ro.length) y:=by
 intro y hy
 obtain ⟨z,hz,rfl⟩:=zqo.mp hy
 exact ((h.mv hm).2 z hz).md
theorem FmOk.rd {f:Fm} (h:FmOk f) {r:Nat} (hr:r < f.ro.length):(f.ro.map roD)[r]?=some (.tup [.int (road f r).1,.int (road f r).2.1,.str (road f r).2.2])/\RoOk f.ru.length (road f r):=by
 unfold road
 rw [zqk,zqh,zqb hr]
 exact ⟨rfl,h.ro _ (List.getElem_mem hr)⟩
theorem SdOk.lda {f:Fm} {N:Nat} {s:Sd} (h:SdOk f N s) {r:Nat} (hr:r < f.ro.length):(s.ld.map ldD)[r]?=some (.tup [.int (load s r).1,.tup ((load s r).2.map pD)])/\LdOk N (load s r):=by
 have hr':r < s.ld.length:=by rw [h.ll];exact hr
 unfold load
 rw [zqk,zqh,zqb hr']
 exact ⟨rfl,h.ld _ (List.getElem_mem hr')⟩
theorem SdOk.sta {f:Fm} {N:Nat} {s:Sd} (h:SdOk f N s) {m:Nat} (hm:m < f.ru.length):(s.st.map D.int)[m]?=some (.int (s.st.getD m 0))/\0<=s.st.getD m 0/\s.st.getD m 0 < 100:=by
 have hm':m < s.st.length:=by rw [h.ls];exact hm
 rw [zqk,zqh,zqb hm']
 exact ⟨rfl,h.st _ (List.getElem_mem hm')⟩
theorem RoOk.ok {n:Nat} {r:Int×Int×Str} (h:RoOk n r):PyData.strOk r.2.2=true:=by
 rcases h.k with e | e <;> rw [e] <;> decide +kernel
theorem DnOk.mc {f:Fm} (h:FmOk f) {d:Dn} (k:DnOk f d):mc f d < f.ru.length:=by
 cases d with
 | own m=>exact k
 | hear m c=>exact k.1
 | come r i =>
  have:=(h.rd k).2.b
  show (road f r).2.1.toNat < _
  omega
theorem an_sign {mv:List Mv} {s:Int} {c:Str} (h:SigOk c):∃ x,an mv s c=some x:=by
 unfold an
 cases mv.find? (fun m=>m.s == s && m.c == c) with
 | some m=>exact ⟨_,rfl⟩
 | none=>rw [h.ok.2];exact ⟨_,rfl⟩
structure AnOk (f:Fm) (m:Nat) (x:Int×List (Int×Str)×Option Str):Prop where
 a:0<=x.1/\x.1 < 100
 l:x.2.1.length<=3
 sd:∀ p∈x.2.1,SigOk p.2/\0<=p.1/\∃ r,f.ro[p.1.toNat]?=some r/\r.1=m
 w:WdOk x.2.2
theorem an_ok {f:Fm} (h:FmOk f) {m:Nat} (hm:m < f.ru.length) {s:Int} (hs:0<=s/\s < 100) {c:Str} {x:Int×List (Int×Str)×Option Str} (e:an (mvs f m) s c=some x):AnOk f m x:=by
 unfold an at e
 cases q:(mvs f m).find? (fun m=>m.s == s && m.c == c) with
 | some y =>
  rw [q] at e
  cases e
  have:=(h.mv hm).2 y (List.mem_of_find?_eq_some q)
  exact ⟨this.a,this.l,this.sd,this.w⟩
 | none =>
  rw [q] at e
  dsimp only at e
  split at e
  ·cases e
  ·cases e
   exact ⟨hs,by simp,(by intro p hp;cases hp),(by intro x h;cases h)⟩
theorem rp_ok {f:Fm} (h:FmOk f) {N:Nat} {s:Sd} (k:SdOk f N s) {d:Dn} (hd:DnOk f d) {x:Int×List (Int×Str)×Option Str} (e:rp f s d=some x):AnOk f (mc f d) x:=by
 unfold rp at e
 cases q:cs f s d with
 | none=>rw [q] at e;cases e
 | some c=>rw [q] at e;exact an_ok h (hd.mc h) (k.sta (hd.mc h)).2 e
theorem so_hear:PyData.strOk "hear" = true:=⋯
theorem so_come:PyData.strOk "come" = true:=⋯
theorem so_row:PyData.strOk "row" = true:=⋯
theorem so_heap:PyData.strOk "heap" = true:=⋯
theorem e_oc:(("own" : Str) == "come")=false:=⋯
theorem e_hc:(("hear" : Str) == "come")=false:=⋯
theorem e_cc:(("come" : Str) == "come")=true:=⋯
theorem e_oo:(("own" : Str) == "own")=true:=⋯
theorem e_ho:(("hear" : Str) == "own")=false:=⋯
theorem e_co:(("come" : Str) == "own")=false:=⋯
theorem e_hh:(("hear" : Str) == "hear")=true:=⋯
theorem e_ch:(("come" : Str) == "hear")=false:=⋯
theorem s1:(1:Nat)<=sizeLine:=by decide
theorem s2:(2:Nat)<=sizeLine:=by decide
theorem s3:(3:Nat)<=sizeLine:=by decide
theorem s0:(0:Nat)<=sizeLine:=by decide
theorem sub_at {M:Mem} {ds:List D} {m:Nat} {x:D} (h:ds[m]?=some x):subW (.d (.tup ds)) (.d (.int m)) M=.ok (.d x) M:=sub_tupN h
def MachF (F:Fn):Prop:=∀ (M:Mem) (f:Fm) (d:Dn),FmOk f->DnOk f d->Okp (F [fmD f,dnD d] M) fun r M'=>M=M'/\r=.d (.int (mc f d))
theorem machF {G:Fns}:MachF (runDef G 2 pMach):=by
 intro M f d hf hd
 rw [w_run]
 show wSs G pMach [some (fmD f),some (dnD d)] M _ _ _ _
 cases d with
 | own m=>nofun;rw [c_eqS so_own so_come,e_oc];exact ⟨rfl,rfl⟩
 | hear m c=>nofun;rw [c_eqS so_hear so_come,e_hc];exact ⟨rfl,rfl⟩
 | come r k =>
  obtain ⟨h1,h2⟩:=hf.rd hd
  nofun
  rw [c_eqS so_come so_come,e_cc]
  nofun
  rw [sub_at h1]
  refine ⟨rfl,?_⟩
  show W.d (D.int _)=_
  have:=h2.b
  congr 2
  show (road f r).2.1=(((road f r).2.1.toNat:Nat):Int)
  omega
theorem lmachF {G:Fns}:MachF (runDef G 2 pLMach):=by
 intro M f d hf hd
 rw [w_run]
 show wSs G pLMach [some (fmD f),some (dnD d)] M _ _ _ _
 cases d with
 | own m=>nofun;rw [c_eqS so_own so_come,e_oc];exact ⟨rfl,rfl⟩
 | hear m c=>nofun;rw [c_eqS so_hear so_come,e_hc];exact ⟨rfl,rfl⟩
 | come r k =>
  obtain ⟨h1,h2⟩:=hf.rd hd
  nofun
  rw [c_eqS so_come so_come,e_cc]
  nofun
  rw [sub_at h1]
  refine ⟨rfl,?_⟩
  show W.d (D.int _)=_
  have:=h2.b
  congr 2
  show (road f r).2.1=(((road f r).2.1.toNat:Nat):Int)
  omega
def WholeF (F:Fn):Prop:=∀ (M:Mem) (i:Int),Okp (F [.int i] M) fun r M'=>M=M'/\r=.d (.bl true)
theorem wholeF {G:Fns}:WholeF (runDef G 1 pWhole):=by
 intro M i
 rw [w_run]
 show wSs G pWhole [some (.int i)] M _ _ _ _
 nofun
 exact ⟨rfl,rfl⟩
def BelowF (F:Fn):Prop:=∀ (M:Mem) (i n:Nat),i < n->Okp (F [.int i,.int n] M) fun r M'=>M=M'/\r=.d (.bl true)
theorem belowF {G:Fns} {kWhole:Nat} (hW:WholeF (G kWhole)):BelowF (runDef G 2 (pBelow kWhole)):=by
 intro M i n h
 rw [w_run]
 show wSs G (pBelow kWhole) [some (.int i),some (.int n)] M _ _ _ _
 nofun
 refine (hW M i).imp ?_
 rintro r M1 ⟨rfl,rfl⟩
 nofun
 rw [decide_eq_true (show (i:Int) < n by omega)]
 exact ⟨rfl,rfl⟩
def SignF (F:Fn):Prop:=∀ (M:Mem) (c:Str),SigOk c->Okp (F [.str c] M) fun r M'=>M=M'/\r=.d (.bl true)
theorem signF {G:Fns}:SignF (runDef G 1 pSign):=by
 intro M c h
 rw [w_run]
 show wSs G pSign [some (.str c)] M _ _ _ _
 rcases h with rfl | rfl | rfl | rfl <;> (nofun;exact ⟨rfl,rfl⟩)
theorem ni2 {M:Mem}:cmpW .notin (.d (.int 2)) (.d (.tup [.int 2,.int 3])) M=.ok false M:=ni_tup (ks:=[2,3])
theorem ni3 {M:Mem}:cmpW .notin (.d (.int 3)) (.d (.tup [.int 2,.int 3])) M=.ok false M:=ni_tup (ks:=[2,3])
def PlainF (F:Fn):Prop:=∀ (M:Mem) (f:Fm) (d:Dn),FmOk f->DnOk f d->Okp (F [fmD f,dnD d] M) fun r M'=>M=M'/\r=.d (.bl true)
theorem plainF {G:Fns} {kBelow kSign kWhole:Nat} (hB:BelowF (G kBelow)) (hS:SignF (G kSign)) (hW:WholeF (G kWhole)):PlainF (runDef G 2 (pPlain kBelow kSign kWhole)):=by
 intro M f d hf hd
 rw [w_run]
 show wSs G (pPlain kBelow kSign kWhole) [some (fmD f),some (dnD d)] M _ _ _ _
 cases d with
 | own m =>
  nofun
  refine ⟨s2,?_⟩
  nofun
  rw [show (([D.str "own",D.int m].length:Nat):Int)=2 from rfl,ni2]
  nofun
  rw [c_eqS so_own so_own,e_oo]
  nofun
  exact hB M m _ (by rw [zqe];exact hd)
 | hear m c =>
  nofun
  refine ⟨s2,?_⟩
  nofun
  rw [show (([D.str "hear",D.int m,D.str c].length:Nat):Int)=3 from rfl,ni3]
  nofun
  rw [c_eqS so_hear so_hear,e_hh]
  nofun
  refine (hB M m _ (by rw [zqe];exact hd.1)).imp ?_
  rintro r M1 ⟨rfl,rfl⟩
  nofun
  exact hS M c hd.2
 | come r k =>
  nofun
  refine ⟨s2,?_⟩
  nofun
  rw [show (([D.str "come",D.int r,D.int k].length:Nat):Int)=3 from rfl,ni3]
  nofun
  rw [c_eqS so_come so_hear,e_ch]
  nofun
  rw [c_eqS so_come so_come,e_cc]
  nofun
  refine (hB M r _ (by rw [zqe];exact hd)).imp ?_
  rintro r M1 ⟨rfl,rfl⟩
  nofun
  exact hW M k
theorem answ {F:Fn} (hA:AnswerF F) {M:Mem} {f:Fm} (hf:FmOk f) {m:Nat} (hm:m < f.ru.length) {s:Int} {c:Str} (hc:PyData.strOk c=true):Okp (F [fmD f,.int m,.int s,.str c] M) fun r M'=>M=M'/\r=.d (anD (an (mvs f m) s c)):=by
 refine (hA _ M (f.ru.map ruD) (f.ro.map roD) ((mvs f m).map mvD) _ m s c (hf.at hm) (hf.mvd hm) hc).imp fun r M' ⟨e1,e2⟩=>⟨e1,?_⟩
 rw [e2,ans_an]
theorem lansw {F:Fn} (hA:LawAnsF F) {M:Mem} {f:Fm} (hf:FmOk f) {m:Nat} (hm:m < f.ru.length) {s:Int} {c:Str} (hc:PyData.strOk c=true):Okp (F [fmD f,.int m,.int s,.str c] M) fun r M'=>Ex M M'/\r=.d (anD (an (mvs f m) s c)):=by
 refine (hA _ M (f.ru.map ruD) (f.ro.map roD) ((mvs f m).map mvD) _ m s c ?_ (hf.at hm) (hf.mvd hm) (by rw [zqe];exact (hf.mv hm).1) hc).imp fun r M' ⟨e1,e2⟩=>⟨e1,?_⟩
 ·intro r h
  have:=hf.l8
  exact ⟨h.1,by omega⟩
 ·rw [e2,ans_an]
def WaitsF (F:Fn):Prop:=∀ (M:Mem) (f:Fm) (N:Nat) (s:Sd) (r:Nat),SdOk f N s->r < f.ro.length->Okp (F [sdd s,.int r] M) fun o M'=>M=M'/\o=.lv ((load s r).2.map pD)
theorem waitsF {G:Fns}:WaitsF (runDef G 2 pWaits):=by
 intro M f N s r hs hr
 rw [w_run]
 show wSs G pWaits [some (sdd s),some (.int r)] M _ _ _ _
 nofun
 rw [sub_at (hs.lda hr).1]
 exact ⟨rfl,rfl⟩
theorem cut1 {ds:List D}:cutD ds none (some 1)=ds.take 1:=by
 unfold cutD
 have e1:HT.sIx ds.length 0 none=0:=rfl
 have e2:HT.sIx ds.length ds.length (some 1)=min 1 ds.length:=by
  show (if (1:Int) < 0 then ((1:Int)+(ds.length:Int)).toNat else min (1:Int).toNat ds.length)=min 1 ds.length
  rw [if_neg (by decide)]
  rfl
 rw [e1,e2]
 cases ds <;> simp
theorem slc1 {M:Mem} {n:Nat} {ds:List D} (h:M[n]?=some (.lst ds)):slcW (.d (.adr n)) none (some 1) M=.ok (.lv (ds.take 1)) M:=by
 unfold slcW;simp only [seqW,h,cut1]
theorem sel_len {o:Str} {ps:List (Int×Str)} {N:Nat} (h:ps.length<=N):(sel o ps).length<=N:=by
 unfold sel
 split
 ·rw [List.length_take];omega
 ·exact h
theorem sel_sub {o:Str} {ps:List (Int×Str)} {p:Int×Str} (h:p∈sel o ps):p∈ps:=by
 unfold sel at h
 split at h
 ·exact List.mem_of_mem_take h
 ·exact h
def fstI:D->Option D
 | .tup [.int i,_]=>some (.int i)
 | _=>none
theorem fst_map:∀ qs:List (Int×Str),(qs.map pD).filterMap fstI=(qs.map (·.1)).map D.int
 | []=>rfl
 | q::qs=>by
  have:=fst_map qs
  rw [List.map_cons,List.filterMap_cons,this]
  rfl
def MayF (F:Fn):Prop:=∀ (M:Mem) (f:Fm) (N:Nat) (s:Sd) (r:Nat),FmOk f->SdOk f N s->N<=900->r < f.ro.length->Okp (F [fmD f,sdd s,.int r] M) fun o M'=>o=.lv (((sel (road f r).2.2 (load s r).2).map (·.1)).map D.int)/\Ex M M'
theorem fst_comp {G : Fns} {M M0 : Mem} {n : Nat} {ρ : En} {qs : List (Int × Str)} (hM : M[n]? = some (.lst (qs.map pD))) (hl : qs.length <= 900) {P : W -> Mem -> Prop} (q : ∀ M', Ex M M' -> P (.lv ((qs.map (·.1)).map D.int)) M') (hρ : ρ.length = 3) {k : Nat} (hk : k = (qs.map pD).length) :
    Okp (compGo (fun τ M=>evCond G none τ M) (fun τ M=>(ev G (.var 1) τ M).bind own) (.at n) [1,2] k 0 ρ M []) P:=by
  refine c_map (ds:=qs.map pD) fstI (by decide) (it_at hM) (by rw [zqe];exact small_le (by omega)) ?_ ?_ hk
  · intro i M' d hd f
    rw [zqk] at hd
    cases e:qs[i]? with
    | none=>rw [e] at hd;cases hd
    | some p =>
      rw [e] at hd
      cases hd
      rcases ρ with _|⟨a,_|⟨b,_|⟨c,_|_⟩⟩⟩ <;> simp at hρ
      show _/\_
      exact ⟨rfl,f⟩
  · intro M' f
    rw [fst_map]
    exact q M' f
theorem mayF {G:Fns} {kWaits:Nat} (hW:WaitsF (G kWaits)):MayF (runDef G 4 (pMay kWaits)):=by
 intro M f N s r hf hs hN hr
 obtain ⟨h1,h2⟩:=hf.rd hr
 obtain ⟨h3,h4⟩:=hs.lda hr
 have h5:=h4.n
 rw [w_run]
 show wSs G (pMay kWaits) [some (fmD f),some (sdd s),some (.int r),none] M _ _ _ _
 nofun
 refine (hW M f N s r hs hr).imp ?_
 rintro o M2 ⟨rfl,rfl⟩
 nofun
 have hM:(M++[MO.lst ((load s r).2.map pD)])[M.length]?=some (.lst ((load s r).2.map pD)):=app_last
 rw [sub_at h1]
 nofun
 rw [c_eqS h2.ok so_row]
 cases hq:((road f r).2.2 == "row") with
 | true =>
  nofun
  rw [slc1 hM]
  nofun
  have hM2:((M++[MO.lst ((load s r).2.map pD)])++[MO.lst (((load s r).2.map pD).take 1)])[(M++[MO.lst ((load s r).2.map pD)]).length]?=some (.lst (((load s r).2.take 1).map pD)):=by rw [List.map_take];exact app_last
  rw [sr_lst hM2]
  refine fst_comp (M0:=M) hM2 (by rw [List.length_take];omega) (fun M' fr=>?_) rfl (l_at hM2)
  refine ⟨?_,Ex.trans (Fr.app (Fr.app (Ex.refl M))) fr⟩
  unfold sel
  rw [hq,if_pos rfl]
 | false =>
  nofun
  rw [sr_lst hM]
  refine fst_comp (M0:=M) hM (by omega) (fun M' fr=>?_) rfl (l_at hM)
  refine ⟨?_,Ex.trans (Fr.app (Ex.refl M)) fr⟩
  unfold sel
  rw [hq,if_neg (by simp)]
theorem LdOk.mono {N N2:Nat} {l:Int×List (Int×Str)} (h:LdOk N l) (k:N<=N2):LdOk N2 l:=⟨⟨h.s.1,by have:=h.s.2;omega⟩,by have:=h.n;omega,h.p,h.r⟩
theorem LdOk.less {N:Nat} {l:Int×List (Int×Str)} (h:LdOk N l) (k:Int):LdOk N (less l k) :=
 ⟨h.s,Nat.le_trans (List.length_filter_le _ _) h.n,fun p hp=>h.p p (List.mem_filter.mp hp).1,h.r.filter _⟩
theorem LdOk.more {N:Nat} {l:Int×List (Int×Str)} (h:LdOk N l) {c:Str} (hc:SigOk c):LdOk (N+1) (more l c):=by
 refine ⟨⟨by show 0<=l.1+1;have:=h.s;omega,by show l.1+1<=_;have:=h.s;omega⟩,by show (l.2++_).length<=_;rw [zqp];have:=h.n;simp;omega,?_,?_⟩
 ·intro p hp
  rcases zqr.mp hp with q | q
  ·obtain ⟨a,b,c⟩:=h.p p q
   exact ⟨a,b,by show p.1 < l.1+1;omega⟩
  ·have:p=(l.1,c):=by simpa using q
   subst this
   exact ⟨hc,h.s.1,by show l.1 < l.1+1;omega⟩
 ·show (l.2++[(l.1,c)]).Pairwise _
  rw [List.pairwise_append]
  refine ⟨h.r,List.pairwise_singleton _ _,fun p hp q hq=>?_⟩
  have:q=(l.1,c):=by simpa using hq
  subst this
  exact (h.p p hp).2.2
theorem set_all {α:Type} {P:α->Prop} {l:List α} {i:Nat} {x:α} (h:∀ y∈l,P y) (hx:P x):∀ y∈l.set i x,P y:=fun y hy=>by
 rcases List.mem_or_eq_of_mem_set hy with z | z
 ·exact h y z
 ·rw [z];exact hx
theorem getD_all {α:Type} {P:α->Prop} {l:List α} {i:Nat} {d:α} (h:∀ y∈l,P y) (hi:i < l.length):P (l.getD i d):=by
 rw [zqh,zqb hi]
 exact h _ (List.getElem_mem hi)
theorem lessD_len {ld:List (Int×List (Int×Str))} {d:Dn}:(lessD ld d).length=ld.length:=by
 cases d <;> simp [lessD]
theorem lessD_ok {N:Nat} {ld:List (Int×List (Int×Str))} {d:Dn} (h:∀ l∈ld,LdOk N l) (hd:∀ r k,d=.come r k->r < ld.length):∀ l∈lessD ld d,LdOk N l:=by
 cases d with
 | own m=>exact h
 | hear m c=>exact h
 | come r k=>exact set_all h ((getD_all h (hd r k rfl)).less k)
theorem send_len {sd:List (Int×Str)}:∀ {ld:List (Int×List (Int×Str))},(send ld sd).length=ld.length:=by
 induction sd with
 | nil=>intro ld;rfl
 | cons p sd ih =>
  intro ld
  show (send (ld.set p.1.toNat (more (ld.getD p.1.toNat (0,[])) p.2)) sd).length=_
  rw [ih,List.length_set]
theorem send_snoc {ld:List (Int×List (Int×Str))} {sd:List (Int×Str)} {p:Int×Str}:send ld (sd++[p])=(send ld sd).set p.1.toNat (more ((send ld sd).getD p.1.toNat (0,[])) p.2):=by
 unfold send
 rw [List.foldl_append]
 rfl
theorem send_ok {N:Nat} {sd:List (Int×Str)}:∀ {ld:List (Int×List (Int×Str))} {n:Nat},(∀ l∈ld,LdOk N l)->(∀ p∈sd,SigOk p.2/\p.1.toNat < ld.length)->sd.length<=n->∀ l∈send ld sd,LdOk (N+n) l:=by
 induction sd generalizing N with
 | nil=>intro ld n h _ _ l hl;exact (h l hl).mono (by omega)
 | cons p sd ih =>
  intro ld n h hp hn
  obtain ⟨n,rfl⟩:∃ m,n=m+1:=⟨n - 1,by simp at hn;omega⟩
  have h0:=hp p List.mem_cons_self
  rw [show N+(n+1)=N+1+n by omega]
  refine ih (N:=N+1) (ld:=ld.set p.1.toNat (more (ld.getD p.1.toNat (0,[])) p.2)) (n:=n) (set_all (fun y hy=>(h y hy).mono (by omega)) ((getD_all h h0.2).more h0.1)) (fun q hq=>?_) (by simp at hn;omega)
  rw [List.length_set]
  exact hp q (zqi _ hq)
theorem AnOk.in {f:Fm} {m:Nat} {x:Int×List (Int×Str)×Option Str} (h:AnOk f m x):∀ p∈x.2.1,SigOk p.2/\p.1.toNat < f.ro.length:=fun p hp=>by
 obtain ⟨a,b,r,c,_⟩:=h.sd p hp
 exact ⟨a,(zqa.mp c).1⟩
theorem SdOk.aft {f:Fm} {N:Nat} {s:Sd} {d:Dn} (h:SdOk f N s) (hd:DnOk f d) {x:Int×List (Int×Str)×Option Str} (hx:AnOk f (mc f d) x):SdOk f (N+3) (aft f s d x):=by
 have hl:(lessD s.ld d).length=f.ro.length:=by rw [lessD_len,h.ll]
 refine ⟨by show (s.st.set _ _).length=_;rw [List.length_set];exact h.ls,set_all h.st hx.a,by show (send _ _).length=_;rw [send_len];exact hl,?_⟩
 refine send_ok (lessD_ok h.ld fun r k e=>?_) (fun p hp=>by rw [hl];exact hx.in p hp) hx.l
 subst e
 rw [h.ll]
 exact hd
theorem nonD {o:Option (Int×List (Int×Str)×Option Str)}:(!isNon (anD o))=o.isSome:=by
 cases o with
 | none=>rfl
 | some x=>obtain ⟨a,b,c⟩:=x;rfl
theorem find_fst {ps:List (Int×Str)} {k:Int}:(ps.find? fun p=>p.1 == k).isSome=decide (k∈ps.map (·.1)):=by
 rw [Bool.eq_iff_iff,List.find?_isSome,decide_eq_true_eq,zqo]
 constructor
 ·rintro ⟨p,hp,e⟩;exact ⟨p,hp,by simpa using e⟩
 ·rintro ⟨p,hp,e⟩;exact ⟨p,hp,by simpa using e⟩
theorem cs_come {f:Fm} {s:Sd} {r:Nat} {k:Int}:cs f s (.come r k)=((sel (road f r).2.2 (load s r).2).find? fun p=>p.1 == k).map (·.2):=rfl
theorem cs_sig {f:Fm} {N:Nat} {s:Sd} (hs:SdOk f N s) {r:Nat} (hr:r < f.ro.length) {k:Int} {c:Str} (h:cs f s (.come r k)=some c):SigOk c:=by
 rw [cs_come] at h
 cases q:(sel (road f r).2.2 (load s r).2).find? (fun p=>p.1 == k) with
 | none=>rw [q] at h;cases h
 | some p =>
  rw [q] at h
  cases h
  exact ((hs.lda hr).2.p p (sel_sub (List.mem_of_find?_eq_some q))).1
theorem cn_come {f:Fm} {N:Nat} {s:Sd} (hs:SdOk f N s) {r:Nat} (hr:r < f.ro.length) {k:Int}:cn f s (.come r k)=decide (k∈(sel (road f r).2.2 (load s r).2).map (·.1)):=by
 rw [<- find_fst]
 unfold cn rp
 cases q:cs f s (.come r k) with
 | none =>
  rw [cs_come] at q
  cases z:(sel (road f r).2.2 (load s r).2).find? (fun p=>p.1 == k) with
  | none=>rfl
  | some p=>rw [z] at q;cases q
 | some c =>
  obtain ⟨x,hx⟩:=an_sign (mv:=mvs f (mc f (.come r k))) (s:=s.st.getD (mc f (.come r k)) 0) (cs_sig hs hr q)
  rw [show ((some c).bind fun c=>an (mvs f (mc f (.come r k))) (s.st.getD (mc f (.come r k)) 0) c)=some x from hx]
  rw [cs_come] at q
  cases z:(sel (road f r).2.2 (load s r).2).find? (fun p=>p.1 == k) with
  | none=>rw [z] at q;cases q
  | some p=>rfl
theorem in_lvI {M:Mem} {i:Int} {ks:List Int}:cmpW .isin (.d (.int i)) (.lv (iD ks)) M=.ok (decide (i∈ks)) M:=by
 unfold cmpW;simp only [py_int,seqW,py_ints,sh_int,sh_ints,and_self,if_true,in_ints]
def CanF (F:Fn):Prop:=∀ (M:Mem) (f:Fm) (N:Nat) (s:Sd) (d:Dn),FmOk f->SdOk f N s->N<=900->DnOk f d->Okp (F [fmD f,sdd s,dnD d] M) fun r M'=>Ex M M'/\r=.d (.bl (cn f s d))
theorem canF {G:Fns} {kPlain kAnswer kMay:Nat} (hP:PlainF (G kPlain)) (hA:AnswerF (G kAnswer)) (hM:MayF (G kMay)):CanF (runDef G 3 (pCan kPlain kAnswer kMay)):=by
 intro M f N s d hf hs hN hd
 rw [w_run]
 show wSs G (pCan kPlain kAnswer kMay) [some (fmD f),some (sdd s),some (dnD d)] M _ _ _ _
 nofun
 refine (hP M f d hf hd).imp ?_
 rintro r M1 ⟨rfl,rfl⟩
 cases d with
 | own m =>
  nofun
  rw [c_eqS so_own so_own,e_oo]
  nofun
  rw [sub_at (hs.sta hd).1]
  nofun
  refine (answ hA hf hd so_own).imp ?_
  rintro r M2 ⟨rfl,rfl⟩
  nofun
  refine ⟨Ex.refl _,?_⟩
  rw [nonD]
  rfl
 | hear m c =>
  nofun
  rw [c_eqS so_hear so_own,e_ho]
  nofun
  rw [c_eqS so_hear so_come,e_hc]
  nofun
  refine ⟨Ex.refl _,?_⟩
  obtain ⟨x,hx⟩:=an_sign (mv:=mvs f m) (s:=s.st.getD m 0) hd.2
  show W.d (.bl true)=.d (.bl (an (mvs f m) (s.st.getD m 0) c).isSome)
  rw [hx]
  rfl
 | come r k =>
  nofun
  rw [c_eqS so_come so_own,e_co]
  nofun
  rw [c_eqS so_come so_come,e_cc]
  nofun
  refine (hM M f N s r hf hs hN hd).imp ?_
  rintro o M2 ⟨rfl,f2⟩
  nofun
  rw [show ((sel (road f r).2.2 (load s r).2).map (·.1)).map D.int=iD ((sel (road f r).2.2 (load s r).2).map (·.1)) from rfl,in_lvI]
  exact ⟨f2,by rw [cn_come hs hd]⟩
def kvD (p:Int×Str):Key×D:=(Sum.inl p.1,.str p.2)
theorem put_new {acc:List (Key×D)} {k:Key} {d:D} (h:∀ a∈acc,a.1≠k):putD acc k d=acc++[(k,d)]:=by
 unfold putD
 rw [if_neg]
 intro z
 rw [List.any_eq_true] at z
 obtain ⟨a,ha,e⟩:=z
 exact h a ha (of_decide_eq_true e)
theorem prs_rise:∀ {ps:List (Int×Str)} {acc:List (Key×D)},(∀ p∈ps,∀ a∈acc,a.1≠(Sum.inl p.1:Key))->(ps.Pairwise fun p q=>p.1 < q.1)->prsD acc (ps.map pD)=some (acc++ps.map kvD)
 | [],acc,_,_=>by rw [List.map_nil,List.map_nil,List.append_nil];rfl
 | p::ps,acc,h,hr=>by
  obtain ⟨r1,r2⟩:=List.pairwise_cons.mp hr
  show prsD (putD acc (Sum.inl p.1) (.str p.2)) (ps.map pD)=_
  rw [put_new (h p List.mem_cons_self),prs_rise (ps:=ps) ?_ r2,List.append_assoc]
  ·rfl
  ·intro q hq a ha
   rcases zqr.mp ha with z | z
   ·exact h q (zqi _ hq) a z
   ·have:a=(Sum.inl p.1,.str p.2):=by simpa using z
    subst this
    intro e
    have e:=Sum.inl.inj e
    have:=r1 q hq
    omega
theorem dict_rise {M:Mem} {ps:List (Int×Str)} (h:ps.Pairwise fun p q=>p.1 < q.1):biW .dict1 [.lv (ps.map pD)] M=.ok (.d (.adr M.length)) (M++[.dK (ps.map kvD)]):=by
 unfold biW
 simp only [dctW,seqW]
 rw [prs_rise (acc:=[]) (fun p _ a ha=>by cases ha) h]
 rfl
theorem get_kv {M:Mem} {n:Nat} {ps:List (Int×Str)} {k:Int} {p:Int×Str} (hM:M[n]?=some (.dK (ps.map kvD))) (h:(ps.find? fun p=>p.1 == k)=some p):subW (.d (.adr n)) (.d (.int k)) M=.ok (.d (.str p.2)) M:=by
 have e:getK (ps.map kvD) (Sum.inl k:Key)=some (.str p.2):=by
  unfold getK
  rw [find_map (q:=fun p=>p.1 == k) (fun a=>by show decide ((Sum.inl a.1:Key)=Sum.inl k)=_;rw [key_ll]),h]
  rfl
 unfold subW
 simp only [hM,seqW,e]
theorem sel_find {o:Str} {ps:List (Int×Str)} {k:Int} {p:Int×Str} (h:((sel o ps).find? fun p=>p.1 == k)=some p):(ps.find? fun p=>p.1 == k)=some p:=by
 unfold sel at h
 split at h
 ·cases ps with
  | nil=>cases h
  | cons q ps =>
   rw [show (q::ps).take 1=[q] from rfl] at h
   rw [List.find?_cons] at h ⊢
   cases z:(q.1 == k) with
   | true=>rw [z] at h;exact h
   | false=>rw [z] at h;cases h
 ·exact h
def CauseF (F:Fn):Prop:=∀ (M:Mem) (f:Fm) (N:Nat) (s:Sd) (d:Dn) (c:Str),FmOk f->SdOk f N s->DnOk f d->cs f s d=some c->Okp (F [sdd s,dnD d] M) fun r M'=>Ex M M'/\r=.d (.str c)
theorem causeF {G:Fns} {kWaits:Nat} (hW:WaitsF (G kWaits)):CauseF (runDef G 2 (pCause kWaits)):=by
 intro M f N s d c hf hs hd hc
 rw [w_run]
 show wSs G (pCause kWaits) [some (sdd s),some (dnD d)] M _ _ _ _
 cases d with
 | own m =>
  cases hc
  nofun
  rw [c_eqS so_own so_own,e_oo]
  exact ⟨Ex.refl _,rfl⟩
 | hear m c' =>
  cases hc
  nofun
  rw [c_eqS so_hear so_own,e_ho]
  nofun
  rw [c_eqS so_hear so_hear,e_hh]
  exact ⟨Ex.refl _,rfl⟩
 | come r k =>
  nofun
  rw [c_eqS so_come so_own,e_co]
  nofun
  rw [c_eqS so_come so_hear,e_ch]
  nofun
  refine (hW M f N s r hs hd).imp ?_
  rintro o M1 ⟨rfl,rfl⟩
  nofun
  rw [dict_rise (hs.lda hd).2.r]
  nofun
  rw [cs_come] at hc
  cases q:(sel (road f r).2.2 (load s r).2).find? (fun p=>p.1 == k) with
  | none=>rw [q] at hc;cases hc
  | some p =>
   rw [q] at hc
   cases hc
   rw [get_kv app_last (sel_find q)]
   exact ⟨(Ex.refl M).app,rfl⟩
def notK (k:Int):D->Option D
 | .tup [.int i,x]=>if (i == k)=true then none else some (.tup [.int i,x])
 | _=>none
theorem notK_map {k:Int}:∀ ps:List (Int×Str),(ps.map pD).filterMap (notK k)=(ps.filter fun p=>!(p.1 == k)).map pD
 | []=>rfl
 | p::ps=>by
  have:=notK_map (k:=k) ps
  rw [List.map_cons,List.filterMap_cons,List.filter_cons,this]
  rw [show notK k (pD p)=if (p.1 == k)=true then none else some (pD p) from rfl]
  cases p.1 == k <;> rfl
theorem not_comp {G : Fns} {M : Mem} {it : It} {ρ : En} {ps : List (Int × Str)} {k : Int} {cond : Tst} (hit : ∀ M', Ex M M' -> ∀ i, i <= (ps.map pD).length -> itemAt M' i it = some (ps.map pD)[i]?) (hl : ps.length <= 1000) {P : W -> Mem -> Prop}
    (hc:∀ (M':Mem) (p:Int×Str) (Q:Bool->Mem->Prop),p∈ps->Q (!(p.1 == k)) M'->wCond G (some cond) (ρ.set 1 (some (pD p))) M' Q) (hρ:1 < ρ.length)
    (q:∀ M',Ex M M'->P (.lv ((ps.filter fun p=>!(p.1 == k)).map pD)) M') {n:Nat} (hn:n=(ps.map pD).length) :
    Okp (compGo (fun τ M=>evCond G (some cond) τ M) (fun τ M=>(ev G (.var 1) τ M).bind own) it [1] n 0 ρ M []) P:=by
  refine c_map (ds:=ps.map pD) (notK k) (by decide) hit (by rw [zqe];exact small_le hl) ?_ ?_ hn
  · intro i M' d hd f
    rw [zqk] at hd
    cases e:ps[i]? with
    | none=>rw [e] at hd;cases hd
    | some p =>
      rw [e] at hd
      cases hd
      show wCond G (some cond) (ρ.set 1 (some (pD p))) M' _
      refine hc M' p _ (zqj e) ?_
      have hv:∀ Q:D->Prop,Q (pD p)->varK (ρ.set 1 (some (pD p)))[1]? Q:=fun Q h=>by
        rw [List.getElem?_set_self hρ]
        exact h
      cases z:(p.1 == k) with
      | true =>
        show _/\_
        refine ⟨?_,f⟩
        show (if (p.1 == k)=true then none else _)=_
        rw [z]
        rfl
      | false =>
        show varK (ρ.set 1 (some (pD p)))[1]? _
        refine hv _ ?_
        refine ⟨?_,f⟩
        show (if (p.1 == k)=true then none else _)=_
        rw [z]
        rfl
  · intro M' f
    rw [notK_map]
    exact q M' f
def LessF (F:Fn):Prop:=∀ (M:Mem) (l:Int×List (Int×Str)) (k:Int),l.2.length<=1000->Okp (F [ldD l,.int k] M) fun r M'=>Ex M M'/\r=.d (ldD (less l k))
theorem lessF {G:Fns}:LessF (runDef G 2 pLess):=by
 intro M l k hl
 rw [w_run]
 show wSs G pLess [some (ldD l),some (.int k)] M _ _ _ _
 nofun
 refine not_comp (ps:=l.2) (k:=k) (it:=.items (l.2.map pD)) it_items hl ?_ ?_ (fun M' f=>?_) rfl
 ·intro M' p Q _ h
  exact h
 ·show 1 < 3
  decide
 nofun
 exact ⟨s2,f,rfl⟩
def MoreF (F:Fn):Prop:=∀ (M:Mem) (l:Int×List (Int×Str)) (c:Str),l.2.length<=1000->Okp (F [ldD l,.str c] M) fun r M'=>M=M'/\r=.d (ldD (more l c))
theorem moreF {G:Fns}:MoreF (runDef G 2 pMore):=by
 intro M l c hl
 rw [w_run]
 show wSs G pMore [some (ldD l),some (.str c)] M _ _ _ _
 nofun
 refine ⟨s2,s1,?_⟩
 nofun
 refine ⟨Nat.le_trans (show (l.2.map pD).length+1<=1001 by rw [zqe];omega) (by decide),?_⟩
 nofun
 refine ⟨s2,rfl,?_⟩
 show W.d (.tup [.int (l.1+1),.tup (l.2.map pD++[pD (l.1,c)])])=_
 unfold more ldD
 rw [zqs]
 rfl
theorem ldAt {ld:List (Int×List (Int×Str))} {r:Nat} (h:r < ld.length):(ld.map ldD)[r]?=some (ldD (ld.getD r (0,[]))):=by
 rw [zqk,zqh,zqb h]
 rfl
def OutcF (F:Fn):Prop:=∀ (M:Mem) (f:Fm) (N:Nat) (s:Sd) (d:Dn) (x:Int×List (Int×Str)×Option Str),FmOk f->SdOk f N s->N<=900->DnOk f d->rp f s d=some x->Okp (F [fmD f,sdd s,dnD d] M) fun r M'=>Ex M M'/\r=.d (.tup [sdd (aft f s d x),tld f d x])
def tailO (kMore:Nat):List S:=[.forr [7,8] .seq [(.sub (.var 4) (.cst (.int 1)))] [.put (.var 6) (.var 7) (.call kMore [(.sub (.var 6) (.var 7)),(.var 8)])],.asg [9] (.cst .non),.iff (.val (.cmp .notN (.sub (.var 4) (.cst (.int 2))) (.cst .non))) [.asg [9] (.tup [(.var 3),(.sub (.var 4) (.cst (.int 2)))])] [],.ret (.tup [(.tup [(.bi .tuple1 [(.var 5)]),(.bi .tuple1 [(.var 6)])]),(.var 9)])]
def tlD (m:Nat):Option Str->D
 | none=>.non
 | some w=>.tup [.int m,.str w]
theorem outc_tail {G : Fns} {kMore : Nat} (hMo : MoreF (G kMore)) {M0 M : Mem} {n5 n6 m N : Nat} {o0 o1 o2 o7 o8 o9 : Option D} {a : Int} {sd : List (Int × Str)} {w : Option Str} {st : List Int} {ld : List (Int × List (Int × Str))} {nx : En -> Mem -> Prop} {rt : W -> Mem -> Prop} {bk ct : En -> Mem -> Prop}
    (h5:M[n5]?=some (.lst (st.map D.int))) (h6:M[n6]?=some (.lst (ld.map ldD))) (hne:n5≠n6) (hl6:M0.length<=n6) (fr:Ex M0 M) (hld:∀ l∈ld,LdOk N l) (hN:N<=900) (hsd:∀ p∈sd,SigOk p.2/\0<=p.1/\p.1.toNat < ld.length) (h3:sd.length<=3)
    (q:∀ M',Ex M0 M'->rt (.d (.tup [.tup [.tup (st.map D.int),.tup ((send ld sd).map ldD)],tlD m w])) M') :
    wSs G (tailO kMore) [o0,o1,o2,some (.int m),some (.tup [.int a,.tup (sd.map pD),wdD w]),some (.adr n5),some (.adr n6),o7,o8,o9] M nx rt bk ct:=by
  nofun
  refine f_items (ds:=sd.map pD) (fun i ρ M'=>∃ o7 o8,ρ=[o0,o1,o2,some (.int m),some (.tup [.int a,.tup (sd.map pD),wdD w]),some (.adr n5),some (.adr n6),o7,o8,o9]/\M'[n5]?=some (.lst (st.map D.int))/\M'[n6]?=some (.lst ((send ld (sd.take i)).map ldD))/\Ex M0 M') ⟨_,_,rfl,h5,h6,fr⟩ ?_ ?_
  · rintro i ρ M' dd hdd ⟨o7,o8,rfl,g5,g6,fr'⟩
    rw [zqk] at hdd
    cases e:sd[i]? with
    | none=>rw [e] at hdd;cases hdd
    | some p =>
      rw [e] at hdd
      cases hdd
      obtain ⟨p1,p2,p3⟩:=hsd p (zqj e)
      have hi:=(zqa.mp e).1
      have hp3:p.1.toNat < (send ld (sd.take i)).length:=by rw [send_len];exact p3
      have hok:=send_ok (n:=i) hld (fun q hq=>⟨(hsd q (List.mem_of_mem_take hq)).1,(hsd q (List.mem_of_mem_take hq)).2.2⟩) (by rw [List.length_take];omega:(sd.take i).length<=i)
      have hlo:=getD_all (d:=((0:Int),([]:List (Int×Str)))) hok hp3
      have hln:=hlo.n
      nofun
      rw [sub_lst g6 p2 (ldAt hp3)]
      nofun
      refine (hMo M' _ p.2 (by omega)).imp ?_
      rintro r M2 ⟨rfl,rfl⟩
      nofun
      rw [put_lstI g6 p2 (by rw [zqe];exact hp3)]
      refine ⟨_,_,rfl,set_get g5 hne,?_,fr'.set hl6⟩
      rw [set_same g6,take_next e,send_snoc,<- List.map_set]
  · rintro ρ M' ⟨o7,o8,rfl,g5,g6,fr'⟩
    rw [zqe,List.take_length] at g6
    cases w with
    | none =>
      nofun
      rw [tuple_lst g5]
      nofun
      rw [tuple_lst g6]
      nofun
      exact ⟨s2,s2,q M' fr'⟩
    | some x =>
      nofun
      refine ⟨s2,?_⟩
      nofun
      rw [tuple_lst g5]
      nofun
      rw [tuple_lst g6]
      nofun
      exact ⟨s2,s2,q M' fr'⟩
theorem outcF {G:Fns} {kMach kAnswer kCause kLess kMore:Nat} (hMa:MachF (G kMach)) (hA:AnswerF (G kAnswer)) (hC:CauseF (G kCause)) (hL:LessF (G kLess)) (hMo:MoreF (G kMore)):OutcF (runDef G 10 (pOutc kMach kAnswer kCause kLess kMore)):=by
 intro M f N s d x hf hs hN hd hx
 have hm:=hd.mc hf
 have hAn:=rp_ok hf hs hd hx
 obtain ⟨c,hc,hax⟩:∃ c,cs f s d=some c/\an (mvs f (mc f d)) (s.st.getD (mc f d) 0) c=some x:=by
  unfold rp at hx
  cases q:cs f s d with
  | none=>rw [q] at hx;cases hx
  | some c=>rw [q] at hx;exact ⟨c,rfl,hx⟩
 have hco:PyData.strOk c=true:=by
  cases d with
  | own m=>cases hc;exact so_own
  | hear m c'=>cases hc;exact hd.2.ok.1
  | come r k=>exact (cs_sig hs hd hc).ok.1
 obtain ⟨a,sd,w⟩:=x
 rw [w_run]
 show wSs G (pOutc kMach kAnswer kCause kLess kMore) [some (fmD f),some (sdd s),some (dnD d),none,none,none,none,none,none,none] M _ _ _ _
 nofun
 refine (hMa M f d hf hd).imp ?_
 rintro r M1 ⟨rfl,rfl⟩
 nofun
 rw [sub_at (hs.sta hm).1]
 nofun
 refine (hC M f N s d c hf hs hd hc).imp ?_
 rintro r M1 ⟨f1,rfl⟩
 nofun
 refine (answ hA hf hm hco).imp ?_
 rintro r M2 ⟨rfl,rfl⟩
 rw [hax]
 nofun
 have hst:mc f d < (s.st.map D.int).length:=by rw [zqe,hs.ls];exact hm
 rw [put_lst app_last hst]
 nofun
 have g5:((M1++[MO.lst (s.st.map D.int)]).set M1.length (.lst ((s.st.map D.int).set (mc f d) (.int a))))[M1.length]?=some (.lst ((s.st.set (mc f d) a).map D.int)):=by rw [set_same app_last,List.map_set]
 have fr5:Ex M ((M1++[MO.lst (s.st.map D.int)]).set M1.length (.lst ((s.st.map D.int).set (mc f d) (.int a)))):=Fr.set (Fr.app f1) f1.1
 have hl1:=f1.1
 generalize (M1++[MO.lst (s.st.map D.int)]).set M1.length (.lst ((s.st.map D.int).set (mc f d) (.int a)))=M5 at g5 fr5 ⊢
 have g6:(M5++[MO.lst (s.ld.map ldD)])[M5.length]?=some (.lst (s.ld.map ldD)):=app_last
 have g5':(M5++[MO.lst (s.ld.map ldD)])[M1.length]?=some (.lst ((s.st.set (mc f d) a).map D.int)):=app_get g5
 have hlt:=lt_of_get g5
 have hl5:=fr5.1
 have hsd:∀ (ld:List (Int×List (Int×Str))),ld.length=f.ro.length->∀ p∈sd,SigOk p.2/\0<=p.1/\p.1.toNat < ld.length:=fun ld hl p hp=>by
  obtain ⟨a,b,r,c,_⟩:=hAn.sd p hp
  exact ⟨a,b,by rw [hl];exact (zqa.mp c).1⟩
 have htl:tld f d (a,sd,w)=tlD (mc f d) w:=by cases w <;> rfl
 rw [htl]
 cases d with
 | own m =>
  nofun
  rw [c_eqS so_own so_come,e_oc]
  refine outc_tail hMo (M0:=M) (ld:=s.ld) (N:=N) g5' g6 (by omega) hl5 (Fr.app fr5) hs.ld hN (hsd _ hs.ll) hAn.l fun M' fr=>⟨fr,rfl⟩
 | hear m c' =>
  nofun
  rw [c_eqS so_hear so_come,e_hc]
  refine outc_tail hMo (M0:=M) (ld:=s.ld) (N:=N) g5' g6 (by omega) hl5 (Fr.app fr5) hs.ld hN (hsd _ hs.ll) hAn.l fun M' fr=>⟨fr,rfl⟩
 | come r k =>
  have hr:r < s.ld.length:=by rw [hs.ll];exact hd
  have hlo:=getD_all (d:=((0:Int),([]:List (Int×Str)))) hs.ld hr
  have hln:=hlo.n
  nofun
  rw [c_eqS so_come so_come,e_cc]
  nofun
  rw [sub_lstN g6 (ldAt hr)]
  nofun
  refine (hL _ _ k (by omega)).imp ?_
  rintro o M7 ⟨f7,rfl⟩
  nofun
  have g6':=Ex.get f7 g6
  rw [put_lst g6' (by rw [zqe];exact hr)]
  refine outc_tail hMo (M0:=M) (ld:=lessD s.ld (.come r k)) (N:=N) (set_get (Ex.get f7 g5') (by omega)) ?_ (by omega) hl5 ?_ (lessD_ok hs.ld fun r' k' e=>by cases e;exact hr) hN (hsd _ (by rw [lessD_len];exact hs.ll)) hAn.l fun M' fr=>⟨fr,rfl⟩
  ·rw [set_same g6',<- List.map_set]
   rfl
  ·exact Fr.set (Ex.trans (Fr.app fr5) f7) hl5
def DoneF (F:Fn):Prop:=OutcF F
theorem doneF {G:Fns} {kCan kOutc:Nat} (hC:CanF (G kCan)) (hO:OutcF (G kOutc)):OutcF (runDef G 3 (pDone kCan kOutc)):=by
 intro M f N s d x hf hs hN hd hx
 rw [w_run]
 show wSs G (pDone kCan kOutc) [some (fmD f),some (sdd s),some (dnD d)] M _ _ _ _
 nofun
 refine (hC M f N s d hf hs hN hd).imp ?_
 rintro r M1 ⟨f1,e⟩
 have hcn:cn f s d=true:=by unfold cn;rw [hx];rfl
 rw [hcn] at e
 subst e
 nofun
 exact (hO M1 f N s d x hf hs hN hd hx).imp fun r M2 ⟨f2,e⟩=>⟨Ex.trans f1 f2,e⟩
def tD (x:Nat×Int×Str):D:=.tup [.int x.1,.int x.2.1,.str x.2.2]
def fl (f:Fm) (s:Sd):Nat->List (Nat×Int×Str)
 | 0=>[]
 | n+1=>fl f s n++(sel (road f n).2.2 (load s n).2).map fun p=>(n,p.1,p.2)
theorem fl_mem {f:Fm} {s:Sd} {x:Nat×Int×Str}:∀ n,x∈fl f s n↔x.1 < n/\(x.2.1,x.2.2)∈sel (road f x.1).2.2 (load s x.1).2
 | 0=>by simp [fl]
 | n+1=>by
  obtain ⟨r,k,c⟩:=x
  show (r,k,c)∈fl f s n++_↔_
  rw [zqr,fl_mem n,zqo]
  constructor
  ·rintro (⟨h1,h2⟩|⟨p,hp,e⟩)
   ·exact ⟨by show r < n+1;have:r < n:=h1;omega,h2⟩
   ·cases e
    exact ⟨by show n < n+1;omega,hp⟩
  ·rintro ⟨h1,h2⟩
   by_cases q:r=n
   ·subst q
    exact .inr ⟨(k,c),h2,rfl⟩
   ·exact .inl ⟨by show r < n;have:r < n+1:=h1;omega,h2⟩
theorem fl_len {f:Fm} {N:Nat} {s:Sd} (hs:SdOk f N s):∀ n,n<=f.ro.length->(fl f s n).length<=N * n
 | 0,_=>by simp [fl]
 | n+1,h=>by
  have h1:=fl_len hs n (by omega)
  have h2:=sel_len (o:=(road f n).2.2) (hs.lda (r:=n) (by omega)).2.n
  show (fl f s n++_).length<=_
  rw [zqp,zqe,Nat.mul_succ]
  omega
theorem adr_add {M:Mem} {n:Nat} {xs ys:List D} (h:M[n]?=some (.lst xs)) (hl:xs.length+ys.length<=sizeLine):binW .add (.d (.adr n)) (.lv ys) M=.ok (.lv (xs++ys)) M:=by
 unfold binW;simp only [lstW,h];rw [if_pos hl]
def triI (r:Nat):D->Option D
 | .tup [.int i,x]=>some (.tup [.int r,.int i,x])
 | _=>none
theorem tri_map {r:Nat}:∀ qs:List (Int×Str),(qs.map pD).filterMap (triI r)=(qs.map fun p=>(r,p.1,p.2)).map tD
 | []=>rfl
 | q::qs=>by
  have:=tri_map (r:=r) qs
  rw [List.map_cons,List.filterMap_cons,this]
  rfl
theorem tri_comp {G : Fns} {M : Mem} {n r : Nat} {qs : List (Int × Str)} (hM : M[n]? = some (.lst (qs.map pD))) (hl : qs.length <= 900) {P : W -> Mem -> Prop} (q : ∀ M', Ex M M' -> P (.lv ((qs.map fun p => (r, p.1, p.2)).map tD)) M') {k : Nat} (hk : k = (qs.map pD).length) :
    Okp (compGo (fun τ M=>evCond G none τ M) (fun τ M=>(ev G (.tup [(.var 3),(.var 1),(.var 2)]) τ M).bind own) (.at n) [1,2] k 0 [none,none,none,some (.int r)] M []) P:=by
  refine c_map (ds:=qs.map pD) (triI r) (by decide) (it_at hM) (by rw [zqe];exact small_le (by omega)) ?_ ?_ hk
  · intro i M' d hd f
    rw [zqk] at hd
    cases e:qs[i]? with
    | none=>rw [e] at hd;cases hd
    | some p =>
      rw [e] at hd
      cases hd
      nofun
      exact ⟨s3,rfl,f⟩
  · intro M' f
    rw [tri_map]
    exact q M' f
def LComesF (F:Fn):Prop:=∀ (M:Mem) (f:Fm) (N:Nat) (s:Sd),FmOk f->SdOk f N s->N<=900->Okp (F [fmD f,sdd s] M) fun r M'=>∃ n,r=.d (.adr n)/\M.length<=n/\M'[n]?=some (.lst ((fl f s f.ro.length).map tD))/\Ex M M'
theorem lcomesF {G:Fns}:LComesF (runDef G 5 pLComes):=by
 intro M f N s hf hs hN
 have h8:=hf.l8
 rw [w_run]
 show wSs G pLComes [some (fmD f),some (sdd s),none,none,none] M _ _ _ _
 nofun
 refine ⟨s0,?_⟩
 nofun
 refine ⟨⟨by rw [zqe];omega,by rw [zqe];omega⟩,?_⟩
 refine f_rng (n:=((f.ro.map roD).length:Int).toNat) (fun i ρ M'=>∃ o3 o4 n,ρ=[some (fmD f),some (sdd s),some (.adr n),o3,o4]/\M.length<=n/\M'[n]?=some (.lst ((fl f s i).map tD))/\Ex M M') ⟨_,_,M.length,rfl,zqg _,app_last,(Ex.refl M).app⟩ ?_ ?_
 ·rintro i ρ M1 hi ⟨o3,o4,n,rfl,hnl,hn,f1⟩
  have hi:i < f.ro.length:=by rw [zqe] at hi;omega
  obtain ⟨h1,h2⟩:=hf.rd hi
  obtain ⟨h3,h4⟩:=hs.lda hi
  have h5:=h4.n
  have hfl:=fl_len hs i (by omega)
  rw [show (0:Int)+(i:Int)=((i:Nat):Int) by omega]
  nofun
  rw [sub_at h3]
  nofun
  have hM:(M1++[MO.lst ((load s i).2.map pD)])[M1.length]?=some (.lst ((load s i).2.map pD)):=app_last
  rw [sub_at h1]
  nofun
  rw [c_eqS h2.ok so_row]
  have hml:M.length<=M1.length:=f1.1
  have hNi:N * i<=900 * 8:=Nat.mul_le_mul hN (by omega)
  cases hq:((road f i).2.2 == "row") with
  | true =>
   nofun
   rw [slc1 hM]
   nofun
   have hM2:((M1++[MO.lst ((load s i).2.map pD)])++[MO.lst (((load s i).2.map pD).take 1)])[(M1++[MO.lst ((load s i).2.map pD)]).length]?=some (.lst (((load s i).2.take 1).map pD)):=by rw [List.map_take];exact app_last
   have hn2:((M1++[MO.lst ((load s i).2.map pD)])++[MO.lst (((load s i).2.map pD).take 1)])[n]?=some (.lst ((fl f s i).map tD)):=app_get (app_get hn)
   have f2:Ex M ((M1++[MO.lst ((load s i).2.map pD)])++[MO.lst (((load s i).2.map pD).take 1)]):=Fr.app (Fr.app f1)
   have hse:sel (road f i).2.2 (load s i).2=(load s i).2.take 1:=by unfold sel;rw [hq,if_pos rfl]
   rw [sr_lst hM2]
   refine tri_comp (r:=i) hM2 (by rw [List.length_take];omega) (fun M' fr=>?_) (l_at hM2)
   nofun
   rw [adr_add (Ex.get fr hn2) (Nat.le_trans (show _<=900 * 8+1000 by simp only [zqe,List.length_take];omega) (by decide))]
   have f3:=Ex.trans f2 fr
   refine ⟨_,_,M'.length,rfl,f3.1,?_,Fr.app f3⟩
   rw [<- zqs,<- hse]
   exact app_last
  | false =>
   nofun
   have hn2:(M1++[MO.lst ((load s i).2.map pD)])[n]?=some (.lst ((fl f s i).map tD)):=app_get hn
   have hse:sel (road f i).2.2 (load s i).2=(load s i).2:=by unfold sel;rw [hq,if_neg (by simp)]
   rw [sr_lst hM]
   refine tri_comp (r:=i) hM (by omega) (fun M' fr=>?_) (l_at hM)
   nofun
   rw [adr_add (Ex.get fr hn2) (Nat.le_trans (show _<=900 * 8+1000 by simp only [zqe];omega) (by decide))]
   have f3:Ex M M':=Ex.trans (Fr.app f1) fr
   refine ⟨_,_,M'.length,rfl,f3.1,?_,Fr.app f3⟩
   rw [<- zqs]
   show _=some (MO.lst ((fl f s i++(sel (road f i).2.2 (load s i).2).map fun p=>(i,p.1,p.2)).map tD))
   rw [hse]
   exact app_last
 ·rintro ρ M1 ⟨o3,o4,n,rfl,hnl,hn,f1⟩
  nofun
  rw [show ((f.ro.map roD).length:Int).toNat=f.ro.length by rw [zqe];omega] at hn
  exact ⟨n,rfl,hnl,hn,f1⟩
theorem pair_is {M:Mem} {a b c d:Int}:cmpW .eq (.d (.tup [.int a,.int b])) (.d (.tup [.int c,.int d])) M=.ok (a == c && b == d) M:=by
 have h1:∀ (s c:Int),pyW M (.d (.tup [.int s,.int c]))=some (.tuple [.int s,.int c]):=fun s c=>by
  show pyD M 30 (.tup [.int s,.int c])=_
  try simp only [pyD,pyDs,Option.map_some]
 have h2:∀ (s c:Int),SeqAt.shaped (.tuple [.int s,.int c])=true:=fun s c=>by
  unfold SeqAt.shaped
  try simp only [PyData.canLay0.eq_6,PyData.canLayAll0.eq_2,PyData.canLayAll0.eq_1,PyData.canLay0.eq_3,PyData.depth.eq_2,PyData.depthAll.eq_2,PyData.depthAll.eq_1,PyData.depth.eq_6]
  rfl
 unfold cmpW
 try simp only [h1,h2,and_self,if_true,PyData.eqv.eq_8,PyData.eqvAll.eq_2,PyData.eqvAll.eq_1,PyData.eqv.eq_5,Bool.and_true]
theorem stp2a {M:Mem} {a b:D}:stpW (.d (.tup [a,b])) 2 M=.ok (.d (.tup [a])) M:=by
 unfold stpW
 have e:stepL [a,b] 2=[a]:=by simp [stepL,Builtin.Slice.sliceAdjust,Builtin.Slice.slicePlaces]
 try simp only [e]
 rw [if_pos ⟨.inl trivial,(show (1:Nat)<=sizeLine by decide)⟩]
theorem stp2b {M:Mem} {a b c:D}:stpW (.d (.tup [a,b,c])) 2 M=.ok (.d (.tup [a,c])) M:=by
 unfold stpW
 have e:stepL [a,b,c] 2=[a,c]:=by simp [stepL,Builtin.Slice.sliceAdjust,Builtin.Slice.slicePlaces,List.range_succ]
 try simp only [e]
 rw [if_pos ⟨.inl trivial,(show (2:Nat)<=sizeLine by decide)⟩]
theorem find_uniq {k:Int} {c:Str}:∀ {ps:List (Int×Str)},(ps.Pairwise fun p q=>p.1 < q.1)->(k,c)∈ps->(ps.find? fun p=>p.1 == k)=some (k,c)
 | [],_,h=>by cases h
 | p::ps,hr,h=>by
  obtain ⟨r1,r2⟩:=List.pairwise_cons.mp hr
  rw [List.find?_cons]
  rcases List.mem_cons.mp h with z | z
  ·rw [<- z];simp
  ·have:=r1 _ z
   have hne:(p.1 == k)=false:=by
    have:p.1 < k:=this
    simp;omega
   rw [hne]
   exact find_uniq r2 z
theorem sel_rise {o:Str} {ps:List (Int×Str)} (h:ps.Pairwise fun p q=>p.1 < q.1):(sel o ps).Pairwise fun p q=>p.1 < q.1:=by
 unfold sel
 split
 ·exact h.take
 ·exact h
theorem cs_in {f:Fm} {N:Nat} {s:Sd} (hs:SdOk f N s) {r:Nat} (hr:r < f.ro.length) {k:Int} {c:Str} (h:(k,c)∈sel (road f r).2.2 (load s r).2):cs f s (.come r k)=some c:=by
 rw [cs_come,find_uniq (sel_rise (hs.lda hr).2.r) h]
 rfl
theorem cs_out {f:Fm} {s:Sd} {r:Nat} {k:Int} (h:∀ c,(k,c)∉sel (road f r).2.2 (load s r).2):cs f s (.come r k)=none:=by
 rw [cs_come]
 cases q:(sel (road f r).2.2 (load s r).2).find? (fun p=>p.1 == k) with
 | none=>rfl
 | some p =>
  have h1:=List.mem_of_find?_eq_some q
  have h2:p.1=k:=by simpa using List.find?_some q
  obtain ⟨k',c⟩:=p
  cases h2
  exact absurd h1 (h c)
def LAnsdF (F:Fn):Prop:=∀ (M:Mem) (f:Fm) (N:Nat) (s:Sd) (d:Dn),FmOk f->SdOk f N s->N<=900->DnOk f d->Okp (F [fmD f,sdd s,dnD d] M) fun r M'=>Ex M M'/\r=.d (anD (rp f s d))
theorem lansdF {G:Fns} {kLAns kLComes:Nat} (hL:LawAnsF (G kLAns)) (hC:LComesF (G kLComes)):LAnsdF (runDef G 7 (pLAnsd kLAns kLComes)):=by
 intro M f N s d hf hs hN hd
 rw [w_run]
 show wSs G (pLAnsd kLAns kLComes) [some (fmD f),some (sdd s),some (dnD d),none,none,none,none] M _ _ _ _
 cases d with
 | own m =>
  nofun
  rw [c_neS so_own so_come,e_oc]
  nofun
  rw [sub_at (hs.sta hd).1]
  nofun
  rw [show stpW (.d (dnD (.own m))) 2 M=.ok (.d (.tup [.str "own"])) M from stp2a]
  nofun
  exact lansw hL hf hd so_own
 | hear m c =>
  nofun
  rw [c_neS so_hear so_come,e_hc]
  nofun
  rw [sub_at (hs.sta hd.1).1]
  nofun
  rw [show stpW (.d (dnD (.hear m c))) 2 M=.ok (.d (.tup [.str "hear",.str c])) M from stp2b]
  nofun
  exact lansw hL hf hd.1 hd.2.ok.1
 | come r k =>
  have hd:r < f.ro.length:=hd
  nofun
  rw [c_neS so_come so_come,e_cc]
  nofun
  refine (hC M f N s hf hs hN).imp ?_
  rintro o M1 ⟨n,rfl,hnl,hn,f1⟩
  nofun
  rw [sr_lst hn]
  refine f_at (n:=n) (ds:=(fl f s f.ro.length).map tD) (fun j ρ M'=>∃ o3 o4 o5 o6,M1=M'/\ρ=[some (fmD f),some (sdd s),some (.tup [.str "come",.int r,.int k]),o3,o4,o5,o6]/\∀ c,(r,k,c)∉(fl f s f.ro.length).take j) (fun j ρ M' ⟨_,_,_,_,e,_⟩=>by rw [<- e];exact hn) ⟨_,_,_,_,rfl,rfl,(by intro s h;cases h)⟩ ?_ ?_
  ·rintro j ρ M' dd hdd ⟨o3,o4,o5,o6,rfl,rfl,hnot⟩
   rw [zqk] at hdd
   cases e:(fl f s f.ro.length)[j]? with
   | none=>rw [e] at hdd;cases hdd
   | some x =>
    rw [e] at hdd
    cases hdd
    obtain ⟨r',k',c⟩:=x
    obtain ⟨g1,g2⟩:=(fl_mem f.ro.length).mp (zqj e)
    have g1:r' < f.ro.length:=g1
    have g2:(k',c)∈sel (road f r').2.2 (load s r').2:=g2
    nofun
    refine ⟨s2,?_⟩
    show Opk (cmpW .eq (.d (.tup [.int (r':Nat),.int k'])) (.d (.tup [.int (r:Nat),.int k])) M1) _
    rw [pair_is]
    cases hq:(((r':Int) == (r:Int)) && (k' == k)) with
    | true =>
     rw [zqf,beq_iff_eq,beq_iff_eq] at hq
     have er:r'=r:=by omega
     subst er
     obtain ⟨_,rfl⟩:=hq
     obtain ⟨h1,h2⟩:=hf.rd g1
     have hb:=h2.b
     have hm:=DnOk.mc hf (d:=.come r' k') g1
     have em:(road f r').2.1=((mc f (.come r' k'):Nat):Int):=by show _=(((road f r').2.1.toNat:Nat):Int);omega
     nofun
     rw [sub_at h1]
     nofun
     rw [em,sub_at (hs.sta hm).1]
     nofun
     refine (lansw hL hf hm ((hs.lda g1).2.p _ (sel_sub g2)).1.ok.1).imp fun o M2 ⟨f2,e2⟩=>⟨Ex.trans f1 f2,?_⟩
     rw [e2]
     unfold rp
     rw [cs_in hs g1 g2]
     rfl
    | false =>
     refine ⟨_,_,_,_,rfl,rfl,fun c' hc'=>?_⟩
     rw [take_next e] at hc'
     rcases zqr.mp hc' with z | z
     ·exact hnot c' z
     ·have z:(r,k,c')=(r',k',c):=by simpa using z
      cases z
      simp at hq
  ·rintro ρ M' ⟨o3,o4,o5,o6,rfl,rfl,hnot⟩
   rw [zqe,List.take_length] at hnot
   refine ⟨f1,?_⟩
   show W.d .non=_
   unfold rp
   rw [cs_out fun c hc=>hnot c ((fl_mem _).mpr ⟨hd,hc⟩)]
   rfl
def upto (a b:Int):List Int:=(List.range (b - a).toNat).map fun k=>a+((k:Nat):Int)
theorem upto_nil {a b:Int} (h:b<=a):upto a b=[]:=by
 unfold upto
 rw [show (b - a).toNat=0 by omega];rfl
theorem upto_cons {a b:Int} (h:a < b):upto a b=a::upto (a+1) b:=by
 unfold upto
 obtain ⟨n,hn⟩:∃ n,(b - a).toNat=n+1:=⟨(b - a).toNat - 1,by omega⟩
 rw [hn,show (b - (a+1)).toNat=n by omega,List.range_succ_eq_map,List.map_cons,List.map_map]
 refine congr (congrArg List.cons (by simp)) (List.map_congr_left fun k _=>?_)
 show a+((k+1:Nat):Int)=a+1+(k:Int)
 omega
def nums (l:Int×List (Int×Str)):List Int:=l.2.map (·.1)
def Tail (l:Int×List (Int×Str)):Prop:=nums l=upto (l.1 - (l.2.length:Int)) l.1
def LLoadT (F:Fn):Prop:=∀ (M:Mem) (w:Nat) (T:Int) (o:Str),WA M w T->T < 10000->PyData.strOk o=true->Okp (F [.adr w,.str o] M) fun r M'=>∃ l,r=.d (ldD l)/\LdOk 4 l/\((o == "heap")=false->Tail l)/\WA M' w (T+20)/\Fr w M M'
theorem lloadT {G:Fns} {kDraw:Nat} (hD:DrawAt (G kDraw)):LLoadT (runDef G 7 (pLLoad kDraw)):=by
 intro M w T o hw hT ho
 rw [w_run]
 show wSs G (pLLoad kDraw) [some (.adr w),some (.str o),none,none,none,none,none] M _ _ _ _
 nofun
 refine (hD M w T 6 hw (by omega) (by omega) (by omega)).imp ?_
 rintro r M1 ⟨a,rfl,a0,a1,hw1,f1⟩
 nofun
 refine (hD M1 w _ (10 ^ 9 - 1000) hw1 (by omega) (by omega) (by omega)).imp ?_
 rintro r M2 ⟨b,rfl,b0,b1,hw2,f2⟩
 nofun
 refine ⟨s3,?_⟩
 nofun
 have hA:(M2++[MO.lst [.int 0,.int a,.int b]])[M2.length]?=some (.lst [.int 0,.int a,.int b]):=app_last
 have hw3:WA (M2++[MO.lst [.int 0,.int a,.int b]]) w (T+1+1):=hw2.app
 have f3:Fr w M (M2++[MO.lst [.int 0,.int a,.int b]]):=(f1.trans f2).app
 have hml:M.length<=M2.length:=(f1.trans f2).1
 have hwl:=hw2.lt
 generalize M2++[MO.lst [.int 0,.int a,.int b]]=M3 at hA hw3 f3 ⊢
 refine (hD M3 w _ 5 hw3 (by omega) (by omega) (by omega)).imp ?_
 rintro r M4 ⟨c,rfl,c0,c1,hw4,f4⟩
 nofun
 refine ⟨⟨by omega,by omega⟩,?_⟩
 have hA4:=f4.get hA (by omega)
 obtain ⟨d,hd,s,rfl,s0',s1'⟩:∃ d,[D.int 0,.int a,.int b][(c / 2).toNat]?=some d/\∃ s:Int,d=.int s/\0<=s/\s < 1000000000:=pick (ds:=[D.int 0,.int a,.int b]) (k:=3) (fun d hd=>by
  simp only [List.mem_cons,List.mem_nil_iff,or_false] at hd
  rcases hd with rfl | rfl | rfl
  ·exact ⟨0,rfl,by omega,by omega⟩
  ·exact ⟨a,rfl,by omega,by omega⟩
  ·exact ⟨b,rfl,by omega,by omega⟩) (by omega) (by omega) rfl
 nofun
 rw [sub_lst hA4 (i:=c / 2) (by omega) hd]
 nofun
 refine ⟨s0,?_⟩
 nofun
 have f5:=f3.trans f4
 refine (hD (M4++[MO.lst []]) w _ 4 hw4.app (by omega) (by omega) (by omega)).imp ?_
 rintro r M5 ⟨g,rfl,g0,g1,hw5,f6⟩
 nofun
 have hmn:0<=(if g < s then g else s)/\(if g < s then g else s)<=3/\(if g < s then g else s)<=s:=by split <;> omega
 generalize (if g < s then g else s)=mn at hmn
 refine ⟨⟨by omega,by omega⟩,?_⟩
 have hm4:M.length<=M4.length:=f5.1
 have hwl4:=hw4.lt
 refine f_rng (n:=mn.toNat) (fun i ρ M'=>∃ o2 x6 ls,∃ ps:List (Int×Str),ρ=[some (.adr w),some (.str o),o2,some (.int s),some (.adr M4.length),some (.int ls),x6]/\M'[M4.length]?=some (.lst (ps.map pD))/\ps.length<=i/\(∀ p∈ps,SigOk p.2/\0<=p.1/\p.1 < s/\ls<=p.1)/\(ps.Pairwise fun p q=>p.1 < q.1)/\ls<=s/\WA M' w (T+5+2 * i)/\Fr w M M'/\((o == "heap")=false->ls=s - (i:Int)/\ps.length=i/\ps.map (·.1)=upto ls s)) ⟨_,_,_,[],rfl,f6.get app_last (by omega),zqg _,(by intro p h;cases h),.nil,zqm _,hw5.mono (by omega),f5.app.trans f6,fun _=>⟨by omega,rfl,(upto_nil (zqm _)).symm⟩⟩ ?_ ?_
 ·rintro i ρ M6 hi ⟨o2,x6,ls,ps,rfl,hn,hpl,hps,hpr,hls,hw6,f7,ht⟩
  nofun
  rw [c_eqS ho so_heap]
  nofun
  refine (hD M6 w _ 3 hw6 (by omega) (by omega) (by omega)).imp ?_
  rintro r M7 ⟨h,rfl,h0,h1,hw7,f8⟩
  have hn7:=f8.get hn (by omega)
  nofun
  have hbb:0<=(if (o == "heap")=true then (1:Int) else 0)/\(if (o == "heap")=true then (1:Int) else 0)<=1:=by split <;> omega
  refine ⟨.inr ⟨by omega,by omega⟩,?_⟩
  have hmul:0<=(if (o == "heap")=true then (1:Int) else 0) * h:=Int.mul_nonneg hbb.1 h0
  have hz:(o == "heap")=false->(if (o == "heap")=true then (1:Int) else 0) * h=0:=fun q=>by rw [q];simp
  generalize (if (o == "heap")=true then (1:Int) else 0) * h=mm at hmul hz
  nofun
  by_cases hge:0<=ls - 1 - mm
  ·rw [decide_eq_true hge]
   nofun
   refine ⟨lst_some hn7,?_⟩
   nofun
   refine (hD M7 w _ 4 hw7 (by omega) (by omega) (by omega)).imp ?_
   rintro r M8 ⟨q,rfl,q0,q1,hw8,f9⟩
   have hn8:=f9.get hn7 (by omega)
   obtain ⟨ch,hch,hsig⟩:=abcz (M:=M8) q0 q1
   nofun
   rw [hch]
   nofun
   refine ⟨s2,?_⟩
   nofun
   rw [m_insert (x:=.tup [.int (ls - 1 - mm),.str ch]) (i:=0) hn8 (small_lt (by rw [zqe];omega)) (by omega) (by omega)]
   refine ⟨_,_,_,(ls - 1 - mm,ch)::ps,rfl,?_,by simp;omega,?_,?_,by omega,(hw8.set (by omega)).mono (by omega),((f7.trans f8).trans f9).set (by omega),fun q=>?_⟩
   ·rw [set_same hn8]
    simp [pD]
   ·intro p hp
    rcases List.mem_cons.mp hp with rfl | hp
    ·exact ⟨hsig,hge,by show ls - 1 - mm < s;omega,zqm _⟩
    ·obtain ⟨a1,a2,a3,a4⟩:=hps p hp
     exact ⟨a1,a2,a3,by omega⟩
   ·refine List.pairwise_cons.mpr ⟨fun p hp=>?_,hpr⟩
    obtain ⟨a1,a2,a3,a4⟩:=hps p hp
    show ls - 1 - mm < p.1
    omega
   ·have z:=hz q
    obtain ⟨t1,t2,t3⟩:=ht q
    refine ⟨by omega,by simp [t2],?_⟩
    show (ls - 1 - mm)::ps.map (·.1)=_
    rw [t3,z,Int.sub_zero,upto_cons (a:=ls - 1) (by omega),show ls - 1+1=ls by omega]
  ·rw [decide_eq_false hge]
   refine ⟨_,_,_,ps,rfl,hn7,by omega,fun p hp=>?_,hpr,by omega,hw7.mono (by omega),f7.trans f8,fun q=>by
    have z:=hz q
    obtain ⟨t1,t2,t3⟩:=ht q
    omega⟩
   obtain ⟨a1,a2,a3,a4⟩:=hps p hp
   exact ⟨a1,a2,a3,by omega⟩
 ·rintro ρ M6 ⟨o2,x6,ls,ps,rfl,hn,hpl,hps,hpr,hls,hw6,f7,ht⟩
  nofun
  rw [tuple_lst hn]
  nofun
  refine ⟨s2,(s,ps),rfl,⟨⟨s0',by show s<=_;omega⟩,by show ps.length<=4;omega,fun p hp=>?_,hpr⟩,fun q=>?_,hw6.mono (by omega),f7⟩
  ·obtain ⟨a1,a2,a3,a4⟩:=hps p hp
   exact ⟨a1,a2,a3⟩
  ·obtain ⟨t1,t2,t3⟩:=ht q
   show ps.map (·.1)=upto (s - (ps.length:Int)) s
   rw [t3,t2,<- t1]
theorem snoc_all {α:Type} {P:α->Prop} {acc:List α} {x:α} (h:∀ y∈acc,P y) (hx:P x):∀ y∈acc++[x],P y:=by
 intro y hy
 rcases zqr.mp hy with z | z
 ·exact h y z
 ·have:y=x:=by simpa using z
  subst this;exact hx
theorem it_it {ds:List D} {M:Mem} {i:Nat}:itemAt M i (.items ds)=some ds[i]?:=rfl
def Tl (f:Fm) (s:Sd):Prop:=∀ r,r < f.ro.length->((road f r).2.2 == "heap")=false->Tail (load s r)
def TlL (f:Fm) (ls:List (Int×List (Int×Str))):Prop:=∀ (j:Nat) l,ls[j]?=some l->((road f j).2.2 == "heap")=false->Tail l
theorem TlL.snoc {f:Fm} {ls:List (Int×List (Int×Str))} {l:Int×List (Int×Str)} (h:TlL f ls) (k:((road f ls.length).2.2 == "heap")=false->Tail l):TlL f (ls++[l]):=fun j x e q=>by
 rcases Nat.lt_or_ge j ls.length with z | z
 ·rw [zqt z] at e;exact h j x e q
 ·rw [List.getElem?_append_right z] at e
  have hj:j=ls.length:=by
   have:=(zqa.mp e).1
   simp only [List.length_cons,List.length_nil] at this
   omega
  subst hj
  simp at e
  subst e
  exact k q
theorem TlL.tl {f:Fm} {st:List Int} {ls:List (Int×List (Int×Str))} (h:TlL f ls) (hl:ls.length=f.ro.length):Tl f ⟨st,ls⟩:=fun r hr q=>h r _ (by
 show ls[r]?=some (ls.getD r (0,[]))
 rw [zqh,zqb (by omega)];rfl) q
theorem tail0:Tail (0,[]):=rfl
def LStandT (F:Fn):Prop:=∀ (M:Mem) (ns:List Int) (f:Fm),ns.length<=63->FmOk f->Okp (F [.ls (ns.map D.int),fmD f] M) fun r M'=>∃ s,r=.d (sdd s)/\SdOk f 4 s/\Tl f s/\Ex M M'
theorem lstandT {G:Fns} {kWell kDraw kLLoad:Nat} (hW:WellF (G kWell)) (hD:DrawAt (G kDraw)) (hL:LLoadT (G kLLoad)):LStandT (runDef G 5 (pLStand kWell kDraw kLLoad)):=by
 intro M ns f hns hf
 have h8:=hf.l8
 have h4:=hf.l4
 rw [w_run]
 show wSs G (pLStand kWell kDraw kLLoad) [some (.ls (ns.map D.int)),some (fmD f),none,none,none] M _ _ _ _
 nofun
 refine (hW M ns 5 (by omega) (by omega) hns).imp ?_
 rintro r M1 ⟨rfl,hl1,hw1,f1⟩
 nofun
 refine c_gen (ds:=f.ro.map roD) (fun i M' acc=>M1=M'/\∃ ls:List (Int×List (Int×Str)),acc=ls.map ldD/\ls.length=i/\(∀ l∈ls,LdOk 4 l)/\TlL f ls) (by decide) (fun i M' acc _ _=>it_it) ⟨rfl,[],rfl,rfl,(by intro l h;cases h),(by intro j l h;simp at h)⟩ ?_ ?_ rfl
 ·rintro i M' acc d hd ⟨rfl,ls,rfl,hll,hla,htl⟩
  have hi:=(zqa.mp hd).1
  rw [zqe] at hi
  refine ⟨small_lt (by rw [zqe];omega),?_⟩
  nofun
  refine ⟨s0,s2,rfl,ls++[(0,[])],by simp [ldD],by simp [hll],snoc_all hla ⟨⟨zqm _,by show (0:Int)<=_;omega⟩,by simp,(by intro p h;cases h),.nil⟩,htl.snoc fun _=>tail0⟩
 rintro M' acc ⟨rfl,ls,rfl,hll,hla,htl⟩
 rw [zqe] at hll
 nofun
 refine c_gen (ds:=f.ru.map ruD) (fun i M' acc=>M1=M'/\∃ st:List Int,acc=st.map D.int/\st.length=i/\∀ l∈st,0<=l/\l < 100) (by decide) (fun i M' acc _ _=>it_it) ⟨rfl,[],rfl,rfl,(by intro l h;cases h)⟩ ?_ ?_ rfl
 ·rintro i M' acc d hd ⟨rfl,st,rfl,hsl,hsa⟩
  have hi:=(zqa.mp hd).1
  rw [zqe] at hi
  refine ⟨small_lt (by rw [zqe];omega),?_⟩
  rw [zqk,zqb hi] at hd
  cases hd
  have hr:=(hf.ru i _ (zqb hi)).1
  nofun
  refine ⟨rfl,st++[f.ru[i].1],by simp,by simp [hsl],snoc_all hsa hr⟩
 rintro M' acc ⟨rfl,st,rfl,hsl,hsa⟩
 rw [zqe] at hsl
 nofun
 refine (hD M1 M.length 0 3 hw1 (by omega) (by omega) (by omega)).imp ?_
 rintro r M2 ⟨a,rfl,a0,a1,hw2,f2⟩
 nofun
 by_cases ha:0 < a
 ·rw [decide_eq_true ha]
  nofun
  refine c_gen (ds:=f.ro.map roD) (fun i M' acc=>(WA M' M.length (1+20 * i)/\Fr M.length M M')/\∃ ls:List (Int×List (Int×Str)),acc=ls.map ldD/\ls.length=i/\(∀ l∈ls,LdOk 4 l)/\TlL f ls) (by decide) (fun i M' acc _ _=>it_it) ⟨⟨hw2.mono (by omega),f1.trans f2⟩,[],rfl,rfl,(by intro l h;cases h),(by intro j l h;simp at h)⟩ ?_ ?_ rfl
  ·rintro i M' acc d hd ⟨⟨hw3,f3⟩,ls,rfl,hll,hla,htl⟩
   have hi:=(zqa.mp hd).1
   rw [zqe] at hi
   refine ⟨small_lt (by rw [zqe];omega),?_⟩
   rw [(hf.rd hi).1] at hd
   cases hd
   nofun
   refine (hL M' M.length _ _ hw3 (by omega) (hf.rd hi).2.ok).imp ?_
   rintro r M4 ⟨l,rfl,hl,ht,hw4,f4⟩
   nofun
   refine ⟨⟨hw4.mono (by omega),f3.trans f4⟩,ls++[l],by simp,by simp [hll],snoc_all hla hl,htl.snoc (by rw [hll];exact ht)⟩
  rintro M3 acc ⟨⟨hw3,f3⟩,ls,rfl,hll,hla,htl⟩
  rw [zqe] at hll hw3
  nofun
  refine (hD M3 M.length _ 4 hw3 (by omega) (by omega) (by omega)).imp ?_
  rintro r M4 ⟨b,rfl,b0,b1,hw4,f4⟩
  nofun
  cases hb:(b == (0:Int)) with
  | true =>
   nofun
   refine c_gen (ds:=f.ru.map ruD) (fun i M' acc=>(WA M' M.length (300+i)/\Fr M.length M M')/\∃ st:List Int,acc=st.map D.int/\st.length=i/\∀ l∈st,0<=l/\l < 100) (by decide) (fun i M' acc _ _=>it_it) ⟨⟨hw4.mono (by omega),f3.trans f4⟩,[],rfl,rfl,(by intro l h;cases h)⟩ ?_ ?_ rfl
   ·rintro i M' acc d hd ⟨⟨hw5,f5⟩,st,rfl,hsl,hsa⟩
    have hi:=(zqa.mp hd).1
    rw [zqe] at hi
    refine ⟨small_lt (by rw [zqe];omega),?_⟩
    nofun
    refine (hD M' M.length _ 100 hw5 (by omega) (by omega) (by omega)).imp ?_
    rintro r M6 ⟨c,rfl,c0,c1,hw6,f6⟩
    nofun
    refine ⟨⟨hw6.mono (by omega),f5.trans f6⟩,st++[c],by simp,by simp [hsl],snoc_all hsa ⟨c0,c1⟩⟩
   rintro M5 acc ⟨⟨hw5,f5⟩,st,rfl,hsl,hsa⟩
   rw [zqe] at hsl
   nofun
   exact ⟨s2,⟨st,ls⟩,rfl,⟨hsl,hsa,hll,hla⟩,htl.tl hll,f5⟩
  | false =>
   nofun
   exact ⟨s2,⟨st,ls⟩,rfl,⟨hsl,hsa,hll,hla⟩,htl.tl hll,f3.trans f4⟩
 ·rw [decide_eq_false ha]
  nofun
  exact ⟨s2,⟨st,ls⟩,rfl,⟨hsl,hsa,hll,hla⟩,htl.tl hll,f1.trans f2⟩
abbrev LdL:=List (Int×List (Int×Str))
structure LA (M0 M:Mem) (n7 n9:Nat) (as b:Nat->Nat) (st:List Int) (ld:LdL):Prop where
 h7:M[n7]?=some (.lst (st.map D.int))
 h9:M[n9]?=some (.lst ((List.range ld.length).map fun i=>D.adr (as i)))
 hl:∀ i l,ld[i]?=some l->M[as i]?=some (.lst [.int l.1,.adr (b i)])/\M[b i]?=some (.lst (l.2.map pD))
 d1:∀ i j,i < ld.length->j < ld.length->as i≠b j
 d2:∀ i j,i < ld.length->j < ld.length->i≠j->as i≠as j/\b i≠b j
 d3:∀ i,i < ld.length->as i≠n7/\b i≠n7/\as i≠n9/\b i≠n9
 ge:∀ i,i < ld.length->M0.length<=as i/\M0.length<=b i
 fr:Ex M0 M
section
variable {M0 M:Mem} {n7 n9:Nat} {as b:Nat->Nat} {st:List Int} {ld:LdL}
theorem LA.at9 (h:LA M0 M n7 n9 as b st ld) {r:Nat} (hr:r < ld.length):subW (.d (.adr n9)) (.d (.int r)) M=.ok (.d (.adr (as r))) M :=
 sub_lstN h.h9 (by rw [zqk,List.getElem?_range hr];rfl)
theorem LA.at9I (h:LA M0 M n7 n9 as b st ld) {i:Int} (h0:0<=i) (hr:i.toNat < ld.length):subW (.d (.adr n9)) (.d (.int i)) M=.ok (.d (.adr (as i.toNat))) M:=by
 have:=h.at9 hr
 rw [Int.toNat_of_nonneg h0] at this
 exact this
theorem LA.ex {M':Mem} (h:LA M0 M n7 n9 as b st ld) (f:Ex M M'):LA M0 M' n7 n9 as b st ld :=
 ⟨Ex.get f h.h7,Ex.get f h.h9,fun i l hi=>⟨Ex.get f (h.hl i l hi).1,Ex.get f (h.hl i l hi).2⟩,h.d1,h.d2,h.d3,h.ge,Ex.trans h.fr f⟩
theorem LA.app (h : LA M0 M n7 n9 as b st ld) {r : Nat} {l : Int × List (Int × Str)} (hr : ld[r]? = some l) (c : Str) :
    LA M0 ((M.set (b r) (.lst (l.2.map pD++[pD (l.1,c)]))).set (as r) (.lst [.int (l.1+1),.adr (b r)])) n7 n9 as b st (ld.set r (more l c)):=by
  have hlt:=(zqa.mp hr).1
  obtain ⟨g1,g2⟩:=h.hl r l hr
  obtain ⟨a7,b7,a9,b9⟩:=h.d3 r hlt
  have hab:=h.d1 r r hlt hlt
  obtain ⟨ga,gb⟩:=h.ge r hlt
  have hlen:(ld.set r (more l c)).length=ld.length:=List.length_set
  refine ⟨set_get (set_get h.h7 (Ne.symm b7)) (Ne.symm a7),?_,fun i l' hi=>?_,by rw [hlen];exact h.d1,by rw [hlen];exact h.d2,by rw [hlen];exact h.d3,by rw [hlen];exact h.ge,Fr.set (Fr.set h.fr gb) ga⟩
  · rw [hlen]
    exact set_get (set_get h.h9 (Ne.symm b9)) (Ne.symm a9)
  · have hil:i < ld.length:=by rw [<- hlen];exact (zqa.mp hi).1
    by_cases e:i=r
    · subst e
      rw [List.getElem?_set_self hlt] at hi
      cases hi
      refine ⟨set_same (set_get g1 hab),?_⟩
      refine set_get (u:=.lst [.int (l.1+1),.adr (b i)]) (m:=as i) ?_ (Ne.symm hab)
      rw [set_same g2]
      unfold more
      rw [zqs]
      rfl
    · rw [List.getElem?_set_ne (Ne.symm e)] at hi
      obtain ⟨k1,k2⟩:=h.hl i l' hi
      obtain ⟨x1,x2⟩:=h.d2 i r hil hlt e
      exact ⟨set_get (set_get k1 (h.d1 i r hil hlt)) x1,set_get (set_get k2 x2) (Ne.symm (h.d1 r i hlt hil))⟩
theorem LA.cut (h : LA M0 M n7 n9 as b st ld) {r : Nat} {l : Int × List (Int × Str)} (hr : ld[r]? = some l) (k : Int) :
    LA M0 ((M++[MO.lst ((less l k).2.map pD)]).set (as r) (.lst [.int l.1,.adr M.length])) n7 n9 as (fun i=>if i=r then M.length else b i) st (ld.set r (less l k)):=by
  have hlt:=(zqa.mp hr).1
  obtain ⟨g1,g2⟩:=h.hl r l hr
  obtain ⟨a7,b7,a9,b9⟩:=h.d3 r hlt
  obtain ⟨ga,gb⟩:=h.ge r hlt
  have hlen:(ld.set r (less l k)).length=ld.length:=List.length_set
  have aM:∀ i,i < ld.length->as i < M.length:=fun i hi=>lt_of_get (h.hl i _ (zqb hi)).1
  have bM:∀ i,i < ld.length->b i < M.length:=fun i hi=>lt_of_get (h.hl i _ (zqb hi)).2
  have m7:=lt_of_get h.h7
  have m9:=lt_of_get h.h9
  have hmr:=aM r hlt
  refine ⟨set_get (app_get h.h7) (Ne.symm a7),?_,fun i l' hi=>?_,?_,?_,?_,?_,Fr.set (Fr.app h.fr) ga⟩
  · rw [hlen]
    exact set_get (app_get h.h9) (Ne.symm a9)
  · have hil:i < ld.length:=by rw [<- hlen];exact (zqa.mp hi).1
    by_cases e:i=r
    · subst e
      rw [List.getElem?_set_self hlt] at hi
      cases hi
      simp only [if_true]
      exact ⟨set_same (app_get g1),set_get app_last (by omega)⟩
    · rw [List.getElem?_set_ne (Ne.symm e)] at hi
      obtain ⟨k1,k2⟩:=h.hl i l' hi
      obtain ⟨x1,x2⟩:=h.d2 i r hil hlt e
      simp only [if_neg e]
      exact ⟨set_get (app_get k1) x1,set_get (app_get k2) (Ne.symm (h.d1 r i hlt hil))⟩
  · rw [hlen]
    intro i j hi hj
    have:=aM i hi
    split
    · omega
    · exact h.d1 i j hi hj
  · rw [hlen]
    intro i j hi hj hij
    have:=bM i hi
    have:=bM j hj
    obtain ⟨x1,x2⟩:=h.d2 i j hi hj hij
    refine ⟨x1,?_⟩
    split <;> split <;> first | omega | exact x2
  · rw [hlen]
    intro i hi
    obtain ⟨x1,x2,x3,x4⟩:=h.d3 i hi
    refine ⟨x1,?_,x3,?_⟩
    · split
      · omega
      · exact x2
    · split
      · omega
      · exact x4
  · rw [hlen]
    intro i hi
    obtain ⟨x1,x2⟩:=h.ge i hi
    refine ⟨x1,?_⟩
    have:=h.fr.1
    split
    · exact this
    · exact x2
end
def tailL:List S:=[.forr [10,11] .seq [(.var 4)] [.expr (.me .append (.sub (.sub (.var 9) (.var 10)) (.cst (.int 1))) [(.tup [(.sub (.sub (.var 9) (.var 10)) (.cst (.int 0))),(.var 11)])]),.put (.sub (.var 9) (.var 10)) (.cst (.int 0)) (.bin .add (.sub (.sub (.var 9) (.var 10)) (.cst (.int 0))) (.cst (.int 1)))],.asg [12] (.bi .tuple1 [(.comp .seq [(.var 9)] [1] none (.tup [(.sub (.var 1) (.cst (.int 0))),(.bi .tuple1 [(.sub (.var 1) (.cst (.int 1)))])]) [none,none])]),.ret (.tup [(.tup [(.bi .tuple1 [(.var 7)]),(.var 12)]),(.ite (.val (.cmp .isN (.var 5) (.cst .non))) (.cst .non) (.tup [(.var 6),(.var 5)]))])]
theorem ldL_tail {G : Fns} {M0 M : Mem} {n7 n9 m N : Nat} {as b : Nat -> Nat} {o0 o1 o2 o3 o8 o10 o11 o12 : Option D} {sd : List (Int × Str)} {w : Option Str} {st : List Int} {ld : LdL} {nx : En -> Mem -> Prop} {rt : W -> Mem -> Prop} {bk ct : En -> Mem -> Prop}
    (hA:LA M0 M n7 n9 as b st ld) (hld:∀ l∈ld,LdOk N l) (hN:N<=900) (hsd:∀ p∈sd,SigOk p.2/\0<=p.1/\p.1.toNat < ld.length) (h3:sd.length<=3) (h8:ld.length<=8)
    (q:∀ M',Ex M0 M'->rt (.d (.tup [.tup [.tup (st.map D.int),.tup ((send ld sd).map ldD)],tlD m w])) M') :
    wSs G tailL [o0,o1,o2,o3,some (.tup (sd.map pD)),some (wdD w),some (.int m),some (.adr n7),o8,some (.adr n9),o10,o11,o12] M nx rt bk ct:=by
  nofun
  refine f_items (ds:=sd.map pD) (fun i ρ M'=>∃ o10 o11,ρ=[o0,o1,o2,o3,some (.tup (sd.map pD)),some (wdD w),some (.int m),some (.adr n7),o8,some (.adr n9),o10,o11,o12]/\LA M0 M' n7 n9 as b st (send ld (sd.take i))) ⟨_,_,rfl,hA⟩ ?_ ?_
  · rintro i ρ M' dd hdd ⟨o10,o11,rfl,hA⟩
    rw [zqk] at hdd
    cases e:sd[i]? with
    | none=>rw [e] at hdd;cases hdd
    | some p =>
      rw [e] at hdd
      cases hdd
      obtain ⟨p1,p2,p3⟩:=hsd p (zqj e)
      have hi:=(zqa.mp e).1
      have hp3:p.1.toNat < (send ld (sd.take i)).length:=by rw [send_len];exact p3
      have hok:=send_ok (n:=i) hld (fun q hq=>⟨(hsd q (List.mem_of_mem_take hq)).1,(hsd q (List.mem_of_mem_take hq)).2.2⟩) (by rw [List.length_take];omega:(sd.take i).length<=i)
      have hlo:=getD_all (d:=((0:Int),([]:List (Int×Str)))) hok hp3
      have hln:=hlo.n
      have hget:(send ld (sd.take i))[p.1.toNat]?=some ((send ld (sd.take i)).getD p.1.toNat (0,[])):=by rw [zqh,zqb hp3];rfl
      have hsn:send ld (sd.take (i+1))=(send ld (sd.take i)).set p.1.toNat (more ((send ld (sd.take i)).getD p.1.toNat (0,[])) p.2):=by rw [take_next e,send_snoc]
      rw [hsn]
      generalize (send ld (sd.take i)).getD p.1.toNat (0,[])=l at hlo hln hget ⊢
      obtain ⟨g1,g2⟩:=hA.hl _ _ hget
      have hab:=hA.d1 _ _ hp3 hp3
      nofun
      rw [hA.at9I p2 hp3]
      nofun
      rw [sub_lst g1 (i:=1) (x:=.adr (b p.1.toNat)) (by decide) rfl]
      nofun
      refine ⟨lst_some g2,?_⟩
      nofun
      rw [hA.at9I p2 hp3]
      nofun
      rw [sub_lst g1 (i:=0) (x:=.int l.1) (by decide) rfl]
      nofun
      refine ⟨s2,?_⟩
      nofun
      rw [m_append g2 (small_lt (by rw [zqe];omega))]
      nofun
      have k9:(M'.set (b p.1.toNat) (.lst (l.2.map pD++[.tup [.int l.1,.str p.2]])))[n9]?=some (.lst ((List.range (send ld (sd.take i)).length).map fun i=>D.adr (as i))):=set_get hA.h9 (Ne.symm (hA.d3 _ hp3).2.2.2)
      have ka:(M'.set (b p.1.toNat) (.lst (l.2.map pD++[.tup [.int l.1,.str p.2]])))[as p.1.toNat]?=some (.lst [.int l.1,.adr (b p.1.toNat)]):=set_get g1 hab
      have k9':subW (.d (.adr n9)) (.d (.int p.1)) (M'.set (b p.1.toNat) (.lst (l.2.map pD++[.tup [.int l.1,.str p.2]])))=.ok (.d (.adr (as p.1.toNat))) (M'.set (b p.1.toNat) (.lst (l.2.map pD++[.tup [.int l.1,.str p.2]]))):=sub_lst k9 p2 (by rw [zqk,List.getElem?_range hp3];rfl)
      rw [k9']
      nofun
      rw [sub_lst ka (i:=0) (x:=.int l.1) (by decide) rfl]
      nofun
      rw [k9']
      nofun
      rw [put_lstI (i:=0) ka (by decide) (show 0 < 2 by decide)]
      exact ⟨_,_,rfl,hA.app hget p.2⟩
  · rintro ρ M' ⟨o10,o11,rfl,hA⟩
    rw [zqe,List.take_length] at hA
    have hok:=send_ok (n:=3) hld (fun q hq=>⟨(hsd q hq).1,(hsd q hq).2.2⟩) h3
    have hlen:(send ld sd).length=ld.length:=send_len
    nofun
    rw [sr_lst hA.h9]
    refine c_gen (ds:=(List.range (send ld sd).length).map fun i=>D.adr (as i)) (fun i M2 acc=>M'=M2/\acc=((send ld sd).take i).map ldD) (by decide) (fun i M2 acc h hi=>it_at hA.h9 M2 (by rw [<- h.1];exact Ex.refl _) i hi) ⟨rfl,rfl⟩ ?_ ?_ (l_at hA.h9)
    · rintro i M2 acc dd hdd ⟨rfl,rfl⟩
      have hi:=(zqa.mp hdd).1
      rw [zqe,List.length_range] at hi
      rw [zqk,List.getElem?_range hi] at hdd
      cases hdd
      obtain ⟨g1,g2⟩:=hA.hl i _ (zqb hi)
      refine ⟨small_lt (by rw [zqe,List.length_take];omega),?_⟩
      nofun
      rw [sub_lst g1 (i:=0) (x:=.int (send ld sd)[i].1) (by decide) rfl]
      nofun
      rw [sub_lst g1 (i:=1) (x:=.adr (b i)) (by decide) rfl]
      nofun
      rw [tuple_lst g2]
      nofun
      refine ⟨s2,rfl,?_⟩
      rw [take_next (zqb hi),zqs]
      rfl
    rintro M2 acc ⟨rfl,rfl⟩
    rw [zqe,List.length_range,List.take_length]
    nofun
    rw [tuple_lst hA.h7]
    cases w with
    | none =>
      nofun
      exact ⟨s2,s2,q M' hA.fr⟩
    | some x =>
      nofun
      refine ⟨s2,s2,s2,q M' hA.fr⟩
theorem ldoneF {G:Fns} {kLAnsd kLMach:Nat} (hA:LAnsdF (G kLAnsd)) (hMa:MachF (G kLMach)):OutcF (runDef G 13 (pLDone kLAnsd kLMach)):=by
 intro M f N s d x hf hs hN hd hx
 have hm:=hd.mc hf
 have hAn:=rp_ok hf hs hd hx
 have h8:=hf.l8
 have hll:=hs.ll
 obtain ⟨a,sd,w⟩:=x
 rw [w_run]
 show wSs G (pLDone kLAnsd kLMach) [some (fmD f),some (sdd s),some (dnD d),none,none,none,none,none,none,none,none,none,none] M _ _ _ _
 nofun
 refine (hA M f N s d hf hs hN hd).imp ?_
 rintro r M1 ⟨f1,e⟩
 rw [hx] at e
 subst e
 nofun
 refine (hMa M1 f d hf hd).imp ?_
 rintro r M2 ⟨rfl,rfl⟩
 nofun
 have hst:mc f d < (s.st.map D.int).length:=by rw [zqe,hs.ls];exact hm
 rw [put_lst app_last hst]
 nofun
 have g7:((M1++[MO.lst (s.st.map D.int)]).set M1.length (.lst ((s.st.map D.int).set (mc f d) (.int a))))[M1.length]?=some (.lst ((s.st.set (mc f d) a).map D.int)):=by rw [set_same app_last,List.map_set]
 have fr7:Ex M ((M1++[MO.lst (s.st.map D.int)]).set M1.length (.lst ((s.st.map D.int).set (mc f d) (.int a)))):=Fr.set (Fr.app f1) f1.1
 have hl1:=f1.1
 have hm7:=lt_of_get g7
 generalize (M1++[MO.lst (s.st.map D.int)]).set M1.length (.lst ((s.st.map D.int).set (mc f d) (.int a)))=M5 at g7 fr7 hm7 ⊢
 have hl7:=fr7.1
 have hsd:∀ (ld:LdL),ld.length=f.ro.length->∀ p∈sd,SigOk p.2/\0<=p.1/\p.1.toNat < ld.length:=fun ld hl p hp=>by
  obtain ⟨a,b,r,c,_⟩:=hAn.sd p hp
  exact ⟨a,b,by rw [hl];exact (zqa.mp c).1⟩
 have htl:tld f d (a,sd,w)=tlD (mc f d) w:=by cases w <;> rfl
 rw [htl]
 refine c_gen (ds:=s.ld.map ldD) (fun i M' acc=>acc=(List.range i).map (fun j=>D.adr (M5.length+2 * j+1))/\M'.length=M5.length+2 * i/\(∀ j l,j < i->s.ld[j]?=some l->M'[M5.length+2 * j+1]?=some (.lst [.int l.1,.adr (M5.length+2 * j)])/\M'[M5.length+2 * j]?=some (.lst (l.2.map pD)))/\Ex M5 M') (by decide) (fun i M' acc _ _=>it_it) ⟨rfl,rfl,(by intro j l h;omega),Ex.refl _⟩ ?_ ?_ rfl
 ·rintro i M' acc dd hdd ⟨rfl,hl,hj,fr⟩
  have hi:=(zqa.mp hdd).1
  rw [zqe] at hi
  rw [zqk,zqb hi] at hdd
  cases hdd
  refine ⟨small_lt (by rw [zqe,List.length_range];omega),?_⟩
  nofun
  refine ⟨s2,?_⟩
  nofun
  have hl2:(M'++[MO.lst (s.ld[i].2.map pD)]).length=M5.length+2 * i+1:=by rw [zqp,hl];rfl
  refine ⟨?_,by rw [zqp,hl2];simp;omega,?_,Fr.app (Fr.app fr)⟩
  ·rw [List.range_succ,zqs,hl2]
   rfl
  ·intro j l hji hjl
   by_cases e:j=i
   ·subst e
    rw [zqb hi] at hjl
    cases hjl
    rw [<- hl2,<- hl]
    exact ⟨app_last,app_get app_last⟩
   ·obtain ⟨k1,k2⟩:=hj j l (by omega) hjl
    exact ⟨app_get (app_get k1),app_get (app_get k2)⟩
 rintro M6 acc ⟨rfl,hl,hj,fr⟩
 rw [zqe] at hl hj ⊢
 have hA0:LA M (M6++[MO.lst ((List.range s.ld.length).map fun j=>D.adr (M5.length+2 * j+1))]) M1.length M6.length (fun j=>M5.length+2 * j+1) (fun j=>M5.length+2 * j) (s.st.set (mc f d) a) s.ld:=by
  refine ⟨app_get (Ex.get fr g7),app_last,fun i l hi=>?_,fun i j hi hj=>?_,fun i j hi hj hij=>⟨?_,?_⟩,fun i hi=>⟨?_,?_,?_,?_⟩,fun i hi=>⟨?_,?_⟩,Fr.app (Ex.trans fr7 fr)⟩
  ·obtain ⟨k1,k2⟩:=hj i l (zqa.mp hi).1 hi
   exact ⟨app_get k1,app_get k2⟩
  all_goals (try dsimp only)
  all_goals omega
 cases d with
 | own m =>
  nofun
  rw [c_eqS so_own so_come,e_oc]
  exact ldL_tail hA0 hs.ld hN (hsd _ hll) hAn.l (by omega) fun M2 f2=>⟨f2,rfl⟩
 | hear m c' =>
  nofun
  rw [c_eqS so_hear so_come,e_hc]
  exact ldL_tail hA0 hs.ld hN (hsd _ hll) hAn.l (by omega) fun M2 f2=>⟨f2,rfl⟩
 | come r k =>
  have hr:r < s.ld.length:=by rw [hs.ll];exact hd
  have hlo:=getD_all (d:=((0:Int),([]:List (Int×Str)))) hs.ld hr
  have hln:=hlo.n
  have hget:s.ld[r]?=some (s.ld.getD r (0,[])):=by rw [zqh,zqb hr];rfl
  have hle:lessD s.ld (.come r k)=s.ld.set r (less (s.ld.getD r (0,[])) k):=rfl
  nofun
  rw [c_eqS so_come so_come,e_cc]
  generalize M6++[MO.lst ((List.range s.ld.length).map fun j=>D.adr (M5.length+2 * j+1))]=M7 at hA0 ⊢
  obtain ⟨as,b,hA0⟩:∃ as b,LA M M7 M1.length M6.length as b (s.st.set (mc f (.come r k)) a) s.ld:=⟨_,_,hA0⟩
  nofun
  rw [hA0.at9 hr]
  obtain ⟨g1,g2⟩:=hA0.hl _ _ hget
  nofun
  rw [sub_lst g1 (i:=1) (x:=.adr (b r)) (by decide) rfl]
  nofun
  rw [sr_lst g2]
  refine not_comp (ps:=(s.ld.getD r (0,[])).2) (k:=k) (it:=.at (b r)) (it_at g2) (by omega) ?_ ?_ (fun M8 f8=>?_) (l_at g2)
  ·intro M' p Q _ h
   exact h
  ·show 1 < 3
   decide
  have hA8:=hA0.ex f8
  have g1':=(hA8.hl _ _ hget).1
  nofun
  rw [put_lstI (i:=1) (app_get g1') (by decide) (show 1 < 2 by decide)]
  have hA9:=hA8.cut hget k
  refine ldL_tail hA9 (lessD_ok (d:=.come r k) hs.ld fun r' k' e=>by cases e;exact hr) hN (hsd _ (by rw [List.length_set];exact hll)) hAn.l (by rw [List.length_set];omega) fun M2 f2=>⟨f2,rfl⟩
def dnP:Dn->PyData
 | .own m=>.tuple [.str "own",.int m]
 | .hear m c=>.tuple [.str "hear",.int m,.str c]
 | .come r k=>.tuple [.str "come",.int r,.int k]
theorem py_dn {M:Mem} {n:Nat} {d:Dn} (h:1<=n):pyD M n (dnD d)=some (dnP d):=by
 obtain ⟨n,rfl⟩:∃ m,n=m+1:=⟨n - 1,by omega⟩
 cases d <;> (show pyD M (n+1) (.tup _)=_;try simp only [pyD,pyDs,Option.map_some];try rfl)
theorem py_dns {M:Mem} {n:Nat} (h:1<=n):∀ ds:List Dn,pyDs M n (ds.map dnD)=some (ds.map dnP)
 | []=>by rw [List.map_nil];unfold pyDs;rfl
 | d::ds=>by
  rw [List.map_cons]
  unfold pyDs
  rw [py_dn h,py_dns h ds]
  rfl
def DnS:Dn->Prop
 | .hear _ c=>PyData.strOk c=true
 | _=>True
theorem DnOk.s {f:Fm} {d:Dn} (h:DnOk f d):DnS d:=by
 cases d with
 | own m=>trivial
 | hear m c=>exact h.2.ok.1
 | come r k=>trivial
theorem lay_dn {d:Dn} (h:DnS d):PyData.canLay0 (dnP d)=true/\PyData.depth (dnP d)<=1:=by
 cases d with
 | own m =>
  unfold dnP
  simp only [PyData.canLay0.eq_6,PyData.canLayAll0.eq_2,PyData.canLayAll0.eq_1,PyData.canLay0.eq_3,PyData.canLay0.eq_4,so_own,PyData.depth.eq_2,PyData.depthAll.eq_2,PyData.depthAll.eq_1,PyData.depth.eq_6,PyData.depth.eq_7]
  decide
 | hear m c =>
  have h:PyData.strOk c=true:=h
  unfold dnP
  simp only [PyData.canLay0.eq_6,PyData.canLayAll0.eq_2,PyData.canLayAll0.eq_1,PyData.canLay0.eq_3,PyData.canLay0.eq_4,so_hear,h,PyData.depth.eq_2,PyData.depthAll.eq_2,PyData.depthAll.eq_1,PyData.depth.eq_6,PyData.depth.eq_7]
  decide
 | come r k =>
  unfold dnP
  simp only [PyData.canLay0.eq_6,PyData.canLayAll0.eq_2,PyData.canLayAll0.eq_1,PyData.canLay0.eq_3,PyData.canLay0.eq_4,so_come,PyData.depth.eq_2,PyData.depthAll.eq_2,PyData.depthAll.eq_1,PyData.depth.eq_6,PyData.depth.eq_7]
  decide
theorem lay_dns:∀ {ds:List Dn},(∀ d∈ds,DnS d)->PyData.canLayAll0 (ds.map dnP)=true/\PyData.depthAll (ds.map dnP)<=1
 | [],_=>by rw [List.map_nil,PyData.canLayAll0.eq_1,PyData.depthAll.eq_1];decide
 | d::ds,h=>by
  obtain ⟨a1,a2⟩:=lay_dn (h d List.mem_cons_self)
  obtain ⟨b1,b2⟩:=lay_dns (ds:=ds) fun x hx=>h x (zqi _ hx)
  rw [List.map_cons,PyData.canLayAll0.eq_2,PyData.depthAll.eq_2,a1,b1]
  exact ⟨rfl,by omega⟩
theorem sh_dns {ds:List Dn} (h:∀ d∈ds,DnS d):SeqAt.shaped (.list (ds.map dnP))=true:=by
 obtain ⟨a,b⟩:=lay_dns h
 unfold SeqAt.shaped
 rw [PyData.canLay0.eq_5,a,PyData.depth.eq_1,Bool.true_and]
 exact decide_eq_true (by omega)
theorem ne_dns {M:Mem} {n:Nat} {ds:List Dn} (hM:M[n]?=some (.lst (ds.map dnD))) (h:∀ d∈ds,DnS d):cmpW .ne (.d (.adr n)) (.lv []) M=.ok (!ds.isEmpty) M:=by
 have h1:pyW M (.d (.adr n))=some (.list (ds.map dnP)):=by
  show pyD M 30 (.adr n)=_
  unfold pyD
  try simp only [hM]
  rw [py_dns (by decide) ds]
  rfl
 have h2:pyW M (.lv [])=some (.list []):=by show (pyDs M 30 []).map _=_;unfold pyDs;rfl
 have h3:=sh_dns h
 have h4:SeqAt.shaped (.list [])=true:=⋯
 unfold cmpW
 try simp only [h1,h2,h3,h4,and_self,if_true,PyData.eqv.eq_7]
 cases ds with
 | nil=>rw [List.map_nil,PyData.eqvAll.eq_1];rfl
 | cons d ds =>
  have:PyData.eqvAll (dnP d::ds.map dnP) []=false:=by simp only [PyData.eqvAll]
  rw [List.map_cons,this];rfl
def cmI:D->Option D
 | .tup [a,b,_]=>some (.tup [.str "come",a,b])
 | _=>none
def cm (f:Fm) (s:Sd):List Dn:=(fl f s f.ro.length).map fun x=>.come x.1 x.2.1
theorem cm_map:∀ l:List (Nat×Int×Str),(l.map tD).filterMap cmI=(l.map fun x=>Dn.come x.1 x.2.1).map dnD
 | []=>rfl
 | x::l=>by
  have:=cm_map l
  rw [List.map_cons,List.filterMap_cons,this]
  rfl
theorem cm_ok {f:Fm} {N:Nat} {s:Sd} (hs:SdOk f N s) {d:Dn} (h:d∈cm f s):DnOk f d/\cn f s d=true:=by
 obtain ⟨⟨r,k,c⟩,hx,rfl⟩:=zqo.mp h
 obtain ⟨h1,h2⟩:=(fl_mem _).mp hx
 refine ⟨h1,?_⟩
 rw [cn_come hs h1]
 exact decide_eq_true (zqo.mpr ⟨_,h2,rfl⟩)
theorem cm_len {f:Fm} {N:Nat} {s:Sd} (hf:FmOk f) (hs:SdOk f N s) (hN:N<=900):(cm f s).length<=7200:=by
 unfold cm
 rw [zqe]
 exact Nat.le_trans (fl_len hs _ (zqg _)) (Nat.mul_le_mul hN hf.l8)
theorem cm_comp {G : Fns} {M : Mem} {n : Nat} {f : Fm} {s : Sd} (hM : M[n]? = some (.lst ((fl f s f.ro.length).map tD))) (hl : (fl f s f.ro.length).length <= 7200) {P : W -> Mem -> Prop} (q : ∀ M', Ex M M' -> P (.lv ((cm f s).map dnD)) M') {k : Nat} (hk : k = ((fl f s f.ro.length).map tD).length) :
    Okp (compGo (fun τ M=>evCond G none τ M) (fun τ M=>(ev G (.tup [(.cst (.str "come")),(.var 1),(.var 2)]) τ M).bind own) (.at n) [1,2,3] k 0 [none,none,none,none] M []) P:=by
  refine c_map (ds:=(fl f s f.ro.length).map tD) cmI (by decide) (it_at hM) (by rw [zqe];exact Nat.le_trans hl (by decide)) ?_ ?_ hk
  · intro i M' d hd fr
    rw [zqk] at hd
    cases e:(fl f s f.ro.length)[i]? with
    | none=>rw [e] at hd;cases hd
    | some p =>
      rw [e] at hd
      cases hd
      nofun
      exact ⟨s3,rfl,fr⟩
  · intro M' fr
    rw [cm_map]
    exact q M' fr
theorem WA.ex {M M':Mem} {w:Nat} {T:Int} (h:WA M w T) (f:Ex M M'):WA M' w T:=h.fr f (by have:=h.lt;omega)
theorem at_dn {ds:List Dn} {i:Int} (h0:0<=i) (h1:i < ds.length):∃ d,d∈ds/\(ds.map dnD)[i.toNat]?=some (dnD d):=by
 have hl:i.toNat < ds.length:=by omega
 exact ⟨ds[i.toNat],List.getElem_mem hl,by rw [zqk,zqb hl];rfl⟩
def LNextF (F:Fn):Prop:=∀ (M:Mem) (w:Nat) (T:Int) (f:Fm) (N:Nat) (s:Sd),WA M w T->T < 10000->FmOk f->SdOk f N s->N<=900->Okp (F [.adr w,fmD f,sdd s] M) fun r M'=>∃ d,r=.d (dnD d)/\DnOk f d/\cn f s d=true/\Fr w M M'
theorem lnextF {G:Fns} {kLComes kLAnsd kDraw:Nat} (hC:LComesF (G kLComes)) (hA:LAnsdF (G kLAnsd)) (hD:DrawAt (G kDraw)):LNextF (runDef G 7 (pLNext kLComes kLAnsd kDraw)):=by
  intro M w T f N s hw hT hf hs hN
  have h4:=hf.l4
  have h1:=hf.l1
  have hwl:=hw.lt
  rw [w_run]
  show wSs G (pLNext kLComes kLAnsd kDraw) [some (.adr w),some (fmD f),some (sdd s),none,none,none,none] M _ _ _ _
  nofun
  refine (hC M f N s hf hs hN).imp ?_
  rintro o M1 ⟨n,rfl,hnl,hn,f1⟩
  nofun
  rw [sr_lst hn]
  refine cm_comp hn (by have:=cm_len hf hs hN;unfold cm at this;rw [zqe] at this;exact this) (fun M2 f2=>?_) (l_at hn)
  have f12:=Ex.trans f1 f2
  nofun
  refine ⟨s0,?_⟩
  nofun
  refine ⟨⟨by rw [zqe];omega,by rw [zqe];omega⟩,?_⟩
  have hc2:(M2++[MO.lst ((cm f s).map dnD)])[M2.length]?=some (.lst ((cm f s).map dnD)):=app_last
  have hl2:=f12.1
  have fr2:Fr w M (M2++[MO.lst ((cm f s).map dnD)]):=Fr.app ((Fr.refl w M).back f12 (.inl (zqg _)))
  have hw2:WA (M2++[MO.lst ((cm f s).map dnD)]) w T:=(hw.ex f12).app
  have hlen:(M2++[MO.lst ((cm f s).map dnD)]).length=M2.length+1:=by simp
  generalize (M2++[MO.lst ((cm f s).map dnD)])=M3 at hc2 fr2 hw2 hlen ⊢
  generalize M2.length=n3 at hc2 hl2 hlen ⊢
  refine f_rng (n:=((f.ru.map ruD).length:Int).toNat) (fun i ρ M'=>∃ o5,∃ ms:List Dn,ρ=[some (.adr w),some (fmD f),some (sdd s),some (.adr n3),some (.adr M3.length),o5,none]/\M'[n3]?=some (.lst ((cm f s).map dnD))/\M'[M3.length]?=some (.lst (ms.map dnD))/\ms.length<=i/\(∀ d∈ms,DnOk f d/\cn f s d=true)/\WA M' w T/\Fr w M M') ⟨_,[],rfl,app_get hc2,app_last,zqg _,(by intro d h;cases h),hw2.app,fr2.app⟩ ?_ ?_
  · rintro i ρ M' hi ⟨o5,ms,rfl,hc,hm,hml,hma,hw',fr'⟩
    have hi:i < f.ru.length:=by rw [zqe] at hi;omega
    have hok:DnOk f (.own i):=hi
    rw [show (0:Int)+(i:Int)=((i:Nat):Int) by omega]
    nofun
    refine ⟨s2,?_⟩
    nofun
    refine (hA M' f N s (.own i) hf hs hN hok).imp ?_
    rintro r M4 ⟨f4,rfl⟩
    have hc4:=Ex.get f4 hc
    have hm4:=Ex.get f4 hm
    have fr4:=fr'.back f4 (.inl fr'.1)
    have hw4:=hw'.ex f4
    nofun
    rw [nonD]
    cases hcn:(rp f s (.own i)).isSome with
    | true =>
      nofun
      refine ⟨lst_some hm4,?_⟩
      nofun
      refine ⟨s2,?_⟩
      nofun
      rw [m_append hm4 (small_lt (by rw [zqe];omega))]
      refine ⟨_,ms++[.own i],rfl,set_get hc4 (by omega),?_,by simp;omega,snoc_all (x:=Dn.own i) hma ⟨hok,hcn⟩,hw4.set (by have:=fr2.1;omega),fr4.set (by have:=fr2.1;omega)⟩
      rw [set_same hm4,zqs]
      rfl
    | false =>
      exact ⟨_,ms,rfl,hc4,hm4,by omega,hma,hw4,fr4⟩
  rintro ρ M' ⟨o5,ms,rfl,hc,hm,hml,hma,hw',fr'⟩
  have hml:ms.length<=4:=by rw [zqe] at hml;omega
  have hcl:=cm_len hf hs hN
  have hM3:=fr2.1
  nofun
  refine (hD M' w T 8 hw' (by omega) (by omega) (by omega)).imp ?_
  rintro r M5 ⟨wy,rfl,y0,y1,hw5,f5⟩
  have hc5:=f5.get hc (by omega)
  have hm5:=f5.get hm (by omega)
  have fr5:=fr'.trans f5
  nofun
  refine ⟨s0,?_⟩
  nofun
  rw [ne_dns hc5 fun d hd=>(cm_ok hs hd).1.s]
  have second : wSs G [.iff (.conj [(.val (.cmp .ne (.var 4) (.lst []))), (.val (.cmp .lt (.var 6) (.cst (.int 7))))]) [.ret (.sub (.var 4) (.call kDraw [(.var 0), (.bi .len [(.var 4)])]))] [], .ret (.tup [(.cst (.str "hear")), (.call kDraw [(.var 0), (.bi .len [(.sub (.var 1) (.cst (.int 0)))])]), (.sub (.cst (.str "abcz")) (.call kDraw [(.var 0), (.cst (.int 4))]))])]
      [some (.adr w),some (fmD f),some (sdd s),some (.adr n3),some (.adr M3.length),o5,some (.int wy)] M5 (fun ρ M'=>∃ d,W.d D.non=.d (dnD d)/\DnOk f d/\cn f s d=true/\Fr w M M') (fun r M'=>∃ d,r=.d (dnD d)/\DnOk f d/\cn f s d=true/\Fr w M M') (fun _ _=>False) (fun _ _=>False):=by
    have third : wSs G [.ret (.tup [(.cst (.str "hear")), (.call kDraw [(.var 0), (.bi .len [(.sub (.var 1) (.cst (.int 0)))])]), (.sub (.cst (.str "abcz")) (.call kDraw [(.var 0), (.cst (.int 4))]))])]
        [some (.adr w),some (fmD f),some (sdd s),some (.adr n3),some (.adr M3.length),o5,some (.int wy)] M5 (fun ρ M'=>∃ d,W.d D.non=.d (dnD d)/\DnOk f d/\cn f s d=true/\Fr w M M') (fun r M'=>∃ d,r=.d (dnD d)/\DnOk f d/\cn f s d=true/\Fr w M M') (fun _ _=>False) (fun _ _=>False):=by
      nofun
      refine (hD M5 w _ ((f.ru.map ruD).length:Int) hw5 (by omega) (by rw [zqe];omega) (by rw [zqe];omega)).imp ?_
      rintro r M6 ⟨i,rfl,i0,i1,hw6,f6⟩
      nofun
      refine (hD M6 w _ 4 hw6 (by omega) (by omega) (by omega)).imp ?_
      rintro r M7 ⟨j,rfl,j0,j1,hw7,f7⟩
      obtain ⟨c,hc,hsig⟩:=abcz (M:=M7) j0 j1
      nofun
      rw [hc]
      nofun
      rw [zqe] at i1
      refine ⟨s3,.hear i.toNat c,?_,⟨by omega,hsig⟩,?_,(fr5.trans f6).trans f7⟩
      · show W.d (.tup [.str "hear",.int i,.str c])=.d (.tup [.str "hear",.int (i.toNat:Nat),.str c])
        rw [Int.toNat_of_nonneg i0]
      · obtain ⟨x,hx⟩:=an_sign (mv:=mvs f i.toNat) (s:=s.st.getD i.toNat 0) hsig
        show (an (mvs f i.toNat) (s.st.getD i.toNat 0) c).isSome=true
        rw [hx]
        rfl
    nofun
    refine ⟨s0,?_⟩
    nofun
    rw [ne_dns hm5 fun d hd=>(hma d hd).1.s]
    cases ms with
    | nil=>exact third
    | cons d0 ms =>
      nofun
      by_cases hy:wy < 7
      · rw [decide_eq_true hy]
        nofun
        rw [len_lst hm5]
        nofun
        refine (hD M5 w _ (((d0::ms).map dnD).length:Int) hw5 (by omega) (by rw [zqe,List.length_cons];omega) (by rw [zqe];omega)).imp ?_
        rintro r M6 ⟨i,rfl,i0,i1,hw6,f6⟩
        rw [zqe] at i1
        obtain ⟨d,hd,hg⟩:=at_dn i0 i1
        nofun
        rw [sub_lst (f6.get hm5 (by omega)) i0 hg]
        exact ⟨d,rfl,(hma d hd).1,(hma d hd).2,fr5.trans f6⟩
      · rw [decide_eq_false hy]
        exact third
  cases hcm:(cm f s).isEmpty with
  | true=>exact second
  | false =>
    nofun
    by_cases hy:wy < 4
    · rw [decide_eq_true hy]
      nofun
      rw [len_lst hc5]
      nofun
      have hpos:0 < (cm f s).length:=by
        cases hz:cm f s with
        | nil=>rw [hz] at hcm;cases hcm
        | cons a b=>simp
      refine (hD M5 w _ (((cm f s).map dnD).length:Int) hw5 (by omega) (by rw [zqe];omega) (by rw [zqe];omega)).imp ?_
      rintro r M6 ⟨i,rfl,i0,i1,hw6,f6⟩
      rw [zqe] at i1
      obtain ⟨d,hd,hg⟩:=at_dn i0 i1
      nofun
      rw [sub_lst (f6.get hc5 (by omega)) i0 hg]
      exact ⟨d,rfl,(cm_ok hs hd).1,(cm_ok hs hd).2,fr5.trans f6⟩
    · rw [decide_eq_false hy]
      exact second
end Ev
end
section
namespace Ev
open PySem
def pSteps (kCan:Nat) (kOutc:Nat):List S:=[.asg [3] (.lst []),.asg [4] (.var 1),.forr [5,6] .enum [(.var 2)] [.iff (.neg (.val (.call kCan [(.var 0),(.var 4),(.var 6)]))) [.never] [],.asg [7] (.call kOutc [(.var 0),(.var 4),(.var 6)]),.asg [4] (.sub (.var 7) (.cst (.int 0))),.expr (.me .append (.var 3) [(.var 7)])],.ret (.var 3)]
def pRun (kSteps:Nat):List S:=[.asg [3] (.var 1),.asg [4] (.lst []),.forr [5,6] .seq [(.call kSteps [(.var 0),(.var 1),(.var 2)])] [.asg [3] (.var 5),.iff (.val (.cmp .notN (.var 6) (.cst .non))) [.expr (.me .append (.var 4) [(.var 6)])] []],.ret (.tup [(.var 3),(.var 4)])]
def pLDeeds (kWell:Nat) (kDraw:Nat) (kLNext:Nat) (kLDone:Nat):List S:=[.asg [4] (.call kWell [(.var 0),(.cst (.int 6))]),.asg [5] (.lst []),.asg [6] (.lst [(.call kDraw [(.var 4),(.cst (.int 13))]),(.bin .add (.cst (.int 6)) (.call kDraw [(.var 4),(.cst (.int 13))])),(.bin .sub (.var 3) (.call kDraw [(.var 4),(.cst (.int 4))]))]),.forr [7] .rng1 [(.sub (.var 6) (.bin .fdiv (.call kDraw [(.var 4),(.cst (.int 9))]) (.cst (.int 4))))] [.asg [8] (.call kLNext [(.call kWell [(.var 0),(.bin .add (.cst (.int 7)) (.var 7))]),(.var 1),(.var 2)]),.expr (.me .append (.var 5) [(.var 8)]),.asg [2] (.sub (.call kLDone [(.var 1),(.var 2),(.var 8)]) (.cst (.int 0)))],.ret (.var 5)]
end Ev
end
section
namespace Ev
open L2
open PySem PySem.Spec PyProof.Rows
def nxt (f:Fm) (s:Sd) (d:Dn):Int×List (Int×Str)×Option Str:=(rp f s d).getD (0,[],none)
def stp1 (f:Fm) (s:Sd) (d:Dn):Sd:=aft f s d (nxt f s d)
def fin (f:Fm) (s:Sd) (ds:List Dn):Sd:=ds.foldl (stp1 f) s
def tr (f:Fm):Sd->List Dn->List (Sd×Nat×Option Str)
 | _,[]=>[]
 | s,d::ds=>(stp1 f s d,mc f d,(nxt f s d).2.2)::tr f (stp1 f s d) ds
def RunOk (f:Fm):Sd->List Dn->Prop
 | _,[]=>True
 | s,d::ds=>(DnOk f d/\cn f s d=true)/\RunOk f (stp1 f s d) ds
theorem fin_app {f:Fm} {s:Sd} {a b:List Dn}:fin f s (a++b)=fin f (fin f s a) b:=by unfold fin;rw [List.foldl_append]
theorem run_app {f:Fm}:∀ {a b:List Dn} {s:Sd},RunOk f s (a++b)↔RunOk f s a/\RunOk f (fin f s a) b
 | [],b,s=>⟨fun h=>⟨trivial,h⟩,fun h=>h.2⟩
 | d::a,b,s=>by
  show _/\RunOk f (stp1 f s d) (a++b)↔(_/\RunOk f (stp1 f s d) a)/\RunOk f (fin f (stp1 f s d) a) b
  rw [run_app (a:=a)]
  constructor
  ·rintro ⟨h1,h2,h3⟩;exact ⟨⟨h1,h2⟩,h3⟩
  ·rintro ⟨⟨h1,h2⟩,h3⟩;exact ⟨h1,h2,h3⟩
theorem tr_app {f:Fm}:∀ {a b:List Dn} {s:Sd},tr f s (a++b)=tr f s a++tr f (fin f s a) b
 | [],b,s=>rfl
 | d::a,b,s=>by
  show _::tr f (stp1 f s d) (a++b)=_
  rw [tr_app (a:=a)]
  rfl
theorem tr_len {f:Fm}:∀ {a:List Dn} {s:Sd},(tr f s a).length=a.length
 | [],s=>rfl
 | d::a,s=>by show (tr f (stp1 f s d) a).length+1=_;rw [tr_len];rfl
theorem split_at {α:Type} {l:List α} {i:Nat} {x:α} (h:l[i]?=some x):l=l.take i++x::l.drop (i+1):=by
 obtain ⟨hi,rfl⟩:=zqa.mp h
 rw [<- List.drop_eq_getElem_cons hi,List.take_append_drop]
theorem run_at {f:Fm} {s:Sd} {ds:List Dn} {i:Nat} {d:Dn} (h:RunOk f s ds) (hi:ds[i]?=some d):DnOk f d/\cn f (fin f s (ds.take i)) d=true:=by
 rw [split_at hi,run_app] at h
 exact h.2.1
theorem run_take {f:Fm} {s:Sd} {ds:List Dn} {i:Nat} (h:RunOk f s ds):RunOk f s (ds.take i):=by
 rw [<- List.take_append_drop i ds,run_app] at h
 exact h.1
theorem rp_nxt {f:Fm} {s:Sd} {d:Dn} (h:cn f s d=true):rp f s d=some (nxt f s d):=by
 unfold cn at h
 obtain ⟨x,e⟩:=Option.isSome_iff_exists.mp h
 unfold nxt
 rw [e]
 rfl
theorem SdOk.stp1 {f:Fm} (hf:FmOk f) {N:Nat} {s:Sd} {d:Dn} (h:SdOk f N s) (hd:DnOk f d) (hc:cn f s d=true):SdOk f (N+3) (stp1 f s d):=h.aft hd (rp_ok hf h hd (rp_nxt hc))
theorem SdOk.fin {f:Fm} (hf:FmOk f):∀ {ds:List Dn} {N:Nat} {s:Sd},SdOk f N s->RunOk f s ds->SdOk f (N+3 * ds.length) (fin f s ds)
 | [],N,s,h,_=>h
 | d::ds,N,s,h,k=>by
  have:=SdOk.fin hf (h.stp1 hf k.1.1 k.1.2) k.2
  rw [show N+3 * (d::ds).length=N+3+3 * ds.length by rw [List.length_cons];omega]
  exact this
def trD (x:Sd×Nat×Option Str):D:=.tup [sdd x.1,tlD x.2.1 x.2.2]
def wd1 (x:Sd×Nat×Option Str):Option (Nat×Str):=x.2.2.map fun w=>(x.2.1,w)
def wds (f:Fm) (s:Sd) (ds:List Dn):List (Nat×Str):=(tr f s ds).filterMap wd1
def wD (p:Nat×Str):D:=.tup [.int p.1,.str p.2]
theorem wds_app {f:Fm} {s:Sd} {a b:List Dn}:wds f s (a++b)=wds f s a++wds f (fin f s a) b:=by
 unfold wds
 rw [tr_app,List.filterMap_append]
theorem wds_ok {f:Fm} (hf:FmOk f):∀ {ds:List Dn} {N:Nat} {s:Sd},SdOk f N s->RunOk f s ds->∀ p∈wds f s ds,p.1 < f.ru.length/\WdOk (some p.2)
 | [],N,s,_,_,p,hp=>by cases hp
 | d::ds,N,s,h,k,p,hp=>by
  unfold wds tr at hp
  rw [List.filterMap_cons] at hp
  have rest:=wds_ok hf (h.stp1 hf k.1.1 k.1.2) k.2 p
  have ax:=rp_ok hf h k.1.1 (rp_nxt k.1.2)
  cases hw:(nxt f s d).2.2 with
  | none=>rw [hw] at hp;exact rest hp
  | some w =>
   rw [hw] at hp
   rcases List.mem_cons.mp hp with e | e
   ·subst e
    refine ⟨k.1.1.mc hf,?_⟩
    have:=ax.w
    rw [hw] at this
    exact this
   ·exact rest e
theorem wds_len {f:Fm} {s:Sd} {ds:List Dn}:(wds f s ds).length<=ds.length:=by
 unfold wds
 exact Nat.le_trans (List.length_filterMap_le _ _) (by rw [tr_len];exact zqg _)
section
variable {G:Fns} {b:List S} {tg:List Nat} {ρ:En} {M:Mem} {nx:En->Mem->Prop} {rt:W->Mem->Prop} {bk ct:En->Mem->Prop}
theorem f_enumAt {n : Nat} {ds : List D} (I : Nat -> En -> Mem -> Prop) (hM : ∀ i ρ M, I i ρ M -> M[n]? = some (.lst ds)) (h0 : I 0 ρ M)
    (hs:∀ i ρ M d,ds[i]?=some d->I i ρ M->enK (bindT tg (.tup [.int i,d]) ρ) fun ρ=>wSs G b ρ M (I (i+1)) rt nx (I (i+1))) (he:∀ ρ M,I ds.length ρ M->nx ρ M) {k:Nat} (hk:k=ds.length):OkT (forGo (fun ρ M=>evSs G b ρ M) (.enumAt n) tg k 0 ρ M) nx rt bk ct:=by
  subst hk
  have hlen:(ds.mapIdx fun i d=>D.tup [.int (i:Nat),d]).length=ds.length:=by simp
  refine for_ok (ds:=ds.mapIdx fun i d=>D.tup [.int (i:Nat),d]) I (fun i ρ M h _=>?_) (fun i ρ M d h e=>?_) (fun ρ M h=>he ρ M (by rw [hlen] at h;exact h)) ds.length 0 ρ M h0 (by rw [hlen];omega)
  · unfold itemAt
    simp only [hM i ρ M h]
    rw [List.getElem?_mapIdx]
  · rw [List.getElem?_mapIdx] at e
    cases e3:ds[i]? with
    | none=>rw [e3] at e;cases e
    | some d' =>
      rw [e3] at e;cases e
      have q:=hs i ρ M d' e3 h
      cases e2:bindT tg (.tup [.int i,d']) ρ with
      | none=>rw [e2] at q;exact q.elim
      | some ρ'=>rw [e2] at q;exact ⟨ρ',rfl,by rw [w_ss];exact q⟩
end
theorem en_lst {M:Mem} {n:Nat} {ds:List D} (hM:M[n]?=some (.lst ds)):srcW .enum [.d (.adr n)] M=.ok (.enumAt n) M:=by
 unfold srcW seqW;simp only [hM];rfl
theorem l_enumAt {M:Mem} {n:Nat} {ds:List D} (hM:M[n]?=some (.lst ds)):itLen M (.enumAt n)=ds.length:=by unfold itLen;simp only [hM]
theorem outT {f:Fm} {d:Dn} {x:Int×List (Int×Str)×Option Str}:tld f d x=tlD (mc f d) x.2.2:=by
 obtain ⟨a,sd,w⟩:=x
 cases w <;> rfl
def StepsF (F:Fn):Prop:=∀ (M:Mem) (f:Fm) (N:Nat) (s:Sd) (ds:List Dn) (n:Nat),FmOk f->SdOk f N s->N+3 * ds.length<=890->RunOk f s ds->M[n]?=some (.lst (ds.map dnD))->Okp (F [fmD f,sdd s,.adr n] M) fun r M'=>∃ n',r=.d (.adr n')/\M.length<=n'/\M'[n']?=some (.lst ((tr f s ds).map trD))/\Ex M M'
theorem stepsF {G:Fns} {kCan kOutc:Nat} (hC:CanF (G kCan)) (hO:OutcF (G kOutc)):StepsF (runDef G 8 (pSteps kCan kOutc)):=by
 intro M f N s ds n hf hs hN hr hn
 rw [w_run]
 show wSs G (pSteps kCan kOutc) [some (fmD f),some (sdd s),some (.adr n),none,none,none,none,none] M _ _ _ _
 nofun
 refine ⟨s0,?_⟩
 nofun
 have hn1:(M++[MO.lst []])[n]?=some (.lst (ds.map dnD)):=app_get hn
 rw [en_lst hn1]
 refine f_enumAt (n:=n) (ds:=ds.map dnD) (fun i ρ M'=>∃ o5 o6 o7,ρ=[some (fmD f),some (sdd s),some (.adr n),some (.adr M.length),some (sdd (fin f s (ds.take i))),o5,o6,o7]/\M'[M.length]?=some (.lst ((tr f s (ds.take i)).map trD))/\Ex M M') (fun i ρ M' ⟨_,_,_,_,_,fr⟩=>Ex.get fr hn) ⟨_,_,_,rfl,app_last,(Ex.refl M).app⟩ ?_ ?_ (l_enumAt hn1)
 ·rintro i ρ M' dd hdd ⟨o5,o6,o7,rfl,hL,fr⟩
  rw [zqk] at hdd
  cases e:ds[i]? with
  | none=>rw [e] at hdd;cases hdd
  | some d =>
   rw [e] at hdd
   cases hdd
   have hi:=(zqa.mp e).1
   obtain ⟨k1,k2⟩:=run_at hr e
   have hs':=SdOk.fin hf hs (run_take (i:=i) hr)
   have hli:(ds.take i).length=i:=by rw [List.length_take];omega
   rw [hli] at hs'
   have hx:=rp_nxt k2
   nofun
   refine (hC M' f _ _ d hf hs' (by omega) k1).imp ?_
   rintro r M2 ⟨f2,e2⟩
   rw [k2] at e2
   subst e2
   nofun
   refine (hO M2 f _ _ d _ hf hs' (by omega) k1 hx).imp ?_
   rintro r M3 ⟨f3,rfl⟩
   have hL3:=Ex.get f3 (Ex.get f2 hL)
   nofun
   refine ⟨lst_some hL3,?_⟩
   nofun
   rw [m_append hL3 (small_lt (by rw [zqe,tr_len,hli];omega))]
   have hsn:ds.take (i+1)=ds.take i++[d]:=take_next e
   refine ⟨some (.int i),some (dnD d),some (.tup [sdd (stp1 f (fin f s (ds.take i)) d),tld f d (nxt f (fin f s (ds.take i)) d)]),?_,?_,Fr.set (Ex.trans (Ex.trans fr f2) f3) (zqg _)⟩
   ·rw [hsn,fin_app]
    rfl
   ·rw [set_same hL3,hsn,tr_app,zqs,outT]
    rfl
 ·rintro ρ M' ⟨o5,o6,o7,rfl,hL,fr⟩
  rw [zqe,List.take_length] at hL
  nofun
  exact ⟨_,rfl,zqg _,hL,fr⟩
def RunF (F:Fn):Prop:=∀ (M:Mem) (f:Fm) (N:Nat) (s:Sd) (ds:List Dn) (n:Nat),FmOk f->SdOk f N s->N+3 * ds.length<=890->RunOk f s ds->M[n]?=some (.lst (ds.map dnD))->Okp (F [fmD f,sdd s,.adr n] M) fun r M'=>∃ n',r=.d (.tup [sdd (fin f s ds),.adr n'])/\M.length<=n'/\M'[n']?=some (.lst ((wds f s ds).map wD))/\Ex M M'
theorem tr_at {f:Fm}:∀ {ds:List Dn} {s:Sd} {i:Nat} {x:Sd×Nat×Option Str},(tr f s ds)[i]?=some x->x.1=fin f s (ds.take (i+1))
 | [],s,i,x,h=>by simp [tr] at h
 | d::ds,s,0,x,h=>by
  have h:(stp1 f s d,mc f d,(nxt f s d).2.2)=x:=by simpa [tr] using h
  rw [<- h]
  rfl
 | d::ds,s,i+1,x,h=>by
  have h:(tr f (stp1 f s d) ds)[i]?=some x:=by simpa [tr] using h
  have q:=tr_at (ds:=ds) (s:=stp1 f s d) (i:=i) h
  rw [q]
  rfl
theorem runF {G:Fns} {kSteps:Nat} (hS:StepsF (G kSteps)):RunF (runDef G 7 (pRun kSteps)):=by
 intro M f N s ds n hf hs hN hr hn
 rw [w_run]
 show wSs G (pRun kSteps) [some (fmD f),some (sdd s),some (.adr n),none,none,none,none] M _ _ _ _
 nofun
 refine ⟨s0,?_⟩
 nofun
 have hn1:(M++[MO.lst []])[n]?=some (.lst (ds.map dnD)):=app_get hn
 refine (hS _ f N s ds n hf hs hN hr hn1).imp ?_
 rintro r M2 ⟨n2,rfl,hl2,hn2,f2⟩
 have hw2:M2[M.length]?=some (.lst []):=Ex.get f2 app_last
 have f12:Ex M M2:=Ex.trans ((Ex.refl M).app) f2
 have hlen:(M++[MO.lst []]).length=M.length+1:=by simp
 rw [hlen] at hl2
 nofun
 rw [sr_lst hn2]
 refine f_at (n:=n2) (ds:=(tr f s ds).map trD) (fun i ρ M'=>∃ o5 o6,ρ=[some (fmD f),some (sdd s),some (.adr n),some (sdd (fin f s (ds.take i))),some (.adr M.length),o5,o6]/\M'[n2]?=some (.lst ((tr f s ds).map trD))/\M'[M.length]?=some (.lst ((((tr f s ds).take i).filterMap wd1).map wD))/\Ex M M') (fun i ρ M' ⟨_,_,_,h,_⟩=>h) ⟨_,_,rfl,hn2,hw2,f12⟩ ?_ ?_
 ·rintro i ρ M' dd hdd ⟨o5,o6,rfl,hn',hw',fr⟩
  rw [zqk] at hdd
  cases e:(tr f s ds)[i]? with
  | none=>rw [e] at hdd;cases hdd
  | some x =>
   rw [e] at hdd
   cases hdd
   have hx:=tr_at e
   have hi:=(zqa.mp e).1
   rw [tr_len] at hi
   have htk:=take_next e
   obtain ⟨t,m,w⟩:=x
   have hx:t=fin f s (ds.take (i+1)):=hx
   subst hx
   cases w with
   | none =>
    nofun
    refine ⟨_,_,rfl,hn',?_,fr⟩
    rw [htk,List.filterMap_append]
    show M'[M.length]?=some (.lst (((((tr f s ds).take i).filterMap wd1)++[]).map wD))
    rw [List.append_nil]
    exact hw'
   | some w =>
    nofun
    refine ⟨lst_some hw',?_⟩
    nofun
    rw [m_append hw' (small_lt (by rw [zqe];exact Nat.le_trans (List.length_filterMap_le _ _) (by rw [List.length_take];omega)))]
    refine ⟨_,_,rfl,set_get hn' (by omega),?_,Fr.set fr (zqg _)⟩
    rw [set_same hw',htk,List.filterMap_append,zqs]
    rfl
 ·rintro ρ M' ⟨o5,o6,rfl,hn',hw',fr⟩
  rw [zqe,List.take_length] at hw'
  rw [zqe,tr_len,List.take_length]
  nofun
  exact ⟨s2,_,rfl,zqg _,hw',fr⟩
def LDeedsF (F:Fn):Prop:=∀ (M:Mem) (ns:List Int) (f:Fm) (s:Sd) (most:Int),ns.length<=63->FmOk f->SdOk f 4 s->18<=most->most<=60->Okp (F [.ls (ns.map D.int),fmD f,sdd s,.int most] M) fun r M'=>∃ n,∃ ds:List Dn,r=.d (.adr n)/\M.length<=n/\M'[n]?=some (.lst (ds.map dnD))/\RunOk f s ds/\(ds.length:Int)<=most/\Ex M M'
theorem ldeedsF {G:Fns} {kWell kDraw kLNext kLDone:Nat} (hW:WellF (G kWell)) (hD:DrawAt (G kDraw)) (hNx:LNextF (G kLNext)) (hDo:OutcF (G kLDone)):LDeedsF (runDef G 9 (pLDeeds kWell kDraw kLNext kLDone)):=by
 intro M ns f s most hns hf hs hm0 hm1
 rw [w_run]
 show wSs G (pLDeeds kWell kDraw kLNext kLDone) [some (.ls (ns.map D.int)),some (fmD f),some (sdd s),some (.int most),none,none,none,none,none] M _ _ _ _
 nofun
 refine (hW M ns 6 (by omega) (by omega) hns).imp ?_
 rintro r M1 ⟨rfl,hl1,hw1,f1⟩
 nofun
 refine ⟨s0,?_⟩
 nofun
 have hL1:(M1++[MO.lst []])[M1.length]?=some (.lst []):=app_last
 refine (hD _ M.length 0 13 hw1.app (by omega) (by omega) (by omega)).imp ?_
 rintro r M2 ⟨a,rfl,a0,a1,hw2,f2⟩
 nofun
 refine (hD M2 M.length _ 13 hw2 (by omega) (by omega) (by omega)).imp ?_
 rintro r M3 ⟨b,rfl,b0,b1,hw3,f3⟩
 nofun
 refine (hD M3 M.length _ 4 hw3 (by omega) (by omega) (by omega)).imp ?_
 rintro r M4 ⟨c,rfl,c0,c1,hw4,f4⟩
 nofun
 refine ⟨s3,?_⟩
 nofun
 have hL4:M4[M1.length]?=some (.lst []):=f4.get (f3.get (f2.get hL1 (by omega)) (by omega)) (by omega)
 have l4:=lt_of_get hL4
 refine (hD _ M.length _ 9 hw4.app (by omega) (by omega) (by omega)).imp ?_
 rintro r M5 ⟨g,rfl,g0,g1,hw5,f5⟩
 have hA5:M5[M4.length]?=some (.lst [.int a,.int (6+b),.int (most - c)]):=f5.get app_last (by omega)
 have hL5:M5[M1.length]?=some (.lst []):=f5.get (app_get hL4) (by omega)
 have fr5:Ex M M5:=((((f1.app).trans f2).trans f3).trans f4).app.trans f5
 nofun
 refine ⟨⟨by omega,by omega⟩,?_⟩
 obtain ⟨d,hd,j,rfl,j0,j1⟩:∃ d,[D.int a,.int (6+b),.int (most - c)][(g / 4).toNat]?=some d/\∃ j:Int,d=.int j/\0<=j/\j<=most:=pick (ds:=[D.int a,.int (6+b),.int (most - c)]) (k:=3) (fun d hd=>by
  simp only [List.mem_cons,List.mem_nil_iff,or_false] at hd
  rcases hd with rfl | rfl | rfl
  ·exact ⟨_,rfl,by omega,by omega⟩
  ·exact ⟨_,rfl,by omega,by omega⟩
  ·exact ⟨_,rfl,by omega,by omega⟩) (by omega) (by omega) rfl
 nofun
 rw [sub_lst hA5 (i:=g / 4) (by omega) hd]
 nofun
 refine ⟨⟨by omega,by omega⟩,?_⟩
 have hm:M.length<=M1.length:=f1.1
 refine f_rng (n:=j.toNat) (fun i ρ M'=>∃ o7 o8,∃ ds:List Dn,ρ=[some (.ls (ns.map D.int)),some (fmD f),some (sdd (fin f s ds)),some (.int most),some (.adr M.length),some (.adr M1.length),some (.adr M4.length),o7,o8]/\M'[M1.length]?=some (.lst (ds.map dnD))/\ds.length=i/\RunOk f s ds/\Ex M M') ⟨_,_,[],rfl,hL5,rfl,trivial,fr5⟩ ?_ ?_
 ·rintro i ρ M6 hi ⟨o7,o8,ds,rfl,hL6,hdl,hdr,fr6⟩
  have hs6:=SdOk.fin hf hs hdr
  have hi60:(i:Int) < 60:=by omega
  nofun
  refine (hW M6 ns (7+(0+(i:Int))) (by omega) (by omega) hns).imp ?_
  rintro r M7 ⟨rfl,hl7,hw7,f7⟩
  have l6:=lt_of_get hL6
  nofun
  refine (hNx M7 M6.length 0 f _ _ hw7 (by omega) hf hs6 (by omega)).imp ?_
  rintro r M8 ⟨d,rfl,hd1,hd2,f8⟩
  have f78:Ex M6 M8:=f7.trans f8
  have hL8:=Ex.get f78 hL6
  nofun
  refine ⟨lst_some hL8,?_⟩
  nofun
  rw [m_append hL8 (small_lt (by rw [zqe];omega))]
  nofun
  have hx:=rp_nxt hd2
  refine (hDo _ f _ _ d _ hf hs6 (by omega) hd1 hx).imp ?_
  rintro r M9 ⟨f9,rfl⟩
  refine ⟨some (.int (0+(i:Int))),some (dnD d),ds++[d],?_,?_,by simp [hdl],?_,?_⟩
  ·rw [fin_app]
   rfl
  ·refine Ex.get f9 ?_
   rw [set_same hL8,zqs]
   rfl
  ·rw [run_app]
   exact ⟨hdr,⟨hd1,hd2⟩,trivial⟩
  ·exact Ex.trans (Fr.set (Ex.trans fr6 f78) hm) f9
 ·rintro ρ M6 ⟨o7,o8,ds,rfl,hL6,hdl,hdr,fr6⟩
  exact ⟨_,ds,rfl,hm,hL6,hdr,by omega,fr6⟩
end Ev
end
section
namespace Ev
open PySem
def pState (kBelow:Nat):List S:=[.ret (.call kBelow [(.var 0),(.glo "STATES" 100)])]
def pTupOf:List S:=[.ret (.conj [(.bi (.isi .tuple) [(.var 0)]),(.cmp .eq (.bi .len [(.var 0)]) (.var 1))])]
def pRising:List S:=[.ret (.bi .all1 [(.comp .zip [(.var 0),(.slc (.var 0) (some (.cst (.int 1))) none)] [1,2] none (.cmp .lt (.var 1) (.var 2)) [none,none,none])])]
def pRStates (kTupOf:Nat) (kState:Nat):List S:=[.ret (.conj [(.call kTupOf [(.var 1),(.bi .len [(.sub (.var 0) (.cst (.int 0)))])]),(.bi .all1 [(.comp .seq [(.var 1)] [1] none (.call kState [(.var 1)]) [none,none])])])]
def pLetter (kTupOf:Nat) (kBelow:Nat) (kSign:Nat):List S:=[.ret (.conj [(.call kTupOf [(.var 0),(.cst (.int 2))]),(.call kBelow [(.sub (.var 0) (.cst (.int 0))),(.var 1)]),(.call kSign [(.sub (.var 0) (.cst (.int 1)))])])]
def pRLetters (kTupOf:Nat) (kWhole:Nat) (kLetter:Nat) (kRising:Nat):List S:=[.iff (.disj [(.neg (.val (.call kTupOf [(.var 1),(.cst (.int 2))]))),(.neg (.val (.call kWhole [(.sub (.var 1) (.cst (.int 0)))]))),(.val (.cmp .lt (.sub (.var 1) (.cst (.int 0))) (.cst (.int 0)))),(.neg (.val (.bi (.isi .tuple) [(.sub (.var 1) (.cst (.int 1)))])))]) [.ret (.cst (.bl false))] [],.asg [2] (.sub (.var 1) (.cst (.int 0))),.iff (.neg (.val (.bi .all1 [(.comp .seq [(.sub (.var 1) (.cst (.int 1)))] [1] none (.call kLetter [(.var 1),(.var 2)]) [none,none,some 2])]))) [.ret (.cst (.bl false))] [],.asgC 3 (.comp .seq [(.sub (.var 1) (.cst (.int 1)))] [1] none (.sub (.var 1) (.cst (.int 0))) [none,none]),.iff (.val (.cmp .eq (.var 0) (.cst (.str "row")))) [.ret (.cmp .eq (.var 3) (.rng false [(.bin .sub (.var 2) (.bi .len [(.var 3)])),(.var 2)]))] [],.ret (.call kRising [(.var 3)])]
def pRRoads (kTupOf:Nat) (kRLetters:Nat):List S:=[.iff (.neg (.val (.call kTupOf [(.var 1),(.bi .len [(.sub (.var 0) (.cst (.int 1)))])]))) [.ret (.cst (.bl false))] [],.ret (.bi .all1 [(.comp .zip [(.sub (.var 0) (.cst (.int 1))),(.var 1)] [1,2] none (.call kRLetters [(.sub (.var 1) (.cst (.int 2))),(.var 2)]) [none,none,none])])]
def pRStand (kTupOf:Nat) (kRStates:Nat) (kRRoads:Nat):List S:=[.iff (.neg (.val (.call kTupOf [(.var 1),(.cst (.int 2))]))) [.ret (.cst (.bl false))] [],.ret (.conj [(.call kRStates [(.var 0),(.sub (.var 1) (.cst (.int 0)))]),(.call kRRoads [(.var 0),(.sub (.var 1) (.cst (.int 1)))])])]
def pLStep (kDone:Nat) (kRStand:Nat) (kWaits:Nat):List S:=[.asg [4] (.call kDone [(.var 0),(.var 1),(.var 2)]),.iff (.disj [(.neg (.val (.bi (.isi .tuple) [(.var 4)]))),(.val (.cmp .ne (.bi .len [(.var 4)]) (.cst (.int 2)))),(.val (.isTr true (.call kRStand [(.var 0),(.sub (.var 4) (.cst (.int 0)))])))]) [.ret (.cst .non)] [],.asg [5] (.sub (.var 4) (.cst (.int 0))),.iff (.val (.cmp .eq (.sub (.var 2) (.cst (.int 0))) (.cst (.str "come")))) [.iff (.val (.cmp .notin (.sub (.var 2) (.cst (.int 2))) (.sub (.var 3) (.sub (.var 2) (.cst (.int 1)))))) [.ret (.cst .non)] [],.expr (.me .remove (.sub (.var 3) (.sub (.var 2) (.cst (.int 1)))) [(.sub (.var 2) (.cst (.int 2)))])] [],.forr [6] .rng1 [(.bi .len [(.sub (.var 0) (.cst (.int 1)))])] [.expr (.me .extend (.sub (.var 3) (.var 6)) [(.rng false [(.sub (.sub (.sub (.var 1) (.cst (.int 1))) (.var 6)) (.cst (.int 0))),(.sub (.sub (.sub (.var 5) (.cst (.int 1))) (.var 6)) (.cst (.int 0)))])]),.iff (.val (.cmp .ne (.comp .seq [(.call kWaits [(.var 5),(.var 6)])] [1] none (.sub (.var 1) (.cst (.int 0))) [none,none]) (.sub (.var 3) (.var 6)))) [.ret (.cst .non)] []],.ret (.var 4)]
end Ev
end
section
namespace Ev
open L2
open PySem PySem.Spec PyProof.Rows
theorem lay_ints (ks:List Int):PyData.canLay0 (.list (ks.map PyData.int))=true:=by
 have:=PySem.W.shaped_ints ks
 unfold SeqAt.shaped at this
 exact ((zqf _ _).mp this).1
theorem py_li {M:Mem} {n:Nat} {ks:List Int} (h:M[n]?=some (.lst (ks.map D.int))):pyW M (.d (.adr n))=some (.list (ks.map PyData.int)):=by
 show pyD M 30 (.adr n)=_
 unfold pyD
 simp only [h]
 rw [show pyDs M 29 (ks.map D.int)=_ from py_ints ks]
 rfl
theorem py_lv {M:Mem} {ks:List Int}:pyW M (.lv (ks.map D.int))=some (.list (ks.map PyData.int)):=by
 show (pyDs M 30 (ks.map D.int)).map PyData.list=_
 rw [show pyDs M 30 (ks.map D.int)=_ from py_ints ks]
 rfl
theorem eq_li {M:Mem} {n:Nat} {ks:List Int} (h:M[n]?=some (.lst (ks.map D.int))):cmpW .eq (.d (.adr n)) (.lv (ks.map D.int)) M=.ok true M:=by
 unfold cmpW
 simp only [py_li h,py_lv,PySem.W.shaped_ints ks,and_self,if_true,SeqAt.eqv_refl _ (lay_ints ks)]
theorem ne_li {M:Mem} {n:Nat} {ks:List Int} (h:M[n]?=some (.lst (ks.map D.int))):cmpW .ne (.lv (ks.map D.int)) (.d (.adr n)) M=.ok false M:=by
 unfold cmpW
 simp only [py_li h,py_lv,PySem.W.shaped_ints ks,and_self,if_true,SeqAt.eqv_refl _ (lay_ints ks)]
 rfl
theorem bls_true:∀ {ds:List D},(∀ d∈ds,d=.bl true)->∃ bs,blsD ds=some bs/\bs.all id=true
 | [],_=>⟨[],rfl,rfl⟩
 | d::ds,h=>by
  obtain ⟨bs,e,q⟩:=bls_true (ds:=ds) fun d hd=>h d (zqi _ hd)
  rw [h d (List.mem_cons_self ..)]
  refine ⟨true::bs,?_,by simpa using q⟩
  show (blsD ds).map (true::·)=_
  rw [e];rfl
theorem all_true {M:Mem} {ds:List D} (h:∀ d∈ds,d=.bl true):biW .all1 [.lv ds] M=.ok (.d (.bl true)) M:=by
 obtain ⟨bs,e,q⟩:=bls_true h
 unfold biW seqW
 simp only [e,q]
theorem all_fm {M:Mem} {α:Type} {l:List α}:biW .all1 [.lv (l.filterMap fun _=>some (D.bl true))] M=.ok (.d (.bl true)) M:=all_true fun d hd=>by
 obtain ⟨_,_,e⟩:=List.mem_filterMap.mp hd
 exact (zql e).symm
def StateF (F:Fn):Prop:=∀ (M:Mem) (i:Int),0<=i->i < 100->Okp (F [.int i] M) fun r M'=>M=M'/\r=.d (.bl true)
theorem stateF {G:Fns} {kBelow:Nat} (hB:BelowF (G kBelow)):StateF (runDef G 1 (pState kBelow)):=by
 intro M i h0 h1
 obtain ⟨n,rfl⟩:∃ n:Nat,i=n:=⟨i.toNat,by omega⟩
 rw [w_run]
 show wSs G (pState kBelow) [some (.int (n:Nat))] M _ _ _ _
 nofun
 exact hB M n 100 (by omega)
def TupF (F:Fn):Prop:=∀ (M:Mem) (ds:List D) (n:Nat),ds.length=n->Okp (F [.tup ds,.int n] M) fun r M'=>M=M'/\r=.d (.bl true)
theorem tupF {G:Fns}:TupF (runDef G 2 pTupOf):=by
 intro M ds n h
 subst h
 rw [w_run]
 show wSs G pTupOf [some (.tup ds),some (.int (ds.length:Nat))] M _ _ _ _
 nofun
 refine ⟨rfl,?_⟩
 rw [beq_self_eq_true]
def LetterF (F:Fn):Prop:=∀ (M:Mem) (p:Int×Str) (s:Int),SigOk p.2->0<=p.1->p.1 < s->Okp (F [pD p,.int s] M) fun r M'=>M=M'/\r=.d (.bl true)
theorem letterF {G:Fns} {kTupOf kBelow kSign:Nat} (hT:TupF (G kTupOf)) (hB:BelowF (G kBelow)) (hS:SignF (G kSign)):LetterF (runDef G 2 (pLetter kTupOf kBelow kSign)):=by
 rintro M ⟨i,c⟩ s hc h0 h1
 obtain ⟨n,rfl⟩:∃ n:Nat,i=n:=⟨i.toNat,by have:0<=i:=h0;omega⟩
 obtain ⟨k,rfl⟩:∃ k:Nat,s=k:=⟨s.toNat,by have:(n:Int) < s:=h1;omega⟩
 rw [w_run]
 show wSs G (pLetter kTupOf kBelow kSign) [some (.tup [.int (n:Nat),.str c]),some (.int (k:Nat))] M _ _ _ _
 nofun
 refine (hT M [.int (n:Nat),.str c] 2 rfl).imp ?_
 rintro r M1 ⟨rfl,rfl⟩
 nofun
 refine (hB M n k (by have:(n:Int) < k:=h1;omega)).imp ?_
 rintro r M1 ⟨rfl,rfl⟩
 nofun
 exact hS M c hc
def RisingF (F:Fn):Prop:=∀ (M:Mem) (n:Nat) (ks:List Int),M[n]?=some (.lst (ks.map D.int))->(ks.Pairwise fun a b=>a < b)->ks.length<=900->Okp (F [.adr n] M) fun r M'=>r=.d (.bl true)/\Ex M M'
theorem cutF1 {ds:List D}:cutD ds (some 1) none=ds.drop 1:=by
 unfold cutD
 have e1:HT.sIx ds.length ds.length none=ds.length:=rfl
 have e2:HT.sIx ds.length 0 (some 1)=min 1 ds.length:=by
  show (if (1:Int) < 0 then ((1:Int)+(ds.length:Int)).toNat else min (1:Int).toNat ds.length)=_
  rw [if_neg (by decide)];rfl
 rw [e1,e2]
 rcases ds with _|⟨d,ds⟩
 ·rfl
 ·rw [show min 1 (d::ds).length=1 by simp]
  exact List.take_of_length_le (by simp)
theorem risingF {G:Fns}:RisingF (runDef G 1 pRising):=by
 intro M n ks hn hp hl
 rw [w_run]
 show wSs G pRising [some (.adr n)] M _ _ _ _
 nofun
 have e1:slcW (.d (.adr n)) (some 1) none M=.ok (.lv ((ks.map D.int).drop 1)) M:=by unfold slcW;simp only [seqW,hn,cutF1]
 rw [e1]
 nofun
 have z1:z1W M (.d (.adr n))=some (.at n):=by unfold z1W seqW;simp only [hn];rfl
 rw [show srcW .zip [.d (.adr n),.lv ((ks.map D.int).drop 1)] M=.ok (.zip (.at n) (.items ((ks.map D.int).drop 1))) M by
  show (match z1W M (.d (.adr n)),z1W M (.lv ((ks.map D.int).drop 1)) with | some a,some b=>Out.ok (It.zip a b) M | _,_=>.stuck)=_
  rw [z1];rfl]
 nofun
 have hzl:(List.zipWith (fun a b=>D.tup [a,b]) (ks.map D.int) ((ks.map D.int).drop 1)).length<=ks.length:=by rw [List.length_zipWith,zqe];omega
 refine c_map (ds:=List.zipWith (fun a b=>D.tup [a,b]) (ks.map D.int) ((ks.map D.int).drop 1)) (fun _=>some (.bl true)) (by decide) (fun M' f i hi=>?_) (small_le (by omega)) ?_ ?_ ?_
 ·have h2:=Ex.get f hn
  unfold Ev.itemAt seqZ
  simp only [h2]
  unfold zipAt
  rw [List.getElem?_zipWith]
  cases (ks.map D.int)[i]? <;> cases ((ks.map D.int).drop 1)[i]? <;> rfl
 ·intro i M' d hd f
  rw [List.getElem?_zipWith,List.getElem?_drop,zqk,zqk] at hd
  cases ea:ks[i]? with
  | none=>rw [ea] at hd;cases hd
  | some a =>
   cases eb:ks[1+i]? with
   | none=>rw [ea,eb] at hd;cases hd
   | some b =>
    rw [ea,eb] at hd
    cases hd
    obtain ⟨ia,va⟩:=zqa.mp ea
    obtain ⟨ib,vb⟩:=zqa.mp eb
    have hab:a < b:=by
     have:=List.pairwise_iff_getElem.mp hp i (1+i) ia ib (by omega)
     rw [va,vb] at this
     exact this
    nofun
    rw [decide_eq_true hab]
    exact ⟨rfl,f⟩
 ·intro M' f
  nofun
  rw [all_fm]
  exact ⟨rfl,f⟩
 ·unfold itLen seqZ
  simp only [hn]
  rw [List.length_zipWith]
def RLettersF (F:Fn):Prop:=∀ (M:Mem) (o:Str) (N:Nat) (l:Int×List (Int×Str)),LdOk N l->N<=900->(o = "row" \/ o = "heap")->((o == "heap")=false->Tail l)->Okp (F [.str o,ldD l] M) fun r M'=>r=.d (.bl true)/\Ex M M'
def fstD:D->Option D
 | .tup [.int i,_]=>some (.int i)
 | _=>none
theorem pds_num {ps:List (Int×Str)}:(ps.map pD).filterMap fstD=(ps.map (·.1)).map D.int:=by
 induction ps with
 | nil=>rfl
 | cons p ps ih=>rw [List.map_cons,List.filterMap_cons,ih];rfl
theorem rlettersF {G:Fns} {kTupOf kWhole kLetter kRising:Nat} (hT:TupF (G kTupOf)) (hW:WholeF (G kWhole)) (hL:LetterF (G kLetter)) (hR:RisingF (G kRising)):RLettersF (runDef G 4 (pRLetters kTupOf kWhole kLetter kRising)):=by
 rintro M o N ⟨s,ps⟩ ok hN ho ht
 have k0:0<=s:=ok.s.1
 have k1:s<=1000000000+N:=ok.s.2
 have kn:ps.length<=N:=ok.n
 rw [w_run]
 show wSs G (pRLetters kTupOf kWhole kLetter kRising) [some (.str o),some (.tup [.int s,.tup (ps.map pD)]),none,none] M _ _ _ _
 nofun
 refine (hT M [.int s,.tup (ps.map pD)] 2 rfl).imp ?_
 rintro r M1 ⟨rfl,rfl⟩
 nofun
 refine (hW M s).imp ?_
 rintro r M1 ⟨rfl,rfl⟩
 nofun
 rw [decide_eq_false (by omega:¬ s < 0)]
 nofun
 refine c_map (ds:=ps.map pD) (fun _=>some (.bl true)) (by decide) it_items (small_le (by rw [zqe];omega)) ?_ ?_ rfl
 ·intro i M' d hd f
  obtain ⟨p,hp,rfl⟩:=zqo.mp (zqj hd)
  have q:=ok.p p hp
  nofun
  refine (hL M' p s q.1 q.2.1 q.2.2).imp ?_
  rintro r M1 ⟨rfl,rfl⟩
  exact ⟨rfl,f⟩
 intro M1 f1
 nofun
 rw [all_fm]
 nofun
 refine c_map (ds:=ps.map pD) fstD (by decide) it_items (small_le (by rw [zqe];omega)) ?_ ?_ rfl
 ·intro i M' d hd f
  obtain ⟨p,hp,rfl⟩:=zqo.mp (zqj hd)
  nofun
  exact ⟨rfl,f⟩
 intro M2 f2
 rw [pds_num]
 nofun
 have h3:(M2++[MO.lst ((ps.map (·.1)).map D.int)])[M2.length]?=some (.lst ((ps.map (·.1)).map D.int)):=app_last
 have f3:Ex M (M2++[MO.lst ((ps.map (·.1)).map D.int)]):=(Ex.trans f1 f2).app
 generalize M2++[MO.lst ((ps.map (·.1)).map D.int)]=M3 at h3 f3
 rcases ho with rfl | rfl
 ·rw [c_eqS so_row so_row,show (("row" : Str) == "row")=true by decide +kernel]
  nofun
  rw [len_lst h3]
  nofun
  have hlen:((ps.map (·.1)).map D.int).length=ps.length:=by simp
  refine ⟨⟨⟨by omega,by omega,by omega,by omega⟩,by rw [hlen];omega⟩,?_⟩
  nofun
  have hd:rngD (s - (((ps.map (·.1)).map D.int).length:Int)) (s - (s - (((ps.map (·.1)).map D.int).length:Int))).toNat=(ps.map (·.1)).map D.int:=by
   have t:ps.map (·.1)=upto (s - (ps.length:Int)) s:=ht (⋯)
   rw [hlen]
   rw [t]
   unfold rngD upto
   rw [List.map_map]
   rfl
  rw [hd]
  rw [show rngOut false ((ps.map (·.1)).map D.int)=.lv ((ps.map (·.1)).map D.int) from rfl,eq_li h3]
  exact ⟨rfl,f3⟩
 ·rw [c_eqS so_heap so_row,show (("heap" : Str) == "row")=false by decide +kernel]
  nofun
  refine (hR M3 M2.length (ps.map (·.1)) h3 ?_ (by rw [zqe];omega)).imp fun r M4 ⟨e,f4⟩=>⟨e,Ex.trans f3 f4⟩
  exact List.pairwise_map.mpr ok.r
def RStatesF (F:Fn):Prop:=∀ (M:Mem) (f:Fm) (N:Nat) (s:Sd),FmOk f->SdOk f N s->Okp (F [fmD f,.tup (s.st.map D.int)] M) fun r M'=>r=.d (.bl true)/\Ex M M'
theorem rstatesF {G:Fns} {kTupOf kState:Nat} (hT:TupF (G kTupOf)) (hS:StateF (G kState)):RStatesF (runDef G 2 (pRStates kTupOf kState)):=by
 intro M f N s hf hs
 have h4:=hf.l4
 have hl:(s.st.map D.int).length=(f.ru.map ruD).length:=by rw [zqe,zqe,hs.ls]
 rw [w_run]
 show wSs G (pRStates kTupOf kState) [some (.tup [.tup (f.ru.map ruD),.tup (f.ro.map roD)]),some (.tup (s.st.map D.int))] M _ _ _ _
 nofun
 refine (hT M (s.st.map D.int) _ hl).imp ?_
 rintro r M1 ⟨rfl,rfl⟩
 nofun
 refine c_map (ds:=s.st.map D.int) (fun _=>some (.bl true)) (by decide) it_items (small_le (by rw [zqe,hs.ls];omega)) ?_ ?_ rfl
 ·intro i M' d hd fr
  obtain ⟨x,hx,rfl⟩:=zqo.mp (zqj hd)
  have q:=hs.st x hx
  nofun
  refine (hS M' x q.1 q.2).imp ?_
  rintro r M1 ⟨rfl,rfl⟩
  exact ⟨rfl,fr⟩
 ·intro M' fr
  nofun
  rw [all_fm]
  exact ⟨rfl,fr⟩
def RRoadsF (F:Fn):Prop:=∀ (M:Mem) (f:Fm) (N:Nat) (s:Sd),FmOk f->SdOk f N s->Tl f s->N<=900->Okp (F [fmD f,.tup (s.ld.map ldD)] M) fun r M'=>r=.d (.bl true)/\Ex M M'
theorem rroadsF {G:Fns} {kTupOf kRLetters:Nat} (hT:TupF (G kTupOf)) (hL:RLettersF (G kRLetters)):RRoadsF (runDef G 2 (pRRoads kTupOf kRLetters)):=by
 intro M f N s hf hs ht hN
 have h8:=hf.l8
 have hl:(s.ld.map ldD).length=(f.ro.map roD).length:=by rw [zqe,zqe,hs.ll]
 rw [w_run]
 show wSs G (pRRoads kTupOf kRLetters) [some (.tup [.tup (f.ru.map ruD),.tup (f.ro.map roD)]),some (.tup (s.ld.map ldD))] M _ _ _ _
 nofun
 refine (hT M (s.ld.map ldD) _ hl).imp ?_
 rintro r M1 ⟨rfl,rfl⟩
 nofun
 have hzl:(List.zipWith (fun a b=>D.tup [a,b]) (f.ro.map roD) (s.ld.map ldD)).length<=8:=by rw [List.length_zipWith,zqe];omega
 refine c_map (ds:=List.zipWith (fun a b=>D.tup [a,b]) (f.ro.map roD) (s.ld.map ldD)) (fun _=>some (.bl true)) (by decide) it_zip (small_le (by omega)) ?_ ?_ (by rw [List.length_zipWith];rfl)
 ·intro i M' d hd fr
  have hi:i < f.ro.length:=by
   have:=(zqa.mp hd).1
   rw [List.length_zipWith,zqe] at this
   omega
  obtain ⟨e1,e2⟩:=hf.rd hi
  obtain ⟨e3,e4⟩:=hs.lda hi
  rw [List.getElem?_zipWith,e1,e3] at hd
  cases hd
  nofun
  refine (hL M' (road f i).2.2 N (load s i) e4 hN e2.k (ht i hi)).imp ?_
  rintro r M1 ⟨rfl,f1⟩
  exact ⟨rfl,Ex.trans fr f1⟩
 ·intro M' fr
  nofun
  rw [all_fm]
  exact ⟨rfl,fr⟩
def RStandF (F:Fn):Prop:=∀ (M:Mem) (f:Fm) (N:Nat) (s:Sd),FmOk f->SdOk f N s->Tl f s->N<=900->Okp (F [fmD f,sdd s] M) fun r M'=>r=.d (.bl true)/\Ex M M'
theorem rstandF {G:Fns} {kTupOf kRStates kRRoads:Nat} (hT:TupF (G kTupOf)) (hS:RStatesF (G kRStates)) (hR:RRoadsF (G kRRoads)):RStandF (runDef G 2 (pRStand kTupOf kRStates kRRoads)):=by
 intro M f N s hf hs ht hN
 rw [w_run]
 show wSs G (pRStand kTupOf kRStates kRRoads) [some (fmD f),some (.tup [.tup (s.st.map D.int),.tup (s.ld.map ldD)])] M _ _ _ _
 nofun
 refine (hT M [.tup (s.st.map D.int),.tup (s.ld.map ldD)] 2 rfl).imp ?_
 rintro r M1 ⟨rfl,rfl⟩
 nofun
 refine (hS M f N s hf hs).imp ?_
 rintro r M1 ⟨rfl,f1⟩
 nofun
 exact (hR M1 f N s hf hs ht hN).imp fun r M2 ⟨e,f2⟩=>⟨e,Ex.trans f1 f2⟩
theorem upto_app {a b c:Int} (h1:a<=b) (h2:b<=c):upto a b++upto b c=upto a c:=by
 obtain ⟨n,hn⟩:∃ n:Nat,b=a+n:=⟨(b - a).toNat,by omega⟩
 subst hn
 clear h1
 induction n generalizing a with
 | zero=>rw [show a+((0:Nat):Int)=a by omega,upto_nil (zqm _)];rfl
 | succ n ih =>
  have e:a+((n+1:Nat):Int)=a+1+(n:Int):=by omega
  rw [e] at h2 ⊢
  rw [upto_cons (a:=a) (b:=a+1+n) (by omega),upto_cons (a:=a) (b:=c) (by omega),List.cons_append,ih h2]
theorem upto_one {a:Int}:upto a (a+1)=[a]:=by rw [upto_cons (by omega),upto_nil (by omega)]
theorem getD_set {α:Type} {l:List α} {i j:Nat} {x d:α} (h:i < l.length):(l.set i x).getD j d=if i=j then x else l.getD j d:=by
 rw [zqh,zqh,List.getElem?_set]
 by_cases q:i=j
 ·rw [if_pos q,if_pos q,if_pos (by omega)];rfl
 ·rw [if_neg q,if_neg q]
theorem send_nums:∀ (sd:List (Int×Str)) (ld:List (Int×List (Int×Str))) (r:Nat),(∀ p∈sd,0<=p.1/\p.1.toNat < ld.length)->(ld.getD r (0,[])).1<=((send ld sd).getD r (0,[])).1/\nums ((send ld sd).getD r (0,[]))=nums (ld.getD r (0,[]))++upto (ld.getD r (0,[])).1 ((send ld sd).getD r (0,[])).1/\(send ld sd).length=ld.length
 | [],ld,r,_=>⟨zqm _,by rw [show send ld []=ld from rfl,upto_nil (zqm _),List.append_nil],rfl⟩
 | p::sd,ld,r,h=>by
  have hp:=h p (List.mem_cons_self ..)
  have hl:(ld.set p.1.toNat (more (ld.getD p.1.toNat (0,[])) p.2)).length=ld.length:=List.length_set
  obtain ⟨i1,i2,i3⟩:=send_nums sd (ld.set p.1.toNat (more (ld.getD p.1.toNat (0,[])) p.2)) r fun q hq=>by rw [hl];exact h q (zqi _ hq)
  have e:send ld (p::sd)=send (ld.set p.1.toNat (more (ld.getD p.1.toNat (0,[])) p.2)) sd:=rfl
  rw [e,i2,i3]
  rw [getD_set hp.2] at i1 ⊢
  by_cases q:p.1.toNat=r
  ·rw [if_pos q] at i1 ⊢
   subst q
   have hm:(more (ld.getD p.1.toNat (0,[])) p.2).1=(ld.getD p.1.toNat (0,[])).1+1:=rfl
   have hn:nums (more (ld.getD p.1.toNat (0,[])) p.2)=nums (ld.getD p.1.toNat (0,[]))++[(ld.getD p.1.toNat (0,[])).1]:=by unfold nums more;rw [zqs];rfl
   rw [hm] at i1 ⊢
   rw [hn]
   refine ⟨by omega,?_,hl⟩
   have e2:=upto_app (a:=(ld.getD p.1.toNat (0,[])).1) (b:=(ld.getD p.1.toNat (0,[])).1+1) (by omega) i1
   rw [upto_one] at e2
   rw [List.append_assoc,e2]
  ·rw [if_neg q] at i1 ⊢
   exact ⟨i1,rfl,hl⟩
def lsl (s:Sd) (d:Dn) (r:Nat):Int×List (Int×Str):=match d with
 | .come q k=>if q=r then less (load s r) k else load s r
 | _=>load s r
theorem lsl_eq {f:Fm} {N:Nat} {s:Sd} {d:Dn} (hs:SdOk f N s) (hd:DnOk f d) (r:Nat):(lessD s.ld d).getD r (0,[])=lsl s d r/\(lessD s.ld d).length=s.ld.length:=by
 cases d with
 | own m=>exact ⟨rfl,rfl⟩
 | hear m c=>exact ⟨rfl,rfl⟩
 | come q k =>
  have hq:q < s.ld.length:=by rw [hs.ll];exact hd
  refine ⟨?_,List.length_set⟩
  show (s.ld.set q (less (s.ld.getD q (0,[])) k)).getD r (0,[])=_
  rw [getD_set hq]
  show _=if q=r then less (load s r) k else load s r
  by_cases z:q=r
  ·subst z;rw [if_pos rfl,if_pos rfl];rfl
  ·rw [if_neg z,if_neg z];rfl
theorem stp_nums {f : Fm} (hf : FmOk f) {N : Nat} {s : Sd} {d : Dn} (hs : SdOk f N s) (hd : DnOk f d) (hc : cn f s d = true) (r : Nat) :
    (load s r).1<=(load (stp1 f s d) r).1/\nums (load (stp1 f s d) r)=nums (lsl s d r)++upto (load s r).1 (load (stp1 f s d) r).1:=by
  have ax:=rp_ok hf hs hd (rp_nxt hc)
  obtain ⟨e1,e2⟩:=lsl_eq hs hd r
  have hb:∀ p∈(nxt f s d).2.1,0<=p.1/\p.1.toNat < (lessD s.ld d).length:=fun p hp=>by
    obtain ⟨_,h2,x,h3,_⟩:=ax.sd p hp
    refine ⟨h2,?_⟩
    rw [e2,hs.ll]
    exact (zqa.mp h3).1
  obtain ⟨i1,i2,_⟩:=send_nums (nxt f s d).2.1 (lessD s.ld d) r hb
  have h1:(lsl s d r).1=(load s r).1:=by
    cases d with
    | own m=>rfl
    | hear m c=>rfl
    | come q k =>
      show (if q=r then less (load s r) k else load s r).1=_
      split <;> rfl
  rw [e1,h1] at i1 i2
  exact ⟨i1,i2⟩
theorem erase_filter {k:Int}:∀ {ps:List (Int×Str)},(ps.Pairwise fun p q=>p.1 < q.1)->(ps.filter fun p=>!(p.1 == k)).map (·.1)=(ps.map (·.1)).erase k
 | [],_=>rfl
 | p::ps,h=>by
  rw [List.pairwise_cons] at h
  rw [List.map_cons,List.erase_cons,List.filter_cons]
  cases q:(p.1 == k) with
  | true =>
   rw [if_neg (by simp),if_pos rfl]
   have e:p.1=k:=eq_of_beq q
   rw [List.filter_eq_self.mpr fun x hx=>by
    have:=h.1 x hx
    have hne:(x.1 == k)=false:=beq_eq_false_iff_ne.mpr (by omega)
    rw [hne];rfl]
  | false =>
   rw [if_pos (by simp),if_neg (by simp),List.map_cons,erase_filter h.2]
theorem come_mem {f:Fm} {s:Sd} {r:Nat} {k:Int} (hc:cn f s (.come r k)=true):k∈nums (load s r)/\(((road f r).2.2 == "row")=true->(load s r).2.head?.map (·.1)=some k):=by
 unfold cn rp at hc
 cases q:cs f s (.come r k) with
 | none=>rw [q] at hc;exact absurd hc zqd
 | some c =>
  have q:((sel (road f r).2.2 (load s r).2).find? fun p=>p.1 == k).map (·.2)=some c:=q
  cases z:(sel (road f r).2.2 (load s r).2).find? fun p=>p.1 == k with
  | none=>rw [z] at q;cases q
  | some p =>
   have hm:=List.mem_of_find?_eq_some z
   have hk:p.1=k:=eq_of_beq (show (p.1 == k)=true from List.find?_some (p:=fun p:Int×Str=>p.1 == k) z)
   refine ⟨?_,fun ho=>?_⟩
   ·unfold sel at hm
    refine zqo.mpr ⟨p,?_,hk⟩
    split at hm
    ·exact List.mem_of_mem_take hm
    ·exact hm
   ·unfold sel at hm
    rw [if_pos ho] at hm
    cases hl:(load s r).2 with
    | nil=>rw [hl] at hm;cases hm
    | cons a l =>
     rw [hl] at hm
     have:p=a:=by simpa using hm
     rw [<- this]
     simp [hk]
theorem Tl.stp1 {f:Fm} (hf:FmOk f) {N:Nat} {s:Sd} {d:Dn} (hs:SdOk f N s) (ht:Tl f s) (hd:DnOk f d) (hc:cn f s d=true):Tl f (stp1 f s d):=by
 intro r hr ho
 obtain ⟨h1,h2⟩:=stp_nums hf hs hd hc r
 have t:=ht r hr ho
 have hln:∀ l:Int×List (Int×Str),(nums l).length=l.2.length:=fun l=>zqe _
 have hup:∀ a b:Int,a<=b->(upto a b).length=(b - a).toNat:=fun a b _=>by unfold upto;simp
 have key:nums (lsl s d r)=upto ((load s r).1 - ((lsl s d r).2.length:Int)) (load s r).1:=by
  cases d with
  | own m=>exact t
  | hear m c=>exact t
  | come q k =>
   by_cases z:q=r
   ·subst z
    have hrow:((road f q).2.2 == "row")=true:=by
     rcases (hf.rd hr).2.k with e | e
     ·rw [e];decide +kernel
     ·rw [e] at ho;exact absurd ho (⋯)
    obtain ⟨_,hh⟩:=come_mem hc
    have hh:=hh hrow
    have el:lsl s (.come q k) q=less (load s q) k:=if_pos rfl
    rw [el]
    have e3:nums (less (load s q) k)=(nums (load s q)).erase k:=erase_filter (hs.lda hr).2.r
    have hlen:(less (load s q) k).2.length=((nums (load s q)).erase k).length:=by rw [<- e3,hln]
    have t:nums (load s q)=upto ((load s q).1 - ((load s q).2.length:Int)) (load s q).1:=t
    cases hl:(load s q).2 with
    | nil=>rw [hl] at hh;cases hh
    | cons a l =>
     rw [hl] at hh
     have hak:a.1=k:=by simpa using hh
     have hn:nums (load s q)=k::l.map (·.1):=by unfold nums;rw [hl,List.map_cons,hak]
     rw [hn,List.erase_cons_head] at e3 hlen
     rw [hlen,zqe,e3]
     rw [hn,hl,List.length_cons] at t
     rw [upto_cons (by omega)] at t
     have:=(List.cons.inj t).2
     rw [this]
     congr 1
     omega
   ·have el:lsl s (.come q k) r=load s r:=if_neg z
    rw [el];exact t
 show nums (load (Ev.stp1 f s d) r)=_
 have hlen2:((load (Ev.stp1 f s d) r).2.length:Int)=((lsl s d r).2.length:Int)+((load (Ev.stp1 f s d) r).1 - (load s r).1):=by
  have:=congrArg List.length h2
  rw [zqp,hln,hln,hup _ _ h1] at this
  omega
 rw [h2,key,upto_app (by omega) h1,hlen2]
 congr 1
 omega
theorem m_extend {M:Mem} {n k:Nat} {ds es:List D} (h:M[n]?=some (.lst ds)) (h2:M[k]?=some (.lst es)) (hl:ds.length+es.length<=sizeLine):meW .extend (.d (.adr n)) [.adr k] M=.ok (.d .non) (M.set n (.lst (ds++es))):=by
 unfold meW;simp only [h,h2,if_pos hl]
theorem ints_map:∀ l:List Int,intsD (l.map D.int)=some l
 | []=>rfl
 | i::l=>by
  show (intsD (l.map D.int)).map (i::·)=_
  rw [ints_map l];rfl
theorem m_remove {M:Mem} {n:Nat} {ks:List Int} {k:Int} (h:M[n]?=some (.lst (ks.map D.int))) (hk:k∈ks):meW .remove (.d (.adr n)) [.int k] M=.ok (.d .non) (M.set n (.lst ((ks.erase k).map D.int))):=by
 unfold meW;simp only [h,ints_map,if_pos hk]
structure LvG (M:Mem) (n:Nat) (as:List Nat) (g:Nat->List Int):Prop where
 at':M[n]?=some (.lst (as.map D.adr))
 nd:as.Nodup
 na:n∉as
 av:∀ (r a:Nat),as[r]?=some a->M[a]?=some (.lst ((g r).map D.int))
theorem LvG.ex {M M':Mem} {n:Nat} {as:List Nat} {g:Nat->List Int} (h:LvG M n as g) (f:Ex M M'):LvG M' n as g:=⟨Ex.get f h.at',h.nd,h.na,fun r a e=>Ex.get f (h.av r a e)⟩
theorem LvG.to {M:Mem} {n:Nat} {as:List Nat} {g g2:Nat->List Int} (h:LvG M n as g) (e:∀ r,r < as.length->g r=g2 r):LvG M n as g2:=⟨h.at',h.nd,h.na,fun r a q=>by rw [<- e r (zqa.mp q).1];exact h.av r a q⟩
theorem LvG.upd {M:Mem} {n:Nat} {as:List Nat} {g:Nat->List Int} (h:LvG M n as g) {r a:Nat} (e:as[r]?=some a) (ks:List Int):LvG (M.set a (.lst (ks.map D.int))) n as (fun q=>if q=r then ks else g q):=by
 have ha:=h.av r a e
 refine ⟨set_get h.at' (fun z=>h.na (by rw [z];exact zqj e)),h.nd,h.na,fun q b eq=>?_⟩
 by_cases z:q=r
 ·subst z
  rw [e] at eq
  cases eq
  rw [if_pos rfl]
  exact set_same ha
 ·rw [if_neg z]
  refine set_get (h.av q b eq) fun zz=>z ?_
  subst zz
  have h1:=zqa.mp e
  have h2:=zqa.mp eq
  have nn:=List.pairwise_iff_getElem.mp h.nd
  rcases Nat.lt_trichotomy q r with w | w | w
  ·exact absurd (h2.2.trans h1.2.symm) (nn q r h2.1 h1.1 w)
  ·exact w
  ·exact absurd (h1.2.trans h2.2.symm) (nn r q h1.1 h2.1 w)
theorem LvG.sub {M:Mem} {n:Nat} {as:List Nat} {g:Nat->List Int} (h:LvG M n as g) {r:Nat} (hr:r < as.length):∃ a,as[r]?=some a/\subW (.d (.adr n)) (.d (.int (r:Nat))) M=.ok (.d (.adr a)) M/\M[a]?=some (.lst ((g r).map D.int)):=by
 have e:as[r]?=some as[r]:=zqb hr
 refine ⟨as[r],e,sub_lstN h.at' (by rw [zqk,e];rfl),h.av r _ e⟩
def Kp (as:List Nat) (M M':Mem):Prop:=M.length<=M'.length/\∀ (z:Nat) (o:MO),z∉as->M[z]?=some o->M'[z]?=some o
theorem Kp.ex {as:List Nat} {M M1 M2:Mem} (h:Kp as M M1) (f:Ex M1 M2):Kp as M M2:=⟨Nat.le_trans h.1 f.1,fun z o hz e=>Ex.get f (h.2 z o hz e)⟩
theorem Kp.set {as:List Nat} {M M1:Mem} {r a:Nat} {o:MO} (h:Kp as M M1) (e:as[r]?=some a):Kp as M (M1.set a o):=⟨by rw [List.length_set];exact h.1,fun z u hz q=>set_get (h.2 z u hz q) fun zz=>hz (by rw [zz];exact zqj e)⟩
theorem Kp.of {as:List Nat} {M M1:Mem} (f:Ex M M1):Kp as M M1:=⟨f.1,fun _ _ _ e=>Ex.get f e⟩
theorem Kp.trans {as:List Nat} {M M1 M2:Mem} (h:Kp as M M1) (k:Kp as M1 M2):Kp as M M2:=⟨Nat.le_trans h.1 k.1,fun z o hz e=>k.2 z o hz (h.2 z o hz e)⟩
def stepB (kWaits:Nat):List S:=[.expr (.me .extend (.sub (.var 3) (.var 6)) [(.rng false [(.sub (.sub (.sub (.var 1) (.cst (.int 1))) (.var 6)) (.cst (.int 0))),(.sub (.sub (.sub (.var 5) (.cst (.int 1))) (.var 6)) (.cst (.int 0)))])]),.iff (.val (.cmp .ne (.comp .seq [(.call kWaits [(.var 5),(.var 6)])] [1] none (.sub (.var 1) (.cst (.int 0))) [none,none]) (.sub (.var 3) (.var 6)))) [.ret (.cst .non)] []]
def stepT (kWaits:Nat):List S:=[.forr [6] .rng1 [(.bi .len [(.sub (.var 0) (.cst (.int 1)))])] (stepB kWaits),.ret (.var 4)]
theorem step_tail {G : Fns} {kWaits : Nat} (hWa : WaitsF (G kWaits)) {M : Mem} {f : Fm} {N : Nat} {s s2 : Sd} {n : Nat} {as : List Nat} {g : Nat -> List Int} {d4 : D} {o2 o6 : Option D} {nx : En -> Mem -> Prop} {rt : W -> Mem -> Prop} {bk ct : En -> Mem -> Prop}
    (hf:FmOk f) (hs:SdOk f N s) (hs2:SdOk f (N+3) s2) (hN:N<=890) (hv:LvG M n as g) (hal:as.length=f.ro.length) (hg:∀ r,r < f.ro.length->(load s r).1<=(load s2 r).1/\nums (load s2 r)=g r++upto (load s r).1 (load s2 r).1) (hg2:∀ r,r < f.ro.length->(g r).length<=N)
    (k:∀ M',LvG M' n as (fun r=>nums (load s2 r))->Kp as M M'->rt (.d d4) M') :
    wSs G (stepT kWaits) [some (fmD f),some (sdd s),o2,some (.adr n),some d4,some (sdd s2),o6] M nx rt bk ct:=by
  have h8:=hf.l8
  have hrl:(f.ro.map roD).length=f.ro.length:=zqe _
  show wSs G (stepT kWaits) [some (.tup [.tup (f.ru.map ruD),.tup (f.ro.map roD)]),some (.tup [.tup (s.st.map D.int),.tup (s.ld.map ldD)]),o2,some (.adr n),some d4,some (.tup [.tup (s2.st.map D.int),.tup (s2.ld.map ldD)]),o6] M nx rt bk ct
  nofun
  refine ⟨⟨by omega,by omega⟩,?_⟩
  refine f_rng (n:=((f.ro.map roD).length:Int).toNat) (fun i ρ M'=>∃ o6,ρ=[some (.tup [.tup (f.ru.map ruD),.tup (f.ro.map roD)]),some (.tup [.tup (s.st.map D.int),.tup (s.ld.map ldD)]),o2,some (.adr n),some d4,some (.tup [.tup (s2.st.map D.int),.tup (s2.ld.map ldD)]),o6]/\LvG M' n as (fun r=>if r < i then nums (load s2 r) else g r)/\Kp as M M') ⟨_,rfl,hv.to fun r _=>(if_neg (Nat.not_lt_zero r)).symm,Kp.of (Ex.refl M)⟩ ?_ ?_
  · rintro i ρ M1 hi ⟨o6,rfl,hv1,k1⟩
    have hir:i < f.ro.length:=by omega
    rw [show (0:Int)+(i:Int)=((i:Nat):Int) by omega]
    obtain ⟨a,ea,es,ha⟩:=hv1.sub (r:=i) (by omega)
    rw [if_neg (Nat.lt_irrefl i)] at ha
    obtain ⟨e1,l1⟩:=hs.lda hir
    obtain ⟨e2,l2⟩:=hs2.lda hir
    obtain ⟨q1,q2⟩:=hg i hir
    have q3:=hg2 i hir
    have b1:=l1.s
    have b2:=l2.s
    have hlen2:(load s2 i).2.length<=N+3:=l2.n
    have hdiff:(g i).length+((load s2 i).1 - (load s i).1).toNat<=N+3:=by
      have:=congrArg List.length q2
      rw [zqp] at this
      have e1:(nums (load s2 i)).length=(load s2 i).2.length:=zqe _
      have e2:(upto (load s i).1 (load s2 i).1).length=((load s2 i).1 - (load s i).1).toNat:=by unfold upto;simp
      omega
    nofun
    rw [es]
    nofun
    refine ⟨lst_some ha,?_⟩
    nofun
    rw [sub_at e1]
    nofun
    rw [sub_at e2]
    nofun
    refine ⟨⟨⟨by omega,by omega,by omega,by omega⟩,by omega⟩,?_⟩
    nofun
    have hr:rngD (load s i).1 ((load s2 i).1 - (load s i).1).toNat=(upto (load s i).1 (load s2 i).1).map D.int:=by
      unfold rngD upto;rw [List.map_map];rfl
    rw [hr]
    rw [m_extend (app_get ha) app_last (small_le (by rw [zqe,zqe];unfold upto;rw [zqe,List.length_range];omega))]
    rw [<- zqs,<- q2]
    have hv2:=(hv1.ex (M':=M1++[MO.lst ((upto (load s i).1 (load s2 i).1).map D.int)]) ((Ex.refl M1).app)).upd ea (nums (load s2 i))
    have k2:Kp as M ((M1++[MO.lst ((upto (load s i).1 (load s2 i).1).map D.int)]).set a (.lst ((nums (load s2 i)).map D.int))):=(k1.ex (M2:=M1++[MO.lst ((upto (load s i).1 (load s2 i).1).map D.int)]) ((Ex.refl M1).app)).set ea
    generalize (M1++[MO.lst ((upto (load s i).1 (load s2 i).1).map D.int)]).set a (.lst ((nums (load s2 i)).map D.int))=M2 at hv2 k2
    nofun
    refine (hWa M2 f (N+3) s2 i hs2 hir).imp ?_
    rintro r M3 ⟨rfl,rfl⟩
    nofun
    refine c_map (ds:=(load s2 i).2.map pD) fstD (by decide) it_items (small_le (by rw [zqe];omega)) ?_ ?_ rfl
    · intro j M' d hd fr
      obtain ⟨p,hp,rfl⟩:=zqo.mp (zqj hd)
      nofun
      exact ⟨rfl,fr⟩
    intro M3 f3
    rw [pds_num]
    have hv3:=hv2.ex f3
    obtain ⟨a2,ea2,es2,ha2⟩:=hv3.sub (r:=i) (by omega)
    rw [if_pos rfl] at ha2
    nofun
    rw [es2]
    nofun
    rw [show (load s2 i).2.map (·.1)=nums (load s2 i) from rfl,ne_li ha2]
    refine ⟨_,rfl,hv3.to fun r hr=>?_,k2.ex f3⟩
    by_cases z:r=i
    · subst z;rw [if_pos rfl,if_pos (by omega)]
    · rw [if_neg z]
      by_cases w:r < i
      · rw [if_pos w,if_pos (by omega)]
      · rw [if_neg w,if_neg (by omega)]
  · rintro ρ M1 ⟨o6,rfl,hv1,k1⟩
    nofun
    exact k M1 (hv1.to fun r hr=>if_pos (by omega)) k1
def LStepF (F:Fn):Prop:=∀ (M:Mem) (f:Fm) (N:Nat) (s:Sd) (d:Dn) (n:Nat) (as:List Nat),FmOk f->SdOk f N s->Tl f s->N<=890->DnOk f d->cn f s d=true->as.length=f.ro.length->LvG M n as (fun r=>nums (load s r)) ->
 Okp (F [fmD f,sdd s,dnD d,.adr n] M) fun r M'=>r=.d (.tup [sdd (stp1 f s d),tlD (mc f d) (nxt f s d).2.2])/\LvG M' n as (fun r=>nums (load (stp1 f s d) r))/\Kp as M M'
theorem lstepF {G:Fns} {kDone kRStand kWaits:Nat} (hDo:DoneF (G kDone)) (hR:RStandF (G kRStand)) (hWa:WaitsF (G kWaits)):LStepF (runDef G 7 (pLStep kDone kRStand kWaits)):=by
 intro M f N s d n as hf hs ht hN hd hc hal hv
 have hs2:=hs.stp1 hf hd hc
 have ht2:=ht.stp1 hf hs hd hc
 have hln:∀ l:Int×List (Int×Str),(nums l).length=l.2.length:=fun l=>zqe _
 rw [w_run]
 show wSs G (pLStep kDone kRStand kWaits) [some (fmD f),some (sdd s),some (dnD d),some (.adr n),none,none,none] M _ _ _ _
 nofun
 refine (hDo M f N s d _ hf hs (by omega) hd (rp_nxt hc)).imp ?_
 rintro r M1 ⟨f1,rfl⟩
 nofun
 refine (hR M1 f (N+3) (stp1 f s d) hf hs2 ht2 (by omega)).imp ?_
 rintro r M2 ⟨rfl,f2⟩
 have f12:=Ex.trans f1 f2
 have hv2:=hv.ex f12
 have fin:∀ (o2 o6:Option D) (M3:Mem),LvG M3 n as (fun r=>nums (lsl s d r))->Kp as M M3->wSs G (stepT kWaits) [some (fmD f),some (sdd s),o2,some (.adr n),some (.tup [sdd (stp1 f s d),tld f d (nxt f s d)]),some (sdd (stp1 f s d)),o6] M3 (fun _ _=>False) (fun r M'=>r=.d (.tup [sdd (stp1 f s d),tlD (mc f d) (nxt f s d).2.2])/\LvG M' n as (fun r=>nums (load (stp1 f s d) r))/\Kp as M M') (fun _ _=>False) (fun _ _=>False):=fun o2 o6 M3 h3 k3 =>
  step_tail hWa hf hs hs2 hN h3 hal (fun r _=>stp_nums hf hs hd hc r) (fun r hr=>by
   have h1:=(hs.lda hr).2.n
   rw [hln]
   cases d with
   | own m=>exact h1
   | hear m c=>exact h1
   | come q k =>
    show (if q=r then less (load s r) k else load s r).2.length<=N
    split
    ·exact Nat.le_trans (List.length_filter_le _ _) h1
    ·exact h1) fun M' h4 k4=>⟨by rw [outT],h4,k3.trans k4⟩
 cases d with
 | own m =>
  nofun
  rw [c_eqS so_own so_come,e_oc]
  exact fin _ _ M2 hv2 (Kp.of f12)
 | hear m c =>
  nofun
  rw [c_eqS so_hear so_come,e_hc]
  exact fin _ _ M2 hv2 (Kp.of f12)
 | come q k =>
  have hq:q < f.ro.length:=hd
  obtain ⟨a,ea,es,ha⟩:=hv2.sub (r:=q) (by omega)
  have hm:=(come_mem hc).1
  nofun
  rw [c_eqS so_come so_come,e_cc]
  nofun
  rw [es]
  nofun
  rw [show cmpW .notin (.d (.int k)) (.d (.adr a)) M2=_ from ni_lst ha,decide_eq_true hm]
  nofun
  rw [es]
  nofun
  refine ⟨lst_some ha,?_⟩
  nofun
  rw [m_remove ha hm]
  refine fin _ _ _ ((hv2.upd ea ((nums (load s q)).erase k)).to fun r hr=>?_) ((Kp.of f12).set ea)
  show (if r=q then (nums (load s q)).erase k else nums (load s r))=nums (if q=r then less (load s r) k else load s r)
  by_cases z:r=q
  ·subst z
   rw [if_pos rfl,if_pos rfl]
   exact (erase_filter (hs.lda hq).2.r).symm
  ·rw [if_neg z,if_neg (Ne.symm z)]
theorem txt_int (i:Int):PyData.strOk (Str.ofString (toString i))=true:=by
 unfold PyData.strOk
 rw [Array.all_eq_true']
 intro c hc
 refine decide_eq_true ?_
 refine Classical.byContradiction fun h=>?_
 exact int_text_free' c ⟨by omega,by omega⟩ i (by simpa using hc)
theorem sn_num {i:Int} (h0:0<=i) (h1:i < 10 ^ 12):Sm 14 0 (.int i):=by
 have hn:i.natAbs < 10 ^ 12:=by omega
 have hlog:i.natAbs.log2 < 1920:=by
  by_cases h0:i.natAbs=0
  ·rw [h0];decide
  ·exact (Nat.log2_lt h0).mpr (Nat.lt_of_lt_of_le hn (by decide))
 refine ⟨.int i,fun M n _=>by cases n <;> (unfold pyD;rfl),PyData.canLay0.eq_3 i,?_,Nat.le_of_eq (PyData.depth.eq_6 i),?_⟩
 ·rw [PyData.showable.eq_4]
  exact decide_eq_true hlog
 ·rw [PyData.shown.eq_3]
  refine ⟨?_,txt_int i⟩
  have:=int_text_length_le10 (a:=i) (k:=12) (by decide) hn
  rw [PySem.ofString_length]
  omega
theorem sn_sig {c:Str} (h:SigOk c):Sm 14 0 (.str c):=by
 rcases h with rfl | rfl | rfl | rfl <;> exact Sm.str (⋯) ⟨⋯,⋯⟩
theorem sn_wd {c:Str} (h:WdOk (some c)):Sm 14 0 (.str c):=by
 rcases h c rfl with rfl | rfl | rfl | rfl | rfl <;> exact Sm.str (⋯) ⟨⋯,⋯⟩
theorem two_all {P:D->Prop} {a b:D} (ha:P a) (hb:P b):∀ d∈[a,b],P d:=fun d hd=>by
 simp only [List.mem_cons,List.mem_nil_iff,or_false] at hd
 rcases hd with rfl | rfl <;> assumption
theorem sn_ld {N:Nat} {l:Int×List (Int×Str)} (h:LdOk N l) (hN:N<=200):Sm 14813 3 (ldD l):=by
 have hs:=h.s
 have hn:=h.n
 have h1:Sm 7403 2 (.tup (l.2.map pD)):=by
  refine (Sm.tup (b:=35) (h:=1) (k:=200) (fun d hd=>?_) (by rw [zqe];omega)).mono (by decide) (by decide)
  obtain ⟨p,hp,rfl⟩:=zqo.mp hd
  obtain ⟨k1,k2,k3⟩:=h.p p hp
  exact (Sm.tup (b:=14) (h:=0) (k:=2) (two_all (sn_num k2 (by omega)) (sn_sig k1)) (zqg 2)).mono (by decide) (by decide)
 exact (Sm.tup (b:=7403) (h:=2) (k:=2) (two_all ((sn_num hs.1 (by omega)).mono (by decide) (by decide)) h1) (zqg 2)).mono (by decide) (by decide)
theorem sn_sd {f:Fm} (hf:FmOk f) {N:Nat} {s:Sd} (h:SdOk f N s) (hN:N<=200):Sm 237053 5 (sdd s):=by
 have h4:=hf.l4
 have h8:=hf.l8
 have h1:Sm 19 1 (.tup (s.st.map D.int)):=by
  refine Sm.tup (b:=2) (h:=0) (k:=4) (fun d hd=>?_) (by rw [zqe,h.ls];exact h4)
  obtain ⟨i,hi,rfl⟩:=zqo.mp hd
  exact Sm.int (h.st i hi).1 (h.st i hi).2
 have h2:Sm 118523 4 (.tup (s.ld.map ldD)):=by
  refine Sm.tup (b:=14813) (h:=3) (k:=8) (fun d hd=>?_) (by rw [zqe,h.ll];exact h8)
  obtain ⟨l,hl,rfl⟩:=zqo.mp hd
  exact sn_ld (h.ld l hl) hN
 exact Sm.tup (b:=118523) (h:=4) (k:=2) (two_all (h1.mono (by decide) (by decide)) h2) (zqg 2)
theorem repr_sw {d:D} {ws:List (Nat×Str)} (q:Sm 237053 5 d) (hw:∀ p∈ws,p.1 < 100/\WdOk (some p.2)) (hl:ws.length<=100):∃ x,PyData.strOk x=true/\∀ M n,M[n]?=some (.lst (ws.map wD))->biW .repr1 [.d (.tup [d,.adr n])] M=.ok (.d (.str x)) M:=by
 obtain ⟨p,e,q⟩:=q
 obtain ⟨ps,es,a,l⟩:=Sm.ds (b:=35) (h:=1) (ds:=ws.map wD) fun d hd=>by
  obtain ⟨p,hp,rfl⟩:=zqo.mp hd
  obtain ⟨k1,k2⟩:=hw p hp
  exact (Sm.tup (b:=14) (h:=0) (k:=2) (two_all ((Sm.int (i:=(p.1:Int)) (by omega) (by omega)).mono (by decide) (by decide)) (sn_wd k2)) (zqg 2)).mono (by decide) (by decide)
 rw [zqe] at l
 have hL:=SmP.list (k:=100) a (by omega)
 have hT:SmP 474113 6 (.tuple [p,.list ps]):=by
  have:=SmP.tup (b:=237053) (h:=5) (k:=2) (ps:=[p,.list ps]) (fun x hx=>by
   simp only [List.mem_cons,List.mem_nil_iff,or_false] at hx
   rcases hx with rfl | rfl
   ·exact q
   ·exact ⟨hL.1,hL.2.1,Nat.le_trans hL.2.2.1 (by decide),hL.2.2.2.mono (by decide)⟩) (zqg 2)
  exact this
 obtain ⟨q1,q2,q3,q4,q5⟩:=hT
 refine ⟨(PyData.tuple [p,.list ps]).shown,q5,fun M n hM=>?_⟩
 have h1:pyD M 29 d=some p:=e M 29 (by decide)
 have h2:pyD M 29 (.adr n)=some (.list ps):=by
  unfold pyD
  simp only [hM]
  rw [es M 28 (by decide)]
  rfl
 have:pyW M (.d (.tup [d,.adr n]))=some (.tuple [p,.list ps]):=by
  show pyD M 30 (.tup [d,.adr n])=_
  unfold pyD
  rw [show pyDs M 29 [d,.adr n]=some [p,.list ps] by unfold pyDs;rw [h1];unfold pyDs;rw [h2];unfold pyDs;rfl]
  rfl
 unfold biW
 simp only [this]
 rw [if_pos ⟨q2,by omega,Nat.le_trans q4 (by decide)⟩]
theorem adr_lv {M:Mem} {n:Nat} {xs ys:List D} (h:M[n]?=some (.lst xs)) (hl:xs.length+ys.length<=sizeLine):binW .add (.d (.adr n)) (.lv ys) M=.ok (.lv (xs++ys)) M:=by
 unfold binW;simp only [lstW,h];rw [if_pos hl]
end Ev
end
section
namespace Qk07
open Ev PySem
def n0:List Str:=["thing"]
def b0:List S:=pWhole
def f0:List D->Mem->Out W:=runDef (tab []) 1 b0
def n1:List Str:=["thing","bound"]
def b1:List S:=pBelow 0
def f1:List D->Mem->Out W:=runDef (tab [f0]) 2 b1
def n2:List Str:=["thing"]
def b2:List S:=pState 1
def f2:List D->Mem->Out W:=runDef (tab [f0,f1]) 1 b2
def n3:List Str:=["thing"]
def b3:List S:=pSign
def f3:List D->Mem->Out W:=runDef (tab [f0,f1,f2]) 1 b3
def n4:List Str:=["thing","many"]
def b4:List S:=pTupOf
def f4:List D->Mem->Out W:=runDef (tab [f0,f1,f2,f3]) 2 b4
def n5:List Str:=["numbers"]
def b5:List S:=pRising
def f5:List D->Mem->Out W:=runDef (tab [f0,f1,f2,f3,f4]) 1 b5
def n6:List Str:=["form","m","state","cause","move"]
def b6:List S:=bAnswer
def f6:List D->Mem->Out W:=runDef (tab [f0,f1,f2,f3,f4,f5]) 5 b6
def n7:List Str:=["form","thing"]
def b7:List S:=pRStates 4 2
def f7:List D->Mem->Out W:=runDef (tab [f0,f1,f2,f3,f4,f5,f6]) 2 b7
def n8:List Str:=["thing","sent"]
def b8:List S:=pLetter 4 1 3
def f8:List D->Mem->Out W:=runDef (tab [f0,f1,f2,f3,f4,f5,f6,f7]) 2 b8
def n9:List Str:=["order","thing","sent","numbers"]
def b9:List S:=pRLetters 4 0 8 5
def f9:List D->Mem->Out W:=runDef (tab [f0,f1,f2,f3,f4,f5,f6,f7,f8]) 4 b9
def n10:List Str:=["form","thing"]
def b10:List S:=pRRoads 4 9
def f10:List D->Mem->Out W:=runDef (tab [f0,f1,f2,f3,f4,f5,f6,f7,f8,f9]) 2 b10
def n11:List Str:=["form","thing"]
def b11:List S:=pRStand 4 7 10
def f11:List D->Mem->Out W:=runDef (tab [f0,f1,f2,f3,f4,f5,f6,f7,f8,f9,f10]) 2 b11
def n12:List Str:=["stand","road"]
def b12:List S:=pWaits
def f12:List D->Mem->Out W:=runDef (tab [f0,f1,f2,f3,f4,f5,f6,f7,f8,f9,f10,f11]) 2 b12
def n13:List Str:=["form","thing"]
def b13:List S:=pPlain 1 3 0
def f13:List D->Mem->Out W:=runDef (tab [f0,f1,f2,f3,f4,f5,f6,f7,f8,f9,f10,f11,f12]) 2 b13
def n14:List Str:=["form","deed"]
def b14:List S:=pMach
def f14:List D->Mem->Out W:=runDef (tab [f0,f1,f2,f3,f4,f5,f6,f7,f8,f9,f10,f11,f12,f13]) 2 b14
def n15:List Str:=["form","stand","road","waiting"]
def b15:List S:=pMay 12
def f15:List D->Mem->Out W:=runDef (tab [f0,f1,f2,f3,f4,f5,f6,f7,f8,f9,f10,f11,f12,f13,f14]) 4 b15
def n16:List Str:=["form","stand","thing"]
def b16:List S:=pCan 13 6 15
def f16:List D->Mem->Out W:=runDef (tab [f0,f1,f2,f3,f4,f5,f6,f7,f8,f9,f10,f11,f12,f13,f14,f15]) 3 b16
def n17:List Str:=["stand","deed"]
def b17:List S:=pCause 12
def f17:List D->Mem->Out W:=runDef (tab [f0,f1,f2,f3,f4,f5,f6,f7,f8,f9,f10,f11,f12,f13,f14,f15,f16]) 2 b17
def n18:List Str:=["letters","k"]
def b18:List S:=pLess
def f18:List D->Mem->Out W:=runDef (tab [f0,f1,f2,f3,f4,f5,f6,f7,f8,f9,f10,f11,f12,f13,f14,f15,f16,f17]) 2 b18
def n19:List Str:=["letters","sign"]
def b19:List S:=pMore
def f19:List D->Mem->Out W:=runDef (tab [f0,f1,f2,f3,f4,f5,f6,f7,f8,f9,f10,f11,f12,f13,f14,f15,f16,f17,f18]) 2 b19
def n20:List Str:=["form","stand","deed","m","reply","states","roads","road","sign","told"]
def b20:List S:=pOutc 14 6 17 18 19
def f20:List D->Mem->Out W:=runDef (tab [f0,f1,f2,f3,f4,f5,f6,f7,f8,f9,f10,f11,f12,f13,f14,f15,f16,f17,f18,f19]) 10 b20
def n21:List Str:=["form","stand","thing"]
def b21:List S:=pDone 16 20
def f21:List D->Mem->Out W:=runDef (tab [f0,f1,f2,f3,f4,f5,f6,f7,f8,f9,f10,f11,f12,f13,f14,f15,f16,f17,f18,f19,f20]) 3 b21
def n22:List Str:=["form","stand","deeds","behind","now","number","deed","step"]
def b22:List S:=pSteps 16 20
def f22:List D->Mem->Out W:=runDef (tab [f0,f1,f2,f3,f4,f5,f6,f7,f8,f9,f10,f11,f12,f13,f14,f15,f16,f17,f18,f19,f20,f21]) 8 b22
def n23:List Str:=["form","stand","deeds","now","words","behind","told"]
def b23:List S:=pRun 22
def f23:List D->Mem->Out W:=runDef (tab [f0,f1,f2,f3,f4,f5,f6,f7,f8,f9,f10,f11,f12,f13,f14,f15,f16,f17,f18,f19,f20,f21,f22]) 7 b23
def n24:List Str:=["_law_script","_law_k","_law_cell"]
def b24:List S:=bWell
def f24:List D->Mem->Out W:=runDef (tab [f0,f1,f2,f3,f4,f5,f6,f7,f8,f9,f10,f11,f12,f13,f14,f15,f16,f17,f18,f19,f20,f21,f22,f23]) 3 b24
def n25:List Str:=["_law_well_here","_law_many","_law_turn","_law_left","_law_here","_law_mixed"]
def b25:List S:=bDraw
def f25:List D->Mem->Out W:=runDef (tab [f0,f1,f2,f3,f4,f5,f6,f7,f8,f9,f10,f11,f12,f13,f14,f15,f16,f17,f18,f19,f20,f21,f22,f23,f24]) 6 b25
def n26:List Str:=["_law_well_here","_law_machines","_law_roads_here","_law_many","_law_k","_law_one","_law_other"]
def b26:List S:=bRoads 25
def f26:List D->Mem->Out W:=runDef (tab [f0,f1,f2,f3,f4,f5,f6,f7,f8,f9,f10,f11,f12,f13,f14,f15,f16,f17,f18,f19,f20,f21,f22,f23,f24,f25]) 7 b26
def n27:List Str:=["_law_well_here","_law_some","_law_many","_law_k","_law_state"]
def b27:List S:=bStates 25
def f27:List D->Mem->Out W:=runDef (tab [f0,f1,f2,f3,f4,f5,f6,f7,f8,f9,f10,f11,f12,f13,f14,f15,f16,f17,f18,f19,f20,f21,f22,f23,f24,f25,f26]) 5 b27
def n28:List Str:=["_law_well_here","_law_ways","_law_sends_here","_law_k","_law_road"]
def b28:List S:=bSends 25
def f28:List D->Mem->Out W:=runDef (tab [f0,f1,f2,f3,f4,f5,f6,f7,f8,f9,f10,f11,f12,f13,f14,f15,f16,f17,f18,f19,f20,f21,f22,f23,f24,f25,f26,f27]) 5 b28
def n29:List Str:=["_law_well_here","_law_some","_law_ways","_law_words","_law_moves_here","_law_state","_law_cause","_law_after","_law_sends_here","_law_word","_law_at"]
def b29:List S:=bMoves 25 28
def f29:List D->Mem->Out W:=runDef (tab [f0,f1,f2,f3,f4,f5,f6,f7,f8,f9,f10,f11,f12,f13,f14,f15,f16,f17,f18,f19,f20,f21,f22,f23,f24,f25,f26,f27,f28]) 11 b29
def n30:List Str:=["_law_script","_law_well_here","_law_machines","_law_roads_here","_law_rules","_law_m","_law_some","_law_ways","_law_start"]
def b30:List S:=bForm 24 25 26 27 29
def f30:List D->Mem->Out W:=runDef (tab [f0,f1,f2,f3,f4,f5,f6,f7,f8,f9,f10,f11,f12,f13,f14,f15,f16,f17,f18,f19,f20,f21,f22,f23,f24,f25,f26,f27,f28,f29]) 9 b30
def n31:List Str:=["_law_form_here","_law_m","_law_state","_law_cause","_law_told"]
def b31:List S:=bLawAns
def f31:List D->Mem->Out W:=runDef (tab [f0,f1,f2,f3,f4,f5,f6,f7,f8,f9,f10,f11,f12,f13,f14,f15,f16,f17,f18,f19,f20,f21,f22,f23,f24,f25,f26,f27,f28,f29,f30]) 5 b31
def n32:List Str:=["_law_form_here","_law_stand_here","_law_found","_law_road","_law_waiting"]
def b32:List S:=pLComes
def f32:List D->Mem->Out W:=runDef (tab [f0,f1,f2,f3,f4,f5,f6,f7,f8,f9,f10,f11,f12,f13,f14,f15,f16,f17,f18,f19,f20,f21,f22,f23,f24,f25,f26,f27,f28,f29,f30,f31]) 5 b32
def n33:List Str:=["_law_form_here","_law_stand_here","_law_deed","_law_m","_law_road","_law_number","_law_sign"]
def b33:List S:=pLAnsd 31 32
def f33:List D->Mem->Out W:=runDef (tab [f0,f1,f2,f3,f4,f5,f6,f7,f8,f9,f10,f11,f12,f13,f14,f15,f16,f17,f18,f19,f20,f21,f22,f23,f24,f25,f26,f27,f28,f29,f30,f31,f32]) 7 b33
def n34:List Str:=["_law_form_here","_law_deed"]
def b34:List S:=pLMach
def f34:List D->Mem->Out W:=runDef (tab [f0,f1,f2,f3,f4,f5,f6,f7,f8,f9,f10,f11,f12,f13,f14,f15,f16,f17,f18,f19,f20,f21,f22,f23,f24,f25,f26,f27,f28,f29,f30,f31,f32,f33]) 2 b34
def n35:List Str:=["_law_form_here","_law_stand_here","_law_deed","_law_after","_law_sends_here","_law_word","_law_m","_law_states_here","_law_load_here","_law_loads","_law_road","_law_sign","_law_roads_here"]
def b35:List S:=pLDone 33 34
def f35:List D->Mem->Out W:=runDef (tab [f0,f1,f2,f3,f4,f5,f6,f7,f8,f9,f10,f11,f12,f13,f14,f15,f16,f17,f18,f19,f20,f21,f22,f23,f24,f25,f26,f27,f28,f29,f30,f31,f32,f33,f34]) 13 b35
def n36:List Str:=["_law_well_here","_law_order","_law_some","_law_sent","_law_waiting","_law_least","_law_k"]
def b36:List S:=pLLoad 25
def f36:List D->Mem->Out W:=runDef (tab [f0,f1,f2,f3,f4,f5,f6,f7,f8,f9,f10,f11,f12,f13,f14,f15,f16,f17,f18,f19,f20,f21,f22,f23,f24,f25,f26,f27,f28,f29,f30,f31,f32,f33,f34,f35]) 7 b36
def n37:List Str:=["_law_script","_law_form_here","_law_well_here","_law_loads","_law_states_here"]
def b37:List S:=pLStand 24 25 36
def f37:List D->Mem->Out W:=runDef (tab [f0,f1,f2,f3,f4,f5,f6,f7,f8,f9,f10,f11,f12,f13,f14,f15,f16,f17,f18,f19,f20,f21,f22,f23,f24,f25,f26,f27,f28,f29,f30,f31,f32,f33,f34,f35,f36]) 5 b37
def n38:List Str:=["_law_well_here","_law_form_here","_law_stand_here","_law_some","_law_owns","_law_m","_law_way"]
def b38:List S:=pLNext 32 33 25
def f38:List D->Mem->Out W:=runDef (tab [f0,f1,f2,f3,f4,f5,f6,f7,f8,f9,f10,f11,f12,f13,f14,f15,f16,f17,f18,f19,f20,f21,f22,f23,f24,f25,f26,f27,f28,f29,f30,f31,f32,f33,f34,f35,f36,f37]) 7 b38
def n39:List Str:=["_law_script","_law_form_here","_law_stand_here","_law_most","_law_well_here","_law_deeds_here","_law_many","_law_k","_law_deed"]
def b39:List S:=pLDeeds 24 25 38 35
def f39:List D->Mem->Out W:=runDef (tab [f0,f1,f2,f3,f4,f5,f6,f7,f8,f9,f10,f11,f12,f13,f14,f15,f16,f17,f18,f19,f20,f21,f22,f23,f24,f25,f26,f27,f28,f29,f30,f31,f32,f33,f34,f35,f36,f37,f38]) 9 b39
def n40:List Str:=["_law_form_here","_law_stand_here","_law_deed","_law_lives","_law_told","_law_behind","_law_road"]
def b40:List S:=pLStep 21 11 12
def f40:List D->Mem->Out W:=runDef (tab [f0,f1,f2,f3,f4,f5,f6,f7,f8,f9,f10,f11,f12,f13,f14,f15,f16,f17,f18,f19,f20,f21,f22,f23,f24,f25,f26,f27,f28,f29,f30,f31,f32,f33,f34,f35,f36,f37,f38,f39]) 7 b40
def n41:List Str:=["_law_script","_law_form_here","_law_base","_law_deeds_here","_law_lives","_law_stand_here","_law_words","_law_deed","_law_told"]
def b41:List S:=[.asg [1] (.call 30 [(.var 0)]),.asg [2] (.call 37 [(.var 0),(.var 1)]),.asg [3] (.call 39 [(.var 0),(.var 1),(.var 2),(.cst (.int 60))]),.asgC 4 (.comp .seq [(.sub (.var 2) (.cst (.int 1)))] [1] none (.comp .seq [(.sub (.var 1) (.cst (.int 1)))] [1] none (.sub (.var 1) (.cst (.int 0))) [none,none]) [none,none]),.asg [5] (.var 2),.asg [6] (.lst []),.forr [7] .seq [(.var 3)] [.asg [8] (.call 40 [(.var 1),(.var 5),(.var 7),(.var 4)]),.iff (.val (.cmp .isN (.var 8) (.cst .non))) [.ret (.cst (.bl false))] [],.asg [5] (.sub (.var 8) (.cst (.int 0))),.asg [6] (.bin .add (.var 6) (.bin .mul (.lst [(.sub (.var 8) (.cst (.int 1)))]) (.bi .int1 [(.cmp .notN (.sub (.var 8) (.cst (.int 1))) (.cst .non))])))],.ret (.cmp .eq (.bi .repr1 [(.call 23 [(.var 1),(.var 2),(.var 3)])]) (.bi .repr1 [(.tup [(.var 5),(.var 6)])]))]
def f41:List D->Mem->Out W:=runDef (tab [f0,f1,f2,f3,f4,f5,f6,f7,f8,f9,f10,f11,f12,f13,f14,f15,f16,f17,f18,f19,f20,f21,f22,f23,f24,f25,f26,f27,f28,f29,f30,f31,f32,f33,f34,f35,f36,f37,f38,f39,f40]) 9 b41
def gs:List (Str×Int):=[(("STATES" : Str),100)]
def fs:List (Str×Nat):=[(("is_whole" : Str),1),(("is_below" : Str),2),(("is_state" : Str),1),(("is_sign" : Str),1),(("is_tuple_of" : Str),2),(("is_rising" : Str),1),(("answer" : Str),4),(("right_states" : Str),2),(("is_letter" : Str),2),(("right_letters" : Str),2),(("right_roads" : Str),2),(("right_stand" : Str),2),(("waits" : Str),2),(("is_plain" : Str),2),(("machine_of" : Str),2),(("may_come" : Str),3),(("can" : Str),3),(("cause_of" : Str),2),(("less_letter" : Str),2),(("more_letter" : Str),2),(("outcome" : Str),3),(("done" : Str),3),(("steps" : Str),3),(("run" : Str),3),(("_law_well" : Str),2),(("_law_draw" : Str),2),(("_law_roads" : Str),2),(("_law_states" : Str),1),(("_law_sends" : Str),2),(("_law_moves" : Str),3),(("_law_form" : Str),1),(("_law_answer" : Str),4),(("_law_comes" : Str),2),(("_law_answered" : Str),3),(("_law_machine" : Str),2),(("_law_done" : Str),3),(("_law_load" : Str),2),(("_law_stand" : Str),2),(("_law_next" : Str),3),(("_law_deeds" : Str),4),(("_law_step" : Str),4),(("law" : Str),1)]
end Qk07
end
section
namespace Qk07
open L2 Ev
open PySem PySem.Spec PyProof.Rows
theorem wds_next {f : Fm} {s : Sd} {ds : List Dn} {i : Nat} {d : Dn} (h : ds[i]? = some d) : wds f s (ds.take (i + 1)) = wds f s (ds.take i) ++ match (nxt f (fin f s (ds.take i)) d).2.2 with
    | none=>[]
    | some w=>[(mc f d,w)]:=by
  rw [take_next h,wds_app]
  congr 1
  unfold wds tr
  rw [List.filterMap_cons]
  cases e:(nxt f (fin f s (ds.take i)) d).2.2 with
  | none=>rfl
  | some w=>rfl
theorem fin_next {f:Fm} {s:Sd} {ds:List Dn} {i:Nat} {d:Dn} (h:ds[i]?=some d):fin f s (ds.take (i+1))=stp1 f (fin f s (ds.take i)) d:=by
 rw [take_next h,fin_app];rfl
theorem tl_fin {f:Fm} (hf:FmOk f):∀ {ds:List Dn} {N:Nat} {s:Sd},SdOk f N s->Tl f s->RunOk f s ds->Tl f (fin f s ds)
 | [],N,s,_,t,_=>t
 | d::ds,N,s,h,t,k=>show Tl f (fin f (stp1 f s d) ds) from tl_fin (ds:=ds) (s:=stp1 f s d) hf (h.stp1 hf k.1.1 k.1.2) (t.stp1 hf h k.1.1 k.1.2) k.2
structure LvB (M0 M:Mem) (as:List Nat) (s:Sd) (i:Nat):Prop where
 ln:as.length=i
 av:∀ (r a:Nat),as[r]?=some a->M[a]?=some (.lst ((nums (load s r)).map D.int))
 bd:∀ a∈as,M0.length<=a/\a < M.length
 nd:as.Nodup
 ex:Ex M0 M
theorem LvB.snoc {M0 M M1:Mem} {as:List Nat} {s:Sd} {i:Nat} (h:LvB M0 M as s i) (f:Ex M M1):LvB M0 (M1++[MO.lst ((nums (load s i)).map D.int)]) (as++[M1.length]) s (i+1):=by
 have hl:=f.1
 refine ⟨by rw [zqp,h.ln];rfl,fun r a e=>?_,fun a ha=>?_,?_,(Ex.trans h.ex f).app⟩
 ·rcases Nat.lt_or_ge r as.length with z | z
  ·rw [zqt z] at e
   exact app_get (Ex.get f (h.av r a e))
  ·rw [List.getElem?_append_right z] at e
   have hr:r=as.length:=by
    have:=(zqa.mp e).1
    simp only [List.length_cons,List.length_nil] at this
    omega
   subst hr
   simp at e
   subst e
   rw [h.ln]
   exact app_last
 ·rw [zqp,List.length_singleton]
  rcases zqr.mp ha with z | z
  ·have:=h.bd a z;omega
  ·rw [List.mem_singleton.mp z]
   have:=h.ex.1
   omega
 ·rw [List.nodup_append]
  refine ⟨h.nd,by simp,fun a ha b hb e=>?_⟩
  have h1:=h.bd a ha
  rw [List.mem_singleton.mp hb] at e
  omega
theorem law_ok {G:Fns} (hF:FormF (G 30)) (hSt:LStandT (G 37)) (hDe:LDeedsF (G 39)) (hLs:LStepF (G 40)) (hR:RunF (G 23)) (ns:List Int) (hns:ns.length<=63):Okp (runDef G 9 b41 [.ls (ns.map D.int)] []) fun r _=>r=.d (.bl true):=by
 rw [w_run]
 show wSs G b41 [some (.ls (ns.map D.int)),none,none,none,none,none,none,none,none] [] _ _ _ _
 nofun
 refine (hF [] ns hns).imp ?_
 rintro r M1 ⟨d,e,hd,f1⟩
 obtain ⟨f,rfl,hf⟩:=form_typed hd
 subst e
 have h8:=hf.l8
 nofun
 refine (hSt M1 ns f hns hf).imp ?_
 rintro r M2 ⟨s,rfl,hs,ht,f2⟩
 nofun
 refine (hDe M2 ns f s 60 hns hf hs (by omega) (by omega)).imp ?_
 rintro r M3 ⟨nD,ds,rfl,hlD,hD3,hrun,hl60,f3⟩
 have hl60:ds.length<=60:=by omega
 have lD:=lt_of_get hD3
 nofun
 refine c_gen (ds:=s.ld.map ldD) (fun i M' acc=>∃ as:List Nat,acc=as.map D.adr/\LvB M3 M' as s i) (by decide) (fun i M' acc _ _=>it_it) ⟨[],rfl,rfl,(by intro r a e;simp at e),(by intro a h;cases h),List.nodup_nil,Ex.refl _⟩ ?_ ?_ rfl
 ·rintro i M4 acc d hd ⟨as,rfl,hb⟩
  have hi:i < f.ro.length:=by
   have:=(zqa.mp hd).1
   rw [zqe,hs.ll] at this;exact this
  obtain ⟨e1,l1⟩:=hs.lda hi
  rw [e1] at hd
  cases hd
  have hn:=l1.n
  refine ⟨small_lt (by rw [zqe,hb.ln];omega),?_⟩
  nofun
  refine c_map (ds:=(load s i).2.map pD) fstD (by decide) it_items (small_le (by rw [zqe];omega)) ?_ ?_ rfl
  ·intro j M' d hd fr
   obtain ⟨p,hp,rfl⟩:=zqo.mp (zqj hd)
   nofun
   exact ⟨rfl,fr⟩
  ·intro M5 f5
   rw [pds_num]
   nofun
   exact ⟨as++[M5.length],by rw [zqs];rfl,hb.snoc f5⟩
 rintro M4 acc ⟨as,rfl,hb⟩
 rw [zqe,hs.ll] at hb
 have hx4:=hb.ex
 have hlen4:=hx4.1
 nofun
 refine ⟨s0,?_⟩
 nofun
 have hv:LvG (M4++[MO.lst (as.map D.adr)]++[MO.lst []]) M4.length as (fun r=>nums (load s r)):=⟨app_get app_last,hb.nd,fun z=>by have:=hb.bd _ z;omega,fun r a e=>app_get (app_get (hb.av r a e))⟩
 have hD5:(M4++[MO.lst (as.map D.adr)]++[MO.lst []])[nD]?=some (.lst (ds.map dnD)):=app_get (app_get (Ex.get hx4 hD3))
 have hW5:(M4++[MO.lst (as.map D.adr)]++[MO.lst []])[(M4++[MO.lst (as.map D.adr)]).length]?=some (.lst []):=app_last
 have hn6:(M4++[MO.lst (as.map D.adr)]).length∉as:=fun z=>by
  have:=hb.bd _ z
  rw [zqp] at this
  omega
 have hnD:nD∉as:=fun z=>by have:=hb.bd _ z;omega
 have hA:∀ a∈as,a < (M4++[MO.lst (as.map D.adr)]++[MO.lst []]).length:=fun a ha=>by
  have:=hb.bd a ha
  rw [zqp,zqp]
  omega
 generalize (M4++[MO.lst (as.map D.adr)]).length=n6 at hW5 hn6
 generalize M4++[MO.lst (as.map D.adr)]++[MO.lst []]=M5 at hv hD5 hW5 hA
 rw [sr_lst hD5]
 refine f_at (n:=nD) (ds:=ds.map dnD) (fun i ρ M'=>∃ o7 o8 n6,ρ=[some (.ls (ns.map D.int)),some (fmD f),some (sdd s),some (.adr nD),some (.adr M4.length),some (sdd (fin f s (ds.take i))),some (.adr n6),o7,o8]/\LvG M' M4.length as (fun r=>nums (load (fin f s (ds.take i)) r))/\M'[n6]?=some (.lst ((wds f s (ds.take i)).map wD))/\n6∉as/\M'[nD]?=some (.lst (ds.map dnD))/\∀ a∈as,a < M'.length) (fun i ρ M' ⟨_,_,_,_,_,_,_,h,_⟩=>h) ⟨_,_,n6,rfl,hv,hW5,hn6,hD5,hA⟩ ?_ ?_
 ·rintro i ρ M6 dd hdd ⟨o7,o8,n6,rfl,hv6,hW6,hn6,hD6,hA6⟩
  rw [zqk] at hdd
  cases e:ds[i]? with
  | none=>rw [e] at hdd;cases hdd
  | some d =>
   rw [e] at hdd
   cases hdd
   have hi:=(zqa.mp e).1
   obtain ⟨k1,k2⟩:=run_at hrun e
   have hs6:=SdOk.fin hf hs (run_take (i:=i) hrun)
   have ht6:=tl_fin hf hs ht (run_take (i:=i) hrun)
   have hli:(ds.take i).length=i:=by rw [List.length_take];omega
   rw [hli] at hs6
   have hwl:=wds_len (f:=f) (s:=s) (ds:=ds.take i)
   rw [hli] at hwl
   nofun
   refine (hLs M6 f _ _ d M4.length as hf hs6 ht6 (by omega) k1 k2 hb.ln hv6).imp ?_
   rintro r M7 ⟨rfl,hv7,kp7⟩
   have hW7:=kp7.2 n6 _ hn6 hW6
   have hD7:=kp7.2 nD _ hnD hD6
   have l7:=kp7.1
   nofun
   refine ⟨s1,?_⟩
   have hnew:M7.length∉as:=fun z=>by have:=hA6 _ z;omega
   have step:∀ ys:List D,ys.length<=1->(wds f s (ds.take (i+1))).map wD=(wds f s (ds.take i)).map wD++ys->binW .add (.d (.adr n6)) (.lv ys) M7=.ok (.lv ((wds f s (ds.take (i+1))).map wD)) M7:=fun ys h1 h2=>by
    rw [h2]
    exact adr_lv hW7 (small_le (by rw [zqe];omega))
   have wn:=wds_next (f:=f) (s:=s) e
   have fin':∀ o7 o8,∃ o7' o8' n6',([some (.ls (ns.map D.int)),some (fmD f),some (sdd s),some (.adr nD),some (.adr M4.length),some (sdd (stp1 f (fin f s (ds.take i)) d)),some (.adr M7.length),o7,o8]:En)=[some (.ls (ns.map D.int)),some (fmD f),some (sdd s),some (.adr nD),some (.adr M4.length),some (sdd (fin f s (ds.take (i+1)))),some (.adr n6'),o7',o8']/\LvG (M7++[MO.lst ((wds f s (ds.take (i+1))).map wD)]) M4.length as (fun r=>nums (load (fin f s (ds.take (i+1))) r))/\(M7++[MO.lst ((wds f s (ds.take (i+1))).map wD)])[n6']?=some (.lst ((wds f s (ds.take (i+1))).map wD))/\n6'∉as/\(M7++[MO.lst ((wds f s (ds.take (i+1))).map wD)])[nD]?=some (.lst (ds.map dnD))/\∀ a∈as,a < (M7++[MO.lst ((wds f s (ds.take (i+1))).map wD)]).length:=fun o7 o8=>by
    rw [fin_next e]
    refine ⟨o7,o8,M7.length,rfl,hv7.ex ((Ex.refl M7).app),app_last,hnew,app_get hD7,fun a ha=>?_⟩
    have:=hA6 a ha
    rw [zqp]
    omega
   cases hw:(nxt f (fin f s (ds.take i)) d).2.2 with
   | none =>
    rw [hw] at wn
    nofun
    rw [show (List.replicate (if (!isNon (tlD (mc f d) none))=true then (1:Int) else 0).toNat [tlD (mc f d) none]).flatten=[] from rfl,step [] (by simp) (by rw [wn];simp)]
    exact fin' _ _
   | some w =>
    rw [hw] at wn
    nofun
    rw [show (List.replicate (if (!isNon (tlD (mc f d) (some w)))=true then (1:Int) else 0).toNat [tlD (mc f d) (some w)]).flatten=[.tup [.int (mc f d),.str w]] from rfl,step [.tup [.int (mc f d),.str w]] (by simp) (by rw [wn,zqs];rfl)]
    exact fin' _ _
 ·rintro ρ M6 ⟨o7,o8,n6,rfl,hv6,hW6,hn6,hD6,hA6⟩
  rw [zqe,List.take_length] at hW6
  nofun
  refine (hR M6 f 4 s ds nD hf hs (by omega) hrun hD6).imp ?_
  rintro r M7 ⟨nW,rfl,hlW,hW7,f7⟩
  have hW6':=Ex.get f7 hW6
  have hsF:=SdOk.fin hf hs hrun
  have hwl:=wds_len (f:=f) (s:=s) (ds:=ds)
  obtain ⟨y,hy,ey⟩:=repr_sw (sn_sd hf hsF (by omega)) (ws:=wds f s ds) (fun p hp=>by
   have:=wds_ok hf hs hrun p hp
   exact ⟨by have:=hf.l4;omega,this.2⟩) (by omega)
  nofun
  rw [ey M7 nW hW7]
  nofun
  refine ⟨s2,?_⟩
  nofun
  rw [zqe,List.take_length,ey M7 n6 hW6']
  nofun
  rw [c_eqS hy hy,beq_self_eq_true]
abbrev c1 (l:List Fn):List Fn:=f0::l
abbrev c2 (l:List Fn):List Fn:=c1 (f1::l)
abbrev c3 (l:List Fn):List Fn:=c2 (f2::l)
abbrev c4 (l:List Fn):List Fn:=c3 (f3::l)
abbrev c5 (l:List Fn):List Fn:=c4 (f4::l)
abbrev c6 (l:List Fn):List Fn:=c5 (f5::l)
abbrev c7 (l:List Fn):List Fn:=c6 (f6::l)
abbrev c8 (l:List Fn):List Fn:=c7 (f7::l)
abbrev c9 (l:List Fn):List Fn:=c8 (f8::l)
abbrev c10 (l:List Fn):List Fn:=c9 (f9::l)
abbrev c11 (l:List Fn):List Fn:=c10 (f10::l)
abbrev c12 (l:List Fn):List Fn:=c11 (f11::l)
abbrev c13 (l:List Fn):List Fn:=c12 (f12::l)
abbrev c14 (l:List Fn):List Fn:=c13 (f13::l)
abbrev c15 (l:List Fn):List Fn:=c14 (f14::l)
abbrev c16 (l:List Fn):List Fn:=c15 (f15::l)
abbrev c17 (l:List Fn):List Fn:=c16 (f16::l)
abbrev c18 (l:List Fn):List Fn:=c17 (f17::l)
abbrev c19 (l:List Fn):List Fn:=c18 (f18::l)
abbrev c20 (l:List Fn):List Fn:=c19 (f19::l)
abbrev c21 (l:List Fn):List Fn:=c20 (f20::l)
abbrev c22 (l:List Fn):List Fn:=c21 (f21::l)
abbrev c23 (l:List Fn):List Fn:=c22 (f22::l)
abbrev c24 (l:List Fn):List Fn:=c23 (f23::l)
abbrev c25 (l:List Fn):List Fn:=c24 (f24::l)
abbrev c26 (l:List Fn):List Fn:=c25 (f25::l)
abbrev c27 (l:List Fn):List Fn:=c26 (f26::l)
abbrev c28 (l:List Fn):List Fn:=c27 (f27::l)
abbrev c29 (l:List Fn):List Fn:=c28 (f28::l)
abbrev c30 (l:List Fn):List Fn:=c29 (f29::l)
abbrev c31 (l:List Fn):List Fn:=c30 (f30::l)
abbrev c32 (l:List Fn):List Fn:=c31 (f31::l)
abbrev c33 (l:List Fn):List Fn:=c32 (f32::l)
abbrev c34 (l:List Fn):List Fn:=c33 (f33::l)
abbrev c35 (l:List Fn):List Fn:=c34 (f34::l)
abbrev c36 (l:List Fn):List Fn:=c35 (f35::l)
abbrev c37 (l:List Fn):List Fn:=c36 (f36::l)
abbrev c38 (l:List Fn):List Fn:=c37 (f37::l)
abbrev c39 (l:List Fn):List Fn:=c38 (f38::l)
abbrev c40 (l:List Fn):List Fn:=c39 (f39::l)
abbrev c41 (l:List Fn):List Fn:=c40 (f40::l)
theorem law_true:∀ ns:List Int,ns.length<=63->∃ M,f41 [.ls (ns.map D.int)] []=.ok (.d (.bl true)) M:=by
 intro ns hns
 have h0:∀ l,WholeF (tab (c1 l) 0):=fun l=>wholeF
 have h1:∀ l,BelowF (tab (c2 l) 1):=fun l=>belowF (h0 _)
 have h2:∀ l,StateF (tab (c3 l) 2):=fun l=>stateF (h1 _)
 have h3:∀ l,SignF (tab (c4 l) 3):=fun l=>signF
 have h4:∀ l,TupF (tab (c5 l) 4):=fun l=>tupF
 have h5:∀ l,RisingF (tab (c6 l) 5):=fun l=>risingF
 have h6:∀ l,AnswerF (tab (c7 l) 6):=fun l=>answerF
 have h7:∀ l,RStatesF (tab (c8 l) 7):=fun l=>rstatesF (h4 _) (h2 _)
 have h8:∀ l,LetterF (tab (c9 l) 8):=fun l=>letterF (h4 _) (h1 _) (h3 _)
 have h9:∀ l,RLettersF (tab (c10 l) 9):=fun l=>rlettersF (h4 _) (h0 _) (h8 _) (h5 _)
 have h10:∀ l,RRoadsF (tab (c11 l) 10):=fun l=>rroadsF (h4 _) (h9 _)
 have h11:∀ l,RStandF (tab (c12 l) 11):=fun l=>rstandF (h4 _) (h7 _) (h10 _)
 have h12:∀ l,WaitsF (tab (c13 l) 12):=fun l=>waitsF
 have h13:∀ l,PlainF (tab (c14 l) 13):=fun l=>plainF (h1 _) (h3 _) (h0 _)
 have h14:∀ l,MachF (tab (c15 l) 14):=fun l=>machF
 have h15:∀ l,MayF (tab (c16 l) 15):=fun l=>mayF (h12 _)
 have h16:∀ l,CanF (tab (c17 l) 16):=fun l=>canF (h13 _) (h6 _) (h15 _)
 have h17:∀ l,CauseF (tab (c18 l) 17):=fun l=>causeF (h12 _)
 have h18:∀ l,LessF (tab (c19 l) 18):=fun l=>lessF
 have h19:∀ l,MoreF (tab (c20 l) 19):=fun l=>moreF
 have h20:∀ l,OutcF (tab (c21 l) 20):=fun l=>outcF (h14 _) (h6 _) (h17 _) (h18 _) (h19 _)
 have h21:∀ l,OutcF (tab (c22 l) 21):=fun l=>doneF (h16 _) (h20 _)
 have h22:∀ l,StepsF (tab (c23 l) 22):=fun l=>stepsF (h16 _) (h20 _)
 have h23:∀ l,RunF (tab (c24 l) 23):=fun l=>runF (h22 _)
 have h24:∀ l,WellF (tab (c25 l) 24):=fun l=>wellF
 have h25:∀ l,DrawAt (tab (c26 l) 25):=fun l=>drawAt
 have h26:∀ l,RoadsF (tab (c27 l) 26):=fun l=>roadsF (h25 _)
 have h27:∀ l,StatesF (tab (c28 l) 27):=fun l=>statesF (h25 _)
 have h28:∀ l,SendsF (tab (c29 l) 28):=fun l=>sendsF (h25 _)
 have h29:∀ l,MovesF (tab (c30 l) 29):=fun l=>movesF (h25 _) (h28 _)
 have h30:∀ l,FormF (tab (c31 l) 30):=fun l=>formF (h24 _) (h25 _) (h26 _) (h27 _) (h29 _)
 have h31:∀ l,LawAnsF (tab (c32 l) 31):=fun l=>lawAnsF
 have h32:∀ l,LComesF (tab (c33 l) 32):=fun l=>lcomesF
 have h33:∀ l,LAnsdF (tab (c34 l) 33):=fun l=>lansdF (h31 _) (h32 _)
 have h34:∀ l,MachF (tab (c35 l) 34):=fun l=>lmachF
 have h35:∀ l,OutcF (tab (c36 l) 35):=fun l=>ldoneF (h33 _) (h34 _)
 have h36:∀ l,LLoadT (tab (c37 l) 36):=fun l=>lloadT (h25 _)
 have h37:∀ l,LStandT (tab (c38 l) 37):=fun l=>lstandT (h24 _) (h25 _) (h36 _)
 have h38:∀ l,LNextF (tab (c39 l) 38):=fun l=>lnextF (h32 _) (h33 _) (h25 _)
 have h39:∀ l,LDeedsF (tab (c40 l) 39):=fun l=>ldeedsF (h24 _) (h25 _) (h38 _) (h35 _)
 have h40:∀ l,LStepF (tab (c41 l) 40):=fun l=>lstepF (h21 _) (h11 _) (h12 _)
 obtain ⟨r,M,e,q⟩:=okp_eq (law_ok (G:=tab (c41 [])) (h30 _) (h37 _) (h39 _) (h40 _) (h23 _) ns hns)
 subst q
 exact ⟨M,e⟩
end Qk07
end
section
namespace Qk07
open L2 Ev PySem PySem.Spec PyProof.Rows
def top (i:Nat):Stmt:=PySem.Challenge.pw_cutstand_k07_whole_stands_stay_right.main.body.getD i (.Pass ⟨0,0,0,0⟩)
abbrev s0:Stmt:=top 5
theorem sc0:FnScope n0 ["thing"] (defScope s0):=⟨rfl,rfl,rfl,⋯,rfl,⋯,⋯⟩
theorem ch0:chkSs ⟨n0,(defScope s0).names,fs.take 0,gs⟩ b0 (defBody s0)=true:=⋯
abbrev s1:Stmt:=top 6
theorem sc1:FnScope n1 ["thing","bound"] (defScope s1):=⟨rfl,rfl,rfl,⋯,rfl,⋯,⋯⟩
theorem ch1:chkSs ⟨n1,(defScope s1).names,fs.take 1,gs⟩ b1 (defBody s1)=true:=⋯
abbrev s2:Stmt:=top 7
theorem sc2:FnScope n2 ["thing"] (defScope s2):=⟨rfl,rfl,rfl,⋯,rfl,⋯,⋯⟩
theorem ch2:chkSs ⟨n2,(defScope s2).names,fs.take 2,gs⟩ b2 (defBody s2)=true:=⋯
abbrev s3:Stmt:=top 8
theorem sc3:FnScope n3 ["thing"] (defScope s3):=⟨rfl,rfl,rfl,⋯,rfl,⋯,⋯⟩
theorem ch3:chkSs ⟨n3,(defScope s3).names,fs.take 3,gs⟩ b3 (defBody s3)=true:=⋯
abbrev s4:Stmt:=top 9
theorem sc4:FnScope n4 ["thing","many"] (defScope s4):=⟨rfl,rfl,rfl,⋯,rfl,⋯,⋯⟩
theorem ch4:chkSs ⟨n4,(defScope s4).names,fs.take 4,gs⟩ b4 (defBody s4)=true:=⋯
abbrev s5:Stmt:=top 10
theorem sc5:FnScope n5 ["numbers"] (defScope s5):=⟨rfl,rfl,rfl,⋯,rfl,⋯,⋯⟩
theorem ch5:chkSs ⟨n5,(defScope s5).names,fs.take 5,gs⟩ b5 (defBody s5)=true:=⋯
abbrev s6:Stmt:=top 12
theorem sc6:FnScope n6 ["form","m","state","cause"] (defScope s6):=⟨rfl,rfl,rfl,⋯,rfl,⋯,⋯⟩
theorem ch6:chkSs ⟨n6,(defScope s6).names,fs.take 6,gs⟩ b6 (defBody s6)=true:=⋯
abbrev s7:Stmt:=top 15
theorem sc7:FnScope n7 ["form","thing"] (defScope s7):=⟨rfl,rfl,rfl,⋯,rfl,⋯,⋯⟩
theorem ch7:chkSs ⟨n7,(defScope s7).names,fs.take 7,gs⟩ b7 (defBody s7)=true:=⋯
abbrev s8:Stmt:=top 18
theorem sc8:FnScope n8 ["thing","sent"] (defScope s8):=⟨rfl,rfl,rfl,⋯,rfl,⋯,⋯⟩
theorem ch8:chkSs ⟨n8,(defScope s8).names,fs.take 8,gs⟩ b8 (defBody s8)=true:=⋯
abbrev s9:Stmt:=top 17
theorem sc9:FnScope n9 ["order","thing"] (defScope s9):=⟨rfl,rfl,rfl,⋯,rfl,⋯,⋯⟩
theorem ch9:chkSs ⟨n9,(defScope s9).names,fs.take 9,gs⟩ b9 (defBody s9)=true:=⋯
abbrev s10:Stmt:=top 16
theorem sc10:FnScope n10 ["form","thing"] (defScope s10):=⟨rfl,rfl,rfl,⋯,rfl,⋯,⋯⟩
theorem ch10:chkSs ⟨n10,(defScope s10).names,fs.take 10,gs⟩ b10 (defBody s10)=true:=⋯
abbrev s11:Stmt:=top 14
theorem sc11:FnScope n11 ["form","thing"] (defScope s11):=⟨rfl,rfl,rfl,⋯,rfl,⋯,⋯⟩
theorem ch11:chkSs ⟨n11,(defScope s11).names,fs.take 11,gs⟩ b11 (defBody s11)=true:=⋯
abbrev s12:Stmt:=top 19
theorem sc12:FnScope n12 ["stand","road"] (defScope s12):=⟨rfl,rfl,rfl,⋯,rfl,⋯,⋯⟩
theorem ch12:chkSs ⟨n12,(defScope s12).names,fs.take 12,gs⟩ b12 (defBody s12)=true:=⋯
abbrev s13:Stmt:=top 21
theorem sc13:FnScope n13 ["form","thing"] (defScope s13):=⟨rfl,rfl,rfl,⋯,rfl,⋯,⋯⟩
theorem ch13:chkSs ⟨n13,(defScope s13).names,fs.take 13,gs⟩ b13 (defBody s13)=true:=⋯
abbrev s14:Stmt:=top 22
theorem sc14:FnScope n14 ["form","deed"] (defScope s14):=⟨rfl,rfl,rfl,⋯,rfl,⋯,⋯⟩
theorem ch14:chkSs ⟨n14,(defScope s14).names,fs.take 14,gs⟩ b14 (defBody s14)=true:=⋯
abbrev s15:Stmt:=top 24
theorem sc15:FnScope n15 ["form","stand","road"] (defScope s15):=⟨rfl,rfl,rfl,⋯,rfl,⋯,⋯⟩
theorem ch15:chkSs ⟨n15,(defScope s15).names,fs.take 15,gs⟩ b15 (defBody s15)=true:=⋯
abbrev s16:Stmt:=top 23
theorem sc16:FnScope n16 ["form","stand","thing"] (defScope s16):=⟨rfl,rfl,rfl,⋯,rfl,⋯,⋯⟩
theorem ch16:chkSs ⟨n16,(defScope s16).names,fs.take 16,gs⟩ b16 (defBody s16)=true:=⋯
abbrev s17:Stmt:=top 27
theorem sc17:FnScope n17 ["stand","deed"] (defScope s17):=⟨rfl,rfl,rfl,⋯,rfl,⋯,⋯⟩
theorem ch17:chkSs ⟨n17,(defScope s17).names,fs.take 17,gs⟩ b17 (defBody s17)=true:=⋯
abbrev s18:Stmt:=top 28
theorem sc18:FnScope n18 ["letters","k"] (defScope s18):=⟨rfl,rfl,rfl,⋯,rfl,⋯,⋯⟩
theorem ch18:chkSs ⟨n18,(defScope s18).names,fs.take 18,gs⟩ b18 (defBody s18)=true:=⋯
abbrev s19:Stmt:=top 29
theorem sc19:FnScope n19 ["letters","sign"] (defScope s19):=⟨rfl,rfl,rfl,⋯,rfl,⋯,⋯⟩
theorem ch19:chkSs ⟨n19,(defScope s19).names,fs.take 19,gs⟩ b19 (defBody s19)=true:=⋯
abbrev s20:Stmt:=top 26
theorem sc20:FnScope n20 ["form","stand","deed"] (defScope s20):=⟨rfl,rfl,rfl,⋯,rfl,⋯,⋯⟩
theorem ch20:chkSs ⟨n20,(defScope s20).names,fs.take 20,gs⟩ b20 (defBody s20)=true:=⋯
abbrev s21:Stmt:=top 25
theorem sc21:FnScope n21 ["form","stand","thing"] (defScope s21):=⟨rfl,rfl,rfl,⋯,rfl,⋯,⋯⟩
theorem ch21:chkSs ⟨n21,(defScope s21).names,fs.take 21,gs⟩ b21 (defBody s21)=true:=⋯
abbrev s22:Stmt:=top 31
theorem sc22:FnScope n22 ["form","stand","deeds"] (defScope s22):=⟨rfl,rfl,rfl,⋯,rfl,⋯,⋯⟩
theorem ch22:chkSs ⟨n22,(defScope s22).names,fs.take 22,gs⟩ b22 (defBody s22)=true:=⋯
abbrev s23:Stmt:=top 30
theorem sc23:FnScope n23 ["form","stand","deeds"] (defScope s23):=⟨rfl,rfl,rfl,⋯,rfl,⋯,⋯⟩
theorem ch23:chkSs ⟨n23,(defScope s23).names,fs.take 23,gs⟩ b23 (defBody s23)=true:=⋯
abbrev s24:Stmt:=top 33
theorem sc24:FnScope n24 ["_law_script","_law_k"] (defScope s24):=⟨rfl,rfl,rfl,⋯,rfl,⋯,⋯⟩
theorem ch24:chkSs ⟨n24,(defScope s24).names,fs.take 24,gs⟩ b24 (defBody s24)=true:=⋯
abbrev s25:Stmt:=top 34
theorem sc25:FnScope n25 ["_law_well_here","_law_many"] (defScope s25):=⟨rfl,rfl,rfl,⋯,rfl,⋯,⋯⟩
theorem ch25:chkSs ⟨n25,(defScope s25).names,fs.take 25,gs⟩ b25 (defBody s25)=true:=⋯
abbrev s26:Stmt:=top 35
theorem sc26:FnScope n26 ["_law_well_here","_law_machines"] (defScope s26):=⟨rfl,rfl,rfl,⋯,rfl,⋯,⋯⟩
theorem ch26:chkSs ⟨n26,(defScope s26).names,fs.take 26,gs⟩ b26 (defBody s26)=true:=⋯
abbrev s27:Stmt:=top 36
theorem sc27:FnScope n27 ["_law_well_here"] (defScope s27):=⟨rfl,rfl,rfl,⋯,rfl,⋯,⋯⟩
theorem ch27:chkSs ⟨n27,(defScope s27).names,fs.take 27,gs⟩ b27 (defBody s27)=true:=⋯
abbrev s28:Stmt:=top 37
theorem sc28:FnScope n28 ["_law_well_here","_law_ways"] (defScope s28):=⟨rfl,rfl,rfl,⋯,rfl,⋯,⋯⟩
theorem ch28:chkSs ⟨n28,(defScope s28).names,fs.take 28,gs⟩ b28 (defBody s28)=true:=⋯
abbrev s29:Stmt:=top 38
theorem sc29:FnScope n29 ["_law_well_here","_law_some","_law_ways"] (defScope s29):=⟨rfl,rfl,rfl,⋯,rfl,⋯,⋯⟩
theorem ch29:chkSs ⟨n29,(defScope s29).names,fs.take 29,gs⟩ b29 (defBody s29)=true:=⋯
abbrev s30:Stmt:=top 39
theorem sc30:FnScope n30 ["_law_script"] (defScope s30):=⟨rfl,rfl,rfl,⋯,rfl,⋯,⋯⟩
theorem ch30:chkSs ⟨n30,(defScope s30).names,fs.take 30,gs⟩ b30 (defBody s30)=true:=⋯
abbrev s31:Stmt:=top 40
theorem sc31:FnScope n31 ["_law_form_here","_law_m","_law_state","_law_cause"] (defScope s31):=⟨rfl,rfl,rfl,⋯,rfl,⋯,⋯⟩
theorem ch31:chkSs ⟨n31,(defScope s31).names,fs.take 31,gs⟩ b31 (defBody s31)=true:=⋯
abbrev s32:Stmt:=top 41
theorem sc32:FnScope n32 ["_law_form_here","_law_stand_here"] (defScope s32):=⟨rfl,rfl,rfl,⋯,rfl,⋯,⋯⟩
theorem ch32:chkSs ⟨n32,(defScope s32).names,fs.take 32,gs⟩ b32 (defBody s32)=true:=⋯
abbrev s33:Stmt:=top 42
theorem sc33:FnScope n33 ["_law_form_here","_law_stand_here","_law_deed"] (defScope s33):=⟨rfl,rfl,rfl,⋯,rfl,⋯,⋯⟩
theorem ch33:chkSs ⟨n33,(defScope s33).names,fs.take 33,gs⟩ b33 (defBody s33)=true:=⋯
abbrev s34:Stmt:=top 43
theorem sc34:FnScope n34 ["_law_form_here","_law_deed"] (defScope s34):=⟨rfl,rfl,rfl,⋯,rfl,⋯,⋯⟩
theorem ch34:chkSs ⟨n34,(defScope s34).names,fs.take 34,gs⟩ b34 (defBody s34)=true:=⋯
abbrev s35:Stmt:=top 44
theorem sc35:FnScope n35 ["_law_form_here","_law_stand_here","_law_deed"] (defScope s35):=⟨rfl,rfl,rfl,⋯,rfl,⋯,⋯⟩
theorem ch35:chkSs ⟨n35,(defScope s35).names,fs.take 35,gs⟩ b35 (defBody s35)=true:=⋯
abbrev s36:Stmt:=top 45
theorem sc36:FnScope n36 ["_law_well_here","_law_order"] (defScope s36):=⟨rfl,rfl,rfl,⋯,rfl,⋯,⋯⟩
theorem ch36:chkSs ⟨n36,(defScope s36).names,fs.take 36,gs⟩ b36 (defBody s36)=true:=⋯
abbrev s37:Stmt:=top 46
theorem sc37:FnScope n37 ["_law_script","_law_form_here"] (defScope s37):=⟨rfl,rfl,rfl,⋯,rfl,⋯,⋯⟩
theorem ch37:chkSs ⟨n37,(defScope s37).names,fs.take 37,gs⟩ b37 (defBody s37)=true:=⋯
abbrev s38:Stmt:=top 47
theorem sc38:FnScope n38 ["_law_well_here","_law_form_here","_law_stand_here"] (defScope s38):=⟨rfl,rfl,rfl,⋯,rfl,⋯,⋯⟩
theorem ch38:chkSs ⟨n38,(defScope s38).names,fs.take 38,gs⟩ b38 (defBody s38)=true:=⋯
abbrev s39:Stmt:=top 48
theorem sc39:FnScope n39 ["_law_script","_law_form_here","_law_stand_here","_law_most"] (defScope s39):=⟨rfl,rfl,rfl,⋯,rfl,⋯,⋯⟩
theorem ch39:chkSs ⟨n39,(defScope s39).names,fs.take 39,gs⟩ b39 (defBody s39)=true:=⋯
abbrev s40:Stmt:=top 49
theorem sc40:FnScope n40 ["_law_form_here","_law_stand_here","_law_deed","_law_lives"] (defScope s40):=⟨rfl,rfl,rfl,⋯,rfl,⋯,⋯⟩
theorem ch40:chkSs ⟨n40,(defScope s40).names,fs.take 40,gs⟩ b40 (defBody s40)=true:=⋯
abbrev s41:Stmt:=top 50
theorem sc41:FnScope n41 ["_law_script"] (defScope s41):=⟨rfl,rfl,rfl,⋯,rfl,⋯,⋯⟩
theorem ch41:chkSs ⟨n41,(defScope s41).names,fs.take 41,gs⟩ b41 (defBody s41)=true:=⋯
section
variable {P:Program} {w:World} {K:PySem.W.Frag} {mg:Str->Option Value} {base:Heap}
structure Is (P:Program) (w:World) (K:PySem.W.Frag) (mg:Str->Option Value) (base:Heap) (k:Nat) (x:Str) (n:Nat) (F:List D->Mem->Out W):Prop where
 is:∃ f fd ps,FnOk P w K mg base CX0 k f fd ps (spD K n F)/\mg x=some (.ref f)/\PySem.W.keepIn K (.ref f)=true/\Binds K fd ps []
theorem Is.mono {k k2:Nat} {x:Str} {n:Nat} {F:List D->Mem->Out W} (h:Is P w K mg base k x n F) (hk:k<=k2):Is P w K mg base k2 x n F:=by
 obtain ⟨f,fd,ps,a,b⟩:=h.is
 exact ⟨f,fd,ps,a.mono hk,b⟩
def All (P:Program) (w:World) (K:PySem.W.Frag) (mg:Str->Option Value) (base:Heap) (k:Nat) (fs:List (Str×Nat)) (Fs:List (List D->Mem->Out W)):Prop:=∀ (i:Nat) (x:Str) (n:Nat),fs[i]?=some (x,n)->∃ F,Fs[i]?=some F/\Is P w K mg base k x n F
theorem All.mono {k k2:Nat} {fs:List (Str×Nat)} {Fs:List (List D->Mem->Out W)} (h:All P w K mg base k fs Fs) (hk:k<=k2):All P w K mg base k2 fs Fs:=fun i x n e=>by
 obtain ⟨F,a,b⟩:=h i x n e
 exact ⟨F,a,b.mono hk⟩
theorem All.nil {k:Nat}:All P w K mg base k [] []:=fun i x n e=>by simp at e
theorem All.snoc {k:Nat} {fs:List (Str×Nat)} {Fs:List (List D->Mem->Out W)} {x:Str} {n:Nat} {F:List D->Mem->Out W} (h:All P w K mg base k fs Fs) (hl:fs.length=Fs.length) (g:Is P w K mg base k x n F):All P w K mg base k (fs++[(x,n)]) (Fs++[F]):=fun i y m e=>by
 by_cases hi:i < fs.length
 ·rw [zqt hi] at e
  obtain ⟨F,a,b⟩:=h i y m e
  exact ⟨F,by rw [zqt (by omega)];exact a,b⟩
 ·have:i=fs.length:=by
   have:=(zqa.mp e).1
   simp at this;omega
  subst this
  simp at e
  obtain ⟨rfl,rfl⟩:=e
  exact ⟨F,by rw [hl];simp,g⟩
theorem def_is {x : Str} {st : Stmt} {f : Addr} {fd : FuncData} {N ps : List Str} {k : Nat} {fs : List (Str × Nat)} {Fs : List (List D -> Mem -> Out W)} {body : List S} {n : Nat} (F : Fun K x x st f fd) (Sc : FnScope N ps (defScope st)) (hn : ps.length = n)
    (hb:chkSs ⟨N,(defScope st).names,fs,gs⟩ body (defBody st)=true) (hblt:∀ b∈bltNames,mg b=none) (hgs:∀ (x:Str) (v:Int),gs.lookup x=some v->∃ t,mg x=some (.int v t)) (hx:mg x=some (.ref f)) (bd:Binds K fd ps []) (A:All P w K mg base k fs Fs):Is P w K mg base (k+1) x n (runDef (tab Fs) N.length body) :=
  ⟨f,fd,ps,def_ok F Sc hn hb hblt hgs fun i y m e=>by
    obtain ⟨F,a,b⟩:=A i y m e
    obtain ⟨f,fd,ps,c⟩:=b.is
    have:tab Fs i=F:=by funext ds M;unfold tab;rw [a]
    rw [this]
    exact ⟨f,fd,ps,c⟩,hx,F.kp,bd⟩
abbrev fd0:=fq "is_whole" s0 (.str "cutstand.kinds" 232) (.ref 52)
def o0:=fo fd0
abbrev fd1:=fq "is_below" s1 (.str "cutstand.kinds" 232) (.ref 59)
def o1:=fo fd1
abbrev fd2:=fq "is_state" s2 (.str "cutstand.kinds" 232) (.ref 66)
def o2:=fo fd2
abbrev fd3:=fq "is_sign" s3 (.str "cutstand.kinds" 232) (.ref 73)
def o3:=fo fd3
abbrev fd4:=fq "is_tuple_of" s4 (.str "cutstand.kinds" 232) (.ref 80)
def o4:=fo fd4
abbrev fd5:=fq "is_rising" s5 (.str "cutstand.kinds" 232) (.ref 85)
def o5:=fo fd5
abbrev fd6:=fq "answer" s6 (.str "cutstand.forms" 279) (.ref 92)
def o6:=fo fd6
abbrev fd11:=fq "right_stand" s11 (.str "cutstand.stands" 292) (.ref 99)
def o11:=fo fd11
abbrev fd7:=fq "right_states" s7 (.str "cutstand.stands" 292) (.ref 104)
def o7:=fo fd7
abbrev fd10:=fq "right_roads" s10 (.str "cutstand.stands" 292) (.ref 109)
def o10:=fo fd10
abbrev fd9:=fq "right_letters" s9 (.str "cutstand.stands" 292) (.ref 114)
def o9:=fo fd9
abbrev fd8:=fq "is_letter" s8 (.str "cutstand.stands" 292) (.ref 121)
def o8:=fo fd8
abbrev fd12:=fq "waits" s12 (.str "cutstand.stands" 292) (.ref 128)
def o12:=fo fd12
abbrev fd13:=fq "is_plain" s13 (.str "cutstand.plain" 336) (.ref 135)
def o13:=fo fd13
abbrev fd14:=fq "machine_of" s14 (.str "cutstand.plain" 336) (.ref 142)
def o14:=fo fd14
abbrev fd16:=fq "can" s16 (.str "cutstand.plain" 336) (.ref 149)
def o16:=fo fd16
abbrev fd15:=fq "may_come" s15 (.str "cutstand.plain" 336) (.ref 154)
def o15:=fo fd15
abbrev fd21:=fq "done" s21 (.str "cutstand.plain" 336) (.ref 161)
def o21:=fo fd21
abbrev fd20:=fq "outcome" s20 (.str "cutstand.plain" 336) (.ref 168)
def o20:=fo fd20
abbrev fd17:=fq "cause_of" s17 (.str "cutstand.plain" 336) (.ref 175)
def o17:=fo fd17
abbrev fd18:=fq "less_letter" s18 (.str "cutstand.plain" 336) (.ref 180)
def o18:=fo fd18
abbrev fd19:=fq "more_letter" s19 (.str "cutstand.plain" 336) (.ref 187)
def o19:=fo fd19
abbrev fd23:=fq "run" s23 (.str "cutstand.plain" 336) (.ref 194)
def o23:=fo fd23
abbrev fd22:=fq "steps" s22 (.str "cutstand.plain" 336) (.ref 201)
def o22:=fo fd22
abbrev fd24:=fq "_law_well" s24 (.str "law_cutstand_k07_whole_stands_stay_right" 443) (.ref 208)
def o24:=fo fd24
abbrev fd25:=fq "_law_draw" s25 (.str "law_cutstand_k07_whole_stands_stay_right" 443) (.ref 215)
def o25:=fo fd25
abbrev fd26:=fq "_law_roads" s26 (.str "law_cutstand_k07_whole_stands_stay_right" 443) (.ref 222)
def o26:=fo fd26
abbrev fd27:=fq "_law_states" s27 (.str "law_cutstand_k07_whole_stands_stay_right" 443) (.ref 229)
def o27:=fo fd27
abbrev fd28:=fq "_law_sends" s28 (.str "law_cutstand_k07_whole_stands_stay_right" 443) (.ref 236)
def o28:=fo fd28
abbrev fd29:=fq "_law_moves" s29 (.str "law_cutstand_k07_whole_stands_stay_right" 443) (.ref 243)
def o29:=fo fd29
abbrev fd30:=fq "_law_form" s30 (.str "law_cutstand_k07_whole_stands_stay_right" 443) (.ref 248)
def o30:=fo fd30
abbrev fd31:=fq "_law_answer" s31 (.str "law_cutstand_k07_whole_stands_stay_right" 443) (.ref 253)
def o31:=fo fd31
abbrev fd32:=fq "_law_comes" s32 (.str "law_cutstand_k07_whole_stands_stay_right" 443) (.ref 258)
def o32:=fo fd32
abbrev fd33:=fq "_law_answered" s33 (.str "law_cutstand_k07_whole_stands_stay_right" 443) (.ref 265)
def o33:=fo fd33
abbrev fd34:=fq "_law_machine" s34 (.str "law_cutstand_k07_whole_stands_stay_right" 443) (.ref 272)
def o34:=fo fd34
abbrev fd35:=fq "_law_done" s35 (.str "law_cutstand_k07_whole_stands_stay_right" 443) (.ref 277)
def o35:=fo fd35
abbrev fd36:=fq "_law_load" s36 (.str "law_cutstand_k07_whole_stands_stay_right" 443) (.ref 284)
def o36:=fo fd36
abbrev fd37:=fq "_law_stand" s37 (.str "law_cutstand_k07_whole_stands_stay_right" 443) (.ref 289)
def o37:=fo fd37
abbrev fd38:=fq "_law_next" s38 (.str "law_cutstand_k07_whole_stands_stay_right" 443) (.ref 294)
def o38:=fo fd38
abbrev fd39:=fq "_law_deeds" s39 (.str "law_cutstand_k07_whole_stands_stay_right" 443) (.ref 301)
def o39:=fo fd39
abbrev fd40:=fq "_law_step" s40 (.str "law_cutstand_k07_whole_stands_stay_right" 443) (.ref 306)
def o40:=fo fd40
abbrev fd41:=fq "law" s41 (.str "law_cutstand_k07_whole_stands_stay_right" 443) (.ref 311)
def o41:=fo fd41
def en (P:Params) (k:Str) (t:Nat) (v:Value):DictEntry:=⟨PyData.keyHash P k,.str k t,v⟩
def co (a:Array Value):Obj:=⟨.type "code",none,.fields a,#[]⟩
def cp (n:Nat):Value:=.str "/claim/cut.py" n
def iv (n:Nat):Value:=.int n 0
def Kf (P:Params):PySem.W.Frag:=[(3,⟨(.type "dict"),none,.dict #[en P "__name__" 165 (.str "law_cutstand_k07_whole_stands_stay_right" 443),en P "__doc__" 166 .none,en P "__package__" 167 .none,en P "__loader__" 168 (.builtin "__main__.__loader__#opaque"),en P "__spec__" 169 .none,en P "__annotations__" 170 (.ref 6),en P "__builtins__" 171 (.ref 4),en P "__file__" 173 (cp 172),en P "__cached__" 174 .none,en P "CutError" 206 (.ref 24),en P "NoDeed" 231 (.ref 44),en P "STATES" 235 (.int 100 234),en P "is_whole" 242 (.ref 53),en P "is_below" 250 (.ref 60),en P "is_state" 257 (.ref 67),en P "is_sign" 264 (.ref 74),en P "is_tuple_of" 272 (.ref 81),en P "is_rising" 278 (.ref 86),en P "answer" 291 (.ref 93),en P "right_stand" 301 (.ref 100),en P "right_states" 307 (.ref 105),en P "right_roads" 313 (.ref 110),en P "right_letters" 319 (.ref 115),en P "is_letter" 327 (.ref 122),en P "waits" 335 (.ref 129),en P "is_plain" 345 (.ref 136),en P "machine_of" 353 (.ref 143),en P "can" 362 (.ref 150),en P "may_come" 368 (.ref 155),en P "done" 377 (.ref 162),en P "outcome" 393 (.ref 169),en P "cause_of" 401 (.ref 176),en P "less_letter" 407 (.ref 181),en P "more_letter" 415 (.ref 188),en P "run" 428 (.ref 195),en P "steps" 442 (.ref 202),en P "_law_well" 453 (.ref 209),en P "_law_draw" 465 (.ref 216),en P "_law_roads" 478 (.ref 223),en P "_law_states" 489 (.ref 230),en P "_law_sends" 500 (.ref 237),en P "_law_moves" 517 (.ref 244),en P "_law_form" 523 (.ref 249),en P "_law_answer" 529 (.ref 254),en P "_law_comes" 535 (.ref 259),en P "_law_answered" 548 (.ref 266),en P "_law_machine" 556 (.ref 273),en P "_law_done" 562 (.ref 278),en P "_law_load" 575 (.ref 285),en P "_law_stand" 581 (.ref 290),en P "_law_next" 587 (.ref 295),en P "_law_deeds" 602 (.ref 302),en P "_law_step" 608 (.ref 307),en P "law" 614 (.ref 312)] 54,#[]⟩),(52,co #[(.str "is_whole" 236),(.str "is_whole" 237),(cp 238),(iv 10),(iv 1),(iv 0),(iv 0),(iv 3),(.ref 47),(.bool true),(iv 181),(.ref 48),.none,(.ref 49),(.ref 50),(.ref 51),(iv 240),(iv 10),(cp 241)]),(53,o0),(59,co #[(.str "is_below" 243),(.str "is_below" 244),(cp 245),(iv 12),(iv 2),(iv 0),(iv 0),(iv 3),(.ref 54),(.bool true),(iv 181),(.ref 55),.none,(.ref 56),(.ref 57),(.ref 58),(iv 248),(iv 12),(cp 249)]),(60,o1),(66,co #[(.str "is_state" 251),(.str "is_state" 252),(cp 253),(iv 14),(iv 1),(iv 0),(iv 0),(iv 3),(.ref 61),(.bool true),(iv 181),(.ref 62),.none,(.ref 63),(.ref 64),(.ref 65),(iv 255),(iv 14),(cp 256)]),(67,o2),(73,co #[(.str "is_sign" 258),(.str "is_sign" 259),(cp 260),(iv 16),(iv 1),(iv 0),(iv 0),(iv 3),(.ref 68),(.bool true),(iv 181),(.ref 69),.none,(.ref 70),(.ref 71),(.ref 72),(iv 262),(iv 16),(cp 263)]),(74,o3),(80,co #[(.str "is_tuple_of" 265),(.str "is_tuple_of" 266),(cp 267),(iv 18),(iv 2),(iv 0),(iv 0),(iv 3),(.ref 75),(.bool true),(iv 181),(.ref 76),.none,(.ref 77),(.ref 78),(.ref 79),(iv 270),(iv 18),(cp 271)]),(81,o4),(85,co #[(.str "is_rising" 273),(.str "is_rising" 274),(cp 275),(iv 20),(iv 1),(iv 0),(iv 0),(iv 3),(.ref 82),(.bool true),(iv 181),(.ref 83),.none,.none,.none,(.ref 84),(iv 276),(iv 20),(cp 277)]),(86,o5),(92,co #[(.str "answer" 281),(.str "answer" 282),(cp 283),(iv 23),(iv 4),(iv 0),(iv 0),(iv 3),(.ref 87),(.bool true),(iv 181),(.ref 88),.none,(.ref 89),(.ref 90),(.ref 91),(iv 289),(iv 23),(cp 290)]),(93,o6),(99,co #[(.str "right_stand" 294),(.str "right_stand" 295),(cp 296),(iv 31),(iv 2),(iv 0),(iv 0),(iv 3),(.ref 94),(.bool true),(iv 181),(.ref 95),.none,(.ref 96),(.ref 97),(.ref 98),(iv 299),(iv 31),(cp 300)]),(100,o11),(104,co #[(.str "right_states" 302),(.str "right_states" 303),(cp 304),(iv 35),(iv 2),(iv 0),(iv 0),(iv 3),(.ref 101),(.bool true),(iv 181),(.ref 102),.none,.none,.none,(.ref 103),(iv 305),(iv 35),(cp 306)]),(105,o7),(109,co #[(.str "right_roads" 308),(.str "right_roads" 309),(cp 310),(iv 37),(iv 2),(iv 0),(iv 0),(iv 3),(.ref 106),(.bool true),(iv 181),(.ref 107),.none,.none,.none,(.ref 108),(iv 311),(iv 37),(cp 312)]),(110,o10),(114,co #[(.str "right_letters" 314),(.str "right_letters" 315),(cp 316),(iv 41),(iv 2),(iv 0),(iv 0),(iv 3),(.ref 111),(.bool true),(iv 181),(.ref 112),.none,.none,.none,(.ref 113),(iv 317),(iv 41),(cp 318)]),(115,o9),(121,co #[(.str "is_letter" 320),(.str "is_letter" 321),(cp 322),(iv 51),(iv 2),(iv 0),(iv 0),(iv 3),(.ref 116),(.bool true),(iv 181),(.ref 117),.none,(.ref 118),(.ref 119),(.ref 120),(iv 325),(iv 51),(cp 326)]),(122,o8),(128,co #[(.str "waits" 328),(.str "waits" 329),(cp 330),(iv 53),(iv 2),(iv 0),(iv 0),(iv 3),(.ref 123),(.bool true),(iv 181),(.ref 124),.none,(.ref 125),(.ref 126),(.ref 127),(iv 333),(iv 53),(cp 334)]),(129,o12),(135,co #[(.str "is_plain" 338),(.str "is_plain" 339),(cp 340),(iv 56),(iv 2),(iv 0),(iv 0),(iv 3),(.ref 130),(.bool true),(iv 181),(.ref 131),.none,(.ref 132),(.ref 133),(.ref 134),(iv 343),(iv 56),(cp 344)]),(136,o13),(142,co #[(.str "machine_of" 346),(.str "machine_of" 347),(cp 348),(iv 64),(iv 2),(iv 0),(iv 0),(iv 3),(.ref 137),(.bool true),(iv 181),(.ref 138),.none,(.ref 139),(.ref 140),(.ref 141),(iv 351),(iv 64),(cp 352)]),(143,o14),(149,co #[(.str "can" 354),(.str "can" 355),(cp 356),(iv 68),(iv 3),(iv 0),(iv 0),(iv 3),(.ref 144),(.bool true),(iv 181),(.ref 145),.none,(.ref 146),(.ref 147),(.ref 148),(iv 360),(iv 68),(cp 361)]),(150,o16),(154,co #[(.str "may_come" 363),(.str "may_come" 364),(cp 365),(iv 76),(iv 3),(iv 0),(iv 0),(iv 3),(.ref 151),(.bool true),(iv 181),(.ref 152),.none,.none,.none,(.ref 153),(iv 366),(iv 76),(cp 367)]),(155,o15),(161,co #[(.str "done" 369),(.str "done" 370),(cp 371),(iv 81),(iv 3),(iv 0),(iv 0),(iv 3),(.ref 156),(.bool true),(iv 181),(.ref 157),.none,(.ref 158),(.ref 159),(.ref 160),(iv 375),(iv 81),(cp 376)]),(162,o21),(168,co #[(.str "outcome" 378),(.str "outcome" 379),(cp 380),(iv 85),(iv 3),(iv 0),(iv 0),(iv 3),(.ref 163),(.bool true),(iv 181),(.ref 164),.none,(.ref 165),(.ref 166),(.ref 167),(iv 391),(iv 85),(cp 392)]),(169,o20),(175,co #[(.str "cause_of" 394),(.str "cause_of" 395),(cp 396),(iv 99),(iv 2),(iv 0),(iv 0),(iv 3),(.ref 170),(.bool true),(iv 181),(.ref 171),.none,(.ref 172),(.ref 173),(.ref 174),(iv 399),(iv 99),(cp 400)]),(176,o17),(180,co #[(.str "less_letter" 402),(.str "less_letter" 403),(cp 404),(iv 105),(iv 2),(iv 0),(iv 0),(iv 3),(.ref 177),(.bool true),(iv 181),(.ref 178),.none,.none,.none,(.ref 179),(iv 405),(iv 105),(cp 406)]),(181,o18),(187,co #[(.str "more_letter" 408),(.str "more_letter" 409),(cp 410),(iv 107),(iv 2),(iv 0),(iv 0),(iv 3),(.ref 182),(.bool true),(iv 181),(.ref 183),.none,(.ref 184),(.ref 185),(.ref 186),(iv 413),(iv 107),(cp 414)]),(188,o19),(194,co #[(.str "run" 416),(.str "run" 417),(cp 418),(iv 109),(iv 3),(iv 0),(iv 0),(iv 3),(.ref 189),(.bool true),(iv 181),(.ref 190),.none,(.ref 191),(.ref 192),(.ref 193),(iv 426),(iv 109),(cp 427)]),(195,o23),(201,co #[(.str "steps" 429),(.str "steps" 430),(cp 431),(iv 117),(iv 3),(iv 0),(iv 0),(iv 3),(.ref 196),(.bool true),(iv 181),(.ref 197),.none,(.ref 198),(.ref 199),(.ref 200),(iv 440),(iv 117),(cp 441)]),(202,o22),(208,co #[(.str "_law_well" 445),(.str "_law_well" 446),(cp 447),(iv 128),(iv 2),(iv 0),(iv 0),(iv 3),(.ref 203),(.bool true),(iv 181),(.ref 204),.none,(.ref 205),(.ref 206),(.ref 207),(iv 451),(iv 128),(cp 452)]),(209,o24),(215,co #[(.str "_law_draw" 454),(.str "_law_draw" 455),(cp 456),(iv 133),(iv 2),(iv 0),(iv 0),(iv 3),(.ref 210),(.bool true),(iv 181),(.ref 211),.none,(.ref 212),(.ref 213),(.ref 214),(iv 463),(iv 133),(cp 464)]),(216,o25),(222,co #[(.str "_law_roads" 466),(.str "_law_roads" 467),(cp 468),(iv 143),(iv 2),(iv 0),(iv 0),(iv 3),(.ref 217),(.bool true),(iv 181),(.ref 218),.none,(.ref 219),(.ref 220),(.ref 221),(iv 476),(iv 143),(cp 477)]),(223,o26),(229,co #[(.str "_law_states" 479),(.str "_law_states" 480),(cp 481),(iv 152),(iv 1),(iv 0),(iv 0),(iv 3),(.ref 224),(.bool true),(iv 181),(.ref 225),.none,(.ref 226),(.ref 227),(.ref 228),(iv 487),(iv 152),(cp 488)]),(230,o27),(236,co #[(.str "_law_sends" 490),(.str "_law_sends" 491),(cp 492),(iv 160),(iv 2),(iv 0),(iv 0),(iv 3),(.ref 231),(.bool true),(iv 181),(.ref 232),.none,(.ref 233),(.ref 234),(.ref 235),(iv 498),(iv 160),(cp 499)]),(237,o28),(243,co #[(.str "_law_moves" 501),(.str "_law_moves" 502),(cp 503),(iv 166),(iv 3),(iv 0),(iv 0),(iv 3),(.ref 238),(.bool true),(iv 181),(.ref 239),.none,(.ref 240),(.ref 241),(.ref 242),(iv 515),(iv 166),(cp 516)]),(244,o29),(248,co #[(.str "_law_form" 518),(.str "_law_form" 519),(cp 520),(iv 178),(iv 1),(iv 0),(iv 0),(iv 3),(.ref 245),(.bool true),(iv 181),(.ref 246),.none,.none,.none,(.ref 247),(iv 521),(iv 178),(cp 522)]),(249,o30),(253,co #[(.str "_law_answer" 524),(.str "_law_answer" 525),(cp 526),(iv 190),(iv 4),(iv 0),(iv 0),(iv 3),(.ref 250),(.bool true),(iv 181),(.ref 251),.none,.none,.none,(.ref 252),(iv 527),(iv 190),(cp 528)]),(254,o31),(258,co #[(.str "_law_comes" 530),(.str "_law_comes" 531),(cp 532),(iv 195),(iv 2),(iv 0),(iv 0),(iv 3),(.ref 255),(.bool true),(iv 181),(.ref 256),.none,.none,.none,(.ref 257),(iv 533),(iv 195),(cp 534)]),(259,o32),(265,co #[(.str "_law_answered" 536),(.str "_law_answered" 537),(cp 538),(iv 203),(iv 3),(iv 0),(iv 0),(iv 3),(.ref 260),(.bool true),(iv 181),(.ref 261),.none,(.ref 262),(.ref 263),(.ref 264),(iv 546),(iv 203),(cp 547)]),(266,o33),(272,co #[(.str "_law_machine" 549),(.str "_law_machine" 550),(cp 551),(iv 212),(iv 2),(iv 0),(iv 0),(iv 3),(.ref 267),(.bool true),(iv 181),(.ref 268),.none,(.ref 269),(.ref 270),(.ref 271),(iv 554),(iv 212),(cp 555)]),(273,o34),(277,co #[(.str "_law_done" 557),(.str "_law_done" 558),(cp 559),(iv 214),(iv 3),(iv 0),(iv 0),(iv 3),(.ref 274),(.bool true),(iv 181),(.ref 275),.none,.none,.none,(.ref 276),(iv 560),(iv 214),(cp 561)]),(278,o35),(284,co #[(.str "_law_load" 563),(.str "_law_load" 564),(cp 565),(iv 228),(iv 2),(iv 0),(iv 0),(iv 3),(.ref 279),(.bool true),(iv 181),(.ref 280),.none,(.ref 281),(.ref 282),(.ref 283),(iv 573),(iv 228),(cp 574)]),(285,o36),(289,co #[(.str "_law_stand" 576),(.str "_law_stand" 577),(cp 578),(iv 238),(iv 2),(iv 0),(iv 0),(iv 3),(.ref 286),(.bool true),(iv 181),(.ref 287),.none,.none,.none,(.ref 288),(iv 579),(iv 238),(cp 580)]),(290,o37),(294,co #[(.str "_law_next" 582),(.str "_law_next" 583),(cp 584),(iv 247),(iv 3),(iv 0),(iv 0),(iv 3),(.ref 291),(.bool true),(iv 181),(.ref 292),.none,.none,.none,(.ref 293),(iv 585),(iv 247),(cp 586)]),(295,o38),(301,co #[(.str "_law_deeds" 588),(.str "_law_deeds" 589),(cp 590),(iv 259),(iv 4),(iv 0),(iv 0),(iv 3),(.ref 296),(.bool true),(iv 181),(.ref 297),.none,(.ref 298),(.ref 299),(.ref 300),(iv 600),(iv 259),(cp 601)]),(302,o39),(306,co #[(.str "_law_step" 603),(.str "_law_step" 604),(cp 605),(iv 268),(iv 4),(iv 0),(iv 0),(iv 3),(.ref 303),(.bool true),(iv 181),(.ref 304),.none,.none,.none,(.ref 305),(iv 606),(iv 268),(cp 607)]),(307,o40),(311,co #[(.str "law" 609),(.str "law" 610),(cp 611),(iv 282),(iv 1),(iv 0),(iv 0),(iv 3),(.ref 308),(.bool true),(iv 181),(.ref 309),.none,.none,.none,(.ref 310),(iv 612),(iv 282),(cp 613)]),(312,o41)]
def ads:List Addr:=[3,52,53,59,60,66,67,73,74,80,81,85,86,92,93,99,100,104,105,109,110,114,115,121,122,128,129,135,136,142,143,149,150,154,155,161,162,168,169,175,176,180,181,187,188,194,195,201,202,208,209,215,216,222,223,229,230,236,237,243,244,248,249,253,254,258,259,265,266,272,273,277,278,284,285,289,290,294,295,301,302,306,307,311,312]
theorem a0 (P:Params):PySem.W.nsIn (Kf P) mainGlobals "is_whole" = some (some (.ref 53)):=nofun
theorem F0 (P:Params):Fun (Kf P) "is_whole" "is_whole" s0 53 fd0:=fmk (nofun) (nofun) (nofun)
theorem a1 (P:Params):PySem.W.nsIn (Kf P) mainGlobals "is_below" = some (some (.ref 60)):=nofun
theorem F1 (P:Params):Fun (Kf P) "is_below" "is_below" s1 60 fd1:=fmk (nofun) (nofun) (nofun)
theorem a2 (P:Params):PySem.W.nsIn (Kf P) mainGlobals "is_state" = some (some (.ref 67)):=nofun
theorem F2 (P:Params):Fun (Kf P) "is_state" "is_state" s2 67 fd2:=fmk (nofun) (nofun) (nofun)
theorem a3 (P:Params):PySem.W.nsIn (Kf P) mainGlobals "is_sign" = some (some (.ref 74)):=nofun
theorem F3 (P:Params):Fun (Kf P) "is_sign" "is_sign" s3 74 fd3:=fmk (nofun) (nofun) (nofun)
theorem a4 (P:Params):PySem.W.nsIn (Kf P) mainGlobals "is_tuple_of" = some (some (.ref 81)):=nofun
theorem F4 (P:Params):Fun (Kf P) "is_tuple_of" "is_tuple_of" s4 81 fd4:=fmk (nofun) (nofun) (nofun)
theorem a5 (P:Params):PySem.W.nsIn (Kf P) mainGlobals "is_rising" = some (some (.ref 86)):=nofun
theorem F5 (P:Params):Fun (Kf P) "is_rising" "is_rising" s5 86 fd5:=fmk (nofun) (nofun) (nofun)
theorem a6 (P:Params):PySem.W.nsIn (Kf P) mainGlobals "answer" = some (some (.ref 93)):=nofun
theorem F6 (P:Params):Fun (Kf P) "answer" "answer" s6 93 fd6:=fmk (nofun) (nofun) (nofun)
theorem a7 (P:Params):PySem.W.nsIn (Kf P) mainGlobals "right_states" = some (some (.ref 105)):=nofun
theorem F7 (P:Params):Fun (Kf P) "right_states" "right_states" s7 105 fd7:=fmk (nofun) (nofun) (nofun)
theorem a8 (P:Params):PySem.W.nsIn (Kf P) mainGlobals "is_letter" = some (some (.ref 122)):=nofun
theorem F8 (P:Params):Fun (Kf P) "is_letter" "is_letter" s8 122 fd8:=fmk (nofun) (nofun) (nofun)
theorem a9 (P:Params):PySem.W.nsIn (Kf P) mainGlobals "right_letters" = some (some (.ref 115)):=nofun
theorem F9 (P:Params):Fun (Kf P) "right_letters" "right_letters" s9 115 fd9:=fmk (nofun) (nofun) (nofun)
theorem a10 (P:Params):PySem.W.nsIn (Kf P) mainGlobals "right_roads" = some (some (.ref 110)):=nofun
theorem F10 (P:Params):Fun (Kf P) "right_roads" "right_roads" s10 110 fd10:=fmk (nofun) (nofun) (nofun)
theorem a11 (P:Params):PySem.W.nsIn (Kf P) mainGlobals "right_stand" = some (some (.ref 100)):=nofun
theorem F11 (P:Params):Fun (Kf P) "right_stand" "right_stand" s11 100 fd11:=fmk (nofun) (nofun) (nofun)
theorem a12 (P:Params):PySem.W.nsIn (Kf P) mainGlobals "waits" = some (some (.ref 129)):=nofun
theorem F12 (P:Params):Fun (Kf P) "waits" "waits" s12 129 fd12:=fmk (nofun) (nofun) (nofun)
theorem a13 (P:Params):PySem.W.nsIn (Kf P) mainGlobals "is_plain" = some (some (.ref 136)):=nofun
theorem F13 (P:Params):Fun (Kf P) "is_plain" "is_plain" s13 136 fd13:=fmk (nofun) (nofun) (nofun)
theorem a14 (P:Params):PySem.W.nsIn (Kf P) mainGlobals "machine_of" = some (some (.ref 143)):=nofun
theorem F14 (P:Params):Fun (Kf P) "machine_of" "machine_of" s14 143 fd14:=fmk (nofun) (nofun) (nofun)
theorem a15 (P:Params):PySem.W.nsIn (Kf P) mainGlobals "may_come" = some (some (.ref 155)):=nofun
theorem F15 (P:Params):Fun (Kf P) "may_come" "may_come" s15 155 fd15:=fmk (nofun) (nofun) (nofun)
theorem a16 (P:Params):PySem.W.nsIn (Kf P) mainGlobals "can" = some (some (.ref 150)):=nofun
theorem F16 (P:Params):Fun (Kf P) "can" "can" s16 150 fd16:=fmk (nofun) (nofun) (nofun)
theorem a17 (P:Params):PySem.W.nsIn (Kf P) mainGlobals "cause_of" = some (some (.ref 176)):=nofun
theorem F17 (P:Params):Fun (Kf P) "cause_of" "cause_of" s17 176 fd17:=fmk (nofun) (nofun) (nofun)
theorem a18 (P:Params):PySem.W.nsIn (Kf P) mainGlobals "less_letter" = some (some (.ref 181)):=nofun
theorem F18 (P:Params):Fun (Kf P) "less_letter" "less_letter" s18 181 fd18:=fmk (nofun) (nofun) (nofun)
theorem a19 (P:Params):PySem.W.nsIn (Kf P) mainGlobals "more_letter" = some (some (.ref 188)):=nofun
theorem F19 (P:Params):Fun (Kf P) "more_letter" "more_letter" s19 188 fd19:=fmk (nofun) (nofun) (nofun)
theorem a20 (P:Params):PySem.W.nsIn (Kf P) mainGlobals "outcome" = some (some (.ref 169)):=nofun
theorem F20 (P:Params):Fun (Kf P) "outcome" "outcome" s20 169 fd20:=fmk (nofun) (nofun) (nofun)
theorem a21 (P:Params):PySem.W.nsIn (Kf P) mainGlobals "done" = some (some (.ref 162)):=nofun
theorem F21 (P:Params):Fun (Kf P) "done" "done" s21 162 fd21:=fmk (nofun) (nofun) (nofun)
theorem a22 (P:Params):PySem.W.nsIn (Kf P) mainGlobals "steps" = some (some (.ref 202)):=nofun
theorem F22 (P:Params):Fun (Kf P) "steps" "steps" s22 202 fd22:=fmk (nofun) (nofun) (nofun)
theorem a23 (P:Params):PySem.W.nsIn (Kf P) mainGlobals "run" = some (some (.ref 195)):=nofun
theorem F23 (P:Params):Fun (Kf P) "run" "run" s23 195 fd23:=fmk (nofun) (nofun) (nofun)
theorem a24 (P:Params):PySem.W.nsIn (Kf P) mainGlobals "_law_well" = some (some (.ref 209)):=nofun
theorem F24 (P:Params):Fun (Kf P) "_law_well" "_law_well" s24 209 fd24:=fmk (nofun) (nofun) (nofun)
theorem a25 (P:Params):PySem.W.nsIn (Kf P) mainGlobals "_law_draw" = some (some (.ref 216)):=nofun
theorem F25 (P:Params):Fun (Kf P) "_law_draw" "_law_draw" s25 216 fd25:=fmk (nofun) (nofun) (nofun)
theorem a26 (P:Params):PySem.W.nsIn (Kf P) mainGlobals "_law_roads" = some (some (.ref 223)):=nofun
theorem F26 (P:Params):Fun (Kf P) "_law_roads" "_law_roads" s26 223 fd26:=fmk (nofun) (nofun) (nofun)
theorem a27 (P:Params):PySem.W.nsIn (Kf P) mainGlobals "_law_states" = some (some (.ref 230)):=nofun
theorem F27 (P:Params):Fun (Kf P) "_law_states" "_law_states" s27 230 fd27:=fmk (nofun) (nofun) (nofun)
theorem a28 (P:Params):PySem.W.nsIn (Kf P) mainGlobals "_law_sends" = some (some (.ref 237)):=nofun
theorem F28 (P:Params):Fun (Kf P) "_law_sends" "_law_sends" s28 237 fd28:=fmk (nofun) (nofun) (nofun)
theorem a29 (P:Params):PySem.W.nsIn (Kf P) mainGlobals "_law_moves" = some (some (.ref 244)):=nofun
theorem F29 (P:Params):Fun (Kf P) "_law_moves" "_law_moves" s29 244 fd29:=fmk (nofun) (nofun) (nofun)
theorem a30 (P:Params):PySem.W.nsIn (Kf P) mainGlobals "_law_form" = some (some (.ref 249)):=nofun
theorem F30 (P:Params):Fun (Kf P) "_law_form" "_law_form" s30 249 fd30:=fmk (nofun) (nofun) (nofun)
theorem a31 (P:Params):PySem.W.nsIn (Kf P) mainGlobals "_law_answer" = some (some (.ref 254)):=nofun
theorem F31 (P:Params):Fun (Kf P) "_law_answer" "_law_answer" s31 254 fd31:=fmk (nofun) (nofun) (nofun)
theorem a32 (P:Params):PySem.W.nsIn (Kf P) mainGlobals "_law_comes" = some (some (.ref 259)):=nofun
theorem F32 (P:Params):Fun (Kf P) "_law_comes" "_law_comes" s32 259 fd32:=fmk (nofun) (nofun) (nofun)
theorem a33 (P:Params):PySem.W.nsIn (Kf P) mainGlobals "_law_answered" = some (some (.ref 266)):=nofun
theorem F33 (P:Params):Fun (Kf P) "_law_answered" "_law_answered" s33 266 fd33:=fmk (nofun) (nofun) (nofun)
theorem a34 (P:Params):PySem.W.nsIn (Kf P) mainGlobals "_law_machine" = some (some (.ref 273)):=nofun
theorem F34 (P:Params):Fun (Kf P) "_law_machine" "_law_machine" s34 273 fd34:=fmk (nofun) (nofun) (nofun)
theorem a35 (P:Params):PySem.W.nsIn (Kf P) mainGlobals "_law_done" = some (some (.ref 278)):=nofun
theorem F35 (P:Params):Fun (Kf P) "_law_done" "_law_done" s35 278 fd35:=fmk (nofun) (nofun) (nofun)
theorem a36 (P:Params):PySem.W.nsIn (Kf P) mainGlobals "_law_load" = some (some (.ref 285)):=nofun
theorem F36 (P:Params):Fun (Kf P) "_law_load" "_law_load" s36 285 fd36:=fmk (nofun) (nofun) (nofun)
theorem a37 (P:Params):PySem.W.nsIn (Kf P) mainGlobals "_law_stand" = some (some (.ref 290)):=nofun
theorem F37 (P:Params):Fun (Kf P) "_law_stand" "_law_stand" s37 290 fd37:=fmk (nofun) (nofun) (nofun)
theorem a38 (P:Params):PySem.W.nsIn (Kf P) mainGlobals "_law_next" = some (some (.ref 295)):=nofun
theorem F38 (P:Params):Fun (Kf P) "_law_next" "_law_next" s38 295 fd38:=fmk (nofun) (nofun) (nofun)
theorem a39 (P:Params):PySem.W.nsIn (Kf P) mainGlobals "_law_deeds" = some (some (.ref 302)):=nofun
theorem F39 (P:Params):Fun (Kf P) "_law_deeds" "_law_deeds" s39 302 fd39:=fmk (nofun) (nofun) (nofun)
theorem a40 (P:Params):PySem.W.nsIn (Kf P) mainGlobals "_law_step" = some (some (.ref 307)):=nofun
theorem F40 (P:Params):Fun (Kf P) "_law_step" "_law_step" s40 307 fd40:=fmk (nofun) (nofun) (nofun)
theorem a41 (P:Params):PySem.W.nsIn (Kf P) mainGlobals "law" = some (some (.ref 312)):=nofun
theorem F41 (P:Params):Fun (Kf P) "law" "law" s41 312 fd41:=fmk (nofun) (nofun) (nofun)
theorem nob {P:Params} {h:Heap} {mg:Str->Option Value} (X:(Kf P).In h) (G:h.Ns mainGlobals mg):∀ b∈bltNames,mg b=none:=by
 have z:bltNames.all (fun b=>match PySem.W.nsIn (Kf P) mainGlobals b with | some none=>true | _=>false)=true:=nofun
 intro b hb
 have q:=List.all_eq_true.mp z b hb
 split at q
 ·rename_i e;exact PySem.W.mg_none_of X G e
 ·cases q
theorem all_mk {l : PySem.W.OpenLaw} {w : World} {h : Heap} {mg : Str -> Option Value} {fa : Addr} (X : (Kf w.params).In h) (G : h.Ns mainGlobals mg) (hfa : mg "law" = some (.ref fa))
    : ∃ fd:FuncData,(∀ (s:Shared) (v:Value),BindsTo s fd ⟨[v],[]⟩ [("_law_script",v)])/\∀ base:Heap,(Kf w.params).In base->base.Ns mainGlobals mg->FnOk l.prog w (Kf w.params) mg base CX0 42 fa fd ["_law_script"] (spD (Kf w.params) 1 f41):=by
  have e:=hfa.symm.trans (PySem.W.mg_of X G (a41 w.params))
  cases e
  have hblt:=nob X G
  have hgs:=gob_of (gs:=gs) X G (nofun)
  refine ⟨fd41,fun s v=>.of_eq rfl,fun base _ _=>?_⟩
  have A0:All l.prog w (Kf w.params) mg base 0 (fs.take 0) []:=All.nil
  have A1:All l.prog w (Kf w.params) mg base 1 (fs.take 1) [f0]:=(A0.mono (Nat.le_succ _)).snoc rfl (def_is (F0 w.params) sc0 rfl ch0 hblt hgs (PySem.W.mg_of X G (a0 w.params)) ((F0 w.params).binds (ps:=["thing"]) fun _ _ _ _ _ _ us hl=>len1 (fun _=>rfl) us hl) A0)
  have A2:All l.prog w (Kf w.params) mg base 2 (fs.take 2) [f0,f1]:=(A1.mono (Nat.le_succ _)).snoc rfl (def_is (F1 w.params) sc1 rfl ch1 hblt hgs (PySem.W.mg_of X G (a1 w.params)) ((F1 w.params).binds (ps:=["thing","bound"]) fun _ _ _ _ _ _ us hl=>len2 (fun _ _=>rfl) us hl) A1)
  have A3:All l.prog w (Kf w.params) mg base 3 (fs.take 3) [f0,f1,f2]:=(A2.mono (Nat.le_succ _)).snoc rfl (def_is (F2 w.params) sc2 rfl ch2 hblt hgs (PySem.W.mg_of X G (a2 w.params)) ((F2 w.params).binds (ps:=["thing"]) fun _ _ _ _ _ _ us hl=>len1 (fun _=>rfl) us hl) A2)
  have A4:All l.prog w (Kf w.params) mg base 4 (fs.take 4) [f0,f1,f2,f3]:=(A3.mono (Nat.le_succ _)).snoc rfl (def_is (F3 w.params) sc3 rfl ch3 hblt hgs (PySem.W.mg_of X G (a3 w.params)) ((F3 w.params).binds (ps:=["thing"]) fun _ _ _ _ _ _ us hl=>len1 (fun _=>rfl) us hl) A3)
  have A5:All l.prog w (Kf w.params) mg base 5 (fs.take 5) [f0,f1,f2,f3,f4]:=(A4.mono (Nat.le_succ _)).snoc rfl (def_is (F4 w.params) sc4 rfl ch4 hblt hgs (PySem.W.mg_of X G (a4 w.params)) ((F4 w.params).binds (ps:=["thing","many"]) fun _ _ _ _ _ _ us hl=>len2 (fun _ _=>rfl) us hl) A4)
  have A6:All l.prog w (Kf w.params) mg base 6 (fs.take 6) [f0,f1,f2,f3,f4,f5]:=(A5.mono (Nat.le_succ _)).snoc rfl (def_is (F5 w.params) sc5 rfl ch5 hblt hgs (PySem.W.mg_of X G (a5 w.params)) ((F5 w.params).binds (ps:=["numbers"]) fun _ _ _ _ _ _ us hl=>len1 (fun _=>rfl) us hl) A5)
  have A7:All l.prog w (Kf w.params) mg base 7 (fs.take 7) [f0,f1,f2,f3,f4,f5,f6]:=(A6.mono (Nat.le_succ _)).snoc rfl (def_is (F6 w.params) sc6 rfl ch6 hblt hgs (PySem.W.mg_of X G (a6 w.params)) ((F6 w.params).binds (ps:=["form","m","state","cause"]) fun _ _ _ _ _ _ us hl=>len4 (fun _ _ _ _=>rfl) us hl) A6)
  have A8:All l.prog w (Kf w.params) mg base 8 (fs.take 8) [f0,f1,f2,f3,f4,f5,f6,f7]:=(A7.mono (Nat.le_succ _)).snoc rfl (def_is (F7 w.params) sc7 rfl ch7 hblt hgs (PySem.W.mg_of X G (a7 w.params)) ((F7 w.params).binds (ps:=["form","thing"]) fun _ _ _ _ _ _ us hl=>len2 (fun _ _=>rfl) us hl) A7)
  have A9:All l.prog w (Kf w.params) mg base 9 (fs.take 9) [f0,f1,f2,f3,f4,f5,f6,f7,f8]:=(A8.mono (Nat.le_succ _)).snoc rfl (def_is (F8 w.params) sc8 rfl ch8 hblt hgs (PySem.W.mg_of X G (a8 w.params)) ((F8 w.params).binds (ps:=["thing","sent"]) fun _ _ _ _ _ _ us hl=>len2 (fun _ _=>rfl) us hl) A8)
  have A10:All l.prog w (Kf w.params) mg base 10 (fs.take 10) [f0,f1,f2,f3,f4,f5,f6,f7,f8,f9]:=(A9.mono (Nat.le_succ _)).snoc rfl (def_is (F9 w.params) sc9 rfl ch9 hblt hgs (PySem.W.mg_of X G (a9 w.params)) ((F9 w.params).binds (ps:=["order","thing"]) fun _ _ _ _ _ _ us hl=>len2 (fun _ _=>rfl) us hl) A9)
  have A11:All l.prog w (Kf w.params) mg base 11 (fs.take 11) [f0,f1,f2,f3,f4,f5,f6,f7,f8,f9,f10]:=(A10.mono (Nat.le_succ _)).snoc rfl (def_is (F10 w.params) sc10 rfl ch10 hblt hgs (PySem.W.mg_of X G (a10 w.params)) ((F10 w.params).binds (ps:=["form","thing"]) fun _ _ _ _ _ _ us hl=>len2 (fun _ _=>rfl) us hl) A10)
  have A12:All l.prog w (Kf w.params) mg base 12 (fs.take 12) [f0,f1,f2,f3,f4,f5,f6,f7,f8,f9,f10,f11]:=(A11.mono (Nat.le_succ _)).snoc rfl (def_is (F11 w.params) sc11 rfl ch11 hblt hgs (PySem.W.mg_of X G (a11 w.params)) ((F11 w.params).binds (ps:=["form","thing"]) fun _ _ _ _ _ _ us hl=>len2 (fun _ _=>rfl) us hl) A11)
  have A13:All l.prog w (Kf w.params) mg base 13 (fs.take 13) [f0,f1,f2,f3,f4,f5,f6,f7,f8,f9,f10,f11,f12]:=(A12.mono (Nat.le_succ _)).snoc rfl (def_is (F12 w.params) sc12 rfl ch12 hblt hgs (PySem.W.mg_of X G (a12 w.params)) ((F12 w.params).binds (ps:=["stand","road"]) fun _ _ _ _ _ _ us hl=>len2 (fun _ _=>rfl) us hl) A12)
  have A14:All l.prog w (Kf w.params) mg base 14 (fs.take 14) [f0,f1,f2,f3,f4,f5,f6,f7,f8,f9,f10,f11,f12,f13]:=(A13.mono (Nat.le_succ _)).snoc rfl (def_is (F13 w.params) sc13 rfl ch13 hblt hgs (PySem.W.mg_of X G (a13 w.params)) ((F13 w.params).binds (ps:=["form","thing"]) fun _ _ _ _ _ _ us hl=>len2 (fun _ _=>rfl) us hl) A13)
  have A15:All l.prog w (Kf w.params) mg base 15 (fs.take 15) [f0,f1,f2,f3,f4,f5,f6,f7,f8,f9,f10,f11,f12,f13,f14]:=(A14.mono (Nat.le_succ _)).snoc rfl (def_is (F14 w.params) sc14 rfl ch14 hblt hgs (PySem.W.mg_of X G (a14 w.params)) ((F14 w.params).binds (ps:=["form","deed"]) fun _ _ _ _ _ _ us hl=>len2 (fun _ _=>rfl) us hl) A14)
  have A16:All l.prog w (Kf w.params) mg base 16 (fs.take 16) [f0,f1,f2,f3,f4,f5,f6,f7,f8,f9,f10,f11,f12,f13,f14,f15]:=(A15.mono (Nat.le_succ _)).snoc rfl (def_is (F15 w.params) sc15 rfl ch15 hblt hgs (PySem.W.mg_of X G (a15 w.params)) ((F15 w.params).binds (ps:=["form","stand","road"]) fun _ _ _ _ _ _ us hl=>len3 (fun _ _ _=>rfl) us hl) A15)
  have A17:All l.prog w (Kf w.params) mg base 17 (fs.take 17) [f0,f1,f2,f3,f4,f5,f6,f7,f8,f9,f10,f11,f12,f13,f14,f15,f16]:=(A16.mono (Nat.le_succ _)).snoc rfl (def_is (F16 w.params) sc16 rfl ch16 hblt hgs (PySem.W.mg_of X G (a16 w.params)) ((F16 w.params).binds (ps:=["form","stand","thing"]) fun _ _ _ _ _ _ us hl=>len3 (fun _ _ _=>rfl) us hl) A16)
  have A18:All l.prog w (Kf w.params) mg base 18 (fs.take 18) [f0,f1,f2,f3,f4,f5,f6,f7,f8,f9,f10,f11,f12,f13,f14,f15,f16,f17]:=(A17.mono (Nat.le_succ _)).snoc rfl (def_is (F17 w.params) sc17 rfl ch17 hblt hgs (PySem.W.mg_of X G (a17 w.params)) ((F17 w.params).binds (ps:=["stand","deed"]) fun _ _ _ _ _ _ us hl=>len2 (fun _ _=>rfl) us hl) A17)
  have A19:All l.prog w (Kf w.params) mg base 19 (fs.take 19) [f0,f1,f2,f3,f4,f5,f6,f7,f8,f9,f10,f11,f12,f13,f14,f15,f16,f17,f18]:=(A18.mono (Nat.le_succ _)).snoc rfl (def_is (F18 w.params) sc18 rfl ch18 hblt hgs (PySem.W.mg_of X G (a18 w.params)) ((F18 w.params).binds (ps:=["letters","k"]) fun _ _ _ _ _ _ us hl=>len2 (fun _ _=>rfl) us hl) A18)
  have A20:All l.prog w (Kf w.params) mg base 20 (fs.take 20) [f0,f1,f2,f3,f4,f5,f6,f7,f8,f9,f10,f11,f12,f13,f14,f15,f16,f17,f18,f19]:=(A19.mono (Nat.le_succ _)).snoc rfl (def_is (F19 w.params) sc19 rfl ch19 hblt hgs (PySem.W.mg_of X G (a19 w.params)) ((F19 w.params).binds (ps:=["letters","sign"]) fun _ _ _ _ _ _ us hl=>len2 (fun _ _=>rfl) us hl) A19)
  have A21:All l.prog w (Kf w.params) mg base 21 (fs.take 21) [f0,f1,f2,f3,f4,f5,f6,f7,f8,f9,f10,f11,f12,f13,f14,f15,f16,f17,f18,f19,f20]:=(A20.mono (Nat.le_succ _)).snoc rfl (def_is (F20 w.params) sc20 rfl ch20 hblt hgs (PySem.W.mg_of X G (a20 w.params)) ((F20 w.params).binds (ps:=["form","stand","deed"]) fun _ _ _ _ _ _ us hl=>len3 (fun _ _ _=>rfl) us hl) A20)
  have A22:All l.prog w (Kf w.params) mg base 22 (fs.take 22) [f0,f1,f2,f3,f4,f5,f6,f7,f8,f9,f10,f11,f12,f13,f14,f15,f16,f17,f18,f19,f20,f21]:=(A21.mono (Nat.le_succ _)).snoc rfl (def_is (F21 w.params) sc21 rfl ch21 hblt hgs (PySem.W.mg_of X G (a21 w.params)) ((F21 w.params).binds (ps:=["form","stand","thing"]) fun _ _ _ _ _ _ us hl=>len3 (fun _ _ _=>rfl) us hl) A21)
  have A23:All l.prog w (Kf w.params) mg base 23 (fs.take 23) [f0,f1,f2,f3,f4,f5,f6,f7,f8,f9,f10,f11,f12,f13,f14,f15,f16,f17,f18,f19,f20,f21,f22]:=(A22.mono (Nat.le_succ _)).snoc rfl (def_is (F22 w.params) sc22 rfl ch22 hblt hgs (PySem.W.mg_of X G (a22 w.params)) ((F22 w.params).binds (ps:=["form","stand","deeds"]) fun _ _ _ _ _ _ us hl=>len3 (fun _ _ _=>rfl) us hl) A22)
  have A24:All l.prog w (Kf w.params) mg base 24 (fs.take 24) [f0,f1,f2,f3,f4,f5,f6,f7,f8,f9,f10,f11,f12,f13,f14,f15,f16,f17,f18,f19,f20,f21,f22,f23]:=(A23.mono (Nat.le_succ _)).snoc rfl (def_is (F23 w.params) sc23 rfl ch23 hblt hgs (PySem.W.mg_of X G (a23 w.params)) ((F23 w.params).binds (ps:=["form","stand","deeds"]) fun _ _ _ _ _ _ us hl=>len3 (fun _ _ _=>rfl) us hl) A23)
  have A25:All l.prog w (Kf w.params) mg base 25 (fs.take 25) [f0,f1,f2,f3,f4,f5,f6,f7,f8,f9,f10,f11,f12,f13,f14,f15,f16,f17,f18,f19,f20,f21,f22,f23,f24]:=(A24.mono (Nat.le_succ _)).snoc rfl (def_is (F24 w.params) sc24 rfl ch24 hblt hgs (PySem.W.mg_of X G (a24 w.params)) ((F24 w.params).binds (ps:=["_law_script","_law_k"]) fun _ _ _ _ _ _ us hl=>len2 (fun _ _=>rfl) us hl) A24)
  have A26:All l.prog w (Kf w.params) mg base 26 (fs.take 26) [f0,f1,f2,f3,f4,f5,f6,f7,f8,f9,f10,f11,f12,f13,f14,f15,f16,f17,f18,f19,f20,f21,f22,f23,f24,f25]:=(A25.mono (Nat.le_succ _)).snoc rfl (def_is (F25 w.params) sc25 rfl ch25 hblt hgs (PySem.W.mg_of X G (a25 w.params)) ((F25 w.params).binds (ps:=["_law_well_here","_law_many"]) fun _ _ _ _ _ _ us hl=>len2 (fun _ _=>rfl) us hl) A25)
  have A27:All l.prog w (Kf w.params) mg base 27 (fs.take 27) [f0,f1,f2,f3,f4,f5,f6,f7,f8,f9,f10,f11,f12,f13,f14,f15,f16,f17,f18,f19,f20,f21,f22,f23,f24,f25,f26]:=(A26.mono (Nat.le_succ _)).snoc rfl (def_is (F26 w.params) sc26 rfl ch26 hblt hgs (PySem.W.mg_of X G (a26 w.params)) ((F26 w.params).binds (ps:=["_law_well_here","_law_machines"]) fun _ _ _ _ _ _ us hl=>len2 (fun _ _=>rfl) us hl) A26)
  have A28:All l.prog w (Kf w.params) mg base 28 (fs.take 28) [f0,f1,f2,f3,f4,f5,f6,f7,f8,f9,f10,f11,f12,f13,f14,f15,f16,f17,f18,f19,f20,f21,f22,f23,f24,f25,f26,f27]:=(A27.mono (Nat.le_succ _)).snoc rfl (def_is (F27 w.params) sc27 rfl ch27 hblt hgs (PySem.W.mg_of X G (a27 w.params)) ((F27 w.params).binds (ps:=["_law_well_here"]) fun _ _ _ _ _ _ us hl=>len1 (fun _=>rfl) us hl) A27)
  have A29:All l.prog w (Kf w.params) mg base 29 (fs.take 29) [f0,f1,f2,f3,f4,f5,f6,f7,f8,f9,f10,f11,f12,f13,f14,f15,f16,f17,f18,f19,f20,f21,f22,f23,f24,f25,f26,f27,f28]:=(A28.mono (Nat.le_succ _)).snoc rfl (def_is (F28 w.params) sc28 rfl ch28 hblt hgs (PySem.W.mg_of X G (a28 w.params)) ((F28 w.params).binds (ps:=["_law_well_here","_law_ways"]) fun _ _ _ _ _ _ us hl=>len2 (fun _ _=>rfl) us hl) A28)
  have A30:All l.prog w (Kf w.params) mg base 30 (fs.take 30) [f0,f1,f2,f3,f4,f5,f6,f7,f8,f9,f10,f11,f12,f13,f14,f15,f16,f17,f18,f19,f20,f21,f22,f23,f24,f25,f26,f27,f28,f29]:=(A29.mono (Nat.le_succ _)).snoc rfl (def_is (F29 w.params) sc29 rfl ch29 hblt hgs (PySem.W.mg_of X G (a29 w.params)) ((F29 w.params).binds (ps:=["_law_well_here","_law_some","_law_ways"]) fun _ _ _ _ _ _ us hl=>len3 (fun _ _ _=>rfl) us hl) A29)
  have A31:All l.prog w (Kf w.params) mg base 31 (fs.take 31) [f0,f1,f2,f3,f4,f5,f6,f7,f8,f9,f10,f11,f12,f13,f14,f15,f16,f17,f18,f19,f20,f21,f22,f23,f24,f25,f26,f27,f28,f29,f30]:=(A30.mono (Nat.le_succ _)).snoc rfl (def_is (F30 w.params) sc30 rfl ch30 hblt hgs (PySem.W.mg_of X G (a30 w.params)) ((F30 w.params).binds (ps:=["_law_script"]) fun _ _ _ _ _ _ us hl=>len1 (fun _=>rfl) us hl) A30)
  have A32:All l.prog w (Kf w.params) mg base 32 (fs.take 32) [f0,f1,f2,f3,f4,f5,f6,f7,f8,f9,f10,f11,f12,f13,f14,f15,f16,f17,f18,f19,f20,f21,f22,f23,f24,f25,f26,f27,f28,f29,f30,f31]:=(A31.mono (Nat.le_succ _)).snoc rfl (def_is (F31 w.params) sc31 rfl ch31 hblt hgs (PySem.W.mg_of X G (a31 w.params)) ((F31 w.params).binds (ps:=["_law_form_here","_law_m","_law_state","_law_cause"]) fun _ _ _ _ _ _ us hl=>len4 (fun _ _ _ _=>rfl) us hl) A31)
  have A33:All l.prog w (Kf w.params) mg base 33 (fs.take 33) [f0,f1,f2,f3,f4,f5,f6,f7,f8,f9,f10,f11,f12,f13,f14,f15,f16,f17,f18,f19,f20,f21,f22,f23,f24,f25,f26,f27,f28,f29,f30,f31,f32]:=(A32.mono (Nat.le_succ _)).snoc rfl (def_is (F32 w.params) sc32 rfl ch32 hblt hgs (PySem.W.mg_of X G (a32 w.params)) ((F32 w.params).binds (ps:=["_law_form_here","_law_stand_here"]) fun _ _ _ _ _ _ us hl=>len2 (fun _ _=>rfl) us hl) A32)
  have A34:All l.prog w (Kf w.params) mg base 34 (fs.take 34) [f0,f1,f2,f3,f4,f5,f6,f7,f8,f9,f10,f11,f12,f13,f14,f15,f16,f17,f18,f19,f20,f21,f22,f23,f24,f25,f26,f27,f28,f29,f30,f31,f32,f33]:=(A33.mono (Nat.le_succ _)).snoc rfl (def_is (F33 w.params) sc33 rfl ch33 hblt hgs (PySem.W.mg_of X G (a33 w.params)) ((F33 w.params).binds (ps:=["_law_form_here","_law_stand_here","_law_deed"]) fun _ _ _ _ _ _ us hl=>len3 (fun _ _ _=>rfl) us hl) A33)
  have A35:All l.prog w (Kf w.params) mg base 35 (fs.take 35) [f0,f1,f2,f3,f4,f5,f6,f7,f8,f9,f10,f11,f12,f13,f14,f15,f16,f17,f18,f19,f20,f21,f22,f23,f24,f25,f26,f27,f28,f29,f30,f31,f32,f33,f34]:=(A34.mono (Nat.le_succ _)).snoc rfl (def_is (F34 w.params) sc34 rfl ch34 hblt hgs (PySem.W.mg_of X G (a34 w.params)) ((F34 w.params).binds (ps:=["_law_form_here","_law_deed"]) fun _ _ _ _ _ _ us hl=>len2 (fun _ _=>rfl) us hl) A34)
  have A36:All l.prog w (Kf w.params) mg base 36 (fs.take 36) [f0,f1,f2,f3,f4,f5,f6,f7,f8,f9,f10,f11,f12,f13,f14,f15,f16,f17,f18,f19,f20,f21,f22,f23,f24,f25,f26,f27,f28,f29,f30,f31,f32,f33,f34,f35]:=(A35.mono (Nat.le_succ _)).snoc rfl (def_is (F35 w.params) sc35 rfl ch35 hblt hgs (PySem.W.mg_of X G (a35 w.params)) ((F35 w.params).binds (ps:=["_law_form_here","_law_stand_here","_law_deed"]) fun _ _ _ _ _ _ us hl=>len3 (fun _ _ _=>rfl) us hl) A35)
  have A37:All l.prog w (Kf w.params) mg base 37 (fs.take 37) [f0,f1,f2,f3,f4,f5,f6,f7,f8,f9,f10,f11,f12,f13,f14,f15,f16,f17,f18,f19,f20,f21,f22,f23,f24,f25,f26,f27,f28,f29,f30,f31,f32,f33,f34,f35,f36]:=(A36.mono (Nat.le_succ _)).snoc rfl (def_is (F36 w.params) sc36 rfl ch36 hblt hgs (PySem.W.mg_of X G (a36 w.params)) ((F36 w.params).binds (ps:=["_law_well_here","_law_order"]) fun _ _ _ _ _ _ us hl=>len2 (fun _ _=>rfl) us hl) A36)
  have A38:All l.prog w (Kf w.params) mg base 38 (fs.take 38) [f0,f1,f2,f3,f4,f5,f6,f7,f8,f9,f10,f11,f12,f13,f14,f15,f16,f17,f18,f19,f20,f21,f22,f23,f24,f25,f26,f27,f28,f29,f30,f31,f32,f33,f34,f35,f36,f37]:=(A37.mono (Nat.le_succ _)).snoc rfl (def_is (F37 w.params) sc37 rfl ch37 hblt hgs (PySem.W.mg_of X G (a37 w.params)) ((F37 w.params).binds (ps:=["_law_script","_law_form_here"]) fun _ _ _ _ _ _ us hl=>len2 (fun _ _=>rfl) us hl) A37)
  have A39:All l.prog w (Kf w.params) mg base 39 (fs.take 39) [f0,f1,f2,f3,f4,f5,f6,f7,f8,f9,f10,f11,f12,f13,f14,f15,f16,f17,f18,f19,f20,f21,f22,f23,f24,f25,f26,f27,f28,f29,f30,f31,f32,f33,f34,f35,f36,f37,f38]:=(A38.mono (Nat.le_succ _)).snoc rfl (def_is (F38 w.params) sc38 rfl ch38 hblt hgs (PySem.W.mg_of X G (a38 w.params)) ((F38 w.params).binds (ps:=["_law_well_here","_law_form_here","_law_stand_here"]) fun _ _ _ _ _ _ us hl=>len3 (fun _ _ _=>rfl) us hl) A38)
  have A40:All l.prog w (Kf w.params) mg base 40 (fs.take 40) [f0,f1,f2,f3,f4,f5,f6,f7,f8,f9,f10,f11,f12,f13,f14,f15,f16,f17,f18,f19,f20,f21,f22,f23,f24,f25,f26,f27,f28,f29,f30,f31,f32,f33,f34,f35,f36,f37,f38,f39]:=(A39.mono (Nat.le_succ _)).snoc rfl (def_is (F39 w.params) sc39 rfl ch39 hblt hgs (PySem.W.mg_of X G (a39 w.params)) ((F39 w.params).binds (ps:=["_law_script","_law_form_here","_law_stand_here","_law_most"]) fun _ _ _ _ _ _ us hl=>len4 (fun _ _ _ _=>rfl) us hl) A39)
  have A41:All l.prog w (Kf w.params) mg base 41 (fs.take 41) [f0,f1,f2,f3,f4,f5,f6,f7,f8,f9,f10,f11,f12,f13,f14,f15,f16,f17,f18,f19,f20,f21,f22,f23,f24,f25,f26,f27,f28,f29,f30,f31,f32,f33,f34,f35,f36,f37,f38,f39,f40]:=(A40.mono (Nat.le_succ _)).snoc rfl (def_is (F40 w.params) sc40 rfl ch40 hblt hgs (PySem.W.mg_of X G (a40 w.params)) ((F40 w.params).binds (ps:=["_law_form_here","_law_stand_here","_law_deed","_law_lives"]) fun _ _ _ _ _ _ us hl=>len4 (fun _ _ _ _=>rfl) us hl) A40)
  exact def_ok (F41 w.params) sc41 rfl ch41 hblt hgs fun i y m e=>by
    obtain ⟨F,a,b⟩:=A41 i y m e
    obtain ⟨f,fd,ps,c⟩:=b.is
    have:tab [f0,f1,f2,f3,f4,f5,f6,f7,f8,f9,f10,f11,f12,f13,f14,f15,f16,f17,f18,f19,f20,f21,f22,f23,f24,f25,f26,f27,f28,f29,f30,f31,f32,f33,f34,f35,f36,f37,f38,f39,f40] i=F:=by funext ds M;unfold tab;rw [a]
    rw [this]
    exact ⟨f,fd,ps,c⟩
end
theorem scr_ls {K:PySem.W.Frag} {H:Hp} {a:Addr} {xs:List V} (hO:Only H) (h:SqL K H a xs):ScrL K H a xs:=by
 rcases h with (h | ⟨o,h⟩) | h
 ·rcases hO a with q | ⟨o,ys,q⟩
  ·rw [q] at h;cases h
  ·rw [q] at h;cases h
 ·exact .inl ⟨o,h⟩
 ·exact .inr h
theorem ints_rds {K:PySem.W.Frag} {H:Hp} {ads:List Addr}:∀ (ns:List Int),RDs K ads H (ns.map D.int) (ns.map V.int)
 | []=>by unfold RDs;rfl
 | i::ns=>by
  show RDs K ads H (D.int i::ns.map D.int) (V.int i::ns.map V.int)
  unfold RDs
  exact ⟨_,_,rfl,by unfold RD;rfl,ints_rds ns⟩
theorem walk {l : PySem.W.OpenLaw} {q : Program} {loose : List Str} {XP : (Str -> Option Value) -> Heap -> Prop} {YP : World -> Heap -> Prop} {d : DefRec} {K : Params -> PySem.W.Frag} (hlaw : ∀ ns : List Int, ns.length <= 63 -> ∃ M, f41 [.ls (ns.map D.int)] [] = .ok (.d (.bl true)) M) (hn : l.most = some 63) (hdf : d.params.defaults = [])
    (hY:∀ (w:World) (h:Heap),YP w h->(K w.params).In h)
    (F:∀ (w:World) (mg:Str->Option Value) (fa:Addr) (h:Heap),(K w.params).In h->h.Ns mainGlobals mg->mg d.name=some (.ref fa) ->
      ∃ fd:FuncData,(∀ (s:Shared) (u:Value),BindsTo s fd ⟨[u],[]⟩ [("_law_script",u)])/\∀ base:Heap,(K w.params).In base->base.Ns mainGlobals mg->FnOk l.prog w (K w.params) mg base CX0 42 fa fd ["_law_script"] (spD (K w.params) 1 f41)) :
    PySem.W.WalkO q loose XP YP l.row.toRowW d [] (fun f vs=>PySem.call f vs) :=
  L2.walk_of (n:=63) (k:=42) (x := "_law_script") (CX:=fun _=>CX0) (sp:=fun w=>spD (K w.params) 1 f41) hn (by decide) hdf ⟨rfl,by decide,by decide,rfl⟩ hY F (fun w H a ns hl hO hS=>by
    obtain ⟨M,hM⟩:=hlaw ns hl
    refine ⟨[],[],[.ls (ns.map D.int)],⟨List.nodup_nil,rfl,fun n o a e _=>by simp at e⟩,.one ?_,rfl,?_⟩
    · unfold RD
      exact ⟨a,_,rfl,scr_ls hO hS,ints_rds ns⟩
    · rw [hM]
      intro v H' ads' _ _ r
      have r:RD (K w.params) ads' H' (.bl true) v:=r
      unfold RD at r
      exact r) fun _ _ _ _ _ z=>z
def vw:Program:={ PySem.Challenge.pw_cutstand_k07_whole_stands_stay_right with main:={ PySem.Challenge.pw_cutstand_k07_whole_stands_stay_right.main with body:=[top 1,top 2,top 4,top 5,top 6,top 7,top 8,top 9,top 10,top 12,top 14,top 15,top 16,top 17,top 18,top 19,top 21,top 22,top 23,top 24,top 25,top 26,top 27,top 28,top 29,top 30,top 31,top 33,top 34,top 35,top 36,top 37,top 38,top 39,top 40,top 41,top 42,top 43,top 44,top 45,top 46,top 47,top 48,top 49,top 50] } }
def hk:PySem.W.Hook:=PySem.W.kHook Kf ads (fun _=>nofun)
theorem lft:PySem.W.LeftO PySem.Challenge.pw_cutstand_k07_whole_stands_stay_right vw [] (fun s=>PySem.W.xlAt vw [] s && PySem.W.recOk [] s) (PySem.W.Hook.obs hk) (PySem.W.Hook.val hk) 3648:=by
 intro w
 kernel_rfl
theorem said:PySem.W.OpenLaw.wellSaid PySem.Challenge.rw_cutstand_k07_whole_stands_stay_right=true:=nofun
end Qk07
end
open PySem PySem.W PyProof.Rows
set_option maxRecDepth 100000 in
set_option maxHeartbeats 0 in
theorem PySem.Challenge.cw_cutstand_k07_whole_stands_stay_right_holds : PySem.Challenge.rw_cutstand_k07_whole_stands_stay_right.Holds := by
 refine holds_law Qk07.said fun said=>?_
 refine holds_open (q:=Qk07.vw) (loose:=[]) (Xt:=fun s=>xlAt Qk07.vw [] s && recOk [] s) (XP:=XL Qk07.vw []) (Yf:=Hook.obs Qk07.hk) (Ya:=Hook.val Qk07.hk) (YP:=Hook.says Qk07.hk) (N:=3648) Qk07.lft (Hook.of Qk07.hk) (Hook.keeps Qk07.hk) (fun s e=>xl_of s (Bool.and_eq_true_iff.mp e).1) XL.keeps (by rfl) (by rfl) (by rfl) (fun s e=>recFacts_of (Bool.and_eq_true_iff.mp e).2) (by rfl) said (⋯) ⟨rfl,rfl,rfl,rfl,rfl,⋯⟩ ?hw ?hc
 case hw=>w_witness2
 case hc=>exact Qk07.walk (l:=PySem.Challenge.rw_cutstand_k07_whole_stands_stay_right) (K:=Qk07.Kf) Qk07.law_true rfl rfl (fun w h Y=>kIn_of Y) fun w mg fa h KX G hmg=>Qk07.all_mk KX G hmg
#print axioms PySem.Challenge.cw_cutstand_k07_whole_stands_stay_right_holds
