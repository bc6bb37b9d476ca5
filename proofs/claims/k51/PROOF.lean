import PyProof.Rows.All
import Wide.All
import OpenK.AllK
import Wide.FinOn
import Lean
import PyProof.EqAt
import PyProof.EqKinds
import PyProof.TupleCall
import PyProof.ZipIter
import PyProof.ListRange
import PyProof.TupleOfSeq
import PyProof.Rows.CallKwBuiltin
import PyProof.Rows.Range3
import PySem.Challenge.RW_cutstand_k51_the_cut_of_a_number
section
set_option Elab.async false
set_option linter.all false
set_option maxRecDepth 100000
namespace L2
open PySem PySem.Spec PyProof.Rows
abbrev Key:=Sum Int Str
def keyIs:Key→Value→Bool
 | .inl k,v=>Value.isInt k v
 | .inr x,v=>Value.isStrOf x v
def keyH (w:World):Key→Int
 | .inl k=>hashInt k
 | .inr x=>hashStr w x
theorem keyIs_shape:∀ {k:Key} {v:Value},keyIs k v=true→(∃ i t,k=Sum.inl i∧v=Value.int i t)∨(∃ x t,k=Sum.inr x∧v=Value.str x t)
 | .inl i,v,h=>by
  obtain ⟨t,e⟩:=Value.isInt_shape (k:=i) (v:=v) h
  exact .inl ⟨i,t,rfl,e⟩
 | .inr x,v,h=>by
  obtain ⟨t,e⟩:=Value.isStrOf_shape (x:=x) (v:=v) h
  exact .inr ⟨x,t,rfl,e⟩
theorem keyIs_int (i:Int) (t:Tok):keyIs (.inl i) (.int i t)=true:=by simp [keyIs,Value.isInt]
theorem keyIs_str (x:Str) (t:Tok):keyIs (.inr x) (.str x t)=true:=by simp [keyIs,Value.isStrOf]
theorem key_ll (a b:Int):decide ((Sum.inl a:Key)=Sum.inl b)=(a == b):=by
 by_cases e:a=b
 ·subst e; simp
 ·have h:¬ (Sum.inl a:Key)=Sum.inl b:=fun q=>e (Sum.inl.inj q)
  rw [decide_eq_false h]
  exact (beq_eq_false_iff_ne.mpr e).symm
theorem key_rr (a b:Str):decide ((Sum.inr a:Key)=Sum.inr b)=decide (a=b):=by
 by_cases e:a=b
 ·subst e; simp
 ·have h:¬ (Sum.inr a:Key)=Sum.inr b:=fun q=>e (Sum.inr.inj q)
  rw [decide_eq_false h,decide_eq_false e]
theorem key_lr (a:Int) (b:Str):decide ((Sum.inl a:Key)=Sum.inr b)=false:=decide_eq_false (fun q=>nomatch q)
theorem key_rl (a:Str) (b:Int):decide ((Sum.inr a:Key)=Sum.inl b)=false:=decide_eq_false (fun q=>nomatch q)
def mixKind (prog:Program) (w:World):PySem.KeyKind prog w Key where
 is:=keyIs
 hash:=keyH w
 inj:=fun v a b ha hb=>by
  rcases keyIs_shape ha with ⟨i,t,rfl,rfl⟩ | ⟨x,t,rfl,rfl⟩
  ·rcases keyIs_shape hb with ⟨j,u,rfl,e⟩ | ⟨y,u,rfl,e⟩
   ·injection e with e1 _; rw [e1]
   ·exact nomatch e
  ·rcases keyIs_shape hb with ⟨j,u,rfl,e⟩ | ⟨y,u,rfl,e⟩
   ·exact nomatch e
   ·injection e with e1 _; rw [e1]
 byValue:=fun k v h=>by
  rcases keyIs_shape h with ⟨i,t,rfl,rfl⟩ | ⟨x,t,rfl,rfl⟩ <;> rfl
 pyHash:=fun hv h=>by
  rcases keyIs_shape hv with ⟨i,t,rfl,rfl⟩ | ⟨x,t,rfl,rfl⟩
  ·exact wpAny_pyHash_int h
  ·exact wpAny_pyHash_str h
 eqBool:=fun hu hv h=>by
  rcases keyIs_shape hu with ⟨i,t,rfl,rfl⟩ | ⟨x,t,rfl,rfl⟩
  ·rcases keyIs_shape hv with ⟨j,u,rfl,rfl⟩ | ⟨y,u,rfl,rfl⟩
   ·rw [key_ll] at h; exact wpAny_eqBool_int h
   ·rw [key_lr] at h; exact SeqAt.EqAt.int_str i t y u _ _ _ _ h
  ·rcases keyIs_shape hv with ⟨j,u,rfl,rfl⟩ | ⟨y,u,rfl,rfl⟩
   ·rw [key_rl] at h; exact SeqAt.EqAt.str_int x t j u _ _ _ _ h
   ·rw [key_rr] at h; exact wpAny_eqBool_str h
 «strs»:=fun k x t v h=>by
  rcases keyIs_shape h with ⟨i,u,rfl,e⟩ | ⟨y,u,rfl,e⟩
  ·exact nomatch e
  ·injection e with e1 _
   subst e1
   cases v <;> rfl
theorem mixKind_int (prog:Program) (w:World) (i:Int) (t:Tok):(mixKind prog w).is (.inl i) (.int i t)=true:=keyIs_int i t
theorem mixKind_str (prog:Program) (w:World) (x:Str) (t:Tok):(mixKind prog w).is (.inr x) (.str x t)=true:=keyIs_str x t
end L2
namespace L2
open PySem PySem.Spec PyProof.Rows
inductive V where
 | non | bl (b:Bool) | int (i:Int) | str (x:Str) | byt (b:Array UInt8) | flt (b:UInt64) | ref (a:Addr) | ty (n:String)
 deriving DecidableEq
def RelV:V→Value→Prop
 | .non,u=>u=Value.none
 | .bl b,u=>u=Value.bool b
 | .int i,u=>∃ t,u=Value.int i t
 | .str x,u=>∃ t,u=Value.str x t
 | .byt b,u=>∃ t,u=Value.bytes b t
 | .flt b,u=>∃ t,u=Value.float b t
 | .ref a,u=>u=Value.ref a
 | .ty n,u=>u=Value.type n
abbrev Vals:List V→List Value→Prop:=Paired RelV
theorem Vals.length {xs:List V} {us:List Value} (r:Vals xs us):xs.length=us.length:=Paired.length r
theorem Vals.get:∀ {xs:List V} {us:List Value} {i:Nat} {x:V},Vals xs us→xs[i]?=some x→∃ u,us[i]?=some u∧RelV x u
 | _,_,_,_,.nil,e=>by simp at e
 | _,_,0,_,.cons r _,e=>by simp at e; subst e; exact ⟨_,rfl,r⟩
 | _,_,i+1,x,.cons _ t,e=>by
  obtain ⟨u,h1,h2⟩:=Vals.get (i:=i) (x:=x) t (by simpa using e)
  exact ⟨u,by simpa using h1,h2⟩
theorem Vals.set {x:V} {u:Value} (r:RelV x u):∀ {xs:List V} {us:List Value} (i:Nat),Vals xs us→Vals (xs.set i x) (us.set i u)
 | _,_,_,.nil=>.nil
 | _,_,0,.cons _ t=>.cons r t
 | _,_,i+1,.cons q t=>.cons q (Vals.set r i t)
theorem Vals.append:∀ {xs ys:List V} {us ws:List Value},Vals xs us→Vals ys ws→Vals (xs++ys) (us++ws)
 | _,_,_,_,.nil,s=>s
 | _,_,_,_,.cons r t,s=>.cons r (Vals.append t s)
theorem Vals.take:∀ {xs:List V} {us:List Value} (n:Nat),Vals xs us→Vals (xs.take n) (us.take n)
 | _,_,0,_=>.nil
 | _,_,_+1,.nil=>.nil
 | _,_,n+1,.cons r t=>.cons r (Vals.take n t)
theorem Vals.drop:∀ {xs:List V} {us:List Value} (n:Nat),Vals xs us→Vals (xs.drop n) (us.drop n)
 | _,_,0,r=>r
 | _,_,_+1,.nil=>.nil
 | _,_,n+1,.cons _ t=>Vals.drop n t
def RelO:Option V→Option Value→Prop
 | some v,some u=>RelV v u
 | none,none=>True
 | _,_=>False
def KV {κ:Type}:List (κ×V)→List (κ×Value)→Prop:=Paired fun (p:κ×V) (q:κ×Value)=>p.1=q.1∧RelV p.2 q.2
def kV:Key→V
 | .inl i=>.int i
 | .inr x=>.str x
inductive HO where
 | lst (xs:List V)
 | tup (xs:List V)
 | dK (kvs:List (Key×V)) | dT (kvs:List (List Key×V))
 | set (S:Int→Bool) (n:Nat)
 | ins (C dx:Addr) (fs:List (Str×V))
 | own (x:Addr)
 | xd (fs:List (Str×V))
 | met (f x:Addr)
 | rng (lo hi:Int)
 | frz (o:Obj) (u:HO)
 | tbl (ps:Array Value)
 | ext (φ:Heap→Prop)
abbrev Hp:=Addr→Option HO
def upd (H:Hp) (a:Addr) (o:HO):Hp:=fun b=>if b=a then some o else H b
theorem upd_same {H:Hp} {a:Addr} {o:HO}:upd H a o a=some o:=by unfold upd; rw [if_pos rfl]
theorem upd_ne {H:Hp} {a b:Addr} {o:HO} (h:b≠a):upd H a o b=H b:=by unfold upd; rw [if_neg h]
theorem ne_of {H:Hp} {a b:Addr} {o u:HO} (h:H a=some o) (h':H b=some u) (d:o≠u):a≠b:=by
 intro e; subst e; rw [h] at h'; exact d (Option.some.inj h')
theorem ne_of_none {H:Hp} {a b:Addr} {o:HO} (h:H a=some o) (h':H b=none):a≠b:=by
 intro e; subst e; rw [h] at h'; cases h'
section
variable (P:Program) (w:World)
def ObjOk (H : Hp) (h : Heap) (a : Addr) : HO → Prop
  | .lst xs => xs.length ≤ sizeLine ∧ ∃ (its : List Value) (n : Nat), Vals xs its ∧ h.get? a = some { cls := .type "list", data := .seq its.toArray n }
  | .tup xs => xs.length ≤ sizeLine ∧ ∃ its : List Value, Vals xs its ∧ IsTup h a its.toArray
  | .dK kvs => kvs.length ≤ sizeLine ∧ (a == sysModules) = false ∧ ∃ vs, KV kvs vs ∧ h.DictOf (mixKind P w) a vs
  | .dT kvs => kvs.length ≤ sizeLine ∧ (a == sysModules) = false ∧ ∃ xs : List (List Key × Addr × Value),
      Paired (fun (p : List Key × V) (q : List Key × Addr × Value) => p.1 = q.1 ∧ H q.2.1 = some (.tup (p.1.map kV)) ∧ RelV p.2 q.2.2) kvs xs ∧
      ∃ o es ep, h.get? a = some o ∧ o.ExactDict ∧ o.data = .dict es ep ∧ es.toList = xs.map (entryOfKey (tupleKind (mixKind P w))) ∧ (xs.map (·.1)).Nodup
  | .set S n => h.SetOf (intKind P w) a S n
  | .ins C dx fs => H dx = some (.own a) ∧ fs.length ≤ 1000 ∧ dx ≠ a ∧ h.get? a = some (PySem.W.instObj C dx) ∧
      ∃ mA, h.Ns1 dx mA ∧ (∀ f, RelO (fs.lookup f) (mA f)) ∧ PySem.Within mA (fs.map (·.1))
  | .own _ => ∃ o, h.get? a = some o
  | .xd fs => ∃ mA, h.Ns1 a mA ∧ ∀ f, RelO (fs.lookup f) (mA f)
  | .rng lo hi => ∃ t u v, h.get? a = some { cls := .type "range", data := .fields #[.int lo t, .int hi u, .int 1 v] }
  | .frz o u => h.get? a = some o ∧ ObjOk H h a u
  | .tbl ps => h.get? a = some { cls := .none, data := .fields ps }
  | .met f x => h.get? a = some (PySem.W.methodObj (.ref f) (.ref x))
  | .ext φ => φ h ∧ (∃ o, h.get? a = some o) ∧ ∀ h1 h2 : Heap, φ h1 → (∀ o, h1.get? a = some o → h2.get? a = some o) → φ h2
def HOk (H:Hp) (h:Heap):Prop:=∀ a o,H a=some o→ObjOk P w H h a o
end
section
variable {P:Program} {w:World} {H H':Hp} {h h':Heap} {a:Addr} {o:HO}
theorem ObjOk.lt (x:ObjOk P w H h a o):a < h.objs.size:=by
 cases o with
 | lst xs=>obtain ⟨_,_,_,_,e⟩:=x; exact Heap.lt_size e
 | tup xs=>obtain ⟨_,_,_,p⟩:=x; exact p.lt
 | dK kvs=>obtain ⟨_,_,_,_,o,_,_,e,_⟩:=x; exact Heap.lt_size e
 | dT kvs=>obtain ⟨_,_,_,_,o,_,_,e,_⟩:=x; exact Heap.lt_size e
 | set S n=>obtain ⟨o,_,_,_,e,_⟩:=x; exact Heap.lt_size e
 | ins C dx fs=>obtain ⟨_,_,_,e,_⟩:=x; exact Heap.lt_size e
 | own y=>obtain ⟨_,e⟩:=x; exact Heap.lt_size e
 | xd fs=>obtain ⟨_,⟨_,_,_,e,_⟩,_⟩:=x; exact Heap.lt_size e
 | rng lo hi=>obtain ⟨_,_,_,e⟩:=x; exact Heap.lt_size e
 | frz ob u=>obtain ⟨e,_⟩:=x; exact Heap.lt_size e
 | tbl ps=>exact Heap.lt_size (show h.get? a=some _ from x)
 | met f y=>exact Heap.lt_size (show h.get? a=some _ from x)
 | ext φ=>obtain ⟨_,⟨_,e⟩,_⟩:=x; exact Heap.lt_size e
theorem Paired.mapP {α β:Type} {F G:α→β→Prop}:∀ {l₁:List α} {l₂:List β},Paired F l₁ l₂→(∀ a b,F a b→G a b)→Paired G l₁ l₂
 | _,_,.nil,_=>.nil
 | _,_,.cons r t,f=>.cons (f _ _ r) (Paired.mapP t f)
theorem ObjOk.stay (x : ObjOk P w H h a o) (k : ∀ b u, (b = a ∨ H b = some (.own a)) → h.get? b = some u → h'.get? b = some u)
    (ho : ∀ b, H b = some (.own a) → H' b = some (.own a)) (ht : ∀ b xs, H b = some (.tup xs) → H' b = some (.tup xs)) : ObjOk P w H' h' a o := by
  induction o with
  | lst xs => obtain ⟨z, its, n, r, e⟩ := x; exact ⟨z, its, n, r, k _ _ (.inl rfl) e⟩
  | tup xs => obtain ⟨z, its, r, ob, e, c⟩ := x; exact ⟨z, its, r, ob, k _ _ (.inl rfl) e, c⟩
  | dK kvs => obtain ⟨z, y, vs, r, ob, es, ep, e, c⟩ := x; exact ⟨z, y, vs, r, ob, es, ep, k _ _ (.inl rfl) e, c⟩
  | dT kvs =>
    obtain ⟨z, y, xs, r, ob, es, ep, e, c⟩ := x
    exact ⟨z, y, xs, Paired.mapP r fun p q z => ⟨z.1, ht _ _ z.2.1, z.2.2⟩, ob, es, ep, k _ _ (.inl rfl) e, c⟩
  | set S n => obtain ⟨ob, es, ep, t, e, c⟩ := x; exact ⟨ob, es, ep, t, k _ _ (.inl rfl) e, c⟩
  | ins C dx fs =>
    obtain ⟨d, z, ne, e, mA, ⟨od, es, ep, e2, c⟩, r⟩ := x
    exact ⟨ho _ d, z, ne, k _ _ (.inl rfl) e, mA, ⟨od, es, ep, k _ _ (.inr d) e2, c⟩, r⟩
  | own y => obtain ⟨ob, e⟩ := x; exact ⟨ob, k _ _ (.inl rfl) e⟩
  | xd fs => obtain ⟨mA, ⟨od, es, ep, e, c⟩, r⟩ := x; exact ⟨mA, ⟨od, es, ep, k _ _ (.inl rfl) e, c⟩, r⟩
  | rng lo hi => obtain ⟨t, u, v, e⟩ := x; exact ⟨t, u, v, k _ _ (.inl rfl) e⟩
  | frz ob u ih => obtain ⟨e, q⟩ := x; exact ⟨k _ _ (.inl rfl) e, ih q⟩
  | tbl ps =>
    have e : h.get? a = some { cls := .none, data := .fields ps } := x
    show h'.get? a = some { cls := .none, data := .fields ps }
    exact k a _ (.inl rfl) e
  | met f y =>
    have e : h.get? a = some (PySem.W.methodObj (.ref f) (.ref y)) := x
    show h'.get? a = some (PySem.W.methodObj (.ref f) (.ref y))
    exact k a _ (.inl rfl) e
  | ext φ => obtain ⟨p, ⟨o, e⟩, st⟩ := x; exact ⟨st _ _ p fun o q => k _ _ (.inl rfl) q, ⟨o, k _ _ (.inl rfl) e⟩, st⟩
theorem HOk.lt (x:HOk P w H h) (e:H a=some o):a < h.objs.size:=(x a o e).lt
theorem HOk.fresh (x:HOk P w H h) (e:h.objs.size≤a):H a=none:=by
 cases q:H a with
 | none=>rfl
 | some u=>exact absurd (Nat.lt_of_lt_of_le (x.lt q) e) (Nat.lt_irrefl _)
theorem HOk.kept (x:HOk P w H h) (k:∀ b u,h.get? b=some u→h'.get? b=some u):HOk P w H h':=fun a o e =>
 (x a o e).stay (fun b u _ q=>k b u q) (fun _ q=>q) fun _ _ q=>q
theorem HOk.laid (x:HOk P w H h) (k:∀ b u,h.get? b=some u→h'.get? b=some u) (hp:h.objs.size≤a) (new:ObjOk P w (upd H a o) h' a o):HOk P w (upd H a o) h':=fun b u e=>by
 have hn:=x.fresh hp
 by_cases hb:b=a
 ·subst hb; rw [upd_same] at e; cases e; exact new
 ·rw [upd_ne hb] at e
  exact (x b u e).stay (fun c v _ q=>k c v q) (fun c q=>by rw [upd_ne (ne_of_none q hn)]; exact q) fun c xs q=>by rw [upd_ne (ne_of_none q hn)]; exact q
end
def Rd (H:Hp) (a:Addr) (u:HO):Prop:=H a=some u∨∃ o,H a=some (.frz o u)
theorem Rd.ok {P:Program} {w:World} {H:Hp} {h:Heap} {a:Addr} {u:HO} (r:Rd H a u) (x:HOk P w H h):ObjOk P w H h a u:=by
 rcases r with r | ⟨o,r⟩
 ·exact x a u r
 ·obtain ⟨_,q⟩:=x a _ r
  exact q
def Mut:Option HO→Prop
 | some (.lst _)=>True
 | some (.dK _)=>True
 | some (.dT _)=>True
 | some (.set _ _)=>True
 | some (.ins _ _ _)=>True
 | some (.ext _)=>True
 | _=>False
section
variable {P:Program} {w:World} {H:Hp} {h h':Heap} {x e:Addr} {o':HO}
theorem HOk.write (ok : HOk P w H h) (mu : Mut (H x)) (he : e = x ∨ H e = some (.own x)) (k : ∀ b u, b ≠ e → h.get? b = some u → h'.get? b = some u) (heo : ∃ u, h'.get? e = some u)
    (new : ObjOk P w (upd H x o') h' x o') : HOk P w (upd H x o') h' := fun b u q => by
  have nown : ∀ c y, H c = some (.own y) → c ≠ x := fun c y r z => by subst z; rw [r] at mu; exact mu
  have ntup : ∀ c xs, H c = some (.tup xs) → c ≠ x := fun c xs r z => by subst z; rw [r] at mu; exact mu
  by_cases hb : b = x
  · subst hb; rw [upd_same] at q; cases q; exact new
  · rw [upd_ne hb] at q
    by_cases hbe : b = e
    · have q' : H b = some (.own x) := by
        rcases he with z | z
        · exact absurd (hbe.trans z) hb
        · rw [hbe]; exact z
      rw [q] at q'; cases q'
      obtain ⟨v, hv⟩ := heo
      exact ⟨v, by rw [hbe]; exact hv⟩
    · refine (ok b u q).stay (fun c v hc r => k c v ?_ r) (fun c r => by rw [upd_ne (nown c b r)]; exact r) fun c xs r => by rw [upd_ne (ntup c xs r)]; exact r
      rcases hc with rfl | hc
      · exact hbe
      · rintro rfl
        rcases he with z | z
        · exact nown c b hc z
        · rw [hc] at z; cases z; exact hb rfl
end
structure Un (fs ex:List Addr) (H H':Hp) (h h':Heap):Prop where
 keep:∀ b o,h.get? b=some o→H b=none→b∉fs→b∉ex→h'.get? b=some o
 slot:∀ b o,h.get? b=some o→H b=none→b∈fs→b∉ex→∃ sl,h'.get? b=some { o with slots:=sl }
 free:∀ b o,h.get? b=some o→H b=none→b∉ex→H' b=none
 there:∀ b o,h.get? b=some o→b∉ex→∃ o',h'.get? b=some o'
 tups:∀ b xs,H b=some (.tup xs)→H' b=some (.tup xs)
 frzs:∀ b o u,H b=some (.frz o u)→H' b=some (.frz o u)
 tbls:∀ b ps,H b=some (.tbl ps)→∃ more,H' b=some (.tbl (ps++more))
section
variable {fs fs' ex ex':List Addr} {H H1 H2:Hp} {h h1 h2 h':Heap} {a x e:Addr} {o:HO}
theorem Un.any (u:Un fs ex H H1 h h1) {b:Addr} {ob:Obj} (q:h.get? b=some ob) (n:H b=none) (hx:b∉ex):∃ sl,h1.get? b=some { ob with slots:=sl }:=by
 by_cases hb:b∈fs
 ·exact u.slot b ob q n hb hx
 ·exact ⟨ob.slots,u.keep b ob q n hb hx⟩
theorem Un.kept (k:∀ b u,h.get? b=some u→h'.get? b=some u):Un fs ex H H h h' :=
 ⟨fun b ob q _ _ _=>k b ob q,fun b ob q _ _ _=>⟨ob.slots,k b ob q⟩,fun _ _ _ n _=>n,fun b ob q _=>⟨ob,k b ob q⟩,fun _ _ q=>q,fun _ _ _ q=>q,fun _ ps q=>⟨#[],by rw [q]; simp⟩⟩
theorem Un.refl:Un fs ex H H h h:=Un.kept fun _ _ q=>q
theorem Un.laid (k:∀ b u,h.get? b=some u→h'.get? b=some u) (hp:h.objs.size≤a) (hn:H a=none):Un fs ex H (upd H a o) h h' where
 keep:=fun b u q _ _ _=>k b u q
 slot:=fun b u q _ _ _=>⟨u.slots,k b u q⟩
 free:=fun b u q n _=>by rw [upd_ne (Nat.ne_of_lt (Nat.lt_of_lt_of_le (Heap.lt_size q) hp))]; exact n
 there:=fun b u q _=>⟨u,k b u q⟩
 tups:=fun b xs q=>by rw [upd_ne (ne_of_none q hn)]; exact q
 frzs:=fun b u xs q=>by rw [upd_ne (ne_of_none q hn)]; exact q
 tbls:=fun b ps q=>⟨#[],by rw [upd_ne (ne_of_none q hn),q]; simp⟩
theorem Un.write (mu:Mut (H x)) (he:e=x∨H e=some (.own x)) (k:∀ b u,b≠e→h.get? b=some u→h'.get? b=some u) (heo:∃ u,h'.get? e=some u):Un fs ex H (upd H x o) h h':=by
 have hx:∀ b,H b=none→b≠x:=fun b n z=>by subst z; rw [n] at mu; exact mu
 have hb:∀ b,H b=none→b≠e:=fun b n z=>by
  subst z
  rcases he with r | r
  ·exact hx b n r
  ·rw [n] at r; cases r
 have hm:∀ b u,H b=some u→¬ Mut (some u)→b≠x:=fun b u q nm z=>by subst z; rw [q] at mu; exact nm mu
 refine ⟨fun b u q n _ _=>k b u (hb b n) q,fun b u q n _ _=>⟨u.slots,k b u (hb b n) q⟩,fun b u q n _=>by rw [upd_ne (hx b n)]; exact n,fun b u q _=>?_,
  fun b xs q=>by rw [upd_ne (hm b _ q fun z=>z)]; exact q,fun b u xs q=>by rw [upd_ne (hm b _ q fun z=>z)]; exact q,fun b ps q=>⟨#[],by rw [upd_ne (hm b _ q fun z=>z),q]; simp⟩⟩
 by_cases hbe:b=e
 ·subst hbe; exact heo
 ·exact ⟨u,k b u hbe q⟩
end
def trk (h:Heap) (H:Hp):List Addr:=(List.range h.objs.size).filter fun a=>(H a).isSome
def hidT (h:Heap) (H:Hp):Heap:=PySem.W.hideAll h (trk h H)
theorem hidT_size (h:Heap) (H:Hp):(hidT h H).objs.size=h.objs.size:=PySem.W.hideAll_size _ _
theorem hidT_get {h:Heap} {H:Hp} {b:Addr} {o:Obj} (e:h.get? b=some o) (n:H b=none):(hidT h H).get? b=some o :=
 PySem.W.hideAll_get _ e fun hm=>by
  have q:(H b).isSome=true:=(List.mem_filter.mp hm).2
  rw [n] at q; simp at q
theorem of_hidT {h:Heap} {H:Hp} {b:Addr} {o:Obj} (e:(hidT h H).get? b=some o):h.get? b=some o∧H b=none:=by
 have e':h.get? b=some o:=PySem.W.of_hideAll (trk h H) e
 refine ⟨e',?_⟩
 cases q:H b with
 | none=>rfl
 | some x =>
  have hm:b∈trk h H:=List.mem_filter.mpr ⟨List.mem_range.mpr (Heap.lt_size e'),by simp [q]⟩
  have z:(hidT h H).get? b=none:=PySem.W.hideAll_none (trk h H) hm
  rw [z] at e; cases e
def allNews (g h:Heap) (L:Addr):List (Addr×Obj):=(List.range h.objs.size).filterMap fun a=>if a=L∨(g.get? a).isSome=true then none else (h.get? a).map fun o=>(a,o)
def rest (g h:Heap) (L d:Addr):List (Addr×Obj):=(allNews g h L).filter fun p=>decide (p.1≠d)
end L2
namespace L2
open PySem PySem.Spec PyProof.Rows
structure Mod (K:PySem.W.Frag) (mg:Str→Option Value) (base:Heap):Prop where
 kin:K.In base
 glob:base.Ns mainGlobals mg
 blt:∃ mb,base.Ns builtinsNs mb∧∀ x:Str,x ≠ "__name__" → mb x=bootBuiltins x
 nolimit:base.NoLimit
structure Cx where
 prog:Program
 w:World
 K:PySem.W.Frag
 mg:Str→Option Value
 base:Heap
 A:Around
 N:List Str
 s₀:Shared
 H₀:Hp
 env:Env
 outer:List Env
 stack:List Env
 ex:List Addr
 fn:Str→Bool
 calm:Bool
 pn:List (Addr×Obj)
 xe:Value→Shared→Prop
def frs (l:List Env):List Addr:=l.filterMap (·.frame)
abbrev Cx.fs (X:Cx):List Addr:=frs X.outer
def Vis (sc:Scope) (x:Str):Prop:=sc.names.lookup x=some .local∨sc.names.lookup x=some .cell∨sc.names.lookup x=some .free
def Loc (sc:Scope) (x:Str):Prop:=sc.names.lookup x=some .local∨sc.names.lookup x=some .cell
def Look (env:Env) (h:Heap) (m:Str→Option Value) (x:Str) (u:Value):Prop :=
 (env.kindOf x=some .local∧m x=some u)∨((env.kindOf x=some .cell∨env.kindOf x=some .free)∧∃ c,env.cells.lookup x=some c∧h.IsCell c (some u))
structure Cx.Ok (X:Cx):Prop where
 mod:Mod X.K X.mg X.base
 kind:X.env.scope.kind=.function
 glob:X.env.globals=mainGlobals
 blt:X.env.builtins=builtinsNs
 above:X.s₀.heap.objs.size≤X.env.locals
 inj:∀ x y c,X.env.cells.lookup x=some c→X.env.cells.lookup y=some c→x=y
 has:∀ x,(X.env.kindOf x=some .cell∨X.env.kindOf x=some .free)→∃ c,X.env.cells.lookup x=some c
 cab:∀ x c,X.fn x=true→X.env.cells.lookup x=some c→X.s₀.heap.objs.size≤c
 hd:X.calm=true→X.A.handled=none
 frames:X.A.frames=some X.stack
 stk:X.stack=X.outer∨(X.stack=X.env::X.outer∧X.env.frame=some X.env.locals)
 exf:∀ b∈X.ex,b≠X.env.locals∧∀ x c,X.env.cells.lookup x=some c→c≠b
 bs:∀ b o,X.base.get? b=some o→X.s₀.heap.get? b=some o∧X.H₀ b=none
 bsz:X.base.objs.size≤X.s₀.heap.objs.size
 noex:∀ b o,X.base.get? b=some o→b∉X.ex
 exfs:∀ b∈X.ex,b∉X.fs
 funs:X.s₀.heap.FunFrames X.base X.outer
 frf:∀ b∈X.fs,X.H₀ b=none
structure Inv (X:Cx) (pins:List (Addr×Obj)) (σ:List (Option V)) (H:Hp) (s:Shared):Prop where
 ok:X.Ok
 os:s.os=X.s₀.os
 bare:AllBare s.gens
 base:Un X.fs X.ex X.H₀ H X.s₀.heap s.heap
 loc:∃ m,s.heap.Ns X.env.locals m∧∀ (i:Nat) (x:Str) (v:V),X.N[i]?=some x→σ[i]?=some (some v)→Vis X.env.scope x→∃ u,RelV v u∧Look X.env s.heap m x u
 cell:∀ x c,X.env.cells.lookup x=some c→∃ v,s.heap.IsCell c v
 free:H X.env.locals=none
 freeC:∀ x c,X.env.cells.lookup x=some c→H c=none
 pin:∀ p∈X.pn++pins,s.heap.get? p.1=some p.2∧H p.1=none∧p.1≠X.env.locals∧p.1∉X.fs∧∀ v,p.2.data≠.cell v
 hok:HOk X.prog X.w H s.heap
 len:σ.length=X.N.length
section
variable {X:Cx} {pins:List (Addr×Obj)} {σ:List (Option V)} {H H':Hp} {s:Shared} {h':Heap}
theorem Cx.Ok.nofr (ok:X.Ok) {b:Addr} {o:Obj} (e:X.base.get? b=some o):b∉X.fs:=fun hb=>by
 have:=(ok.funs.mem hb).1
 rw [e] at this; cases this
theorem Inv.bs (I:Inv X pins σ H s):∀ b o,X.base.get? b=some o→s.heap.get? b=some o∧H b=none:=fun b o e =>
 ⟨I.base.keep b o (I.ok.bs b o e).1 (I.ok.bs b o e).2 (I.ok.nofr e) (I.ok.noex b o e),I.base.free b o (I.ok.bs b o e).1 (I.ok.bs b o e).2 (I.ok.noex b o e)⟩
theorem Inv.bk (I:Inv X pins σ H s):∀ b o,X.base.get? b=some o→s.heap.get? b=some o:=fun b o e=>(I.bs b o e).1
theorem Inv.mod (I:Inv X pins σ H s):Mod X.K X.mg X.base:=I.ok.mod
theorem Inv.kIn (I:Inv X pins σ H s):X.K.In s.heap:=I.ok.mod.kin.keeps I.bk
theorem Inv.lt (I:Inv X pins σ H s):X.env.locals < s.heap.objs.size:=let ⟨_,hn,_⟩:=I.loc; hn.lt
theorem Inv.sz (I:Inv X pins σ H s):X.s₀.heap.objs.size≤s.heap.objs.size:=Nat.le_trans I.ok.above (Nat.le_of_lt I.lt)
theorem Inv.nofs (I:Inv X pins σ H s) {a:Addr} (h:s.heap.objs.size≤a):a∉X.fs:=fun hb=>by
 obtain ⟨_,o,ho,_⟩:=I.ok.funs.mem hb
 exact absurd (Nat.lt_of_lt_of_le (Heap.lt_size ho) (Nat.le_trans I.sz h)) (Nat.lt_irrefl _)
theorem Inv.cne (I:Inv X pins σ H s):∀ x c,X.env.cells.lookup x=some c→c≠X.env.locals:=fun x c e z=>by
 obtain ⟨v,o,ho,hd⟩:=I.cell x c e
 obtain ⟨m,⟨o',es,ep,ho',hd',_⟩,_⟩:=I.loc
 rw [z,ho'] at ho; cases ho; rw [hd'] at hd; cases hd
theorem Inv.funs (I:Inv X pins σ H s):s.heap.FunFrames X.base X.outer:=by
 have all:∀ (l:List Env),(∀ b∈frs l,b∈X.fs)→X.s₀.heap.FunFrames X.base l→s.heap.FunFrames X.base l:=by
  intro l
  induction l with
  | nil=>intro _ _; trivial
  | cons env r ih =>
   intro hs hl
   obtain ⟨hk,⟨L,o,hf,hn,ho,hd⟩,hr⟩:=hl
   have hL:L∈X.fs:=hs L (by unfold frs; rw [List.filterMap_cons,hf]; exact List.mem_cons_self)
   obtain ⟨sl,e⟩:=I.base.slot L o ho (I.ok.frf L hL) hL fun z=>I.ok.exfs L z hL
   exact ⟨hk,⟨L,_,hf,hn,e,hd⟩,ih (fun b hb=>hs b (by unfold frs; rw [List.filterMap_cons,hf]; exact List.mem_cons_of_mem _ hb)) hr⟩
 exact all X.outer (fun _ hb=>hb) I.ok.funs
theorem Inv.stack (I:Inv X pins σ H s):s.heap.FunFrames X.base X.stack:=by
 rcases I.ok.stk with e | ⟨e,hf⟩
 ·rw [e]; exact I.funs
 ·rw [e]
  obtain ⟨m,hn,_⟩:=I.loc
  refine .cons (by rw [I.ok.kind]; decide) hf hn ?_ I.funs
  exact Heap.get?_none_of_le (Nat.le_trans I.ok.bsz I.ok.above)
theorem Inv.stkSub (I:Inv X pins σ H s):∀ b∈frs X.stack,b∈X.env.locals::X.fs:=fun b hb=>by
 rcases I.ok.stk with e | ⟨e,hf⟩
 ·rw [e] at hb; exact List.mem_cons_of_mem _ hb
 ·rw [e] at hb
  unfold frs at hb
  rw [List.filterMap_cons,hf] at hb
  exact hb
theorem Inv.stkFree (I:Inv X pins σ H s):∀ b∈frs X.stack,H b=none:=fun b hb=>by
 rcases List.mem_cons.mp (I.stkSub b hb) with e | hb
 ·rw [e]; exact I.free
 ·obtain ⟨_,o,ho,_⟩:=I.ok.funs.mem hb
  exact I.base.free b o ho (I.ok.frf b hb) fun z=>I.ok.exfs b z hb
theorem Inv.step {g' : Array GenState} {t' : Nat} {d' : Drawn} {ch : List Addr} (I : Inv X pins σ H s)
    (hch : ∀ b ∈ ch, (b ∈ X.ex ∨ X.s₀.heap.objs.size ≤ b) ∧ b ≠ X.env.locals ∧ (∀ x c, X.env.cells.lookup x = some c → c ≠ b) ∧ ∀ p ∈ X.pn ++ pins, p.1 ≠ b)
    (keep : ∀ b o, b ≠ X.env.locals → b ∉ X.fs → b ∉ ch → s.heap.get? b = some o → H b = none → h'.get? b = some o)
    (slot : ∀ b o, b ≠ X.env.locals → b ∈ X.fs → b ∉ ch → s.heap.get? b = some o → H b = none → ∃ sl, h'.get? b = some { o with slots := sl }) (free : ∀ b o, b ∉ ch → s.heap.get? b = some o → H b = none → H' b = none)
    (there : ∀ b o, b ∉ ch → s.heap.get? b = some o → ∃ o', h'.get? b = some o')
    (tups : ∀ b xs, H b = some (.tup xs) → H' b = some (.tup xs)) (frzs : ∀ b o u, H b = some (.frz o u) → H' b = some (.frz o u)) (tbls : ∀ b ps, H b = some (.tbl ps) → ∃ more, H' b = some (.tbl (ps ++ more)))
    (ns : ∀ m, s.heap.Ns X.env.locals m → h'.Ns X.env.locals m) (hok : HOk X.prog X.w H' h') (hg : AllBare g') :
    Inv X pins σ H' { s with heap := h', gens := g', drawn := d', toks := t' } := by
  have neL : ∀ b o, X.s₀.heap.get? b = some o → b ≠ X.env.locals := fun b o e => Nat.ne_of_lt (Nat.lt_of_lt_of_le (Heap.lt_size e) I.ok.above)
  have neC : ∀ b o, X.s₀.heap.get? b = some o → b ∉ X.ex → b ∉ ch := fun b o e hx hb => by
    rcases (hch b hb).1 with z | z
    · exact hx z
    · exact absurd (Nat.lt_of_lt_of_le (Heap.lt_size e) z) (Nat.lt_irrefl _)
  have cellK : ∀ x c, X.env.cells.lookup x = some c → ∀ v, s.heap.IsCell c v → h'.IsCell c v := fun x c e v ⟨o, ho, hd⟩ => by
    have nch : c ∉ ch := fun z => (hch c z).2.2.1 x c e rfl
    by_cases hc : c ∈ X.fs
    · obtain ⟨sl, q⟩ := slot c o (I.cne x c e) hc nch ho (I.freeC x c e)
      exact ⟨_, q, hd⟩
    · exact ⟨o, keep c o (I.cne x c e) hc nch ho (I.freeC x c e), hd⟩
  refine ⟨I.ok, I.os, hg, ⟨fun b o e n hb hx => ?_, fun b o e n hb hx => ?_, fun b o e n hx => ?_, fun b o e hx => ?_, fun b xs e => tups b xs (I.base.tups b xs e), fun b o xs e => frzs b o xs (I.base.frzs b o xs e), fun b ps e => ?_⟩, ?_, fun x c e => ?_, ?_, fun x c e => ?_, fun p hp => ?_, hok, I.len⟩
  · exact keep b o (neL b o e) hb (neC b o e hx) (I.base.keep b o e n hb hx) (I.base.free b o e n hx)
  · obtain ⟨sl, e1⟩ := I.base.slot b o e n hb hx
    obtain ⟨sl', e2⟩ := slot b _ (neL b o e) hb (neC b o e hx) e1 (I.base.free b o e n hx)
    exact ⟨sl', e2⟩
  · obtain ⟨o', e1⟩ := I.base.there b o e hx
    exact free b o' (neC b o e hx) e1 (I.base.free b o e n hx)
  · obtain ⟨o', e1⟩ := I.base.there b o e hx
    exact there b o' (neC b o e hx) e1
  · obtain ⟨m1, e1⟩ := I.base.tbls b ps e
    obtain ⟨m2, e2⟩ := tbls b _ e1
    exact ⟨m1 ++ m2, by rw [e2, Array.append_assoc]⟩
  · obtain ⟨m, hn, hl⟩ := I.loc
    refine ⟨m, ns m hn, fun i x v e1 e2 e3 => ?_⟩
    obtain ⟨u, r, l⟩ := hl i x v e1 e2 e3
    refine ⟨u, r, ?_⟩
    rcases l with l | ⟨k, c, e, z⟩
    · exact .inl l
    · exact .inr ⟨k, c, e, cellK x c e _ z⟩
  · obtain ⟨v, z⟩ := I.cell x c e
    exact ⟨v, cellK x c e v z⟩
  · obtain ⟨m, ⟨o, _, _, ho, _⟩, _⟩ := I.loc
    exact free _ o (fun z => (hch _ z).2.1 rfl) ho I.free
  · obtain ⟨v, o, ho, hd⟩ := I.cell x c e
    exact free c o (fun z => (hch c z).2.2.1 x c e rfl) ho (I.freeC x c e)
  · obtain ⟨e, n, ne, nf, d⟩ := I.pin p hp
    have nch : p.1 ∉ ch := fun z => (hch p.1 z).2.2.2 p hp rfl
    exact ⟨keep p.1 p.2 ne nf nch e n, free p.1 p.2 nch e n, ne, nf, d⟩
theorem Inv.un {t':Nat} (I:Inv X pins σ H s) (u:Un X.fs [] H H' s.heap h') (hok:HOk X.prog X.w H' h'):Inv X pins σ H' { s with heap:=h',toks:=t' }:=by
 obtain ⟨m,⟨o,es,ep,ho,r⟩,_⟩:=id I.loc
 obtain ⟨sl,hL⟩:=u.any ho I.free (by simp)
 exact I.step (g':=s.gens) (d':=s.drawn) (ch:=[]) (fun _ z=>nomatch z) (fun b o _ hb _ e n=>u.keep b o e n hb (by simp)) (fun b o _ hb _ e n=>u.slot b o e n hb (by simp)) (fun b o _ e n=>u.free b o e n (by simp)) (fun b o _ e=>u.there b o e (by simp)) u.tups u.frzs u.tbls (fun m' hm=>by
  obtain ⟨o',es',ep',ho',r'⟩:=hm
  rw [ho] at ho'; cases ho'
  exact ⟨_,es',ep',hL,r'⟩) hok I.bare
theorem Inv.call {g' : Array GenState} {t' : Nat} {d' : Drawn} {ch : List Addr} (I : Inv X pins σ H s) (u : Un (frs X.stack) ch H H' s.heap h') (hok : HOk X.prog X.w H' h') (hg : AllBare g')
    (hch : ∀ b ∈ ch, (b ∈ X.ex ∨ X.s₀.heap.objs.size ≤ b) ∧ b ≠ X.env.locals ∧ (∀ x c, X.env.cells.lookup x = some c → c ≠ b) ∧ ∀ p ∈ X.pn ++ pins, p.1 ≠ b) :
    Inv X pins σ H' { s with heap := h', gens := g', drawn := d', toks := t' } := by
  obtain ⟨m, ⟨o, es, ep, ho, r⟩, _⟩ := id I.loc
  obtain ⟨sl, hL⟩ := u.any ho I.free fun z => (hch _ z).2.1 rfl
  exact I.step (ch := ch) hch (fun b o hL hb hc e n => u.keep b o e n (fun z => (List.mem_cons.mp (I.stkSub b z)).elim hL hb) hc) (fun b o _ _ hc e n => u.any e n hc) (fun b o hc e n => u.free b o e n hc) (fun b o hc e => u.there b o e hc) u.tups u.frzs u.tbls (fun m' hm => by
    obtain ⟨o', es', ep', ho', r'⟩ := hm
    rw [ho] at ho'; cases ho'
    exact ⟨_, es', ep', hL, r'⟩) hok hg
theorem Inv.turned {t' : Nat} {it : Addr} (I : Inv X pins σ H s) (k : ∀ b o, b ≠ it → s.heap.get? b = some o → h'.get? b = some o) (hn : H it = none) (hL : it ≠ X.env.locals)
    (h1 : it ∈ X.ex ∨ X.s₀.heap.objs.size ≤ it) (h2 : ∀ x c, X.env.cells.lookup x = some c → c ≠ it) (h3 : ∀ p ∈ X.pn ++ pins, p.1 ≠ it) : Inv X pins σ H { s with heap := h', toks := t' } := by
  have nit : ∀ b u, H b = some u → b ≠ it := fun b u e z => by rw [z, hn] at e; cases e
  refine I.step (g' := s.gens) (d' := s.drawn) (ch := [it]) (fun b hb => ?_) (fun b o _ _ hc e _ => k b o (fun z => hc (by simp [z])) e) (fun b o _ _ hc e _ => ⟨o.slots, k b o (fun z => hc (by simp [z])) e⟩) (fun _ _ _ _ n => n)
    (fun b o hc e => ⟨o, k b o (fun z => hc (by simp [z])) e⟩) (fun _ _ e => e) (fun _ _ _ e => e) (fun b ps e => ⟨#[], by rw [e]; simp⟩) (fun m hm => ?_) (fun b u e => ?_) I.bare
  · have e : b = it := by simpa using hb
    subst e
    exact ⟨h1, hL, h2, h3⟩
  · obtain ⟨o, es, ep, ho, r⟩ := hm
    exact ⟨o, es, ep, k _ o (Ne.symm hL) ho, r⟩
  · refine (I.hok b u e).stay (fun c v hc q => k c v ?_ q) (fun _ q => q) fun _ _ q => q
    rcases hc with z | z
    · rw [z]; exact nit b u e
    · exact nit c _ z
theorem Inv.tok (I:Inv X pins σ H s) (t:Nat):Inv X pins σ H { s with toks:=t }:=I.un (h':=s.heap) (t':=t) Un.refl I.hok
theorem Inv.kept {t':Nat} (I:Inv X pins σ H s) (k:∀ b u,s.heap.get? b=some u→h'.get? b=some u):Inv X pins σ H { s with heap:=h',toks:=t' }:=I.un (Un.kept k) (I.hok.kept k)
theorem Inv.laid {a : Addr} {o : HO} {t' : Nat} (I : Inv X pins σ H s) (k : ∀ b u, s.heap.get? b = some u → h'.get? b = some u) (hp : s.heap.objs.size ≤ a) (new : ObjOk X.prog X.w (upd H a o) h' a o) :
    Inv X pins σ (upd H a o) { s with heap := h', toks := t' } := I.un (Un.laid k hp (I.hok.fresh hp)) (I.hok.laid k hp new)
theorem Inv.write {x e : Addr} {o : HO} {t' : Nat} (I : Inv X pins σ H s) (mu : Mut (H x)) (he : e = x ∨ H e = some (.own x)) (k : ∀ b u, b ≠ e → s.heap.get? b = some u → h'.get? b = some u) (heo : ∃ u, h'.get? e = some u)
    (new : ObjOk X.prog X.w (upd H x o) h' x o) : Inv X pins σ (upd H x o) { s with heap := h', toks := t' } := I.un (Un.write mu he k heo) (I.hok.write mu he k heo new)
theorem Inv.pins_of {pins':List (Addr×Obj)} (I:Inv X pins σ H s) (h:∀ p∈pins',s.heap.get? p.1=some p.2∧H p.1=none∧p.1≠X.env.locals∧p.1∉X.fs∧∀ v,p.2.data≠.cell v):Inv X pins' σ H s :=
 ⟨I.ok,I.os,I.bare,I.base,I.loc,I.cell,I.free,I.freeC,fun p hp=>(List.mem_append.mp hp).elim (fun z=>I.pin p (List.mem_append_left _ z)) (h p),I.hok,I.len⟩
theorem nodup_ix {N:List Str} (hN:N.Nodup) {i j:Nat} {x:Str} (a:N[i]?=some x) (b:N[j]?=some x):i=j:=by
 obtain ⟨h1,e1⟩:=List.getElem?_eq_some_iff.mp a
 obtain ⟨h2,e2⟩:=List.getElem?_eq_some_iff.mp b
 exact (List.getElem_inj hN).mp (e1.trans e2.symm)
theorem store_ok2 {M : Model} {A : Around} {E : Value → Shared → Prop} {i : Nat} {x : Str} {v : V} {u : Value} {Q : Unit → Shared → Prop} (I : Inv X pins σ H s) (hN : X.N.Nodup) (hi : X.N[i]? = some x) (hx : Loc X.env.scope x) (r : RelV v u)
    (h : ∀ s', Inv X pins (σ.set i (some v)) H s' → (∃ a, Heap.SameBut a s.heap s'.heap ∧ (a = X.env.locals ∨ X.env.cells.lookup x = some a)) → Q () s') (hf : X.fn x = true ∨ X.env.scope.names.lookup x = some .local := by first | exact .inl rfl | exact .inr rfl | assumption) : wpAny M A (storeName X.env x u) Q E s := by
  obtain ⟨m, hn, hl⟩ := id I.loc
  have hcls : (X.env.scope.kind == .class || (X.env.scope.kind == .module && X.env.locals != X.env.globals)) = false := by rw [I.ok.kind]; rfl
  have hiσ : i < σ.length := by rw [I.len]; exact (List.getElem?_eq_some_iff.mp hi).1
  have cne := I.cne
  have tracked : ∀ {a : Addr} {h' : Heap}, (∃ o, s.heap.get? a = some o ∧ H a = none) → Heap.SameBut a s.heap h' → HOk X.prog X.w H h' := fun {a h'} ha hs b ob e => by
    obtain ⟨_, _, hfree⟩ := ha
    refine (I.hok b ob e).stay (fun c w' hc q => (hs.2 c ?_).trans q) (fun _ q => q) fun _ _ q => q
    rintro rfl
    rcases hc with rfl | hc
    · rw [hfree] at e; cases e
    · rw [hfree] at hc; cases hc
  rcases hx with hk | hk
  · refine wpAny_storeName_local hk hn (fun h' hn' hs => ?_) hcls
    obtain ⟨oL, _, _, hoL, _⟩ := id hn
    refine h _ ⟨I.ok, I.os, I.bare, ⟨fun b o e n hb hx => ?_, fun b o e n hb hx => ?_, I.base.free, fun b o e hx => ?_, I.base.tups, I.base.frzs, I.base.tbls⟩, ⟨_, hn', fun j y v' e1 e2 e3 => ?_⟩, fun y c e => ?_, I.free, I.freeC, fun p hp => ?_, tracked ⟨oL, hoL, I.free⟩ hs, by simpa using I.len⟩ ⟨_, hs, .inl rfl⟩
    · exact (hs.2 b (Nat.ne_of_lt (Nat.lt_of_lt_of_le (Heap.lt_size e) I.ok.above))).trans (I.base.keep b o e n hb hx)
    · obtain ⟨sl, e1⟩ := I.base.slot b o e n hb hx
      exact ⟨sl, (hs.2 b (Nat.ne_of_lt (Nat.lt_of_lt_of_le (Heap.lt_size e) I.ok.above))).trans e1⟩
    · obtain ⟨o', e1⟩ := I.base.there b o e hx
      exact ⟨o', (hs.2 b (Nat.ne_of_lt (Nat.lt_of_lt_of_le (Heap.lt_size e) I.ok.above))).trans e1⟩
    · by_cases hj : j = i
      · subst hj
        rw [hi] at e1; cases e1
        rw [List.getElem?_set_self hiσ] at e2
        cases e2
        exact ⟨u, r, .inl ⟨hk, by simp⟩⟩
      · rw [List.getElem?_set_ne (Ne.symm hj)] at e2
        obtain ⟨u', r', q⟩ := hl j y v' e1 e2 e3
        refine ⟨u', r', ?_⟩
        rcases q with ⟨k, e⟩ | ⟨k, c, e, z⟩
        · refine .inl ⟨k, ?_⟩
          have : y ≠ x := fun e => hj (nodup_ix hN e1 (e ▸ hi))
          simp [this, e]
        · exact .inr ⟨k, c, e, z.sameBut hs (cne y c e)⟩
    · obtain ⟨w', z⟩ := I.cell y c e
      exact ⟨w', z.sameBut hs (cne y c e)⟩
    · obtain ⟨e, n, ne, nf, d⟩ := I.pin p hp
      exact ⟨(hs.2 p.1 ne).trans e, n, ne, nf, d⟩
  · have hfn : X.fn x = true := by
      rcases hf with z | z
      · exact z
      · rw [z] at hk; cases hk
    obtain ⟨c, hc⟩ := I.ok.has x (.inl hk)
    obtain ⟨w', z⟩ := I.cell x c hc
    refine wpAny_storeName_cell I.ok.kind hk hc z (fun h' hc' hs => ?_)
    obtain ⟨oc, hoc, hocd⟩ := id z
    refine h { s with heap := h' } ⟨I.ok, I.os, I.bare, ⟨fun b o e n hb hx => ?_, fun b o e n hb hx => ?_, I.base.free, fun b o e hx => ?_, I.base.tups, I.base.frzs, I.base.tbls⟩, ⟨m, hn.sameBut hs (Ne.symm (cne x c hc)), fun j y v' e1 e2 e3 => ?_⟩, fun y c' e => ?_, I.free, I.freeC, fun p hp => ?_, tracked ⟨oc, hoc, I.freeC x c hc⟩ hs, by simpa using I.len⟩ ⟨c, hs, .inr hc⟩
    · exact (hs.2 b (Nat.ne_of_lt (Nat.lt_of_lt_of_le (Heap.lt_size e) (I.ok.cab x c hfn hc)))).trans (I.base.keep b o e n hb hx)
    · obtain ⟨sl, e1⟩ := I.base.slot b o e n hb hx
      exact ⟨sl, (hs.2 b (Nat.ne_of_lt (Nat.lt_of_lt_of_le (Heap.lt_size e) (I.ok.cab x c hfn hc)))).trans e1⟩
    · obtain ⟨o', e1⟩ := I.base.there b o e hx
      exact ⟨o', (hs.2 b (Nat.ne_of_lt (Nat.lt_of_lt_of_le (Heap.lt_size e) (I.ok.cab x c hfn hc)))).trans e1⟩
    · by_cases hj : j = i
      · subst hj
        rw [hi] at e1; cases e1
        rw [List.getElem?_set_self hiσ] at e2
        cases e2
        exact ⟨u, r, .inr ⟨.inl hk, c, hc, hc'⟩⟩
      · rw [List.getElem?_set_ne (Ne.symm hj)] at e2
        obtain ⟨u', r', q⟩ := hl j y v' e1 e2 e3
        refine ⟨u', r', ?_⟩
        rcases q with q | ⟨k, c', e, z'⟩
        · exact .inl q
        · refine .inr ⟨k, c', e, z'.sameBut hs ?_⟩
          rintro rfl
          exact hj (nodup_ix hN e1 (I.ok.inj _ _ _ e hc ▸ hi))
    · by_cases hcc : c' = c
      · subst hcc; exact ⟨_, hc'⟩
      · obtain ⟨w2, z2⟩ := I.cell y c' e
        exact ⟨w2, z2.sameBut hs hcc⟩
    · obtain ⟨e, n, ne, nf, d⟩ := I.pin p hp
      refine ⟨(hs.2 p.1 ?_).trans e, n, ne, nf, d⟩
      intro q
      rw [q, hoc] at e
      have q' : oc = p.2 := Option.some.inj e
      exact d w' (by rw [← q']; exact hocd)
theorem store_ok {M : Model} {A : Around} {E : Value → Shared → Prop} {i : Nat} {x : Str} {v : V} {u : Value} {Q : Unit → Shared → Prop} (I : Inv X pins σ H s) (hN : X.N.Nodup) (hi : X.N[i]? = some x) (hx : Loc X.env.scope x) (r : RelV v u)
    (h : ∀ s', Inv X pins (σ.set i (some v)) H s' → Q () s') (hf : X.fn x = true ∨ X.env.scope.names.lookup x = some .local := by first | exact .inl rfl | exact .inr rfl | assumption) : wpAny M A (storeName X.env x u) Q E s :=
  store_ok2 I hN hi hx r (fun s' I' _ => h s' I') hf
theorem Inv.call' {s' : Shared} {ch : List Addr} (I : Inv X pins σ H s) (ho : s'.os = s.os) (u : Un (frs X.stack) ch H H' s.heap s'.heap) (hok : HOk X.prog X.w H' s'.heap) (hg : AllBare s'.gens)
    (hch : ∀ b ∈ ch, (b ∈ X.ex ∨ X.s₀.heap.objs.size ≤ b) ∧ b ≠ X.env.locals ∧ (∀ x c, X.env.cells.lookup x = some c → c ≠ b) ∧ ∀ p ∈ X.pn ++ pins, p.1 ≠ b) : Inv X pins σ H' s' := by
  obtain ⟨h', g', d', t', o'⟩ := s'
  have e : o' = s.os := ho
  subst e
  exact I.call (g' := g') (t' := t') (d' := d') u hok hg hch
end
abbrev XK:=Value→Option Addr→Hp→Prop
abbrev St:=List (Option V)
abbrev VK:=V→Hp→Prop
abbrev TE:=St→Hp→VK→Prop
abbrev TT:=St→Hp→(Bool→Hp→Prop)→Prop
abbrev TA:=St→Hp→(List V→Hp→Prop)→Prop
structure Ends where
 nx:St→Hp→Prop
 rt:VK
 bk:St→Hp→Prop:=fun _ _=>False
 ct:St→Hp→Prop:=fun _ _=>False
abbrev TS:=Ends→St→Hp→Prop
def EP (X:Cx) (pins:List (Addr×Obj)) (σ:St) (Q:VK) (u:Value) (s':Shared):Prop:=∃ v H',Inv X pins σ H' s'∧RelV v u∧Q v H'
def TP (X:Cx) (pins:List (Addr×Obj)) (σ:St) (Q:Bool→Hp→Prop) (b:Bool) (s':Shared):Prop:=∃ H',Inv X pins σ H' s'∧Q b H'
def AP (X:Cx) (pins:List (Addr×Obj)) (σ:St) (Q:List V→Hp→Prop) (us:List Value) (s':Shared):Prop:=∃ vs H',Inv X pins σ H' s'∧Vals vs us∧Q vs H'
def SP (X:Cx) (pins:List (Addr×Obj)) (D:Ends) (f:Flow) (s':Shared):Prop :=
 match f with
 | .next=>∃ σ' H',Inv X pins σ' H' s'∧D.nx σ' H'
 | .brk=>∃ σ' H',Inv X pins σ' H' s'∧D.bk σ' H'
 | .cont=>∃ σ' H',Inv X pins σ' H' s'∧D.ct σ' H'
 | .ret u=>∃ v σ' H',Inv X pins σ' H' s'∧RelV v u∧D.rt v H'
def PE (X:Cx) (e:Expr) (t:TE):Prop :=
 ∀ (pins:List (Addr×Obj)) (s:Shared) (σ:St) (H:Hp) (Q:VK),Inv X pins σ H s→t σ H Q→wpAny (model X.prog X.w) X.A (eval e X.env) (EP X pins σ Q) X.xe s
def PT (X:Cx) (e:Expr) (t:TT):Prop :=
 ∀ (pins:List (Addr×Obj)) (s:Shared) (σ:St) (H:Hp) (Q:Bool→Hp→Prop),Inv X pins σ H s→t σ H Q→wpAny (model X.prog X.w) X.A (isTrue e X.env (eval e X.env)) (TP X pins σ Q) X.xe s
def PW (X:Cx) (e:Expr) (t:TT):Prop :=
 ∀ (whole:Sem Value) (pins:List (Addr×Obj)) (s:Shared) (σ:St) (H:Hp) (Q:Bool→Hp→Prop),Inv X pins σ H s→t σ H Q→wpAny (model X.prog X.w) X.A (isTrue e X.env whole) (TP X pins σ Q) X.xe s
theorem PW.pt {X:Cx} {e:Expr} {t:TT} (h:PW X e t):PT X e t:=h _
def PA (X:Cx) (es:List Expr) (t:TA):Prop :=
 ∀ (pos:Pos) (pins:List (Addr×Obj)) (s:Shared) (σ:St) (H:Hp) (Q:List V→Hp→Prop),Inv X pins σ H s→t σ H Q→wpAny (model X.prog X.w) X.A (spliced (backTo pos (starEach es X.env))) (AP X pins σ Q) X.xe s
def PS (X:Cx) (st:Stmt) (t:TS):Prop :=
 ∀ (pins:List (Addr×Obj)) (s:Shared) (σ:St) (H:Hp) (D:Ends),Inv X pins σ H s→t D σ H→wpAny (model X.prog X.w) X.A (exec st X.env) (SP X pins D) X.xe s
def PSs (X:Cx) (st:List Stmt) (t:TS):Prop :=
 ∀ (pins:List (Addr×Obj)) (s:Shared) (σ:St) (H:Hp) (D:Ends),Inv X pins σ H s→t D σ H→wpAny (model X.prog X.w) X.A (execs st X.env) (SP X pins D) X.xe s
theorem thn {α:Type} {t:Sem α} {Q Q':α→Shared→Prop} {M:Model} {A:Around} {E:Value→Shared→Prop} {s:Shared} (h:wpAny M A t Q E s) (hQ:∀ a s,Q a s→Q' a s):wpAny M A t Q' E s:=wpAny_mono h hQ fun _ _ x=>x
end L2
namespace L2
open PySem PySem.Spec PyProof.Rows
section
variable {X:Cx}
theorem bin {a b : Expr} {ta tb : TE} (ha : PE X a ta) (hb : PE X b tb) {pins : List (Addr × Obj)} {s : Shared} {σ : St} {H : Hp} {R : V → V → Hp → Prop} (I : Inv X pins σ H s) (h : ta σ H fun x H1 => tb σ H1 fun y H2 => R x y H2)
    {α : Type} {Q : α → Shared → Prop} {f : Value → Value → Sem α}
    (hf : ∀ v u s2 x y H2, Inv X pins σ H2 s2 → RelV x v → RelV y u → R x y H2 → wpAny (model X.prog X.w) X.A (f v u) Q X.xe s2) :
    wpAny (model X.prog X.w) X.A (eval a X.env) (fun v s₁ => wpAny (model X.prog X.w) X.A (eval b X.env) (fun u s₂ => wpAny (model X.prog X.w) X.A (f v u) Q X.xe s₂) X.xe s₁) X.xe s := by
  refine thn (ha pins s σ H _ I h) fun v s1 ⟨x, H1, I1, r1, q1⟩ => ?_
  refine thn (hb pins s1 σ H1 _ I1 q1) fun u s2 ⟨y, H2, I2, r2, q2⟩ => ?_
  exact hf v u s2 x y H2 I2 r1 r2 q2
def tVar (i:Nat):TE:=fun σ H Q=>∃ v,σ[i]?=some (some v)∧Q v H
def tC (v:V):TE:=fun _ H Q=>Q v H
theorem pe_var {i:Nat} {x:Str} {pos:Pos} (hN:X.N[i]?=some x) (hv:Vis X.env.scope x) (hd:(x == ("__debug__" : Str))=false:=by decide) (hcd:(x == ("__classdict__" : Str))=false:=by decide):PE X (.Name x pos) (tVar i):=by
 intro pins s σ H Q I h
 obtain ⟨v,e,h⟩:=h
 obtain ⟨m,hn,hl⟩:=I.loc
 obtain ⟨u,r,l⟩:=hl i x v hN e hv
 have fin:EP X pins σ Q u s:=⟨v,H,I,r,h⟩
 rcases l with ⟨hk,hm⟩ | ⟨hk,c,hc,hcell⟩
 ·exact wpAny_Name (wpAny_loadName_local I.ok.kind hk hn hm fin) hd
 ·rcases hk with hk | hk
  ·exact wpAny_Name (wpAny_loadName_cell I.ok.kind hk hc hcell fin) hd
  ·exact wpAny_Name (wpAny_loadName_free I.ok.kind hk hc hcell fin hcd) hd
theorem pe_int {i j pos}:PE X (.Constant (.int i) j pos) (tC (.int i)):=fun _ _ _ H _ I h=>wpAny_Constant_int ⟨.int i,H,I.tok _,⟨_,rfl⟩,h⟩
theorem pe_bl {b j pos}:PE X (.Constant (.bool b) j pos) (tC (.bl b)):=fun _ _ _ H _ I h=>Constant_bool ⟨.bl b,H,I,rfl,h⟩
theorem pe_non {j pos}:PE X (.Constant .none j pos) (tC .non):=fun _ _ _ H _ I h=>Constant_none ⟨.non,H,I,rfl,h⟩
theorem pe_str {x j pos}:PE X (.Constant (.str x) j pos) (tC (.str x)):=fun _ _ _ H _ I h=>Calls.Constant_str ⟨.str x,H,I.tok _,⟨_,rfl⟩,h⟩
def Gl (X:Cx) (x:Str):Prop:=X.env.kindOf x=some .globalImplicit
theorem ld_glob {E : Value → Shared → Prop} {pins : List (Addr × Obj)} {s : Shared} {σ : St} {H : Hp} {x : Str} {u : Value} {pos : Pos} {Q : Value → Shared → Prop} (I : Inv X pins σ H s) (hg : Gl X x) (hm : X.mg x = some u) (h : Q u s)
    (hd : (x == ("__debug__" : Str)) = false := by decide) : wpAny (model X.prog X.w) X.A (eval (.Name x pos) X.env) Q E s :=
  Calls.Name_function_global I.ok.kind hg (Calls.loadGlobal_global (by rw [I.ok.glob]; exact I.mod.glob.keeps I.bk) hm h) hd
theorem ld_blt {E : Value → Shared → Prop} {pins : List (Addr × Obj)} {s : Shared} {σ : St} {H : Hp} {x : Str} {u : Value} {pos : Pos} {Q : Value → Shared → Prop} (I : Inv X pins σ H s) (hg : Gl X x) (hm : X.mg x = none) (hv : bootBuiltins x = some u) (h : Q u s)
    (hn : x ≠ "__name__" := by decide) (hd : (x == ("__debug__" : Str)) = false := by decide) : wpAny (model X.prog X.w) X.A (eval (.Name x pos) X.env) Q E s := by
  obtain ⟨mb, h1, h2⟩ := I.mod.blt
  exact Calls.Name_function_global I.ok.kind hg (Calls.loadGlobal_builtin (by rw [I.ok.glob]; exact I.mod.glob.keeps I.bk) hm (by rw [I.ok.blt]; exact h1.keeps I.bk) ((h2 x hn).trans hv) h) hd
theorem pe_bltn {x:Str} {v:V} {u:Value} {pos:Pos} (hg:Gl X x) (hm:X.mg x=none) (hv:bootBuiltins x=some u) (r:RelV v u) (hn:x ≠ "__name__" := by decide) (hd:(x == ("__debug__" : Str))=false:=by decide):PE X (.Name x pos) (tC v) :=
 fun _ _ _ H _ I h=>ld_blt I hg hm hv ⟨v,H,I,r,h⟩ hn hd
variable {a b:Expr} {ta tb:TE} {pos:Pos}
variable {tA tB':TT} {rest:List Expr}
def tAnd (t u:TT):TT:=fun σ H Q=>t σ H fun c H1=>if c=true then u σ H1 Q else Q false H1
def tOr (t u:TT):TT:=fun σ H Q=>t σ H fun c H1=>if c=true then Q true H1 else u σ H1 Q
def tNot (t:TT):TT:=fun σ H Q=>t σ H fun c H1=>Q (!c) H1
theorem pw_and1 (ha:PT X a tA):PW X (.BoolOp .And [a] pos) tA:=by
 intro wh pins s σ H Q I h
 refine isTrue_and (thn (ha pins s σ H Q I h) fun c s1 e=>?_)
 cases c with
 | true=>exact isTrue_and_nil e
 | false=>exact e
theorem pw_or1 (ha:PT X a tA):PW X (.BoolOp .Or [a] pos) tA:=by
 intro wh pins s σ H Q I h
 refine isTrue_or (thn (ha pins s σ H Q I h) fun c s1 e=>?_)
 cases c with
 | false=>exact isTrue_or_nil e
 | true=>exact e
theorem pw_and (ha:PT X a tA) (hb:PW X (.BoolOp .And (b::rest) pos) tB'):PW X (.BoolOp .And (a::b::rest) pos) (tAnd tA tB'):=by
 intro wh pins s σ H Q I h
 refine isTrue_and (thn (ha pins s σ H _ I h) fun c s1 ⟨H1,I1,q1⟩=>?_)
 cases c with
 | true=>exact hb wh pins s1 σ H1 Q I1 q1
 | false=>exact ⟨H1,I1,q1⟩
theorem pw_or (ha:PT X a tA) (hb:PW X (.BoolOp .Or (b::rest) pos) tB'):PW X (.BoolOp .Or (a::b::rest) pos) (tOr tA tB'):=by
 intro wh pins s σ H Q I h
 refine isTrue_or (thn (ha pins s σ H _ I h) fun c s1 ⟨H1,I1,q1⟩=>?_)
 cases c with
 | true=>exact ⟨H1,I1,q1⟩
 | false=>exact hb wh pins s1 σ H1 Q I1 q1
theorem pt_not (ha:PT X a tA):PT X (.UnaryOp .Not a pos) (tNot tA):=by
 intro pins s σ H Q I h
 exact isTrue_not (ha pins s σ H (fun c H1=>Q (!c) H1) I h)
def tNotV (ta:TE):TE:=fun σ H Q=>ta σ H fun x H1=>∃ c,x=.bl c∧Q (.bl (!c)) H1
theorem pe_not (ha:PE X a ta):PE X (.UnaryOp .Not a pos) (tNotV ta):=by
 intro pins s σ H Q I h
 refine UnaryOp_ (thn (ha pins s σ H _ I h) fun v s1 ⟨x,H1,I1,r1,q1⟩=>?_)
 obtain ⟨c,rfl,q1⟩:=q1
 cases r1
 exact not_of (wpAny_truthy_bool ⟨.bl (!c),H1,I1,rfl,q1⟩)
end
end L2
namespace L2
open PySem PySem.Spec PyProof.Rows
def SqL (K:PySem.W.Frag) (H:Hp) (a:Addr) (xs:List V):Prop :=
 Rd H a (.lst xs) ∨
  ∃ (o:Obj) (its:Array Value) (n:Nat),K.lookup a=some o∧o.cls=.type "list" ∧ o.dict=none∧o.data=.seq its n∧its.size≤sizeLine∧Vals xs its.toList
def SqT (K:PySem.W.Frag) (H:Hp) (a:Addr) (xs:List V):Prop :=
 Rd H a (.tup xs) ∨
  ∃ (o:Obj) (its:Array Value) (n:Nat),K.lookup a=some o∧o.cls=.type "tuple" ∧ o.data=.seq its n∧its.size≤sizeLine∧Vals xs its.toList
def absV:Value→Option V
 | .none=>some .non
 | .bool b=>some (.bl b)
 | .int i _=>some (.int i)
 | .str x _=>some (.str x)
 | .bytes b _=>some (.byt b)
 | .float b _=>some (.flt b)
 | .ref a=>some (.ref a)
 | .type n=>some (.ty n)
 | _=>none
theorem RelV.abs {x:V} {u:Value} (r:RelV x u):absV u=some x:=by
 cases x with
 | non=>cases r; rfl
 | bl _=>cases r; rfl
 | int _=>obtain ⟨t,rfl⟩:=r; rfl
 | str _=>obtain ⟨t,rfl⟩:=r; rfl
 | byt _=>obtain ⟨t,rfl⟩:=r; rfl
 | flt _=>obtain ⟨t,rfl⟩:=r; rfl
 | ref _=>cases r; rfl
 | ty _=>cases r; rfl
theorem RelV.inj {x y:V} {u:Value} (r:RelV x u) (q:RelV y u):x=y:=Option.some.inj (r.abs.symm.trans q.abs)
theorem Vals.inj:∀ {xs ys:List V} {us:List Value},Vals xs us→Vals ys us→xs=ys
 | _,_,_,.nil,.nil=>rfl
 | _,_,_,.cons r t,.cons r' t'=>by rw [r.inj r',Vals.inj t t']
section
variable {X:Cx} {pins:List (Addr×Obj)} {σ:St} {H:Hp} {s:Shared} {a:Addr} {xs ys:List V}
theorem SqL.of {K:PySem.W.Frag} (h:H a=some (.lst xs)):SqL K H a xs:=.inl (.inl h)
theorem SqT.of {K:PySem.W.Frag} (h:H a=some (.tup xs)):SqT K H a xs:=.inl (.inl h)
theorem Inv.list (I:Inv X pins σ H s) (h:SqL X.K H a xs):∃ its:List Value,Vals xs its∧PlainL s.heap a its.toArray∧xs.length≤sizeLine:=by
 rcases h with h | ⟨o,its,n,hk,hc,hd,hs,hz,r⟩
 ·obtain ⟨z,its,n,r,e⟩:=h.ok I.hok
  exact ⟨its,r,⟨_,n,e,rfl,rfl,rfl⟩,z⟩
 ·refine ⟨its.toList,r,⟨o,n,I.kIn a o hk,hc,hd,by simpa using hs⟩,?_⟩
  have e:=r.length
  simp only [Array.length_toList] at e
  omega
theorem Inv.tuple (I:Inv X pins σ H s) (h:SqT X.K H a xs):∃ its:List Value,Vals xs its∧IsTup s.heap a its.toArray∧xs.length≤sizeLine:=by
 rcases h with h | ⟨o,its,n,hk,hc,hs,hz,r⟩
 ·obtain ⟨z,its,r,p⟩:=h.ok I.hok
  exact ⟨its,r,p,z⟩
 ·refine ⟨its.toList,r,⟨o,I.kIn a o hk,hc,n,by simpa using hs⟩,?_⟩
  have e:=r.length
  simp only [Array.length_toList] at e
  omega
theorem Inv.list_inj (I:Inv X pins σ H s) (h:SqL X.K H a xs) (h':SqL X.K H a ys):xs=ys:=by
 obtain ⟨its,r,⟨o,n,e,_,_,d⟩,_⟩:=I.list h
 obtain ⟨its',r',⟨o',n',e',_,_,d'⟩,_⟩:=I.list h'
 rw [e] at e'; cases e'
 rw [d] at d'
 injection d' with d1 _
 have:its=its':=by simpa using congrArg Array.toList d1
 subst this
 exact r.inj r'
theorem Inv.tuple_inj (I:Inv X pins σ H s) (h:SqT X.K H a xs) (h':SqT X.K H a ys):xs=ys:=by
 obtain ⟨its,r,⟨o,e,_,n,d⟩,_⟩:=I.tuple h
 obtain ⟨its',r',⟨o',e',_,n',d'⟩,_⟩:=I.tuple h'
 rw [e] at e'; cases e'
 rw [d] at d'
 injection d' with d1 _
 have:its=its':=by simpa using congrArg Array.toList d1
 subst this
 exact r.inj r'
end
abbrev Cx.wish (X:Cx) (E:Value→Shared→Prop):Cx:={ X with xe:=E }
abbrev Cx.nox (X:Cx):Cx:=X.wish fun _ _=>False
theorem Cx.Ok.wish {X:Cx} (ok:X.Ok) (E:Value→Shared→Prop):(X.wish E).Ok :=
 ⟨ok.mod,ok.kind,ok.glob,ok.blt,ok.above,ok.inj,ok.has,ok.cab,ok.hd,ok.frames,ok.stk,ok.exf,ok.bs,ok.bsz,ok.noex,ok.exfs,ok.funs,ok.frf⟩
theorem Cx.Ok.unwish {X:Cx} {E:Value→Shared→Prop} (ok:(X.wish E).Ok):X.Ok :=
 ⟨ok.mod,ok.kind,ok.glob,ok.blt,ok.above,ok.inj,ok.has,ok.cab,ok.hd,ok.frames,ok.stk,ok.exf,ok.bs,ok.bsz,ok.noex,ok.exfs,ok.funs,ok.frf⟩
section
variable {X:Cx} {pins:List (Addr×Obj)} {σ:St} {H:Hp} {s:Shared} {E:Value→Shared→Prop}
theorem Inv.wish (I:Inv X pins σ H s) (E:Value→Shared→Prop):Inv (X.wish E) pins σ H s:=⟨I.ok.wish E,I.os,I.bare,I.base,I.loc,I.cell,I.free,I.freeC,I.pin,I.hok,I.len⟩
theorem Inv.unwish (I:Inv (X.wish E) pins σ H s):Inv X pins σ H s:=⟨I.ok.unwish,I.os,I.bare,I.base,I.loc,I.cell,I.free,I.freeC,I.pin,I.hok,I.len⟩
theorem SP.unwish {D:Ends} {f:Flow} {s':Shared} (h:SP (X.wish E) pins D f s'):SP X pins D f s':=by
 cases f with
 | next=>obtain ⟨σ',H',I,q⟩:=h; exact ⟨σ',H',I.unwish,q⟩
 | brk=>obtain ⟨σ',H',I,q⟩:=h; exact ⟨σ',H',I.unwish,q⟩
 | cont=>obtain ⟨σ',H',I,q⟩:=h; exact ⟨σ',H',I.unwish,q⟩
 | ret u=>obtain ⟨v,σ',H',I,r,q⟩:=h; exact ⟨v,σ',H',I.unwish,r,q⟩
theorem PSs.nox {st:List Stmt} {t:TS} (h:PSs X.nox st t):PSs X st t:=fun pins s σ H D I hw =>
 wpAny_mono (h pins s σ H D (I.wish _) hw) (fun _ _ q=>q.unwish) fun _ _ z=>False.elim z
end
section
variable {X:Cx} {st:Stmt} {rest:List Stmt} {t u:TS} {e:Expr} {te:TE} {pos:Pos}
def tNext:TS:=fun D σ H=>D.nx σ H
def tSeq (t u:TS):TS:=fun D σ H=>t { D with nx:=u D } σ H
theorem pss_nil:PSs X [] tNext:=fun _ _ σ H _ I h=>wpAny_execs_nil ⟨σ,H,I,h⟩
theorem pss_cons (h1:PS X st t) (h2:PSs X rest u):PSs X (st::rest) (tSeq t u):=by
 intro pins s σ H D I h
 refine wpAny_execs_cons (thn (h1 pins s σ H { D with nx:=u D } I h) fun f s1 q=>?_)
 cases f with
 | next =>
  obtain ⟨σ',H',I',q⟩:=q
  exact h2 pins s1 σ' H' D I' q
 | ret v=>exact q
 | brk=>exact q
 | cont=>exact q
def tBreak:TS:=fun D σ H=>D.bk σ H
def tCont:TS:=fun D σ H=>D.ct σ H
theorem ps_pass:PS X (.Pass pos) tNext:=fun _ _ σ H _ I h=>wpAny_Pass ⟨σ,H,I,h⟩
theorem ps_break:PS X (.Break pos) tBreak:=fun _ _ σ H _ I h=>wpAny_Break ⟨σ,H,I,h⟩
theorem ps_continue:PS X (.Continue pos) tCont:=fun _ _ σ H _ I h=>wpAny_Continue ⟨σ,H,I,h⟩
theorem Inv.quiet {pins:List (Addr×Obj)} {σ:St} {H:Hp} {s:Shared} (I:Inv X pins σ H s):interactive X.env=false:=by simp [interactive,I.ok.kind]
def tDrop (te:TE):TS:=fun D σ H=>te σ H fun _ H1=>D.nx σ H1
theorem ps_expr (he:PE X e te) (hs:swapsWith e none pos.line X.env=pure false:=by rfl):PS X (.Expr e pos) (tDrop te):=by
 intro pins s σ H D I h
 exact wpAny_Expr_any (thn (he pins s σ H _ I h) fun v s1 ⟨x,H1,I1,r1,q1⟩=>⟨σ,H1,I1,q1⟩) I.quiet hs
def tRet (te:TE):TS:=fun D σ H=>te σ H D.rt
theorem ps_ret (he:PE X e te):PS X (.Return (some e) pos) (tRet te):=by
 intro pins s σ H D I h
 exact wpAny_Return_some (thn (he pins s σ H _ I h) fun v s1 ⟨x,H1,I1,r1,q1⟩=>⟨x,σ,H1,I1,r1,q1⟩)
def tRetN:TS:=fun D _ H=>D.rt .non H
theorem ps_retN:PS X (.Return none pos) tRetN:=fun _ _ σ H _ I h=>wpAny_Return_none ⟨.non,σ,H,I,rfl,h⟩
def tIfS (c:TT) (t u:TS):TS:=fun D σ H=>c σ H fun b H1=>if b=true then t D σ H1 else u D σ H1
theorem ps_if {c:Expr} {a b:List Stmt} {tc:TT} (hc:PT X c tc) (ha:PSs X a t) (hb:PSs X b u):PS X (.If c a b pos) (tIfS tc t u):=by
 intro pins s σ H D I h
 refine wpAny_If (thn (hc pins s σ H _ I h) fun d s1 ⟨H1,I1,q1⟩=>?_)
 cases d with
 | true=>exact ha pins s1 σ H1 D I1 q1
 | false=>exact hb pins s1 σ H1 D I1 q1
def tNever:TS:=fun _ _ _=>False
theorem ps_never:PS X st tNever:=fun _ _ _ _ _ _ h=>h.elim
end
abbrev TG:=V→St→Hp→(St→Hp→Prop)→Prop
abbrev TGs:=List V→St→Hp→(St→Hp→Prop)→Prop
def PG (X:Cx) (target:Expr) (t:TG):Prop :=
 ∀ (pins:List (Addr×Obj)) (s:Shared) (σ:St) (H:Hp) (v:V) (u:Value) (Q:St→Hp→Prop),Inv X pins σ H s→RelV v u→t v σ H Q →
  wpAny (model X.prog X.w) X.A (assign target X.env u) (fun _ s'=>∃ σ' H',Inv X pins σ' H' s'∧Q σ' H') X.xe s
def PGs (X:Cx) (ts:List Expr) (t:TGs):Prop :=
 ∀ (pins:List (Addr×Obj)) (s:Shared) (σ:St) (H:Hp) (vs:List V) (us:List Value) (Q:St→Hp→Prop),Inv X pins σ H s→Vals vs us→t vs σ H Q →
  wpAny (model X.prog X.w) X.A (assignInOrder ((assignEach ts X.env).map (·.2)) us) (fun _ s'=>∃ σ' H',Inv X pins σ' H' s'∧Q σ' H') X.xe s
abbrev TSet:=V→V→V→Hp→(Hp→Prop)→Prop
def PSet (X:Cx) (t:TSet):Prop :=
 ∀ (pins:List (Addr×Obj)) (s:Shared) (σ:St) (H:Hp) (o i v:V) (ov iv u:Value) (Q:Hp→Prop),Inv X pins σ H s→RelV o ov→RelV i iv→RelV v u→t o i v H Q →
  wpAny (model X.prog X.w) X.A (setItem ov iv u) (fun _ s'=>∃ H',Inv X pins σ H' s'∧Q H') X.xe s
section
variable {X:Cx} {pos:Pos}
def gName (i:Nat):TG:=fun v σ H Q=>Q (σ.set i (some v)) H
theorem pg_name {i:Nat} {x:Str} (hN:X.N.Nodup) (hi:X.N[i]?=some x) (hx:Loc X.env.scope x) (hf:X.fn x=true∨X.env.scope.names.lookup x=some .local:=by first | exact .inl rfl | exact .inr rfl | assumption):PG X (.Name x pos) (gName i):=by
 intro pins s σ H v u Q I r h
 exact wpAny_assign_Name (store_ok I hN hi hx r (fun s' I'=>⟨_,H,I',h⟩) hf)
def gNil:TGs:=fun vs σ H Q=>vs=[]∧Q σ H
def gCons (t:TG) (u:TGs):TGs:=fun vs σ H Q=>∃ v r,vs=v::r∧t v σ H fun σ' H'=>u r σ' H' Q
theorem pgs_nil:PGs X [] gNil:=by
 intro pins s σ H vs us Q I r h
 obtain ⟨e,h⟩:=h
 subst e
 cases r
 exact assignInOrder_nil ⟨σ,H,I,h⟩
theorem pgs_cons {e : Expr} {es : List Expr} {t : TG} {u : TGs} (h1 : PG X e t) (h2 : PGs X es u)
    (hs : (assignEach (e :: es) X.env).map (·.2) = assign e X.env :: (assignEach es X.env).map (·.2) := by rfl) : PGs X (e :: es) (gCons t u) := by
  intro pins s σ H vs us Q I r h
  obtain ⟨v, vr, e1, h⟩ := h
  subst e1
  cases r with
  | cons r rr =>
    rw [hs]
    refine assignInOrder_cons (thn (h1 pins s σ H _ _ _ I r h) fun _ s1 ⟨σ1, H1, I1, q1⟩ => ?_)
    exact h2 pins s1 σ1 H1 _ _ Q I1 rr q1
def gTup (K:PySem.W.Frag) (n:Nat) (t:TGs):TG:=fun v σ H Q=>∃ a xs,v=.ref a∧SqT K H a xs∧xs.length=n∧t xs σ H Q
theorem pg_tup {es : List Expr} {k : Nat} {t : TGs} {n : Nat} (hc : X.calm = true) (h : PGs X es t)
    (hn : (assignEach es X.env).length = n := by rfl) (hst : (assignEach es X.env).findIdx? (·.1) = none := by rfl) : PG X (.Tuple es k pos) (gTup X.K n t) := by
  intro pins s σ H v u Q I r hw
  obtain ⟨a, xs, e1, hq, hl, hw⟩ := hw
  subst e1
  cases r
  obtain ⟨its, rv, ht, hz⟩ := I.tuple hq
  refine assign_Tuple_tuple (I.ok.hd hc) ht (by simp [hn, ← hl, rv.length]) hst fun h' hx => ?_
  have I1 : Inv X pins σ H { s with heap := h' } := I.kept (t' := s.toks) fun b o e => hx b o (Nat.ne_of_lt (Heap.lt_size e)) e
  exact h pins _ σ H xs _ Q I1 (by simpa using rv) hw
def gSub (to ti:TE) (t:TSet):TG:=fun v σ H Q=>to σ H fun o H1=>ti σ H1 fun i H2=>t o i v H2 fun H3=>Q σ H3
theorem pg_sub {o i : Expr} {to ti : TE} {t : TSet} (ho : PE X o to) (hi : PE X i ti) (hs : PSet X t)
    (ha : ∀ v, assign (.Subscript o i pos) X.env v = (do
      let ov ← holding [v] (eval o X.env)
      let iv ← holding [v, ov] (eval i X.env)
      standAt pos
      holding [v, ov, iv] (setItem ov iv v)
      release [v, ov, iv] []) := by intro _; rfl) : PG X (.Subscript o i pos) (gSub to ti t) := by
  intro pins s σ H v u Q I r h
  rw [ha]
  refine wpAny_bind (wpAny_holding (thn (ho pins s σ H _ I h) fun ov s1 ⟨x, H1, I1, r1, q1⟩ => ?_))
  refine wpAny_bind (wpAny_holding (thn (hi pins s1 σ H1 _ I1 q1) fun iv s2 ⟨y, H2, I2, r2, q2⟩ => ?_))
  refine wpAny_bind (wpAny_standAt (wpAny_bind (wpAny_holding (thn (hs pins s2 σ H2 x y v ov iv u _ I2 r1 r2 r q2) fun _ s3 ⟨H3, I3, q3⟩ => ?_))))
  exact wpAny_release ⟨σ, H3, I3, q3⟩
def tAsg (te:TE) (g:TG):TS:=fun D σ H=>te σ H fun x H1=>g x σ H1 D.nx
theorem ps_asg {tg e : Expr} {te : TE} {g : TG} (he : PE X e te) (hg : PG X tg g) (hs : swapsWithSole [tg] e pos.line X.env = pure false := by rfl) (hw : swappedStores [tg] e X.env = pure none := by rfl)
    (h1 : (assignEach [tg] X.env).map (·.2) = [assign tg X.env] := by rfl) : PS X (.Assign [tg] e pos) (tAsg te g) := by
  intro pins s σ H D I h
  refine wpAny_Assign_stores (thn (he pins s σ H _ I h) fun v s1 ⟨x, H1, I1, r1, q1⟩ => ?_) hs hw
  rw [h1]
  exact thn (hg pins s1 σ H1 x v _ I1 r1 q1) fun _ s2 q => q
end
structure It where
 go:Nat→Hp→Prop
 yld:Nat→Hp→V→Hp→Prop
 stop:Nat→Hp→Prop
def FpOk (X:Cx) (pins:List (Addr×Obj)) (H:Hp) (b:Addr):Prop :=
 H b=none∧b≠X.env.locals∧b∉X.fs∧(b∈X.ex∨X.s₀.heap.objs.size≤b)∧(∀ x c,X.env.cells.lookup x=some c→c≠b)∧∀ p∈X.pn++pins,p.1≠b
theorem Inv.fpOk {X:Cx} {pins:List (Addr×Obj)} {σ:St} {H H':Hp} {s:Shared} {b:Addr} (I:Inv X pins σ H s) (hb:s.heap.objs.size≤b) (hn:H' b=none):FpOk X pins H' b:=by
 refine ⟨hn,Nat.ne_of_gt (Nat.lt_of_lt_of_le I.lt hb),I.nofs hb,.inr (Nat.le_trans I.sz hb),fun x c e z=>?_,fun p hp z=>?_⟩
 ·obtain ⟨v,q⟩:=I.cell x c e
  exact absurd (Nat.lt_of_lt_of_le q.lt (by rw [z]; exact hb)) (Nat.lt_irrefl _)
 ·exact absurd (Nat.lt_of_lt_of_le (Heap.lt_size (I.pin p hp).1) (by rw [z]; exact hb)) (Nat.lt_irrefl _)
structure Turn (P:Program) (w:World) (K:PySem.W.Frag) (tg:Expr) (J:It) (fp:List Addr) (it:Addr) (tn:Nat→Heap→Prop):Prop where
 mem:it∈fp
 obj:∀ i h,tn i h→∀ b∈fp,∃ o,h.get? b=some o∧∀ v,o.data≠.cell v
 keep:∀ i h h',tn i h→(∀ b∈fp,∀ o,h.get? b=some o→h'.get? b=some o)→tn i h'
 item:∀ (X:Cx),X.prog=P→X.w=w→X.K=K→X.calm=true→∀ (i:Nat) (pins:List (Addr×Obj)) (s:Shared) (σ:St) (H:Hp) (E:Value→Shared→Prop),Inv X pins σ H s→(∀ b∈fp,FpOk X pins H b)→tn i s.heap→J.go i H →
  wpAny (model P w) X.A (pyNext (.ref it)) (fun r s1=>∃ u,r=some u ∧
   wpAny (model P w) X.A (letOwnedTupleGo tg (.ref it) u) (fun _ s2=>∃ x H',Inv X pins σ H' s2∧RelV x u∧J.yld i H x H'∧tn (i+1) s2.heap∧∀ b∈fp,H' b=none) E s1) E s
 done:∀ (X:Cx),X.prog=P→X.w=w→X.K=K→X.calm=true→∀ (i:Nat) (pins:List (Addr×Obj)) (s:Shared) (σ:St) (H:Hp) (E:Value→Shared→Prop),Inv X pins σ H s→(∀ b∈fp,FpOk X pins H b)→tn i s.heap→J.stop i H →
  wpAny (model P w) X.A (pyNext (.ref it)) (fun r s1=>r=none∧Inv X pins σ H s1) E s
 self:∀ (A:Around) (i:Nat) (s:Shared) (Q:Value→Shared→Prop) (E:Value→Shared→Prop),tn i s.heap→Q (.ref it) s→wpAny (model P w) A (pyIter (.ref it)) Q E s
abbrev TI:=St→Hp→(It→Hp→Prop)→Prop
def PIE (X:Cx) (pins:List (Addr×Obj)) (σ:St) (tg:Expr) (R:It→Hp→Prop) (itv:Value) (s2:Shared):Prop :=
 ∃ (it:Addr) (fp:List Addr) (tn:Nat→Heap→Prop) (J:It) (H':Hp),itv=.ref it∧Inv X pins σ H' s2∧Turn X.prog X.w X.K tg J fp it tn∧tn 0 s2.heap∧(∀ b∈fp,FpOk X pins H' b)∧R J H'
def PI (X:Cx) (tg iter:Expr) (wi:TI):Prop :=
 ∀ (pins:List (Addr×Obj)) (s:Shared) (σ:St) (H:Hp) (R:It→Hp→Prop),Inv X pins σ H s→wi σ H R →
  wpAny (model X.prog X.w) X.A (eval iter X.env) (fun v s1=>wpAny (model X.prog X.w) X.A (pyIter v) (PIE X pins σ tg R) X.xe s1) X.xe s
theorem go_of {M : Model} {A : Around} {E : Value → Shared → Prop} {s : Shared} {tg : Expr} {it : Addr} {u : Value} {o : Obj} {n : String} {vs : Array Value} {Q : Unit → Shared → Prop} (ho : s.heap.get? it = some o) (hc : o.cls = .type n) (hd : o.data = .fields vs)
    (hn : ["enumerate", "zip", "dict_itemiterator", "dict_reverseitemiterator", "odict_iterator", "itertools.zip_longest", "itertools.pairwise"].contains n = false) (hQ : Q () s) : wpAny M A (letOwnedTupleGo tg (.ref it) u) Q E s := by
  unfold letOwnedTupleGo
  cases tg <;> first
    | exact wpAny_pure hQ
    | (cases u <;> first
        | exact wpAny_pure hQ
        | (refine wpAny_bind (wpAny_load ho ?_)
           rw [hc, hd]
           show wpAny M A (if (["enumerate", "zip", "dict_itemiterator", "dict_reverseitemiterator", "odict_iterator", "itertools.zip_longest", "itertools.pairwise"].contains n && vs[0]? == some (rawInt _)) = true then _ else _) Q E s
           rw [if_neg (by intro h; rw [hn, Bool.false_and] at h; cases h)]
           exact wpAny_pure hQ))
def Itl (K:PySem.W.Frag) (a:Addr):It :=
 ⟨fun i H=>∃ xs x,SqL K H a xs∧xs[i]?=some x,fun i H x H'=>H'=H∧∀ xs,SqL K H a xs→xs[i]?=some x,fun i H=>∃ xs,SqL K H a xs∧xs.length≤i⟩
def Itt (K:PySem.W.Frag) (a:Addr):It :=
 ⟨fun i H=>∃ xs x,SqT K H a xs∧xs[i]?=some x,fun i H x H'=>H'=H∧∀ xs,SqT K H a xs→xs[i]?=some x,fun i H=>∃ xs,SqT K H a xs∧xs.length≤i⟩
def Itr (lo:Int) (n:Nat):It:=⟨fun i _=>i < n,fun i H x H'=>H'=H∧x=.int (lo+i),fun i _=>n≤i⟩
theorem turn_list {P:Program} {w:World} {K:PySem.W.Frag} {tg:Expr} (a it:Addr):Turn P w K tg (Itl K a) [it] it (fun i h=>h.IsListIter it a i) where
 mem:=by simp
 obj:=fun i h st b hb=>by
  have e:b=it:=by simpa using hb
  subst e
  obtain ⟨o,e,c,d⟩:=st
  exact ⟨o,e,fun v z=>by rw [d] at z; cases z⟩
 keep:=fun i h h' st k=>st.at fun o e=>k it (by simp) o e
 item:=by
  intro X hP hw hK hc i pins s σ H E I hf st hg
  subst hP hw hK
  obtain ⟨xs,x,hq,hx⟩:=hg
  obtain ⟨its,rv,p,hz⟩:=I.list hq
  obtain ⟨u,hu,ru⟩:=rv.get hx
  obtain ⟨f0,f1,f2,f3,f4,f5⟩:=hf it (by simp)
  refine wpAny_pyNext_list_item st p.isList (x:=u) (by simpa using hu) fun h' st' sb=>?_
  have I1:Inv X pins σ H { s with heap:=h' }:=I.turned (t':=s.toks) (fun b o hb e=>(sb.2 b hb).trans e) f0 f1 f3 f4 f5
  obtain ⟨o,e,c,d⟩:=id st'
  exact ⟨u,rfl,go_of (s:={ s with heap:=h' }) e c d (by decide) ⟨x,H,I1,ru,⟨rfl,fun ys hy=>by rw [I.list_inj hy hq]; exact hx⟩,st',fun b hb=>(hf b hb).1⟩⟩
 done:=by
  intro X hP hw hK hc i pins s σ H E I hf st hg
  subst hP hw hK
  obtain ⟨xs,hq,hx⟩:=hg
  obtain ⟨its,rv,p,hz⟩:=I.list hq
  obtain ⟨f0,f1,f2,f3,f4,f5⟩:=hf it (by simp)
  have hl:=rv.length
  exact wpAny_pyNext_list_end (I.ok.hd hc) st p.isList (by simp; omega) fun h' eb=>⟨rfl,I.turned (t':=s.toks) (fun b o hb e=>eb b o hb e) f0 f1 f3 f4 f5⟩
 self:=fun _ _ _ _ _ st h=>wpAny_pyIter_listiter st h
theorem turn_tuple {P:Program} {w:World} {K:PySem.W.Frag} {tg:Expr} (a it:Addr):Turn P w K tg (Itt K a) [it] it (fun i h=>h.IsTupleIter it a i) where
 mem:=by simp
 obj:=fun i h st b hb=>by
  have e:b=it:=by simpa using hb
  subst e
  obtain ⟨o,e,c,d⟩:=st
  exact ⟨o,e,fun v z=>by rw [d] at z; cases z⟩
 keep:=fun i h h' st k=>st.at fun o e=>k it (by simp) o e
 item:=by
  intro X hP hw hK hc i pins s σ H E I hf st hg
  subst hP hw hK
  obtain ⟨xs,x,hq,hx⟩:=hg
  obtain ⟨its,rv,p,hz⟩:=I.tuple hq
  obtain ⟨u,hu,ru⟩:=rv.get hx
  obtain ⟨f0,f1,f2,f3,f4,f5⟩:=hf it (by simp)
  refine wpAny_pyNext_tuple_item st (show s.heap.IsTuple a its.toArray from p) (x:=u) (by simpa using hu) fun h' st' sb=>?_
  have I1:Inv X pins σ H { s with heap:=h' }:=I.turned (t':=s.toks) (fun b o hb e=>(sb.2 b hb).trans e) f0 f1 f3 f4 f5
  obtain ⟨o,e,c,d⟩:=id st'
  exact ⟨u,rfl,go_of (s:={ s with heap:=h' }) e c d (by decide) ⟨x,H,I1,ru,⟨rfl,fun ys hy=>by rw [I.tuple_inj hy hq]; exact hx⟩,st',fun b hb=>(hf b hb).1⟩⟩
 done:=by
  intro X hP hw hK hc i pins s σ H E I hf st hg
  subst hP hw hK
  obtain ⟨xs,hq,hx⟩:=hg
  obtain ⟨its,rv,p,hz⟩:=I.tuple hq
  obtain ⟨f0,f1,f2,f3,f4,f5⟩:=hf it (by simp)
  have hl:=rv.length
  exact wpAny_pyNext_tuple_end (I.ok.hd hc) st (show s.heap.IsTuple a its.toArray from p) (by simp; omega) fun h' eb=>⟨rfl,I.turned (t':=s.toks) (fun b o hb e=>eb b o hb e) f0 f1 f3 f4 f5⟩
 self:=fun _ _ _ _ _ st h=>wpAny_pyIter_tupleiter st h
theorem turn_range {P:Program} {w:World} {K:PySem.W.Frag} {tg:Expr} (it:Addr) (lo:Int) (n:Nat):Turn P w K tg (Itr lo n) [it] it (fun i h=>IsRangeIter h it (lo+(i:Nat) * 1) ((n:Int) - (i:Nat)) 1) where
 mem:=by simp
 obj:=fun i h st b hb=>by
  have e:b=it:=by simpa using hb
  subst e
  exact ⟨_,st,fun v z=>by
   have z':Data.fields _=Data.cell v:=z
   cases z'⟩
 keep:=fun i h h' st k=>k it (by simp) _ st
 item:=by
  intro X hP hw hK hc i pins s σ H E I hf st hg
  subst hP hw hK
  obtain ⟨f0,f1,f2,f3,f4,f5⟩:=hf it (by simp)
  have W:=Walks.range (prog:=X.prog) (w:=X.w) (I.ok.hd hc) it lo 1 n
  refine W.item i s _ _ hg st fun v h' tk hv st' kk=>?_
  obtain ⟨t,rfl⟩:=hv
  have I1:Inv X pins σ H { s with heap:=h',toks:=tk }:=I.turned (fun b o hb e=>kk b o (by simpa using hb) e) f0 f1 f3 f4 f5
  refine ⟨_,rfl,go_of (s:={ s with heap:=h',toks:=tk }) (n := "range_iterator") st' rfl rfl (by decide) ⟨.int (lo+i),H,I1,⟨t,?_⟩,⟨rfl,rfl⟩,st',fun b hb=>(hf b hb).1⟩⟩
  rw [Int.mul_one]
 done:=by
  intro X hP hw hK hc i pins s σ H E I hf st hg
  subst hP hw hK
  obtain ⟨f0,f1,f2,f3,f4,f5⟩:=hf it (by simp)
  exact wpAny_pyNext_range_end (I.ok.hd hc) st (by have:n≤i:=hg; omega) fun h' eb=>⟨rfl,I.turned (t':=s.toks) (fun b o hb e=>eb b o hb e) f0 f1 f3 f4 f5⟩
 self:=fun _ _ _ _ _ st h=>wpAny_pyIter_rangeiter st h
end L2
namespace L2
open PySem PySem.Spec PyProof.Rows
section
variable {X:Cx} {tg:Expr}
def iList (K:PySem.W.Frag) (tl:TE):TI:=fun σ H R=>tl σ H fun x H1=>∃ a,x=.ref a∧(∃ xs,SqL K H1 a xs)∧R (Itl K a) H1
def iTup (K:PySem.W.Frag) (tl:TE):TI:=fun σ H R=>tl σ H fun x H1=>∃ a,x=.ref a∧(∃ xs,SqT K H1 a xs)∧R (Itt K a) H1
theorem pi_list {l:Expr} {tl:TE} (hl:PE X l tl):PI X tg l (iList X.K tl):=by
 intro pins s σ H R I h
 refine thn (hl pins s σ H _ I h) fun v s1 ⟨x,H1,I1,r1,q1⟩=>?_
 obtain ⟨a,e,⟨xs,hq⟩,q⟩:=q1
 subst e
 cases r1
 obtain ⟨its,rv,p,hz⟩:=I1.list hq
 refine wpAny_pyIter_list p.isList ?_
 refine ⟨s1.heap.objs.size,[s1.heap.objs.size],_,_,H1,rfl,I1.kept (t':=s1.toks) fun b o e=>Heap.get?_push_of_some _ e,turn_list a _,⟨_,Heap.get?_push_size _ rfl,rfl,rfl⟩,fun b hb=>?_,q⟩
 have e:b=s1.heap.objs.size:=by simpa using hb
 subst e
 exact I1.fpOk (Nat.le_refl _) (I1.hok.fresh (Nat.le_refl _))
theorem pi_tup {l:Expr} {tl:TE} (hl:PE X l tl):PI X tg l (iTup X.K tl):=by
 intro pins s σ H R I h
 refine thn (hl pins s σ H _ I h) fun v s1 ⟨x,H1,I1,r1,q1⟩=>?_
 obtain ⟨a,e,⟨xs,hq⟩,q⟩:=q1
 subst e
 cases r1
 obtain ⟨its,rv,p,hz⟩:=I1.tuple hq
 refine wpAny_pyIter_tuple (show s1.heap.IsTuple a its.toArray from p) ?_
 refine ⟨s1.heap.objs.size,[s1.heap.objs.size],_,_,H1,rfl,I1.kept (t':=s1.toks) fun b o e=>Heap.get?_push_of_some _ e,turn_tuple a _,⟨_,Heap.get?_push_size _ rfl,rfl,rfl⟩,fun b hb=>?_,q⟩
 have e:b=s1.heap.objs.size:=by simpa using hb
 subst e
 exact I1.fpOk (Nat.le_refl _) (I1.hok.fresh (Nat.le_refl _))
theorem range_it {pins : List (Addr × Obj)} {σ : St} {H : Hp} {s : Shared} {R : It → Hp → Prop} {E : Value → Shared → Prop} {lo hi : Int} {t u v : Tok} {tk : Nat} (I : Inv X pins σ H s) (h1 : -(2 ^ 62) ≤ lo) (h2 : lo < 2 ^ 62) (h3 : -(2 ^ 62) ≤ hi) (h4 : hi < 2 ^ 62)
    (q : R (Itr lo (hi - lo).toNat) H) : wpAny (model X.prog X.w) X.A (pyIter (.ref s.heap.objs.size)) (PIE X pins σ tg R) E { s with heap := s.heap.push { cls := .type "range", data := .fields #[.int lo t, .int hi u, .int 1 v] }, toks := tk } := by
  refine wpAny_pyIter_range (IsRange.new ..) (small_one h1 h2 h3 h4) ?_
  have I1 : Inv X pins σ H { s with heap := s.heap.push { cls := .type "range", data := .fields #[.int lo t, .int hi u, .int 1 v] }, toks := tk } := I.kept fun b o e => Heap.get?_push_of_some _ e
  refine ⟨(s.heap.push { cls := .type "range", data := .fields #[.int lo t, .int hi u, .int 1 v] }).objs.size, [(s.heap.push { cls := .type "range", data := .fields #[.int lo t, .int hi u, .int 1 v] }).objs.size], _, _, H, rfl,
    I1.kept (t' := tk) fun b o e => Heap.get?_push_of_some _ e, turn_range _ lo (hi - lo).toNat, ?_, fun b hb => ?_, q⟩
  · have e1 : lo + ((0 : Nat) : Int) * 1 = lo := by simp
    have e2 : (((hi - lo).toNat : Nat) : Int) - ((0 : Nat) : Int) = Builtin.Range.rangeSize lo hi 1 := by rw [rangeSize_one]; split <;> omega
    show IsRangeIter _ _ (lo + ((0 : Nat) : Int) * 1) ((((hi - lo).toNat : Nat) : Int) - ((0 : Nat) : Int)) 1
    rw [e1, e2]
    exact Heap.get?_push_size _ rfl
  · have e : b = (s.heap.push { cls := .type "range", data := .fields #[.int lo t, .int hi u, .int 1 v] }).objs.size := by simpa using hb
    subst e
    exact I1.fpOk (Nat.le_refl _) (I1.hok.fresh (Nat.le_refl _))
def iRng1 (ta:TA):TI:=fun σ H R=>ta σ H fun vs H1=>∃ j:Int,vs=[.int j]∧-(2 ^ 62)≤j∧j < 2 ^ 62∧R (Itr 0 j.toNat) H1
theorem pi_range1 {a:Expr} {ta:TA} {p pos:Pos} (hg:Gl X "range") (hm:X.mg "range" = none) (ha:PA X [a] ta) (hs:starEach [a] X.env=[(false,eval a X.env)]:=by rfl):PI X tg (.Call (.Name "range" p) [a] [] pos) (iRng1 ta):=by
 intro pins s σ H R I h
 refine Call_ (ld_blt I hg hm boot_range (PyProof.Rows.callWith_type1 (thn (ha pos pins s σ H _ I h) fun us s1 ⟨vs,H1,I1,r1,q1⟩=>?_) hs rfl))
 obtain ⟨j,e,q1,q2,q⟩:=q1
 subst e
 cases r1 with
 | cons r rr =>
  cases rr
  obtain ⟨t,rfl⟩:=r
  exact call_range_1 (range_it I1 (by omega) (by omega) q1 q2 (by simpa using q))
def tFor (wi:TI) (g:TG) (tb:TS):TS:=fun D σ H=>wi σ H fun J H1=>∃ W:Nat→Nat→St→Hp→Prop,(∃ m,W 0 m σ H1)∧∀ i m σ H,W i m σ H →
 (J.stop i H∧D.nx σ H)∨(J.go i H∧∃ N:St→Hp→Prop,(∀ σ' H',N σ' H'→∃ m',m' < m∧W (i+1) m' σ' H')∧∀ x H',J.yld i H x H'→g x σ H' fun σ2 H2=>tb { D with nx:=N,ct:=N,bk:=D.nx } σ2 H2)
def pinsAt (fp:List Addr) (h:Heap):List (Addr×Obj):=fp.filterMap fun b=>(h.get? b).map fun o=>(b,o)
theorem mem_pinsAt {fp:List Addr} {h:Heap} {b:Addr} {o:Obj} (hb:b∈fp) (e:h.get? b=some o):(b,o)∈pinsAt fp h:=List.mem_filterMap.mpr ⟨b,hb,by rw [e]; rfl⟩
theorem of_pinsAt {fp:List Addr} {h:Heap} {p:Addr×Obj} (hp:p∈pinsAt fp h):p.1∈fp∧h.get? p.1=some p.2:=by
 obtain ⟨b,hb,e⟩:=List.mem_filterMap.mp hp
 cases q:h.get? b with
 | none=>rw [q] at e; cases e
 | some o =>
  rw [q] at e
  have e':(b,o)=p:=Option.some.inj e
  subst e'
  exact ⟨hb,q⟩
theorem Inv.pinned {pins:List (Addr×Obj)} {σ:St} {H:Hp} {s:Shared} {fp:List Addr} (I:Inv X pins σ H s) (hf:∀ b∈fp,FpOk X pins H b) (ho:∀ b∈fp,∃ o,s.heap.get? b=some o∧∀ v,o.data≠.cell v):Inv X (pins++pinsAt fp s.heap) σ H s :=
 I.pins_of fun p hp=>(List.mem_append.mp hp).elim (fun z=>I.pin p (List.mem_append_right _ z)) fun z=>by
  obtain ⟨hb,e⟩:=of_pinsAt z
  obtain ⟨f0,f1,f2,_⟩:=hf p.1 hb
  obtain ⟨o,e',d⟩:=ho p.1 hb
  rw [e] at e'; cases e'
  exact ⟨e,f0,f1,f2,d⟩
theorem Inv.unpinned {pins pl:List (Addr×Obj)} {σ:St} {H:Hp} {s:Shared} (I:Inv X (pins++pl) σ H s):Inv X pins σ H s:=I.pins_of fun p hp=>I.pin p (List.mem_append_right _ (List.mem_append_left _ hp))
theorem ps_for {iter : Expr} {body : List Stmt} {wi : TI} {g : TG} {tb : TS} {pos : Pos} (hp : PassesOwn (model X.prog X.w) X.A X.env X.xe) (hc : X.calm = true) (hi : PI X tg iter wi) (hg : PG X tg g) (hb : PSs X body tb)
    (hs : ∀ x, foldedSetIterable iter X.env x = pure x := by intro _; rfl) : PS X (.For tg iter body [] pos) (tFor wi g tb) := by
  intro pins s σ H D I h
  refine wpAny_For (thn (hi pins s σ H _ I h) fun v s1 h1 => thn h1 fun itv s2 h2 => ?_) hs
  obtain ⟨it, fp, tn, J, H2, e, I2, T, st2, f2, W, ⟨m0, w0⟩, turn⟩ := h2
  subst e
  have stat : ∀ {H' : Hp}, (∀ b ∈ fp, H' b = none) → ∀ b ∈ fp, FpOk X pins H' b := fun hn b hb => ⟨hn b hb, (f2 b hb).2⟩
  refine codeAny_forLoop_any (fun n s' => ∃ i σ' H', Inv X pins σ' H' s' ∧ tn i s'.heap ∧ (∀ b ∈ fp, H' b = none) ∧ W i n σ' H') ?_ m0 ⟨0, σ, H2, I2, st2, fun b hb => (f2 b hb).1, w0⟩
  rintro n s3 ⟨i, σ3, H3, I3, st3, fr3, w3⟩
  rcases turn i n σ3 H3 w3 with ⟨stop, qn⟩ | ⟨go, N, hN, step⟩
  · refine wpAny_passesOwn hp (thn (T.done X rfl rfl rfl hc i pins s3 σ3 H3 X.xe I3 (stat fr3) st3 stop) fun r s4 ⟨hr, I4⟩ => ?_)
    subst hr
    exact wpAny_execs_nil ⟨σ3, H3, I4, qn⟩
  · refine wpAny_passesOwn hp (thn (T.item X rfl rfl rfl hc i pins s3 σ3 H3 X.xe I3 (stat fr3) st3 go) fun r s4 ⟨u, hr, h4⟩ => ?_)
    subst hr
    refine wpAny_passesOwn hp (thn h4 fun _ s5 ⟨x, H5, I5, r5, y5, st5, fr5⟩ => ?_)
    have I5' := I5.pinned (stat fr5) (T.obj _ _ st5)
    refine wpAny_passesOwn hp (thn (hg _ s5 σ3 H5 x u _ I5' r5 (step x H5 y5)) fun _ s6 ⟨σ6, H6, I6, q6⟩ => ?_)
    refine wpAny_passesOwn hp (thn (hb _ s6 σ6 H6 _ I6 q6) fun f s7 q7 => ?_)
    have again : ∀ {σ7 : St} {H7 : Hp}, Inv X (pins ++ pinsAt fp s5.heap) σ7 H7 s7 → N σ7 H7 → ∃ m, m < n ∧ ∃ i σ' H', Inv X pins σ' H' s7 ∧ tn i s7.heap ∧ (∀ b ∈ fp, H' b = none) ∧ W i m σ' H' := fun {σ7 H7} I7 n7 => by
      obtain ⟨m', hm, w7⟩ := hN σ7 H7 n7
      refine ⟨m', hm, i + 1, σ7, H7, I7.unpinned, T.keep _ _ _ st5 fun b hb o e => (I7.pin (b, o) (List.mem_append_right _ (List.mem_append_right _ (mem_pinsAt hb e)))).1, fun b hb => ?_, w7⟩
      obtain ⟨o, e, d⟩ := T.obj _ _ st5 b hb
      exact (I7.pin (b, o) (List.mem_append_right _ (List.mem_append_right _ (mem_pinsAt hb e)))).2.1
    cases f with
    | next => obtain ⟨σ7, H7, I7, n7⟩ := q7; exact again I7 n7
    | cont => obtain ⟨σ7, H7, I7, n7⟩ := q7; exact again I7 n7
    | brk => obtain ⟨σ7, H7, I7, q7⟩ := q7; exact ⟨σ7, H7, I7.unpinned, q7⟩
    | ret v => obtain ⟨x7, σ7, H7, I7, r7, q7⟩ := q7; exact ⟨x7, σ7, H7, I7.unpinned, r7, q7⟩
end
end L2
namespace L2
open PySem PySem.Spec PyProof.Rows
abbrev R2:=V→V→Hp→VK→Prop
def OpR (X:Cx) (f:Value→Value→Sem Value) (r:R2):Prop :=
 ∀ (pins:List (Addr×Obj)) (s:Shared) (σ:St) (H:Hp) (x y:V) (v u:Value) (Q:VK),Inv X pins σ H s→RelV x v→RelV y u→r x y H Q →
  wpAny (model X.prog X.w) X.A (f v u) (EP X pins σ Q) X.xe s
def UnR (X:Cx) (f:Value→Sem Value) (r:V→Hp→VK→Prop):Prop :=
 ∀ (pins:List (Addr×Obj)) (s:Shared) (σ:St) (H:Hp) (x:V) (v:Value) (Q:VK),Inv X pins σ H s→RelV x v→r x H Q →
  wpAny (model X.prog X.w) X.A (f v) (EP X pins σ Q) X.xe s
def CallR (X:Cx) (f:Value) (r:List V→Hp→VK→Prop):Prop :=
 ∀ (pins:List (Addr×Obj)) (s:Shared) (σ:St) (H:Hp) (xs:List V) (us:List Value) (Q:VK),Inv X pins σ H s→Vals xs us→r xs H Q →
  wpAny (model X.prog X.w) X.A (call f us) (EP X pins σ Q) X.xe s
def TruR (X:Cx) (r:V→Hp→(Bool→Hp→Prop)→Prop):Prop :=
 ∀ (pins:List (Addr×Obj)) (s:Shared) (σ:St) (H:Hp) (x:V) (v:Value) (Q:Bool→Hp→Prop),Inv X pins σ H s→RelV x v→r x H Q →
  wpAny (model X.prog X.w) X.A (truthy v) (TP X pins σ Q) X.xe s
def tOp (r:R2) (ta tb:TE):TE:=fun σ H Q=>ta σ H fun x H1=>tb σ H1 fun y H2=>r x y H2 Q
def tUn (r:V→Hp→VK→Prop) (ta:TE):TE:=fun σ H Q=>ta σ H fun x H1=>r x H1 Q
def rI (C:Int→Int→Prop) (g:Int→Int→V):R2:=fun x y H Q=>∃ i j,x=.int i∧y=.int j∧C i j∧Q (g i j) H
def rI0 (g:Int→Int→V):R2:=fun x y H Q=>∃ i j,x=.int i∧y=.int j∧Q (g i j) H
def rU (g:Int→V):V→Hp→VK→Prop:=fun x H Q=>∃ i,x=.int i∧Q (g i) H
section
variable {X:Cx} {a b c:Expr} {ta tb tc:TE} {pos:Pos}
theorem binT (ha : PE X a ta) (hb : PE X b tb) {pins : List (Addr × Obj)} {s : Shared} {σ : St} {H : Hp} {R : V → V → Hp → Prop} (I : Inv X pins σ H s)
    (h : ta σ H fun x H1 => tb σ H1 fun y H2 => R x y H2) {Q : Value → Shared → Prop} {f : Value → Value → Sem Value}
    (hf : ∀ v u s2 x y H2, Inv X pins σ H2 s2 → RelV x v → RelV y u → R x y H2 → wpAny (model X.prog X.w) X.A (f v u) Q X.xe s2) :
    wpAny (model X.prog X.w) X.A (eval a X.env) (fun v s₁ => wpAny (model X.prog X.w) X.A (eval b X.env) (fun u s₂ => wpAny (model X.prog X.w) X.A (f v u) Q X.xe s₂) X.xe s₁) X.xe s := by
  refine thn (ha pins s σ H _ I h) fun v s1 ⟨x, H1, I1, r1, q1⟩ => ?_
  refine thn (hb pins s1 σ H1 _ I1 q1) fun u s2 ⟨y, H2, I2, r2, q2⟩ => ?_
  exact hf v u s2 x y H2 I2 r1 r2 q2
theorem pe_op {op:Operator} {r:R2} (ho:OpR X (binaryOp op) r) (ha:PE X a ta) (hb:PE X b tb):PE X (.BinOp a op b pos) (tOp r ta tb):=by
 intro pins s σ H Q I h
 exact wpAny_BinOp (binT ha hb I h fun v u s2 x y H2 I2 rx ry q=>ho pins s2 σ H2 x y v u Q I2 rx ry q)
theorem pe_un {op:UnaryOp} {r:V→Hp→VK→Prop} (ho:UnR X (unaryOp op) r) (ha:PE X a ta):PE X (.UnaryOp op a pos) (tUn r ta):=by
 intro pins s σ H Q I h
 exact UnaryOp_ (thn (ha pins s σ H _ I h) fun v s1 ⟨x,H1,I1,r1,q1⟩=>ho pins s1 σ H1 x v Q I1 r1 q1)
theorem opI {f : Value → Value → Sem Value} {C : Int → Int → Prop} {g : Int → Int → Int}
    (rule : ∀ (i j : Int) (t u : Tok) (s : Shared) (Q : Value → Shared → Prop) (E : Value → Shared → Prop), C i j → Q (.int (g i j) s.toks) { s with toks := s.toks + 1 } → wpAny (model X.prog X.w) X.A (f (.int i t) (.int j u)) Q E s) :
    OpR X f (rI C fun i j => .int (g i j)) := by
  intro pins s σ H x y v u Q I rx ry h
  obtain ⟨i, j, rfl, rfl, hc, q⟩ := h
  obtain ⟨t, rfl⟩ := rx
  obtain ⟨t', rfl⟩ := ry
  exact rule i j t t' s _ _ hc ⟨.int (g i j), H, I.tok _, ⟨_, rfl⟩, q⟩
theorem opI0 {f : Value → Value → Sem Value} {g : Int → Int → Int}
    (rule : ∀ (i j : Int) (t u : Tok) (s : Shared) (Q : Value → Shared → Prop) (E : Value → Shared → Prop), Q (.int (g i j) s.toks) { s with toks := s.toks + 1 } → wpAny (model X.prog X.w) X.A (f (.int i t) (.int j u)) Q E s) :
    OpR X f (rI0 fun i j => .int (g i j)) := by
  intro pins s σ H x y v u Q I rx ry h
  obtain ⟨i, j, rfl, rfl, q⟩ := h
  obtain ⟨t, rfl⟩ := rx
  obtain ⟨t', rfl⟩ := ry
  exact rule i j t t' s _ _ ⟨.int (g i j), H, I.tok _, ⟨_, rfl⟩, q⟩
theorem opB0 {f : Value → Value → Sem Value} {g : Int → Int → Bool}
    (rule : ∀ (i j : Int) (t u : Tok) (s : Shared) (Q : Value → Shared → Prop) (E : Value → Shared → Prop), Q (.bool (g i j)) s → wpAny (model X.prog X.w) X.A (f (.int i t) (.int j u)) Q E s) :
    OpR X f (rI0 fun i j => .bl (g i j)) := by
  intro pins s σ H x y v u Q I rx ry h
  obtain ⟨i, j, rfl, rfl, q⟩ := h
  obtain ⟨t, rfl⟩ := rx
  obtain ⟨t', rfl⟩ := ry
  exact rule i j t t' s _ _ ⟨.bl (g i j), H, I, rfl, q⟩
def CDiv (i j:Int):Prop:=0 < j∧j < 1073741824
def CPow (i j:Int):Prop:=0≤j∧j≤1000000∧i.natAbs < 2 ^ 64
def CMul (i j:Int):Prop:=(-(2 ^ 64) < i∧i < 2 ^ 64)∨(-(2 ^ 64) < j∧j < 2 ^ 64)
theorem CMul.ok {i j:Int} (h:CMul i j):IntMulOk i j:=by
 rcases h with ⟨h1,h2⟩ | ⟨h1,h2⟩
 ·exact .of_left (intBits_le_64 h1 h2)
 ·exact .of_right (intBits_le_64 h1 h2)
theorem op_add:OpR X (binaryOp .Add) (rI0 fun i j=>.int (i+j)):=opI0 fun _ _ _ _ _ _ _ q=>add_int q
theorem op_sub:OpR X (binaryOp .Sub) (rI0 fun i j=>.int (i - j)):=opI0 fun _ _ _ _ _ _ _ q=>sub_int q
theorem op_mul:OpR X (binaryOp .Mult) (rI CMul fun i j=>.int (i * j)):=opI fun _ _ _ _ _ _ _ hc q=>mul_int q hc.ok
theorem op_fdiv:OpR X (binaryOp .FloorDiv) (rI CDiv fun i j=>.int (i / j)):=opI fun i j _ _ _ _ _ hc q=>by
 have h1:(0:Int) < j:=hc.1
 have h2:j < 1073741824:=hc.2
 exact floordiv_int (by omega) (by rw [Int.fdiv_eq_ediv_of_nonneg i (by omega)]; exact q) (.inl (PyProof.noPylong_small (by omega)))
theorem op_mod:OpR X (binaryOp .Mod) (rI (fun _ j=>0 < j) fun i j=>.int (i % j)):=opI fun i j _ _ _ _ _ hc q=>by
 have h1:(0:Int) < j:=hc
 exact mod_int' (by omega) (by rw [Int.fmod_eq_emod_of_nonneg i (by omega)]; exact q)
theorem op_pow:OpR X (binaryOp .Pow) (rI CPow fun i j=>.int (i ^ j.toNat)):=opI fun _ _ _ _ _ _ _ hc q=>pow_int_small hc.1 hc.2.1 hc.2.2 q
theorem unI {f : Value → Sem Value} {g : Int → Int}
    (rule : ∀ (i : Int) (t : Tok) (s : Shared) (Q : Value → Shared → Prop) (E : Value → Shared → Prop), Q (.int (g i) s.toks) { s with toks := s.toks + 1 } → wpAny (model X.prog X.w) X.A (f (.int i t)) Q E s) :
    UnR X f (rU fun i => .int (g i)) := by
  intro pins s σ H x v Q I rx h
  obtain ⟨i, rfl, q⟩ := h
  obtain ⟨t, rfl⟩ := rx
  exact rule i t s _ _ ⟨.int (g i), H, I.tok _, ⟨_, rfl⟩, q⟩
theorem un_neg:UnR X (unaryOp .USub) (rU fun i=>.int (-i)):=unI fun _ _ _ _ _ q=>neg_int q
end
section
variable {X:Cx} {a b c:Expr} {ta tb tc:TE} {pos:Pos}
theorem fin_bl {pins:List (Addr×Obj)} {σ:St} {H:Hp} {s:Shared} {Q:VK} {k k':Bool} (I:Inv X pins σ H s) (q:Q (.bl k) H) (e:k=k'):EP X pins σ Q (.bool k') s:=by
 subst e
 exact ⟨.bl k,H,I,rfl,q⟩
theorem op_lt:OpR X (compareOp .Lt) (rI0 fun i j=>.bl (decide (i < j))):=opB0 fun _ _ _ _ _ _ _ q=>lt_int q
theorem op_le:OpR X (compareOp .LtE) (rI0 fun i j=>.bl (decide (i≤j))):=opB0 fun _ _ _ _ _ _ _ q=>le_int q
theorem op_gt:OpR X (compareOp .Gt) (rI0 fun i j=>.bl (decide (j < i))):=opB0 fun _ _ _ _ _ _ _ q=>gt_int q
theorem op_ge:OpR X (compareOp .GtE) (rI0 fun i j=>.bl (decide (j≤i))):=opB0 fun _ _ _ _ _ _ _ q=>ge_int q
theorem op_lt_str:OpR X (compareOp .Lt) (fun x y H Q=>∃ i j,x=.str i∧y=.str j∧Q (.bl (decide (i.cps.toList < j.cps.toList))) H):=by
 intro pins s σ H x y v u Q I rx ry h
 obtain ⟨i,j,rfl,rfl,q⟩:=h
 obtain ⟨t,rfl⟩:=rx
 obtain ⟨t',rfl⟩:=ry
 exact lt_str (fin_bl I q rfl)
theorem op_isN:OpR X (compareOp .Is) (fun x y H Q=>y=.non∧Q (.bl (decide (x=.non))) H):=by
 intro pins s σ H x y v u Q I rx ry h
 obtain ⟨rfl,q⟩:=h
 cases ry
 refine is_none_gen (fin_bl I q ?_)
 cases x <;> first
  | (cases rx; rfl)
  | (obtain ⟨t,rfl⟩:=rx; rfl)
theorem op_notN:OpR X (compareOp .IsNot) (fun x y H Q=>y=.non∧Q (.bl (!decide (x=.non))) H):=by
 intro pins s σ H x y v u Q I rx ry h
 obtain ⟨rfl,q⟩:=h
 cases ry
 refine isnot_none_gen (fin_bl I q ?_)
 cases x <;> first
  | (cases rx; rfl)
  | (obtain ⟨t,rfl⟩:=rx; rfl)
theorem pe_cmpR {op:CmpOp} {r:R2} (ho:OpR X (compareOp op) r) (ha:PE X a ta) (hb:PE X b tb) (hm:behindInMarks op b=false):PE X (.Compare a [op] [b] pos) (tOp r ta tb):=by
 intro pins s σ H Q I h
 exact wpAny_Compare1 (binT ha hb I h fun v u s2 x y H2 I2 rx ry q=>ho pins s2 σ H2 x y v u Q I2 rx ry q) hm
def tTest (t:TE):TT:=fun σ H Q=>t σ H fun x H'=>∃ k,x=.bl k∧Q k H'
theorem pt_cmpR {op:CmpOp} {r:R2} (ho:OpR X (compareOp op) r) (ha:PE X a ta) (hb:PE X b tb) (hm:behindInMarks op b=false):PT X (.Compare a [op] [b] pos) (tTest (tOp r ta tb)):=by
 intro pins s σ H Q I h
 refine wpAny_isTrue_Compare1 (thn (ha pins s σ H _ I h) fun v s1 ⟨x,H1,I1,r1,q1⟩=>thn (hb pins s1 σ H1 _ I1 q1) fun u s2 ⟨y,H2,I2,r2,q2⟩ =>
  thn (ho pins s2 σ H2 x y v u _ I2 r1 r2 q2) fun c s3 ⟨z,H3,I3,r3,k,e,q3⟩=>?_) hm
 subst e
 cases r3
 exact wpAny_truthy_bool ⟨H3,I3,q3⟩
def tChain (r r':R2) (ta tb tc:TE):TE:=fun σ H Q=>ta σ H fun x H1=>tb σ H1 fun y H2=>r x y H2 fun z H3=>∃ k,z=.bl k ∧
 (if k=true then tc σ H3 fun w' H4=>r' y w' H4 Q else Q (.bl false) H3)
theorem pe_chain {op op' : CmpOp} {r r' : R2} (ho : OpR X (compareOp op) r) (ho' : OpR X (compareOp op') r') (ha : PE X a ta) (hb : PE X b tb) (hc : PE X c tc)
    (hm : lastMarks [op, op'] [b, c] = false := by with_unfolding_all rfl) : PE X (.Compare a [op, op'] [b, c] pos) (tChain r r' ta tb tc) := by
  intro pins s σ H Q I h
  refine Compare_chain (thn (ha pins s σ H _ I h) fun v s1 ⟨x, H1, I1, r1, q1⟩ => chain_link (thn (hb pins s1 σ H1 _ I1 q1) fun u s2 ⟨y, H2, I2, r2, q2⟩ =>
    thn (ho pins s2 σ H2 x y v u _ I2 r1 r2 q2) fun d s3 ⟨z, H3, I3, r3, k, e, q3⟩ => ?_)) hm
  subst e
  cases r3
  refine wpAny_truthy_bool ?_
  cases k with
  | false => exact ite_ff ⟨.bl false, H3, I3, rfl, q3⟩
  | true => exact ite_tt (chain_last (thn (hc pins s3 σ H3 _ I3 q3) fun w' s4 ⟨z', H4, I4, r4, q4⟩ => ho' pins s4 σ H4 y z' u w' Q I4 r2 r4 q4))
theorem pt_chain {op op' : CmpOp} {r r' : R2} (ho : OpR X (compareOp op) r) (ho' : OpR X (compareOp op') r') (ha : PE X a ta) (hb : PE X b tb) (hc : PE X c tc)
    (hm : lastMarks [op, op'] [b, c] = false := by with_unfolding_all rfl) : PT X (.Compare a [op, op'] [b, c] pos) (tTest (tChain r r' ta tb tc)) := by
  intro pins s σ H Q I h
  refine isTrue_chain (thn (ha pins s σ H _ I h) fun v s1 ⟨x, H1, I1, r1, q1⟩ => test_link (thn (hb pins s1 σ H1 _ I1 q1) fun u s2 ⟨y, H2, I2, r2, q2⟩ =>
    thn (ho pins s2 σ H2 x y v u _ I2 r1 r2 q2) fun d s3 ⟨z, H3, I3, r3, k, e, q3⟩ => ?_)) hm
  subst e
  cases r3
  refine wpAny_truthy_bool ?_
  cases k with
  | false =>
    obtain ⟨k', e', q'⟩ := q3
    cases e'
    exact ite_ff ⟨H3, I3, q'⟩
  | true =>
    refine ite_tt (test_last (thn (hc pins s3 σ H3 _ I3 q3) fun w' s4 ⟨z', H4, I4, r4, q4⟩ => thn (ho' pins s4 σ H4 y z' u w' _ I4 r2 r4 q4) fun d' s5 ⟨z2, H5, I5, r5, k2, e2, q5⟩ => ?_))
    subst e2
    cases r5
    exact wpAny_truthy_bool ⟨H5, I5, q5⟩
def TruV (K:PySem.W.Frag) (x:V) (H:Hp) (k:Bool):Prop :=
 match x with
 | .non=>k=false
 | .bl b=>k=b
 | .int i=>k=(i != 0)
 | .str y=>y.length≤sizeLine∧k=((y.length:Int) != 0)
 | .byt y=>y.size≤sizeLine∧k=((y.size:Int) != 0)
 | .ref p=>(∃ xs,SqL K H p xs∧k=!xs.isEmpty)∨(∃ xs,SqT K H p xs∧k=!xs.isEmpty)∨∃ kvs,H p=some (.dK kvs)∧k=!kvs.isEmpty
 | _=>False
theorem isEmpty_kv {κ:Type} {kvs:List (κ×V)} {vs:List (κ×Value)} (r:KV kvs vs):(!vs.isEmpty)=!kvs.isEmpty:=by
 cases r <;> rfl
theorem isEmpty_of {xs:List V} {its:List Value} (r:Vals xs its):(!its.toArray.isEmpty)=!xs.isEmpty:=by
 cases r <;> simp
theorem line63:(sizeLine:Nat) < 2 ^ 63:=by rw [sizeLine_eq]; decide
theorem tru_ok:TruR X (fun x H Q=>∃ k,TruV X.K x H k∧Q k H):=by
 intro pins s σ H x v Q I rx h
 obtain ⟨k,e,q⟩:=h
 have hl:=line63
 have hs:sizeLine=16777216:=sizeLine_eq
 cases x with
 | non =>
  cases rx
  have e':k=false:=e
  subst e'
  exact truthy_none ⟨H,I,q⟩
 | bl b =>
  cases rx
  have e':k=b:=e
  subst e'
  exact wpAny_truthy_bool ⟨H,I,q⟩
 | int i =>
  obtain ⟨t,rfl⟩:=rx
  have e':k=(i != 0):=e
  subst e'
  exact PySem.P.truthy_int ⟨H,I,q⟩
 | str y =>
  obtain ⟨t,rfl⟩:=rx
  obtain ⟨hy,e'⟩:y.length≤sizeLine∧k=((y.length:Int) != 0):=e
  subst e'
  exact PySem.P.truthy_str (by omega) ⟨H,I.tok _,q⟩
 | byt y =>
  obtain ⟨t,rfl⟩:=rx
  obtain ⟨hy,e'⟩:y.size≤sizeLine∧k=((y.size:Int) != 0):=e
  subst e'
  exact PySem.W.truthy_bytes (by omega) ⟨H,I.tok _,q⟩
 | ref p =>
  cases rx
  have e':(∃ xs,SqL X.K H p xs∧k=!xs.isEmpty)∨(∃ xs,SqT X.K H p xs∧k=!xs.isEmpty)∨∃ kvs,H p=some (.dK kvs)∧k=!kvs.isEmpty:=e
  rcases e' with ⟨xs,hx,e'⟩ | ⟨xs,hx,e'⟩ | ⟨kvs,hx,e'⟩
  ·subst e'
   obtain ⟨its,r,pl,hz⟩:=I.list hx
   have hlen:=r.length
   exact wpAny_truthy_list pl.isList (by simp only [List.size_toArray]; omega) ⟨H,I.tok _,by rw [isEmpty_of r]; exact q⟩
  ·subst e'
   obtain ⟨its,r,pl,hz⟩:=I.tuple hx
   have hlen:=r.length
   exact truthy_tuple pl (by simp only [List.size_toArray]; omega) ⟨H,I.tok _,by rw [isEmpty_of r]; exact q⟩
  ·subst e'
   obtain ⟨hz,hS,vs,r,m⟩:kvs.length≤sizeLine∧(p == sysModules)=false∧∃ vs,KV kvs vs∧s.heap.DictOf (mixKind X.prog X.w) p vs:=I.hok p _ hx
   have hlen:kvs.length=vs.length:=Paired.length r
   exact wpAny_truthy_dict hS m (by omega) ⟨H,I.tok _,by rw [isEmpty_kv r]; exact q⟩
 | _=>exact (show False from e).elim
theorem pt_truth (ha : PE X a ta) (he : ∀ whole, isTrue a X.env whole = (do let v ← whole; standAt a.pos; holding [v] (truthy v))) :
    PT X a (fun σ H Q => ta σ H fun x H' => ∃ k, TruV X.K x H' k ∧ Q k H') := by
  intro pins s σ H Q I h
  exact isTrue_plain (thn (ha pins s σ H _ I h) fun v s1 ⟨x, H1, I1, r1, q1⟩ => tru_ok pins s1 σ H1 x v Q I1 r1 q1) (he _)
theorem vals1 {x:V} {us:List Value} (r:Vals [x] us):∃ u,us=[u]∧RelV x u:=by
 cases r with
 | cons r1 r2=>cases r2; exact ⟨_,rfl,r1⟩
theorem vals2 {x y:V} {us:List Value} (r:Vals [x,y] us):∃ u w',us=[u,w']∧RelV x u∧RelV y w':=by
 cases r with
 | cons r1 r2 =>
  cases r2 with
  | cons r3 r4=>cases r4; exact ⟨_,_,rfl,r1,r3⟩
theorem call_int1:CallR X (.type "int") (fun xs H Q=>(∃ i,xs=[.int i]∧Q (.int i) H)∨∃ k,xs=[.bl k]∧Q (.int (if k then 1 else 0)) H):=by
 intro pins s σ H xs us Q I r h
 rcases h with ⟨i,rfl,q⟩ | ⟨k,rfl,q⟩
 ·obtain ⟨u,rfl,t,rfl⟩:=vals1 r
  exact call_int_int ⟨.int i,H,I,⟨_,rfl⟩,q⟩
 ·obtain ⟨u,rfl,r1⟩:=vals1 r
  cases r1
  exact call_int_bool ⟨.int (if k then 1 else 0),H,I.tok _,⟨_,rfl⟩,q⟩
end
end L2
namespace L2
open PySem PySem.Spec PyProof.Rows
structure ObjM (h:Heap) (x dx C:Addr) (mA:Str→Option Value):Prop where
 obj:h.get? x=some (PySem.W.instObj C dx)
 ns:h.Ns1 dx mA
 ne:dx≠x
theorem lookIn_ns {h:Heap} {dx:Addr} {mA:Str→Option Value} (n:h.Ns1 dx mA):∃ od,h.get? dx=some od∧∀ name,PySem.W.lookIn name od=some (mA name):=by
 obtain ⟨o,es,ep,ho,hd,hk,_,hm⟩:=n
 refine ⟨o,ho,fun name=>?_⟩
 have e:=hm name
 unfold nsFind findBy at e
 rw [← Array.find?_toList] at e
 unfold PySem.W.lookIn
 rw [hd]
 dsimp only
 split
 ·rename_i y q
  rw [q] at e
  exact congrArg some e
 ·rename_i q
  rw [q] at e
  have a:es.toList.any (·.refKey)=false:=by
   rw [List.any_eq_false]
   intro y hy
   obtain ⟨z,t,hkey⟩:=hk y (Array.mem_toList_iff.mp hy)
   simp [DictEntry.refKey,hkey]
  have a':¬ es.toList.any (·.refKey)=true:=by rw [a]; exact Bool.false_ne_true
  rw [if_neg a']
  exact congrArg some e
theorem ObjM.look {h:Heap} {x dx C:Addr} {mA:Str→Option Value} (I:ObjM h x dx C mA):∃ od,PySem.W.InstAt h x (PySem.W.instObj C dx) C (some od)∧∀ name,PySem.W.lookIn name od=some (mA name) :=
 let ⟨od,ho,hl⟩:=lookIn_ns I.ns
 ⟨od,⟨I.obj,rfl,rfl,ho⟩,hl⟩
theorem RelO.some_of {v:V} {o:Option Value} (r:RelO (some v) o):∃ u,o=some u∧RelV v u:=by
 cases o with
 | none=>exact (show False from r).elim
 | some u=>exact ⟨u,rfl,r⟩
theorem RelO.none_of {o:Option Value} (r:RelO none o):o=none:=by
 cases o with
 | none=>rfl
 | some u=>exact (show False from r).elim
section
variable {P:Program} {w:World} {H H':Hp} {h h':Heap} {a C dx:Addr} {fs fs':List (Str×V)}
theorem ins_get (hok:HOk P w H h) (e:H a=some (.ins C dx fs)):∃ mA,ObjM h a dx C mA∧(∀ f,RelO (fs.lookup f) (mA f))∧PySem.Within mA (fs.map (·.1))∧fs.length≤1000∧H dx=some (.own a):=by
 obtain ⟨d,z,ne,ob,mA,n,r,q⟩:=(show ObjOk P w H h a (.ins C dx fs) from hok a _ e)
 exact ⟨mA,⟨ob,n,ne⟩,r,q,z,d⟩
end
structure Cls (K:PySem.W.Frag) (C:Addr):Prop where
 pg:PySem.W.plainGet K C Str.empty=true
 hd:PySem.W.hasDictIn K C=true
 po:PySem.W.plainOver K C=true
 sa:PySem.W.findIn K (.ref C) "__setattr__" = some (some (.builtin "object.__setattr__"))
theorem Cls.get {K:PySem.W.Frag} {C:Addr} (c:Cls K C) (f:Str):PySem.W.plainGet K C f=true:=c.pg
section
variable {X:Cx} {o e value:Expr} {f:Str} {pos pos' tpos:Pos} {ta tv:TE}
def rSub:V→V→Hp→VK→Prop:=fun x y H Q=>∃ i j,x=.int i∧y=.int j∧Q (.int (i - j)) H
end
section
variable {X:Cx} {pins:List (Addr×Obj)} {σ:St} {H:Hp} {s:Shared} {A:Around} {E:Value→Shared→Prop} {Q:Value→Shared→Prop} {c:Value} {b:Bool}
inductive TyOf (K : PySem.W.Frag) (H : Hp) : V → Value → Prop where
  | non : TyOf K H .non (.type "NoneType")
  | bl (x : Bool) : TyOf K H (.bl x) (.type "bool")
  | int (i : Int) : TyOf K H (.int i) (.type "int")
  | str (x : Str) : TyOf K H (.str x) (.type "str")
  | flt (x : UInt64) : TyOf K H (.flt x) (.type "float")
  | lst {a : Addr} {xs : List V} (e : H a = some (.lst xs)) : TyOf K H (.ref a) (.type "list")
  | frz {a : Addr} {o : Obj} {xs : List V} (e : H a = some (.frz o (.lst xs))) : TyOf K H (.ref a) (.type "list")
  | tup {a : Addr} {xs : List V} (e : H a = some (.tup xs)) : TyOf K H (.ref a) (.type "tuple")
  | dK {a : Addr} {kvs : List (Key × V)} (e : H a = some (.dK kvs)) : TyOf K H (.ref a) (.type "dict")
  | dT {a : Addr} {kvs : List (List Key × V)} (e : H a = some (.dT kvs)) : TyOf K H (.ref a) (.type "dict")
  | ins {a C dx : Addr} {fs : List (Str × V)} (e : H a = some (.ins C dx fs)) (cl : Cls K C) (ha : PySem.W.findIn K (.ref C) "__class__" = some (some (.builtin "object.__class__")))
      (hn : PySem.W.specialIn K (.builtin "object.__class__") "__get__" = some (some (.builtin "getset_descriptor.__get__"))) (htk : PySem.W.takesIn K (.builtin "object.__class__") = some true)
      (hm : PySem.W.mroIn K C (.type "object") = some true) : TyOf K H (.ref a) (.ref C)
theorem isinst_ok {x : V} {u t : Value} (I : Inv X pins σ H s) (rx : RelV x u) (ty : TyOf X.K H x t) (e : PySem.W.kitOne X.K t c = some b) (h : ∀ tk, Q (.bool b) { s with toks := tk }) :
    wpAny (model X.prog X.w) A (call (.builtin "isinstance") [u, c]) Q E s := by
  cases ty with
  | non => cases (show u = Value.none from rx); exact PySem.W.kia_one PySem.W.kitx_none I.kIn True.intro e (fun z => nomatch z) h
  | bl y => cases (show u = Value.bool y from rx); exact PySem.W.kia_one PySem.W.kitx_bool I.kIn True.intro e (fun z => nomatch z) h
  | int i => obtain ⟨t, q⟩ := (show ∃ t, u = Value.int i t from rx); cases q; exact PySem.W.kia_one PySem.W.kitx_int I.kIn True.intro e (fun z => nomatch z) h
  | str y => obtain ⟨t, q⟩ := (show ∃ t, u = Value.str y t from rx); cases q; exact PySem.W.kia_one PySem.W.kitx_str I.kIn True.intro e (fun z => nomatch z) h
  | flt y => obtain ⟨t, q⟩ := (show ∃ t, u = Value.float y t from rx); cases q; exact PySem.W.kia_one PySem.W.kitx_float I.kIn True.intro e (fun z => nomatch z) h
  | @lst a xs ea =>
    cases (show u = Value.ref a from rx)
    obtain ⟨_, _, n, _, h1⟩ := (show ObjOk X.prog X.w H s.heap a (.lst xs) from I.hok a _ ea)
    exact PySem.W.kia_one PySem.W.kitx_list I.kIn ⟨_, h1, rfl⟩ e (fun z => nomatch z) h
  | @frz a ob xs ea =>
    cases (show u = Value.ref a from rx)
    obtain ⟨_, _, _, n, _, h1⟩ := (show ObjOk X.prog X.w H s.heap a (.frz ob (.lst xs)) from I.hok a _ ea)
    exact PySem.W.kia_one PySem.W.kitx_list I.kIn ⟨_, h1, rfl⟩ e (fun z => nomatch z) h
  | @tup a xs ea =>
    cases (show u = Value.ref a from rx)
    obtain ⟨_, _, _, p⟩ := (show ObjOk X.prog X.w H s.heap a (.tup xs) from I.hok a _ ea)
    obtain ⟨o, h1, h2, _⟩ := p
    exact PySem.W.kia_one PySem.W.kitx_tuple I.kIn ⟨o, h1, h2⟩ e (fun z => nomatch z) h
  | @dK a kvs ea =>
    cases (show u = Value.ref a from rx)
    obtain ⟨_, _, vs, _, p⟩ := (show ObjOk X.prog X.w H s.heap a (.dK kvs) from I.hok a _ ea)
    obtain ⟨o, es, ep, h1, h2, _⟩ := p
    exact PySem.W.kia_one PySem.W.kitx_dict I.kIn ⟨o, h1, h2.1⟩ e (fun z => nomatch z) h
  | @dT a kvs ea =>
    cases (show u = Value.ref a from rx)
    obtain ⟨_, _, xs, _, o, es, ep, h1, h2, _⟩ := (show ObjOk X.prog X.w H s.heap a (.dT kvs) from I.hok a _ ea)
    exact PySem.W.kia_one PySem.W.kitx_dict I.kIn ⟨o, h1, h2.1⟩ e (fun z => nomatch z) h
  | @ins a C dx fs ea cl ha hn htk hm =>
    cases (show u = Value.ref a from rx)
    obtain ⟨mA, O, _⟩ := ins_get I.hok ea
    obtain ⟨od, J, _⟩ := O.look
    exact PySem.W.kia_one (PySem.W.kitx_own (cl.get _) cl.hd ha hn htk hm) I.kIn J e (fun z => nomatch z) h
end
end L2
namespace L2
open PySem PySem.Spec PyProof.Rows
structure Room (k:Nat) (A:Around):Prop where
 hd:A.handled=none
 dp:A.depth+3 * k+5 < recursionLimit
 un:A.units+16 * k+200 < cLine
 gd:A.guards=some []
theorem Room.mono {j k:Nat} {A:Around} (r:Room k A) (h:j≤k):Room j A:=⟨r.hd,by have:=r.dp; omega,by have:=r.un; omega,r.gd⟩
theorem Room.deeper {k:Nat} {A:Around} (r:Room (k+1) A) (env:Env):Room k (A.deeper env) :=
 ⟨r.hd,by have:=r.dp; show A.depth+1+3 * k+5 < _; omega,by have:=r.un; show A.units+3+16 * k+200 < _; omega,r.gd⟩
theorem Room.depth {k:Nat} {A:Around} (r:Room k A):A.depth < recursionLimit:=by have:=r.dp; omega
def tNil:TA:=fun _ H Q=>Q [] H
def tCons (ta:TE) (tr:TA):TA:=fun σ H Q=>ta σ H fun x H1=>tr σ H1 fun xs H2=>Q (x::xs) H2
section
variable {X:Cx} {e:Expr} {es:List Expr} {te:TE} {t:TA} {pos:Pos}
theorem pa_nil:PA X [] tNil:=fun _ _ _ _ H Q I h=>Calls.spliced_nil ⟨[],H,I,.nil,h⟩
theorem pa_cons (ha:PE X e te) (hr:PA X es t) (hs:starEach (e::es) X.env=(false,eval e X.env)::starEach es X.env:=by rfl):PA X (e::es) (tCons te t):=by
 intro pos pins s σ H Q I h
 rw [hs]
 show wpAny _ _ (spliced ((false,eval e X.env)::backTo pos (starEach es X.env))) _ _ s
 refine Calls.spliced_cons (thn (ha pins s σ H _ I h) fun u s1 ⟨x,H1,I1,r1,q1⟩=>?_)
 exact thn (hr pos pins s1 σ H1 _ I1 q1) fun us s2 ⟨xs,H2,I2,r2,q2⟩=>⟨x::xs,H2,I2,.cons r1 r2,q2⟩
def tTup (t:TA):TE:=fun σ H Q=>t σ H fun xs H1=>xs.length≤sizeLine∧∀ p,H1 p=none→Q (.ref p) (upd H1 p (.tup xs))
def tLst (t:TA):TE:=fun σ H Q=>t σ H fun xs H1=>xs.length≤sizeLine∧∀ p,H1 p=none→Q (.ref p) (upd H1 p (.lst xs))
theorem pe_tup {x1} (h:PA X es t):PE X (.Tuple es x1 pos) (tTup t):=by
 intro pins s σ H Q I hq
 refine wpAny_Tuple_spliced (thn (h pos pins s σ H _ I hq) fun us s1 ⟨xs,H1,I1,r,z,q⟩=>⟨by rw [← r.length]; exact z,?_⟩)
 have hf:H1 s1.heap.objs.size=none:=I1.hok.fresh (Nat.le_refl _)
 refine ⟨.ref s1.heap.objs.size,upd H1 s1.heap.objs.size (.tup xs),I1.laid (t':=s1.toks) (fun b u e=>Heap.get?_push_of_some _ e) (Nat.le_refl _) ?_,rfl,q _ hf⟩
 exact ⟨z,us,r,⟨_,Heap.get?_push_size _ rfl,rfl,_,rfl⟩⟩
theorem pe_lst (h:PA X es t):PE X (.List es pos) (tLst t):=by
 intro pins s σ H Q I hq
 refine wpAny_List_spliced (thn (h pos pins s σ H _ I hq) fun us s1 ⟨xs,H1,I1,r,z,q⟩=>⟨by rw [← r.length]; exact z,?_⟩)
 have hf:H1 s1.heap.objs.size=none:=I1.hok.fresh (Nat.le_refl _)
 refine ⟨.ref s1.heap.objs.size,upd H1 s1.heap.objs.size (.lst xs),I1.laid (t':=s1.toks) (fun b u e=>Heap.get?_push_of_some _ e) (Nat.le_refl _) ?_,rfl,q _ hf⟩
 exact ⟨z,us,0,r,Heap.get?_push_size _ rfl⟩
end
abbrev Sp:=List V→Hp→VK→XK→Prop
abbrev CXT:=List Env→Hp→Shared→XK→Value→Shared→Prop
structure Env0 (P:Program) (w:World) (K:PySem.W.Frag) (mg:Str→Option Value) (base:Heap) (A:Around) (outer:List Env) (s:Shared) (H:Hp):Prop where
 frames:A.frames=some outer
 mod:Mod K mg base
 bs:∀ b o,base.get? b=some o→s.heap.get? b=some o∧H b=none
 bsz:base.objs.size≤s.heap.objs.size
 funs:s.heap.FunFrames base outer
 frf:∀ b∈frs outer,H b=none
 hok:HOk P w H s.heap
 bare:AllBare s.gens
def CE (outer:List Env) (P:Program) (w:World) (H:Hp) (s:Shared) (Q:VK) (u:Value) (s':Shared):Prop :=
 ∃ v H',s'.os=s.os∧AllBare s'.gens∧Un (frs outer) [] H H' s.heap s'.heap∧HOk P w H' s'.heap∧RelV v u∧Q v H'
def CR (CX:CXT) (outer:List Env) (P:Program) (w:World) (H:Hp) (s:Shared) (Q:VK) (E:XK) (r:Result) (s':Shared):Prop :=
 match r with
 | .ok (.ret u)=>CE outer P w H s Q u s'
 | .ok _=>False
 | .error e=>CX outer H s E e s'
structure FnOk (P:Program) (w:World) (K:PySem.W.Frag) (mg:Str→Option Value) (base:Heap) (CX:CXT) (k:Nat) (f:Addr) (fd:FuncData) (ps:List Str) (sp:Sp):Prop where
 len:∀ vs H Q E,sp vs H Q E→vs.length=ps.length
 run:∀ (A:Around) (outer:List Env) (s:Shared) (H:Hp) (args:Args) (us:List Value) (vs:List V) (Q:VK) (E:XK),Room k A→Env0 P w K mg base A outer s H→BindsTo s fd args (ps.zip us)→Vals vs us→sp vs H Q E →
  codeAny (model P w) A (.call (.ref f) args) (CR CX outer P w H s Q E) s
theorem FnOk.mono {P : Program} {w : World} {K : PySem.W.Frag} {mg : Str → Option Value} {base : Heap} {CX : CXT} {j k : Nat} {f : Addr} {fd : FuncData} {ps : List Str} {sp : Sp} (F : FnOk P w K mg base CX j f fd ps sp) (h : j ≤ k) :
    FnOk P w K mg base CX k f fd ps sp := ⟨F.len, fun A outer s H args us vs Q E hr => F.run A outer s H args us vs Q E (hr.mono h)⟩
section
variable {X:Cx} {pins:List (Addr×Obj)} {σ:St} {H:Hp} {s s':Shared}
theorem Inv.env0 (I:Inv X pins σ H s):Env0 X.prog X.w X.K X.mg X.base X.A X.stack s H :=
 ⟨I.ok.frames,I.ok.mod,I.bs,Nat.le_trans I.ok.bsz I.sz,I.stack,I.stkFree,I.hok,I.bare⟩
theorem Inv.after {Q:VK} {u:Value} (I:Inv X pins σ H s) (h:CE X.stack X.prog X.w H s Q u s'):EP X pins σ Q u s':=by
 obtain ⟨v,H',os,bare,un,hok,r,q⟩:=h
 obtain ⟨hh,g,d,t,os'⟩:=s'
 obtain rfl:os'=s.os:=os
 exact ⟨v,H',I.call (h':=hh) (g':=g) (d':=d) (t':=t) (ch:=[]) un hok bare (fun b z=>absurd z (by simp)),r,q⟩
end
def tCall (sp:Sp) (dvs:List V) (E:XK) (t:TA):TE:=fun σ H Q=>t σ H fun vs H1=>sp (vs++dvs) H1 Q E
def Binds (K:PySem.W.Frag) (fd:FuncData) (ps:List Str) (ds:List Value):Prop :=
 ∀ (s:Shared) (us:List Value),K.In s.heap→(us++ds).length=ps.length→BindsTo s fd ⟨us,[]⟩ (ps.zip (us++ds))
theorem Binds.all {K:PySem.W.Frag} {fd:FuncData} {ps:List Str} (h:∀ us:List Value,us.length=ps.length→bindArgs fd ⟨us,[]⟩=pure (ps.zip us)):Binds K fd ps []:=fun s us _ hl=>by
 rw [List.append_nil] at hl ⊢
 exact .of_eq (h us hl)
def Passes (CX:CXT) (X:Cx) (E:XK):Prop:=∀ (pins:List (Addr×Obj)) (σ:St) (H:Hp) (s:Shared) (e:Value) (s':Shared),Inv X pins σ H s→CX X.stack H s E e s'→X.xe e s'
section
variable {X:Cx} {CX:CXT} {k:Nat} {f C:Addr} {fd:FuncData} {ps:List Str} {sp:Sp} {dvs:List V} {ds:List Value} {E:XK} {x m:Str} {p pos apos:Pos} {e o:Expr} {es:List Expr} {ta:TE} {t:TA}
theorem run_fn {pins : List (Addr × Obj)} {σ : St} {H : Hp} {s : Shared} {Q : VK} {us : List Value} {vs : List V} (F : FnOk X.prog X.w X.K X.mg X.base CX k f fd ps sp) (hr : Room k X.A) (hb : Binds X.K fd ps ds) (hd : Vals dvs ds) (hx : Passes CX X E)
    (I : Inv X pins σ H s) (r : Vals vs us) (h : sp (vs ++ dvs) H Q E) : wpAny (model X.prog X.w) X.A (call (.ref f) us) (EP X pins σ Q) X.xe s := by
  have r2 : Vals (vs ++ dvs) (us ++ ds) := r.append hd
  have hl : (us ++ ds).length = ps.length := by rw [← r2.length]; exact F.len _ _ _ _ h
  refine wpAny_call (codeAny_mono (F.run X.A X.stack s H ⟨us, []⟩ (us ++ ds) (vs ++ dvs) Q E hr I.env0 (hb s us I.kIn hl) r2 h) fun r s' hq => ?_)
  cases r with
  | error e => exact hx pins σ H s e s' I hq
  | ok fl =>
    cases fl with
    | ret u => exact I.after hq
    | next => exact False.elim hq
    | brk => exact False.elim hq
    | cont => exact False.elim hq
theorem pe_call (F : FnOk X.prog X.w X.K X.mg X.base CX k f fd ps sp) (hr : Room k X.A) (hg : Gl X x) (hm : X.mg x = some (.ref f)) (hk : PySem.W.keepIn X.K (.ref f) = true) (hb : Binds X.K fd ps ds) (hd : Vals dvs ds) (hx : Passes CX X E)
    (ha : PA X (e :: es) t) (hdb : (x == ("__debug__" : Str)) = false := by decide) (he : starEach (e :: es) X.env = (false, eval e X.env) :: starEach es X.env := by rfl) (hpl : (backTo pos (starEach es X.env)).any (·.1) = false := by rfl) :
    PE X (.Call (.Name x p) (e :: es) [] pos) (tCall sp dvs E t) := by
  intro pins s σ H Q I h
  refine wpAny_Call_Name_kw (ld_glob I hg hm ?_ hdb)
  refine PySem.W.callWith_K (h₀ := X.base) I.ok.mod.kin hk (thn (ha pos pins s σ H _ I h) fun us s1 ⟨vs, H1, I1, r, q⟩ => ⟨I1.kIn, ?_⟩) he hpl
  exact run_fn F hr hb hd hx I1 r q
end
def PK (X:Cx) (kws:List Keyword) (t:TA):Prop :=
 ∀ (pos:Pos) (pins:List (Addr×Obj)) (s:Shared) (σ:St) (H:Hp) (Q:List V→Hp→Prop),Inv X pins σ H s→t σ H Q→wpAny (model X.prog X.w) X.A (evalAll ((backToKw pos (keywordEach kws X.env)).map (·.2))) (AP X pins σ Q) X.xe s
section
variable {X:Cx} {CX:CXT} {k:Nat} {f C:Addr} {fd:FuncData} {ps ks:List Str} {sp:Sp} {E:XK} {x m:Str} {p pos apos kpos:Pos} {e o:Expr} {es:List Expr} {kws:List Keyword} {te ta:TE} {t tk:TA} {nm:Option Str}
theorem pk_nil:PK X [] tNil:=fun _ _ _ _ H Q I h=>wpAny_evalAll_nil ⟨[],H,I,.nil,h⟩
theorem pk_cons (ha:PE X e te) (hr:PK X kws t):PK X (⟨nm,e,kpos⟩::kws) (tCons te t):=by
 intro pos pins s σ H Q I h
 show wpAny _ _ (evalAll ((do let v ← eval e X.env; standAt pos; pure v)::(backToKw pos (keywordEach kws X.env)).map (·.2))) _ _ s
 refine wpAny_evalAll_cons (wpAny_bind (thn (ha pins s σ H _ I h) fun u s1 ⟨x,H1,I1,r1,q1⟩=>wpAny_bind (wpAny_standAt (wpAny_pure ?_))))
 exact thn (hr pos pins s1 σ H1 _ I1 q1) fun us s2 ⟨xs,H2,I2,r2,q2⟩=>⟨x::xs,H2,I2,.cons r1 r2,q2⟩
variable {g:List Value→List Value→List Value} {gV:List V→List V→List V}
end
structure FnScope (N P:List Str) (sc:Scope):Prop where
 kind:sc.kind=.function
 co:sc.isCoroutine=false
 gen:sc.isGenerator=false
 nd:N.Nodup
 pre:N.take P.length=P
 par:∀ x∈P,sc.names.lookup x=some .local∨sc.names.lookup x=some .cell
 nofree:∀ y∈sc.names,y.2≠.free
theorem bindL_out {kindOf:Str→Option NameKind} {x:Str}:∀ {binds:List (Str×Value)} {m:Str→Option Value},(∀ v,(x,v)∉binds)→bindL kindOf binds m x=m x
 | [],_,_=>rfl
 | (n,v)::r,m,h=>by
  unfold bindL
  rw [bindL_out fun w hw=>h w (List.mem_cons_of_mem _ hw)]
  split
  ·have:x≠n:=by rintro rfl; exact h v List.mem_cons_self
   simp [this]
  ·rfl
theorem bindC_out {kindOf:Str→Option NameKind} {x:Str}:∀ {binds:List (Str×Value)} {m:Str→Option Value},(∀ v,(x,v)∉binds)→bindC kindOf binds m x=m x
 | [],_,_=>rfl
 | (n,v)::r,m,h=>by
  unfold bindC
  rw [bindC_out fun w hw=>h w (List.mem_cons_of_mem _ hw)]
  split
  ·rfl
  ·have:x≠n:=by rintro rfl; exact h v List.mem_cons_self
   simp [this]
theorem bindL_get {kindOf : Str → Option NameKind} {x : Str} {v : Value} : ∀ {P : List Str} {vs : List Value} {i : Nat} {m : Str → Option Value}, P.Nodup → P[i]? = some x → vs[i]? = some v → kindOf x = some .local →
    bindL kindOf (P.zip vs) m x = some v
  | [], _, _, _, _, h, _, _ => by simp at h
  | _ :: _, [], _, _, _, _, h, _ => by simp at h
  | p :: P, w :: vs, 0, m, nd, h1, h2, hk => by
    simp at h1 h2; subst h1; subst h2
    show bindL kindOf ((p, w) :: P.zip vs) m p = _
    unfold bindL
    rw [bindL_out fun v hv => (List.nodup_cons.mp nd).1 (List.of_mem_zip hv).1, if_pos hk]
    simp
  | p :: P, w :: vs, i + 1, m, nd, h1, h2, hk => by
    show bindL kindOf ((p, w) :: P.zip vs) m x = _
    unfold bindL
    exact bindL_get (i := i) (List.nodup_cons.mp nd).2 (by simpa using h1) (by simpa using h2) hk
theorem bindC_get {kindOf : Str → Option NameKind} {x : Str} {v : Value} : ∀ {P : List Str} {vs : List Value} {i : Nat} {m : Str → Option Value}, P.Nodup → P[i]? = some x → vs[i]? = some v → kindOf x ≠ some .local →
    bindC kindOf (P.zip vs) m x = some v
  | [], _, _, _, _, h, _, _ => by simp at h
  | _ :: _, [], _, _, _, _, h, _ => by simp at h
  | p :: P, w :: vs, 0, m, nd, h1, h2, hk => by
    simp at h1 h2; subst h1; subst h2
    show bindC kindOf ((p, w) :: P.zip vs) m p = _
    unfold bindC
    rw [bindC_out fun v hv => (List.nodup_cons.mp nd).1 (List.of_mem_zip hv).1, if_neg hk]
    simp
  | p :: P, w :: vs, i + 1, m, nd, h1, h2, hk => by
    show bindC kindOf ((p, w) :: P.zip vs) m x = _
    unfold bindC
    exact bindC_get (i := i) (List.nodup_cons.mp nd).2 (by simpa using h1) (by simpa using h2) hk
def start (N:List Str) (vs:List V):St:=vs.map some++List.replicate (N.length - vs.length) none
def cxOf (CX:CXT) (P:Program) (w:World) (K:PySem.W.Frag) (mg:Str→Option Value) (base:Heap) (N:List Str) (qual:Str) (scope:Scope) (f:Addr) (cd:Value) (A:Around) (outer:List Env) (s:Shared) (H:Hp) (E:XK):Cx where
 prog:=P
 w:=w
 K:=K
 mg:=mg
 base:=base
 A:=A.deeper (envOfC qual scope s.heap.objs.size f cd)
 N:=N
 s₀:=s
 H₀:=H
 env:=envOfC qual scope s.heap.objs.size f cd
 outer:=outer
 stack:=envOfC qual scope s.heap.objs.size f cd::outer
 ex:=[]
 calm:=true
 fn:=fun _=>true
 pn:=[]
 xe:=fun e s'=>wpAny (model P w) (A.deeper (envOfC qual scope s.heap.objs.size f cd)) (leaving (envOfC qual scope s.heap.objs.size f cd) e) (fun _ s''=>CX outer H s E e s'') (fun e' s''=>CX outer H s E e' s'') s'
theorem cell_has {sc:Scope} {n:Nat} {x:Str} (h:sc.names.lookup x=some .cell):∃ c,(cellsFrom n sc.names []).lookup x=some c:=by
 have q:=PySem.W.cellsFrom_some sc.names n [] (.inl h)
 exact Option.isSome_iff_exists.mp q
theorem inv_start {CX : CXT} {P : Program} {w : World} {K : PySem.W.Frag} {mg : Str → Option Value} {base : Heap} {N ps : List Str} {qual : Str} {scope : Scope} {f : Addr} {cd : Value} {A : Around} {outer : List Env} {s s1 : Shared} {H : Hp} {E : XK} {us : List Value} {vs : List V}
    (S : FnScope N ps scope) (hd : A.handled = none) (e0 : Env0 P w K mg base A outer s H) (hl : vs.length = ps.length) (r : Vals vs us)
    (x : InCallC s s.heap.objs.size (bindL (envOfC qual scope s.heap.objs.size f cd).kindOf (ps.zip us) fun _ => none) (cellsFrom (s.heap.objs.size + 1) scope.names []) (bindC (envOfC qual scope s.heap.objs.size f cd).kindOf (ps.zip us) fun _ => none) s1) :
    Inv (cxOf CX P w K mg base N qual scope f cd A outer s H E) [] (start N vs) H s1 := by
  have hpl : ps.length ≤ N.length := by have := congrArg List.length S.pre; rw [List.length_take] at this; omega
  obtain ⟨h1, tk, rfl, hk⟩ := x.done
  have noA : ∀ b : Addr, b ∉ (cxOf CX P w K mg base N qual scope f cd A outer s H E).ex := fun b z => absurd (show b ∈ ([] : List Addr) from z) (by simp)
  refine ⟨⟨e0.mod, S.kind, rfl, rfl, Nat.le_refl _, fun y z c h1 h2 => ?_, fun y hy => ?_, fun y c _ h => ?_, fun _ => hd, Around.frames_deeper e0.frames, .inr ⟨rfl, rfl⟩, fun b z => absurd z (noA b), e0.bs, e0.bsz, fun b _ _ => noA b, fun b z => absurd z (noA b), e0.funs, e0.frf⟩,
    rfl, e0.bare, Un.kept hk, ⟨_, x.toInCall.ns, fun i y v h1 h2 h3 => ?_⟩, fun y c h => ⟨_, x.cell y c h⟩, e0.hok.fresh (Nat.le_refl _), fun y c h => ?_, fun p hp => absurd (show p ∈ ([] : List (Addr × Obj)) from hp) (by simp), e0.hok.kept hk, ?_⟩
  · exact name_of_addr x.apart (PySem.mem_of_lookup h1) (PySem.mem_of_lookup h2)
  · have hy : scope.names.lookup y = some .cell ∨ scope.names.lookup y = some .free := hy
    rcases hy with hy | hy
    · exact cell_has hy
    · exact absurd rfl (S.nofree _ (PySem.mem_of_lookup hy))
  · exact Nat.le_of_lt (x.above y c (PySem.mem_of_lookup h))
  · have hi : i < vs.length := by
      unfold start at h2
      by_cases hi : i < vs.length
      · exact hi
      · rw [List.getElem?_append_right (by simpa using hi)] at h2
        rw [List.getElem?_replicate] at h2
        split at h2 <;> cases h2
    have ha : vs[i]? = some v := by
      unfold start at h2
      rw [List.getElem?_append_left (by simpa using hi), List.getElem?_map] at h2
      cases e : vs[i]? with
      | none => rw [e] at h2; cases h2
      | some a => rw [e] at h2; cases h2; rfl
    obtain ⟨u, hu, rv⟩ := r.get ha
    have hp : ps[i]? = some y := by
      rw [← S.pre, List.getElem?_take_of_lt (by omega)]; exact h1
    have ndP : ps.Nodup := by rw [← S.pre]; exact S.nd.sublist (List.take_sublist _ _)
    refine ⟨u, rv, ?_⟩
    rcases S.par y (List.mem_of_getElem? hp) with k | k
    · exact .inl ⟨k, bindL_get ndP hp hu k⟩
    · obtain ⟨c, e⟩ := cell_has (n := s.heap.objs.size + 1) k
      refine .inr ⟨.inl k, c, e, ?_⟩
      have q := x.cell y c e
      rw [bindC_get ndP hp hu (by show scope.names.lookup y ≠ _; rw [k]; decide)] at q
      exact q
  · exact e0.hok.fresh (Nat.le_of_lt (x.above y c (PySem.mem_of_lookup h)))
  · unfold start
    show _ = N.length
    rw [List.length_append, List.length_map, List.length_replicate]
    omega
theorem fn_of {CX : CXT} {P : Program} {w : World} {K : PySem.W.Frag} {mg : Str → Option Value} {base : Heap} {k : Nat} {f : Addr} {name qual : Str} {params : Arguments} {body : List Stmt} {scope : Scope} {dV kV doc pm cdv ct oc : Value} {an od : Option Addr}
    {osl : Array (Option Value)} {N ps : List Str} {sp : Sp} (lk : K.lookup f = some ⟨oc, od, .func (PySem.W.fnOf name qual params body scope dV kV doc pm an cdv ct), osl⟩) (hcd : PySem.W.codeIn K cdv qual = true) (S : FnScope N ps scope)
    (len : ∀ vs H Q E, sp vs H Q E → vs.length = ps.length)
    (hbody : ∀ (A : Around) (outer : List Env) (s : Shared) (H : Hp) (vs : List V) (Q : VK) (E : XK), Room k (A.deeper (envOfC qual scope s.heap.objs.size f cdv)) → sp vs H Q E →
      ∃ t, PSs (cxOf CX P w K mg base N qual scope f cdv A outer s H E) body t ∧ t { nx := fun _ H' => Q .non H', rt := Q } (start N vs) H) :
    FnOk P w K mg base CX (k + 1) f (PySem.W.fnOf name qual params body scope dV kV doc pm an cdv ct) ps sp := by
  refine ⟨len, fun A outer s H args us vs Q E hr e0 hb r hsp => ?_⟩
  have hl := len _ _ _ _ hsp
  have KX : K.In s.heap := e0.mod.kin.keeps fun b o e => (e0.bs b o e).1
  have lim : s.heap.NoLimit := e0.mod.nolimit.keeps fun b o e => (e0.bs b o e).1
  have hkind : ∀ y ∈ ps.zip us, scope.names.lookup y.1 = some .local ∨ (scope.names.lookup y.1 = some .cell ∧ ((cellsFrom (s.heap.objs.size + 1) scope.names []).lookup y.1).isSome = true) := fun ⟨n, v⟩ hy => by
    rcases S.par n (List.of_mem_zip hy).1 with q | q
    · exact .inl q
    · exact .inr ⟨q, PySem.W.cellsFrom_some _ _ _ (.inl q)⟩
  refine codeAny_call_function hr.depth (KX _ _ lk) rfl S.co S.gen rfl (PySem.W.codeRec_of KX hcd) (hb _ _ _ _ ?_)
  refine wpAny_newFunctionEnv_cells S.kind hkind fun env he s1 x => ?_
  subst he
  refine ⟨lim.keeps x.toInCall.keep, codeAny_func ?_⟩
  obtain ⟨t, ht, hq⟩ := hbody A outer s H vs Q E (hr.deeper _) hsp
  have I : Inv (cxOf CX P w K mg base N qual scope f cdv A outer s H E) [] (start N vs) H s1 := inv_start S hr.hd e0 hl r x
  refine wpAny_mono (ht [] s1 (start N vs) H _ I hq) (fun fl s' hs => ?_) fun e s' hs => hs
  have fin : ∀ {σ' : St} {H' : Hp} {v : V} {u : Value}, Inv (cxOf CX P w K mg base N qual scope f cdv A outer s H E) [] σ' H' s' → RelV v u → Q v H' → CE outer P w H s Q u s' :=
    fun {σ' H' v u} J rv q => ⟨v, H', J.os, J.bare, J.base, J.hok, rv, q⟩
  cases fl with
  | ret u =>
    obtain ⟨v, σ', H', J, rv, q⟩ := hs
    exact fin J rv q
  | next =>
    obtain ⟨σ', H', J, q⟩ := hs
    exact fin (v := V.non) (u := Value.none) J rfl q
  | brk =>
    obtain ⟨_, _, _, q⟩ := hs
    exact False.elim q
  | cont =>
    obtain ⟨_, _, _, q⟩ := hs
    exact False.elim q
end L2
namespace L2
open PySem PySem.Spec PyProof.Rows
section
variable {X:Cx} {x:Str} {p pos:Pos} {e:Expr} {es:List Expr} {t:TA} {id T:String} {r:List V→Hp→VK→Prop}
def tCB (r:List V→Hp→VK→Prop) (t:TA):TE:=fun σ H Q=>t σ H fun vs H1=>r vs H1 Q
theorem pe_callB (hc : CallR X (.builtin id) r) (hg : Gl X x) (hm : X.mg x = none) (hv : bootBuiltins x = some (.builtin id)) (ha : PA X (e :: es) t) (hn : x ≠ "__name__" := by decide) (hdb : (x == ("__debug__" : Str)) = false := by decide)
    (he : starEach (e :: es) X.env = (false, eval e X.env) :: starEach es X.env := by rfl) (hpl : (backTo pos (starEach es X.env)).any (·.1) = false := by rfl) : PE X (.Call (.Name x p) (e :: es) [] pos) (tCB r t) := by
  intro pins s σ H Q I h
  refine wpAny_Call_Name_kw (ld_blt I hg hm hv ?_ hn hdb)
  exact PyProof.Rows.callWith_builtin1 (thn (ha pos pins s σ H _ I h) fun us s1 ⟨vs, H1, I1, r1, q1⟩ => hc pins s1 σ H1 vs us Q I1 r1 q1) he hpl
theorem pe_callTy (hc : CallR X (.type T) r) (hg : Gl X x) (hm : X.mg x = none) (hv : bootBuiltins x = some (.type T)) (ha : PA X (e :: es) t) (hn : x ≠ "__name__" := by decide) (hdb : (x == ("__debug__" : Str)) = false := by decide)
    (he : starEach (e :: es) X.env = (false, eval e X.env) :: starEach es X.env := by rfl) (hpl : (backTo pos (starEach es X.env)).any (·.1) = false := by rfl) : PE X (.Call (.Name x p) (e :: es) [] pos) (tCB r t) := by
  intro pins s σ H Q I h
  refine wpAny_Call_Name_kw (ld_blt I hg hm hv ?_ hn hdb)
  exact PyProof.Rows.callWith_type1 (thn (ha pos pins s σ H _ I h) fun us s1 ⟨vs, H1, I1, r1, q1⟩ => hc pins s1 σ H1 vs us Q I1 r1 q1) he hpl
end
end L2
namespace L2
open PySem PySem.Spec PyProof.Rows
section
variable {κ:Type} [DecidableEq κ]
def valV (kvs:List (κ×V)) (k:κ):Option V:=(kvs.find? fun kv=>decide (kv.1=k)).map (·.2)
def putK (kvs:List (κ×V)) (k:κ) (v:V):List (κ×V) :=
 if (kvs.any fun kv=>decide (kv.1=k))=true then kvs.map (fun kv=>if kv.1=k then (kv.1,v) else kv) else kvs++[(k,v)]
theorem valV_pos {p:κ×V} {r:List (κ×V)} {k:κ} (e:p.1=k):valV (p::r) k=some p.2:=by simp [valV,List.find?_cons,e]
theorem valV_neg {p:κ×V} {r:List (κ×V)} {k:κ} (e:¬ p.1=k):valV (p::r) k=valV r k:=by simp [valV,List.find?_cons,e]
theorem valV_any (k:κ):∀ kvs:List (κ×V),(kvs.any fun kv=>decide (kv.1=k))=(valV kvs k).isSome
 | []=>rfl
 | p::r=>by
  rw [List.any_cons]
  by_cases e:p.1=k
  ·simp only [valV_pos e,decide_eq_true e,Bool.true_or,Option.isSome_some]
  ·rw [valV_neg e,decide_eq_false e,Bool.false_or]; exact valV_any k r
theorem length_putK (kvs:List (κ×V)) (k:κ) (v:V):(putK kvs k v).length≤kvs.length+1:=by
 unfold putK
 split
 ·rw [List.length_map]; omega
 ·rw [List.length_append,List.length_cons,List.length_nil]; omega
theorem RelO.isSome_eq {o:Option V} {u:Option Value} (r:RelO o u):o.isSome=u.isSome:=by
 cases o with
 | none=>cases u with
  | none=>rfl
  | some _=>exact (show False from r).elim
 | some _=>cases u with
  | none=>exact (show False from r).elim
  | some _=>rfl
theorem KV.val {kvs:List (κ×V)} {vs:List (κ×Value)} (r:KV kvs vs) (k:κ):RelO (valV kvs k) (valueAt vs k):=by
 unfold KV at r
 induction r with
 | nil=>exact True.intro
 | @cons p q ps qs h t ih =>
  obtain ⟨h1,h2⟩:=h
  by_cases e:p.1=k
  ·have e':q.1=k:=h1.symm.trans e
   have b:valueAt (q::qs) k=some q.2:=by simp [valueAt,List.find?_cons,e']
   rw [valV_pos e,b]; exact h2
  ·have e':¬ q.1=k:=fun z=>e (h1.trans z)
   have b:valueAt (q::qs) k=valueAt qs k:=by simp [valueAt,List.find?_cons,e']
   rw [valV_neg e,b]; exact ih
theorem KV.any {kvs:List (κ×V)} {vs:List (κ×Value)} (r:KV kvs vs) (k:κ):(kvs.any fun kv=>decide (kv.1=k))=vs.any fun kv=>decide (kv.1=k):=by
 unfold KV at r
 induction r with
 | nil=>rfl
 | cons h t ih=>rw [List.any_cons,List.any_cons,ih,h.1]
theorem KV.repl {kvs : List (κ × V)} {vs : List (κ × Value)} (r : KV kvs vs) (k : κ) {y : V} {u : Value} (ry : RelV y u) :
    KV (kvs.map fun kv => if kv.1 = k then (kv.1, y) else kv) (vs.map fun kv => if kv.1 = k then (kv.1, u) else kv) := by
  unfold KV at r ⊢
  induction r with
  | nil => exact .nil
  | @cons p q ps qs h t ih =>
    rw [List.map_cons, List.map_cons]
    refine .cons ?_ ih
    obtain ⟨h1, h2⟩ := h
    by_cases e : p.1 = k
    · rw [if_pos e, if_pos (h1.symm.trans e)]; exact ⟨h1, ry⟩
    · rw [if_neg e, if_neg (fun z => e (h1.trans z))]; exact ⟨h1, h2⟩
theorem KV.put {kvs:List (κ×V)} {vs:List (κ×Value)} (r:KV kvs vs) (k:κ) {y:V} {u:Value} (ry:RelV y u):KV (putK kvs k y) (stored vs k u):=by
 unfold putK stored
 rw [r.any k]
 by_cases e:(vs.any fun kv=>decide (kv.1=k))=true
 ·rw [if_pos e,if_pos e]; exact r.repl k ry
 ·rw [if_neg e,if_neg e]; exact Paired.snoc r ⟨rfl,ry⟩
theorem KV.length {kvs:List (κ×V)} {vs:List (κ×Value)} (r:KV kvs vs):kvs.length=vs.length:=Paired.length r
end
theorem kV_is {P:Program} {w:World} {k:Key} {u:Value} (r:RelV (kV k) u):(mixKind P w).is k u=true:=by
 cases k with
 | inl i=>obtain ⟨t,e⟩:=(show ∃ t,u=Value.int i t from r); subst e; exact mixKind_int P w i t
 | inr x=>obtain ⟨t,e⟩:=(show ∃ t,u=Value.str x t from r); subst e; exact mixKind_str P w x t
theorem items_are {P:Program} {w:World}:∀ {ks:List Key} {us:List Value},Vals (ks.map kV) us→ItemsAre (mixKind P w) ks us
 | [],_,r=>by rw [List.map_nil] at r; cases r; exact .nil
 | k::ks,_,r=>by
  rw [List.map_cons] at r
  cases r with
  | cons h t=>exact .cons (kV_is h) (items_are t)
abbrev KT (H:Hp):List (List Key×V)→List (List Key×Addr×Value)→Prop:=Paired fun p q=>p.1=q.1∧H q.2.1=some (.tup (p.1.map kV))∧RelV p.2 q.2.2
theorem KT.val {H:Hp} {kvs:List (List Key×V)} {xs:List (List Key×Addr×Value)} (r:KT H kvs xs) (k:List Key):RelO (valV kvs k) ((atKey xs k).map (·.2)):=by
 induction r with
 | nil=>exact True.intro
 | @cons p q ps qs h t ih =>
  obtain ⟨h1,_,h2⟩:=h
  by_cases e:p.1=k
  ·have e':q.1=k:=h1.symm.trans e
   have b:atKey (q::qs) k=some q.2:=by simp [atKey,List.find?_cons,e']
   rw [valV_pos e,b]; exact h2
  ·have e':¬ q.1=k:=fun z=>e (h1.trans z)
   have b:atKey (q::qs) k=atKey qs k:=by simp [atKey,List.find?_cons,e']
   rw [valV_neg e,b]; exact ih
theorem KT.repl {H : Hp} {kvs : List (List Key × V)} {xs : List (List Key × Addr × Value)} (r : KT H kvs xs) (k : List Key) {y : V} {u : Value} (ry : RelV y u) :
    KT H (kvs.map fun kv => if kv.1 = k then (kv.1, y) else kv) (xs.map (putAt k u)) := by
  induction r with
  | nil => exact .nil
  | @cons p q ps qs h t ih =>
    rw [List.map_cons, List.map_cons]
    refine .cons ?_ ih
    obtain ⟨h1, h2, h3⟩ := h
    unfold putAt
    by_cases e : p.1 = k
    · rw [if_pos e, if_pos (h1.symm.trans e)]; exact ⟨h1, h2, ry⟩
    · rw [if_neg e, if_neg (fun z => e (h1.trans z))]; exact ⟨h1, h2, h3⟩
theorem KT.put {H : Hp} {kvs : List (List Key × V)} {xs : List (List Key × Addr × Value)} (r : KT H kvs xs) (k : List Key) {b : Addr} {y : V} {u : Value} (hb : H b = some (.tup (k.map kV))) (ry : RelV y u) :
    KT H (putK kvs k y) (storedH xs k b u) := by
  have e : (kvs.any fun kv => decide (kv.1 = k)) = (atKey xs k).isSome := by
    rw [valV_any, (r.val k).isSome_eq, Option.isSome_map]
  unfold putK storedH
  rw [e]
  by_cases q : (atKey xs k).isSome = true
  · rw [if_pos q, if_pos q]; exact r.repl k ry
  · rw [if_neg q, if_neg q]; exact Paired.snoc r ⟨rfl, hb, ry⟩
theorem KT.keeps {H H':Hp} {kvs:List (List Key×V)} {xs:List (List Key×Addr×Value)} (r:KT H kvs xs) (ht:∀ b ys,H b=some (.tup ys)→H' b=some (.tup ys)):KT H' kvs xs :=
 Paired.mapP r fun _ _ z=>⟨z.1,ht _ _ z.2.1,z.2.2⟩
section
variable {P:Program} {w:World} {H:Hp} {h:Heap} {a:Addr}
theorem rd_of {u:HO} (ok:HOk P w H h) (e:Rd H a u):ObjOk P w H h a u:=e.ok ok
theorem dk_rd {kvs:List (Key×V)} (ok:HOk P w H h) (e:Rd H a (.dK kvs)):kvs.length≤sizeLine∧(a == sysModules)=false∧∃ vs,KV kvs vs∧h.DictOf (mixKind P w) a vs :=
 show ObjOk P w H h a (.dK kvs) from rd_of ok e
theorem dk_of {kvs:List (Key×V)} (ok:HOk P w H h) (e:H a=some (.dK kvs)):kvs.length≤sizeLine∧(a == sysModules)=false∧∃ vs,KV kvs vs∧h.DictOf (mixKind P w) a vs:=dk_rd ok (.inl e)
theorem key_of {ks:List Key} (ok:HOk P w H h) (e:H a=some (.tup (ks.map kV))):(tupleKind (mixKind P w)).is h ks a:=by
 obtain ⟨_,its,r,o,h1,h2,n,h3⟩:=(show ObjOk P w H h a (.tup (ks.map kV)) from ok a _ e)
 exact ⟨o,its.toArray,n,h1,h2,h3,by simpa using items_are r⟩
theorem dt_rd {kvs : List (List Key × V)} (ok : HOk P w H h) (e : Rd H a (.dT kvs)) : kvs.length ≤ sizeLine ∧ (a == sysModules) = false ∧
    ∃ xs, KT H kvs xs ∧ h.DictOfH (tupleKind (mixKind P w)) a xs := by
  obtain ⟨z, y, xs, r, o, es, ep, h1, h2, h3, h4, h5⟩ := (show ObjOk P w H h a (.dT kvs) from rd_of ok e)
  refine ⟨z, y, xs, r, o, es, ep, h1, h2, h3, h4, fun x hx => ?_, h5⟩
  have all : ∀ {l : List (List Key × V)} {m : List (List Key × Addr × Value)}, KT H l m → ∀ x ∈ m, (tupleKind (mixKind P w)).is h x.1 x.2.1 := by
    intro l m q
    induction q with
    | nil => intro x hx; exact nomatch hx
    | @cons p q ps qs hq t ih =>
      intro x hx
      rcases List.mem_cons.mp hx with e | hx
      · subst e
        exact key_of ok (by rw [← hq.1]; exact hq.2.1)
      · exact ih x hx
  exact all r x hx
theorem dt_of {kvs : List (List Key × V)} (ok : HOk P w H h) (e : H a = some (.dT kvs)) : kvs.length ≤ sizeLine ∧ (a == sysModules) = false ∧
    ∃ xs, KT H kvs xs ∧ h.DictOfH (tupleKind (mixKind P w)) a xs := dt_rd ok (.inl e)
end
def DGet (H:Hp) (a:Addr) (y:V) (r:Option V):Prop :=
 (∃ kvs k,Rd H a (.dK kvs)∧y=kV k∧r=valV kvs k)∨∃ kvs k b,Rd H a (.dT kvs)∧y=.ref b∧H b=some (.tup (k.map kV))∧r=valV kvs k
def DPut (H:Hp) (a:Addr) (y v:V) (H':Hp):Prop :=
 (∃ kvs k,H a=some (.dK kvs)∧y=kV k∧kvs.length < sizeLine∧H'=upd H a (.dK (putK kvs k v))) ∨
 ∃ kvs k b,H a=some (.dT kvs)∧y=.ref b∧H b=some (.tup (k.map kV))∧kvs.length < sizeLine∧H'=upd H a (.dT (putK kvs k v))
theorem DGet.k {H:Hp} {a:Addr} {kvs:List (Key×V)} {k:Key} (e:H a=some (.dK kvs)):DGet H a (kV k) (valV kvs k):=.inl ⟨kvs,k,.inl e,rfl,rfl⟩
theorem DPut.k {H:Hp} {a:Addr} {kvs:List (Key×V)} {k:Key} {v:V} (e:H a=some (.dK kvs)) (hl:kvs.length < sizeLine):DPut H a (kV k) v (upd H a (.dK (putK kvs k v))):=.inl ⟨kvs,k,e,rfl,hl,rfl⟩
section
variable {X:Cx} {pins:List (Addr×Obj)} {σ:St} {H:Hp} {s:Shared} {a:Addr} {y v:V} {u r:Value} {o:Option V} {A:Around} {E:Value→Shared→Prop}
theorem d_getItem {Q : Value → Shared → Prop} (hu : A.units + 1 < cLine) (I : Inv X pins σ H s) (g : DGet H a y (some v)) (ry : RelV y u) (h : ∀ w' s', Inv X pins σ H s' → RelV v w' → Q w' s') :
    wpAny (model X.prog X.w) A (getItem (.ref a) u) Q E s := by
  rcases g with ⟨kvs, k, e, ey, l⟩ | ⟨kvs, k, b, e, ey, eb, l⟩
  · subst ey
    obtain ⟨z, hd, vs, rel, dd⟩ := dk_rd I.hok e
    obtain ⟨w', hw, rw'⟩ := RelO.some_of (v := v) (o := valueAt vs k) (by rw [l]; exact rel.val k)
    exact wpAny_getItem_of (kV_is ry) dd.mapOf hw (h w' _ (I.tok _) rw')
  · subst ey
    cases (show u = Value.ref b from ry)
    obtain ⟨z, hd, xs, rel, dd⟩ := dt_rd I.hok e
    obtain ⟨w', hw, rw'⟩ := RelO.some_of (v := v) (o := (atKey xs k).map (·.2)) (by rw [l]; exact rel.val k)
    obtain ⟨p, hp, hp2⟩ := Option.map_eq_some_iff.mp hw
    refine wpAny_getItem_heap (tupleKind_room_in1 hu) (key_of I.hok eb) dd hp ?_
    rw [hp2]
    exact h w' _ (I.tok _) rw'
theorem d_in {Q : Value → Shared → Prop} (hu : A.units + 1 < cLine) (I : Inv X pins σ H s) (g : DGet H a y o) (ry : RelV y u) (h : ∀ s', Inv X pins σ H s' → Q (.bool o.isSome) s') :
    wpAny (model X.prog X.w) A (compareOp .In u (.ref a)) Q E s := by
  rcases g with ⟨kvs, k, e, ey, l⟩ | ⟨kvs, k, b, e, ey, eb, l⟩
  · subst ey
    obtain ⟨z, hd, vs, rel, dd⟩ := dk_rd I.hok e
    refine wpAny_in_of (kV_is ry) hd dd.mapOf ?_
    rw [← (rel.val k).isSome_eq, ← l]
    exact h _ (I.tok _)
  · subst ey
    cases (show u = Value.ref b from ry)
    obtain ⟨z, hd, xs, rel, dd⟩ := dt_rd I.hok e
    refine wpAny_in_heap (tupleKind_room_in1 hu) (key_of I.hok eb) hd dd ?_
    have q := (rel.val k).isSome_eq
    rw [Option.isSome_map] at q
    rw [← q, ← l]
    exact h _ (I.tok _)
theorem d_notIn {Q : Value → Shared → Prop} (hu : A.units + 1 < cLine) (I : Inv X pins σ H s) (g : DGet H a y o) (ry : RelV y u) (h : ∀ s', Inv X pins σ H s' → Q (.bool (!o.isSome)) s') :
    wpAny (model X.prog X.w) A (compareOp .NotIn u (.ref a)) Q E s := by
  rcases g with ⟨kvs, k, e, ey, l⟩ | ⟨kvs, k, b, e, ey, eb, l⟩
  · subst ey
    obtain ⟨z, hd, vs, rel, dd⟩ := dk_rd I.hok e
    refine wpAny_notIn_of (kV_is ry) hd dd.mapOf ?_
    rw [← (rel.val k).isSome_eq, ← l]
    exact h _ (I.tok _)
  · subst ey
    cases (show u = Value.ref b from ry)
    obtain ⟨z, hd, xs, rel, dd⟩ := dt_rd I.hok e
    refine wpAny_notIn_heap (tupleKind_room_in1 hu) (key_of I.hok eb) hd dd ?_
    have q := (rel.val k).isSome_eq
    rw [Option.isSome_map] at q
    rw [← q, ← l]
    exact h _ (I.tok _)
theorem d_write {h' : Heap} {t' : Nat} {ob : HO} (I : Inv X pins σ H s) (mu : Mut (H a)) (hs : Heap.SameBut a s.heap h') (he : ∃ q, h'.get? a = some q) (new : ObjOk X.prog X.w (upd H a ob) h' a ob) :
    Inv X pins σ (upd H a ob) { s with heap := h', toks := t' } :=
  I.write (x := a) (e := a) mu (.inl rfl) (fun b q hb z => (hs.2 b hb).trans z) he new
theorem dk_new {P : Program} {w : World} {H' : Hp} {h' : Heap} {kvs : List (Key × V)} {vs : List (Key × Value)} (z : kvs.length ≤ sizeLine) (hd : (a == sysModules) = false) (rel : KV kvs vs) (dd : h'.DictOf (mixKind P w) a vs) :
    ObjOk P w H' h' a (.dK kvs) := ⟨z, hd, vs, rel, dd⟩
theorem d_setItem {H' : Hp} {Q : Unit → Shared → Prop} (hu : A.units + 1 < cLine) (I : Inv X pins σ H s) (g : DPut H a y v H') (ry : RelV y u) (rv : RelV v r) (h : ∀ s', Inv X pins σ H' s' → Q () s') :
    wpAny (model X.prog X.w) A (setItem (.ref a) u r) Q E s := by
  rcases g with ⟨kvs, k, e, ey, l, eH⟩ | ⟨kvs, k, b, e, ey, eb, l, eH⟩
  · subst ey eH
    obtain ⟨z, hd, vs, rel, dd⟩ := dk_of I.hok e
    have hz : vs.length ≤ sizeLine := by rw [← rel.length]; exact z
    have hl : (putK kvs k v).length ≤ sizeLine := by have := length_putK kvs k v; omega
    refine wpAny_setItem_pairs (hsz := hz) (kV_is ry) dd fun h' dd' hs => h _ ?_
    have he : ∃ q, h'.get? a = some q := let ⟨q, _, _, hq, _⟩ := dd'; ⟨q, hq⟩
    exact d_write I (by rw [e]; exact True.intro) hs he (dk_new hl hd (rel.put k rv) dd')
  · subst ey eH
    cases (show u = Value.ref b from ry)
    obtain ⟨z, hd, xs, rel, dd⟩ := dt_of I.hok e
    have hz : xs.length ≤ sizeLine := by rw [← Paired.length rel]; exact z
    have hl : (putK kvs k v).length ≤ sizeLine := by have := length_putK kvs k v; omega
    refine wpAny_setItem_heap (hsz := hz) (tupleKind_room_in1 hu) (key_of I.hok eb) dd fun h' dd' hs => h _ ?_
    obtain ⟨q, es, ep, hq, h2, h3, h4, _, h5⟩ := dd'
    refine d_write I (by rw [e]; exact True.intro) hs ⟨q, hq⟩ ⟨hl, hd, _, (rel.put k eb rv).keeps fun c ys ec => ?_, q, es, ep, hq, h2, h3, h4, h5⟩
    rw [upd_ne (ne_of ec e (fun z => nomatch z))]
    exact ec
end
theorem dict_typeIs {X:Cx} {pins:List (Addr×Obj)} {σ:St} {H:Hp} {s:Shared} {a:Addr} {y:V} {o:Option V} (I:Inv X pins σ H s) (g:DGet H a y o):s.TypeIs (.ref a) "dict" := by
 rcases g with ⟨kvs,k,e,_,_⟩ | ⟨kvs,k,b,e,_,_,_⟩
 ·obtain ⟨_,_,vs,_,dd⟩:=dk_rd I.hok e
  exact dd.typeIs
 ·obtain ⟨_,_,xs,_,dd⟩:=dt_rd I.hok e
  exact dd.typeIs
structure M1 (X:Cx) (o:Expr) (m:Str) (apos:Pos) (e:Expr) (cpos:Pos):Prop where
 base:attributeBase o m X.env (eval o X.env)=eval o X.env
 few:((backTo cpos (starEach [e] X.env)).all (fun x=>!x.1) && (backToKw cpos (keywordEach [] X.env)).all (fun x=>x.1.isSome)
  && decide (([e]:List Expr).length+([]:List Keyword).length+(if ([]:List Keyword).isEmpty then 0 else 1) < 30))=true
 line:(apos.endLine == cpos.line)=true
 trees:backTo cpos (starEach [e] X.env)=[(false,eval e X.env)]
structure M2 (X:Cx) (o:Expr) (m:Str) (apos:Pos) (e f:Expr) (cpos:Pos):Prop where
 base:attributeBase o m X.env (eval o X.env)=eval o X.env
 few:((backTo cpos (starEach [e,f] X.env)).all (fun x=>!x.1) && (backToKw cpos (keywordEach [] X.env)).all (fun x=>x.1.isSome)
  && decide (([e,f]:List Expr).length+([]:List Keyword).length+(if ([]:List Keyword).isEmpty then 0 else 1) < 30))=true
 line:(apos.endLine == cpos.line)=true
 trees:backTo cpos (starEach [e,f] X.env)=[(false,eval e X.env),(false,eval f X.env)]
end L2
namespace HT
open PySem PyProof.Rows
section
open PySem.SeqAt
open PySem.AutoSeq1 (wpAny_loadPart')
open PySem.MeetsSeq PySem.MeetsSeq2 PySem.MeetsSeq3
end
section
variable {prog:Program} {w:World} {A:Around} {E:Value→Shared→Prop} {s:Shared}
theorem cat_tup {t b : Addr} {vs ws : List Value} {Q : Value → Shared → Prop} (ht : IsTup s.heap t vs.toArray) (hb : IsTup s.heap b ws.toArray) (hv : vs ≠ [])
    (h1 : ws = [] → Q (.ref t) s) (h2 : ws ≠ [] → Q (.ref s.heap.objs.size) { s with heap := s.heap.push { cls := .type "tuple", data := .seq (vs ++ ws).toArray } })
    (hsz : vs.length + ws.length ≤ sizeLine) : wpAny (model prog w) A (binaryOp .Add (.ref t) (.ref b)) Q E s := by
  obtain ⟨⟨cls, dd, data, sl⟩, ho, hc, n, hd⟩ := id ht
  obtain ⟨⟨cls2, dd2, data2, sl2⟩, ho2, hc2, n2, hd2⟩ := id hb
  simp only at hc hd hc2 hd2
  subst hc hd hc2 hd2
  have e : vs.toArray ++ ws.toArray = (vs ++ ws).toArray := by simp
  by_cases hw : ws = []
  · exact concat_meets ⟨_, ho, rfl⟩ ⟨_, ho2, rfl⟩ noFill_tuple_add seq_tuple_add PySem.F.slot_tuple_add PySem.F.entry_tuple_add (PySem.F.args_tuple_add_2 _ _)
      (tuple_addW1 t b vs.toArray ws.toArray n n2 dd dd2 sl sl2 (by simpa using hv) (by simp [hw])) ⟨ho, ho2, h1 hw⟩
  · refine concat_meets ⟨_, ho, rfl⟩ ⟨_, ho2, rfl⟩ noFill_tuple_add seq_tuple_add PySem.F.slot_tuple_add PySem.F.entry_tuple_add (PySem.F.args_tuple_add_2 _ _)
      (tuple_addW2 t b vs.toArray ws.toArray n n2 dd dd2 sl sl2 (by simpa using hv) (by simpa using hw) (by rw [List.size_toArray, List.size_toArray]; exact hsz)) ⟨ho, ho2, ?_⟩
    rw [e]
    exact h2 hw
def sIx (n d:Nat):Option Int→Nat
 | none=>d
 | some v=>if v < 0 then (v+(n:Int)).toNat else min v.toNat n
theorem sIx_le (n d:Nat) (hd:d≤n) (o:Option Int):sIx n d o≤n:=by
 cases o with
 | none=>exact hd
 | some v =>
  show (if v < 0 then (v+(n:Int)).toNat else min v.toNat n)≤n
  by_cases hv:v < 0
  ·rw [if_pos hv]; omega
  ·rw [if_neg hv]; exact Nat.min_le_right _ _
theorem clip_eq (v:Int) (n d:Nat):(if v < 0 then max (v+(n:Int)) 0 else min v (n:Int))=((sIx n d (some v):Nat):Int):=by
 show (if v < 0 then max (v+(n:Int)) 0 else min v (n:Int))=(((if v < 0 then (v+(n:Int)).toNat else min v.toNat n):Nat):Int)
 by_cases hv:v < 0
 ·simp only [if_pos hv]; omega
 ·simp only [if_neg hv]; omega
theorem adjust_gen (lo hi:Option Int) (n:Nat):Builtin.Slice.sliceAdjust lo hi 1 (n:Int)=(((sIx n 0 lo:Nat):Int),((sIx n n hi:Nat):Int)):=by
 have h1:¬ ((1:Int) < 0):=by omega
 unfold Builtin.Slice.sliceAdjust
 simp only [h1,if_false]
 refine Prod.ext ?_ ?_
 ·cases lo with
  | none=>rfl
  | some v=>exact clip_eq v n 0
 ·cases hi with
  | none=>rfl
  | some v=>exact clip_eq v n n
theorem places_gen (i j:Nat):Builtin.Slice.slicePlaces (i:Int) (j:Int) 1=j - i:=by
 unfold Builtin.Slice.slicePlaces
 have h1:(1:Int) > 0:=by omega
 simp only [h1,if_true,Int.ediv_one]
 split <;> omega
theorem slicePart_ {v:Value} {o:Option Int} {Q:Option Int→Shared→Prop} (p:IsPart v o) (h:Q o s):wpAny (model prog w) A (Builtin.Slice.slicePartIndex v) Q E s:=by
 cases p with
 | none=>exact slicePart_none h
 | int i t=>exact slicePart_int h
theorem sliceApplied_gen {sl : Addr} {vl vu : Value} {lo hi : Option Int} {n : Nat} {Q : Int × Int × Nat → Shared → Prop} (hs : s.heap.IsSliceOf sl vl vu .none) (pl : IsPart vl lo) (pu : IsPart vu hi)
    (h : Q (((sIx n 0 lo : Nat) : Int), 1, sIx n n hi - sIx n 0 lo) s) : wpAny (model prog w) A (Builtin.Slice.sliceApplied (.ref sl) (pure (n : Int))) Q E s := by
  obtain ⟨os, hos, hcs, hds⟩ := id hs
  unfold Builtin.Slice.sliceApplied Builtin.Slice.sliceFields
  refine wpAny_bind (wpAny_bind (wpAny_field hos hds (x := vl) rfl (wpAny_bind (wpAny_field hos hds (x := vu) rfl (wpAny_bind (wpAny_field hos hds (x := .none) rfl (wpAny_pure ?_)))))))
  refine wpAny_bind (slicePart_none ?_)
  show wpAny _ _ (if ((1 : Int) == 0) = true then _ else _) _ _ s
  rw [if_neg (by decide)]
  refine wpAny_bind (slicePart_ pl (wpAny_bind (slicePart_ pu (wpAny_bind (wpAny_pure ?_)))))
  show wpAny _ _ (match Builtin.Slice.sliceAdjust lo hi 1 (n : Int) with | (lo, hi) => pure (lo, (1 : Int), Builtin.Slice.slicePlaces lo hi 1)) _ _ s
  rw [adjust_gen lo hi n]
  show wpAny _ _ (pure (((sIx n 0 lo : Nat) : Int), (1 : Int), Builtin.Slice.slicePlaces ((sIx n 0 lo : Nat) : Int) ((sIx n n hi : Nat) : Int) 1)) _ _ s
  rw [places_gen]
  exact wpAny_pure h
theorem pick_gen (xs:Array Value) (i k:Nat):((List.range k).filterMap fun (m:Nat)=>xs[((i:Int)+(m:Int) * 1).toNat]?).toArray=((xs.toList.drop i).take k).toArray:=by
 have e:(fun (m:Nat)=>xs[((i:Int)+(m:Int) * 1).toNat]?)=fun m=>xs[i+m]?:=by
  funext m
  have:((i:Int)+(m:Int) * 1).toNat=i+m:=by omega
  rw [this]
 rw [e]
 have:=pick_run xs i k
 rw [List.filterMap_map] at this
 have e2:((fun x=>xs[x]?)∘fun x=>i+x)=fun m=>xs[i+m]?:=rfl
 rw [e2] at this
 rw [this]
theorem getItem_tuple_cut {t sl : Addr} {items : Array Value} {vl vu : Value} {lo hi : Option Int} {Q : Value → Shared → Prop} (ht : IsTup s.heap t items) (hs : s.heap.IsSliceOf sl vl vu .none) (pl : IsPart vl lo) (pu : IsPart vu hi)
    (hw : ¬ (sIx items.size 0 lo = 0 ∧ sIx items.size items.size hi = items.size))
    (h : Q (.ref s.heap.objs.size) { s with heap := s.heap.push { cls := .type "tuple", data := .seq ((items.toList.drop (sIx items.size 0 lo)).take (sIx items.size items.size hi - sIx items.size 0 lo)).toArray } })
    (hsz : items.size ≤ sizeLine) : wpAny (model prog w) A (getItem (.ref t) (.ref sl)) Q E s := by
  have htake : sizeOk (.seq ((items.toList.drop (sIx items.size 0 lo)).take (sIx items.size items.size hi - sIx items.size 0 lo)).toArray) := by
    show ((items.toList.drop (sIx items.size 0 lo)).take (sIx items.size items.size hi - sIx items.size 0 lo)).toArray.size ≤ sizeLine
    rw [List.size_toArray, List.length_take, List.length_drop, Array.length_toList]
    omega
  have hj : sIx items.size items.size hi ≤ items.size := sIx_le _ _ (Nat.le_refl _) hi
  obtain ⟨os, hos, hcs, hds⟩ := id hs
  have hTs : s.TypeIs (.ref sl) "slice" := ⟨os, hos, hcs⟩
  unfold getItem
  try with_reducible refine wpAny_holding ?_
  first | refine wpAny_bind (wpAny_pure ?_) | skip
  refine wpAny_bind (wpAny_sequenceKey ht.typeIs (by decide) ?_)
  refine wpAny_bind (wpAny_callSpecial?_slot (name := Str.ofString "__getitem__") ht.typeIs PyProof.Rows.slot_tuple_getitem
    (wpAny_call_entry PyProof.Rows.slot_tuple_getitem ht.typeIs entry_tuple_getitem ?_ (args_tuple_getitem _ _)))
  show wpAny _ _ (Builtin.Tuple.tupleItemsOf (.ref t) >>= _) _ _ s
  refine wpAny_bind (tupleItemsOf_ ht ?_)
  refine wpAny_bind (wpAny_typeOf hTs ?_)
  rw [if_pos (by decide)]
  refine wpAny_bind (sliceApplied_gen hs pl pu ?_)
  have hno : ¬ ((((sIx items.size 0 lo : Nat) : Int) == 0 && (1 : Int) == 1 && (sIx items.size items.size hi - sIx items.size 0 lo) == items.size) = true) := by
    intro q
    rw [Bool.and_eq_true, Bool.and_eq_true] at q
    have q1 : ((sIx items.size 0 lo : Nat) : Int) = 0 := eq_of_beq q.1.1
    have q2 : sIx items.size items.size hi - sIx items.size 0 lo = items.size := eq_of_beq q.2
    exact hw ⟨by omega, by omega⟩
  show wpAny _ _ (if (((sIx items.size 0 lo : Nat) : Int) == 0 && (1 : Int) == 1 && (sIx items.size items.size hi - sIx items.size 0 lo) == items.size) = true then _ else _) _ _ s
  rw [if_neg hno, pick_gen]
  first
    | exact wpAny_bind (m := Builtin.Tuple.tupleExact _) (wpAny_newObj_type (wpAny_pure ⟨_, rfl, wpAny_pure h⟩) htake)
    | exact wpAny_bind (m := Builtin.Tuple.tupleExact _) (wpAny_newObj_type (wpAny_bind (wpAny_pure (wpAny_pure ⟨_, rfl, wpAny_pure h⟩))) htake)
    | exact wpAny_bind (wpAny_bind (m := Builtin.Tuple.tupleExact _) (wpAny_newObj_type (wpAny_pure (wpAny_pure ⟨_, rfl, wpAny_pure h⟩)) htake))
    | exact wpAny_bind (wpAny_bind (m := Builtin.Tuple.tupleExact _) (wpAny_newObj_type (wpAny_pure ⟨_, rfl, wpAny_pure h⟩) htake))
end
end HT
namespace L2
open PySem PySem.Spec PyProof.Rows
abbrev TO:=St→Hp→(Option Int→Hp→Prop)→Prop
def PO (X:Cx) (e:Option Expr) (t:TO):Prop :=
 ∀ (pins:List (Addr×Obj)) (s:Shared) (σ:St) (H:Hp) (Q:Option Int→Hp→Prop),Inv X pins σ H s→t σ H Q →
  wpAny (model X.prog X.w) X.A (evalPart e X.env) (fun u s'=>∃ o H',Inv X pins σ H' s'∧IsPart u o∧Q o H') X.xe s
def tNoPart:TO:=fun _ H Q=>Q none H
def tPart (t:TE):TO:=fun σ H Q=>t σ H fun x H1=>∃ i,x=.int i∧Q (some i) H1
section
variable {X:Cx} {e:Expr} {te:TE} {lo hi:Option Expr} {tl th:TO} {pos p2:Pos}
theorem po_none:PO X none tNoPart:=by
 intro pins s σ H Q I h
 rw [evalPart_none]
 exact wpAny_pure ⟨none,H,I,.none,h⟩
theorem po_some (h:PE X e te):PO X (some e) (tPart te):=by
 intro pins s σ H Q I hw
 rw [evalPart_some]
 refine thn (h pins s σ H _ I hw) fun u s1 ⟨x,H1,I1,r1,q1⟩=>?_
 obtain ⟨i,rfl,q⟩:=q1
 obtain ⟨t,rfl⟩:=r1
 exact ⟨some i,H1,I1,.int i t,q⟩
def SlR (X:Cx) (r:V→Option Int→Option Int→Hp→VK→Prop):Prop :=
 ∀ (pins:List (Addr×Obj)) (s:Shared) (σ:St) (H:Hp) (x:V) (v vl vu:Value) (lo hi:Option Int) (sl:Addr) (Q:VK),Inv X pins σ H s→RelV x v→s.heap.IsSliceOf sl vl vu .none→IsPart vl lo→IsPart vu hi→r x lo hi H Q →
  ∃ T id,typeLookup (.type T) "__getitem__" = pure (some (.builtin id))∧s.TypeIs v T∧wpAny (model X.prog X.w) X.A (getItem v (.ref sl)) (EP X pins σ Q) X.xe s
def tSl (r:V→Option Int→Option Int→Hp→VK→Prop) (te:TE) (tl th:TO):TE:=fun σ H Q=>te σ H fun x H1=>tl σ H1 fun l H2=>th σ H2 fun u H3=>r x l u H3 Q
theorem pe_slice {r:V→Option Int→Option Int→Hp→VK→Prop} (hr:SlR X r) (he:PE X e te) (hl:PO X lo tl) (hu:PO X hi th):PE X (.Subscript e (.Slice lo hi none p2) pos) (tSl r te tl th):=by
 intro pins s σ H Q I h
 refine Subscript_ (thn (he pins s σ H _ I h) fun v s1 ⟨x,H1,I1,r1,q1⟩=>?_)
 refine wpAny_Slice (thn (hl pins s1 σ H1 _ I1 q1) fun vl s2 ⟨l,H2,I2,pl,q2⟩=>thn (hu pins s2 σ H2 _ I2 q2) fun vu s3 ⟨u,H3,I3,pu,q3⟩=>?_)
 rw [evalPart_none]
 refine wpAny_pure ?_
 have I4:Inv X pins σ H3 { s3 with heap:=s3.heap.push { cls:=.type "slice",data:=.fields #[vl,vu,.none] } }:=I3.kept (t':=s3.toks) fun b ob q=>Heap.get?_push_of_some _ q
 obtain ⟨T,id,hT,ht,hg⟩:=hr pins { s3 with heap:=s3.heap.push { cls:=.type "slice",data:=.fields #[vl,vu,.none] } } σ H3 x v vl vu l u s3.heap.objs.size Q I4 r1 (Heap.IsSliceOf.new ..) pl pu q3
 show wpAny (model X.prog X.w) X.A (subscriptTail e (.Slice lo hi none p2) v (.ref s3.heap.objs.size)) (EP X pins σ Q) X.xe { s3 with heap:=s3.heap.push { cls:=.type "slice",data:=.fields #[vl,vu,.none] } }
 exact tail_any (ops:=[.ref s3.heap.objs.size,v]) ht hT hg (by with_unfolding_all rfl)
def cutV (xs:List V) (lo hi:Option Int):List V:=(xs.drop (HT.sIx xs.length 0 lo)).take (HT.sIx xs.length xs.length hi - HT.sIx xs.length 0 lo)
theorem cutV_length (xs:List V) (lo hi:Option Int):(cutV xs lo hi).length≤xs.length:=by
 unfold cutV
 rw [List.length_take,List.length_drop]
 omega
def rSlT (K:PySem.W.Frag):V→Option Int→Option Int→Hp→VK→Prop:=fun x lo hi H Q=>∃ a xs,x=.ref a∧SqT K H a xs ∧
 ¬ (HT.sIx xs.length 0 lo=0∧HT.sIx xs.length xs.length hi=xs.length)∧∀ p,H p=none→Q (.ref p) (upd H p (.tup (cutV xs lo hi)))
theorem sl_tup:SlR X (rSlT X.K):=by
 intro pins s σ H x v vl vu lo hi sl Q I rx hs pl pu h
 obtain ⟨a,xs,rfl,hx,hw,q⟩:=h
 cases rx
 obtain ⟨its,r,ht,hz⟩:=I.tuple hx
 have hlen:its.toArray.size=xs.length:=by rw [List.size_toArray]; exact r.length.symm
 refine ⟨"tuple",_,PyProof.Rows.slot_tuple_getitem.lookup,ht.typeIs,?_⟩
 refine HT.getItem_tuple_cut ht hs pl pu (by rw [hlen]; exact hw) ?_ (by rw [hlen]; exact hz)
 rw [hlen]
 refine ⟨.ref s.heap.objs.size,_,I.laid (t':=s.toks) (o:=.tup (cutV xs lo hi)) (fun b ob q=>Heap.get?_push_of_some _ q) (Nat.le_refl _) ?_,rfl,q _ (I.hok.fresh (Nat.le_refl _))⟩
 exact ⟨Nat.le_trans (cutV_length xs lo hi) hz,_,(r.drop (HT.sIx xs.length 0 lo)).take (HT.sIx xs.length xs.length hi - HT.sIx xs.length 0 lo),IsTup.new _ _⟩
def rCatT (K:PySem.W.Frag):R2:=fun x y H Q=>∃ a b xs ys,x=.ref a∧y=.ref b∧SqT K H a xs∧SqT K H b ys∧xs≠[]∧xs.length+ys.length≤sizeLine ∧
 (ys=[]→Q (.ref a) H)∧(ys≠[]→∀ p,H p=none→Q (.ref p) (upd H p (.tup (xs++ys))))
theorem Vals.nil_iff {xs:List V} {us:List Value} (r:Vals xs us):us=[]↔xs=[]:=by
 cases r with
 | nil=>simp
 | cons _ _=>simp
theorem op_catT:OpR X (binaryOp .Add) (rCatT X.K):=by
 intro pins s σ H x y v u Q I rx ry h
 obtain ⟨a,b,xs,ys,rfl,rfl,ha,hb,hx,hz,q1,q2⟩:=h
 cases rx
 cases ry
 obtain ⟨its,r1,p1,_⟩:=I.tuple ha
 obtain ⟨its2,r2,p2,_⟩:=I.tuple hb
 refine HT.cat_tup p1 p2 (fun z=>hx (r1.nil_iff.mp z)) (fun z=>⟨.ref a,H,I,rfl,q1 (r2.nil_iff.mp z)⟩) (fun z=>?_) (by rw [← r1.length,← r2.length]; exact hz)
 refine ⟨.ref s.heap.objs.size,_,I.laid (t':=s.toks) (o:=.tup (xs++ys)) (fun b ob q=>Heap.get?_push_of_some _ q) (Nat.le_refl _) ?_,rfl,q2 (fun w=>z (r2.nil_iff.mpr w)) _ (I.hok.fresh (Nat.le_refl _))⟩
 exact ⟨by rw [List.length_append]; exact hz,_,r1.append r2,IsTup.new _ _⟩
end
end L2
namespace L2
open PySem PySem.Spec PyProof.Rows
def ixN (n:Nat) (i:Int):Option Nat:=if 0≤i then (if i < n then some i.toNat else none) else if -(n:Int)≤i then some (i+n).toNat else none
def atI {α:Type} (xs:List α) (i:Int):Option α:=(ixN xs.length i).bind fun j=>xs[j]?
theorem ixN_seq {n:Nat} {i:Int} {j:Nat} (h:ixN n i=some j):seqIndex? i n=some j∧j < n∧-(n:Int)≤i∧i < n:=by
 unfold ixN at h
 by_cases h0:0≤i
 ·rw [if_pos h0] at h
  by_cases h1:i < n
  ·rw [if_pos h1] at h
   have e:i.toNat=j:=Option.some.inj h
   exact ⟨by rw [seqIndex_of h0 h1,e],by omega,by omega,h1⟩
  ·rw [if_neg h1] at h; cases h
 ·rw [if_neg h0] at h
  by_cases h1:-(n:Int)≤i
  ·rw [if_pos h1] at h
   have e:(i+n).toNat=j:=Option.some.inj h
   exact ⟨by rw [seqIndex_neg (by omega) h1,e],by omega,h1,by omega⟩
  ·rw [if_neg h1] at h; cases h
theorem atI_get {α:Type} {xs:List α} {i:Int} {v:α} (h:atI xs i=some v):∃ j,seqIndex? i xs.length=some j∧xs[j]?=some v∧j < xs.length∧-(xs.length:Int)≤i∧i < xs.length:=by
 unfold atI at h
 cases e:ixN xs.length i with
 | none=>rw [e] at h; cases h
 | some j =>
  rw [e] at h
  obtain ⟨h1,h2,h3,h4⟩:=ixN_seq e
  exact ⟨j,h1,h,h2,h3,h4⟩
def PlainIx (b:Expr):Prop:=∀ o i,subscripted b false o i=operate [o,i] (getItem o i)
def IxR (X:Cx) (r:R2):Prop :=
 ∀ (value slice:Expr) (pins:List (Addr×Obj)) (s:Shared) (σ:St) (H:Hp) (x y:V) (v u:Value) (Q:VK),Inv X pins σ H s→RelV x v→RelV y u→r x y H Q →
  subscripted slice false v u=operate [v,u] (getItem v u)→wpAny (model X.prog X.w) X.A (subscriptTail value slice v u) (EP X pins σ Q) X.xe s
def MtR (X:Cx) (id:String) (r:V→List V→Hp→VK→Prop):Prop :=
 ∀ (pins:List (Addr×Obj)) (s:Shared) (σ:St) (H:Hp) (x:V) (xs:List V) (v:Value) (us:List Value) (Q:VK),Inv X pins σ H s→RelV x v→Vals xs us→r x xs H Q →
  wpAny (model X.prog X.w) X.A (call (.builtin id) (v::us)) (EP X pins σ Q) X.xe s
section
variable {X:Cx} {a b:Expr} {ta tb:TE} {pos:Pos}
theorem pe_ix {r:R2} (hr:IxR X r) (ha:PE X a ta) (hb:PE X b tb) (hs:PlainIx b):PE X (.Subscript a b pos) (tOp r ta tb):=by
 intro pins s σ H Q I h
 exact Subscript_ (binT ha hb I h fun v u s2 x y H2 I2 rx ry q=>hr a b pins s2 σ H2 x y v u Q I2 rx ry q (hs _ _))
def rIxL (K:PySem.W.Frag):R2:=fun x y H Q=>∃ p xs i v,x=.ref p∧y=.int i∧SqL K H p xs∧atI xs i=some v∧Q v H
def rIxT (K:PySem.W.Frag):R2:=fun x y H Q=>∃ p xs i v,x=.ref p∧y=.int i∧SqT K H p xs∧atI xs i=some v∧Q v H
def rIxS:R2:=fun x y H Q=>∃ z i c,x=.str z∧y=.int i∧z.length≤sizeLine∧atI z.cps.toList i=some c∧Q (.str ⟨#[c]⟩) H
theorem ix_list:IxR X (rIxL X.K):=by
 intro value slice pins s σ H x y v u Q I rx ry h hs
 obtain ⟨p,xs,i,z,rfl,rfl,hq,he,q⟩:=h
 cases rx
 obtain ⟨t,rfl⟩:=ry
 obtain ⟨its,r,pl,hz⟩:=I.list hq
 obtain ⟨j,h1,h2,h3,h4,h5⟩:=atI_get he
 obtain ⟨w,ew,rw'⟩:=r.get h2
 have hl:=r.length
 have hn:=line63
 have fin:EP X pins σ Q w s:=⟨z,H,I,rw',q⟩
 by_cases h0:0≤i
 ·have hj:i.toNat=j:=by
   rw [seqIndex_of h0 h5] at h1
   exact Option.some.inj h1
  exact item_listR pl.isList h0 (by omega) (by rw [hj]; simpa using ew) fin hs
 ·have hj:(i+(its.toArray.size:Int)).toNat=j:=by
   rw [seqIndex_neg (by omega) h4] at h1
   rw [List.size_toArray,← hl]
   exact Option.some.inj h1
  exact subscriptTail_builtinR (x:=w) pl.isList.typeIs slot_list_getitem.lookup
   (wpAny_getItem_list_neg (Q:=fun r s'=>r=w∧EP X pins σ Q r s') pl.isList (by omega) (by rw [List.size_toArray] <;> omega) (by omega) (by rw [hj]; simpa using ew) ⟨rfl,fin⟩) hs
theorem ix_tup:IxR X (rIxT X.K):=by
 intro value slice pins s σ H x y v u Q I rx ry h hs
 obtain ⟨p,xs,i,z,rfl,rfl,hq,he,q⟩:=h
 cases rx
 obtain ⟨t,rfl⟩:=ry
 obtain ⟨its,r,pl,hz⟩:=I.tuple hq
 obtain ⟨j,h1,h2,h3,h4,h5⟩:=atI_get he
 obtain ⟨w,ew,rw'⟩:=r.get h2
 have hl:=r.length
 have hn:=line63
 have fin:EP X pins σ Q w s:=⟨z,H,I,rw',q⟩
 exact subscriptTail_builtinR (x:=w) pl.typeIs slot_tuple_getitem.lookup
  (getItem_tuple (j:=j) (Q:=fun r s'=>r=w∧EP X pins σ Q r s') pl (by omega) (by omega) (by rw [List.size_toArray,← hl]; exact h1) (by simpa using ew) ⟨rfl,fin⟩) hs
theorem ix_str:IxR X rIxS:=by
 intro value slice pins s σ H x y v u Q I rx ry h hs
 obtain ⟨z,i,c,rfl,rfl,hz,he,q⟩:=h
 obtain ⟨t,rfl⟩:=rx
 obtain ⟨t',rfl⟩:=ry
 obtain ⟨j,h1,h2,h3,h4,h5⟩:=atI_get he
 have hl:z.cps.toList.length=z.length:=by simp [Str.length]
 rw [hl] at h1 h4 h5
 have hn:=line63
 exact tail_any (typeIs_str s z t) slot_str_getitem.lookup (getItem_str (c:=c) (by
  have e1:decide (i < -(2 ^ 63:Int))=false:=decide_eq_false (by omega)
  have e2:decide (i ≥ 2 ^ 63)=false:=decide_eq_false (by omega)
  rw [e1,e2,Bool.or_false]) (by rw [h1]; simpa using h2) ⟨.str ⟨#[c]⟩,H,I.tok _,⟨_,rfl⟩,q⟩) hs
theorem mapSeq_set (its:List Value) (n j:Nat) (u:Value):Obj.mapSeq (·.setIfInBounds j u) { cls:=.type "list",data:=.seq its.toArray n }={ cls:=.type "list",data:=.seq (its.set j u).toArray n }:=by
 simp [Obj.mapSeq]
theorem Inv.lst {pins : List (Addr × Obj)} {σ : St} {H : Hp} {s : Shared} {p : Addr} {xs : List V} (I : Inv X pins σ H s) (h : H p = some (.lst xs)) :
    ∃ (its : List Value) (n : Nat), Vals xs its ∧ s.heap.get? p = some { cls := .type "list", data := .seq its.toArray n } ∧ xs.length ≤ sizeLine := by
  obtain ⟨z, its, n, r, e⟩ := I.hok p _ h
  exact ⟨its, n, r, e, z⟩
theorem Inv.lstUpd {pins : List (Addr × Obj)} {σ : St} {H : Hp} {s : Shared} {p : Addr} {xs ys : List V} {its its' : List Value} {n n' : Nat} {f : Obj → Obj} (I : Inv X pins σ H s) (h : H p = some (.lst xs))
    (ho : s.heap.get? p = some { cls := .type "list", data := .seq its.toArray n }) (hf : f { cls := .type "list", data := .seq its.toArray n } = { cls := .type "list", data := .seq its'.toArray n' }) (r : Vals ys its') (hz : ys.length ≤ sizeLine) (t : Nat) :
    Inv X pins σ (upd H p (.lst ys)) { s with heap := s.heap.update p f, toks := t } := by
  have e : (s.heap.update p f).get? p = some { cls := .type "list", data := .seq its'.toArray n' } := by
    rw [Heap.get?_update_self f ho (by rw [hf] <;> rfl), hf]
  refine I.write (x := p) (e := p) (by rw [h]; trivial) (.inl rfl) (fun b u hb q => (Heap.get?_update_other _ _ (Ne.symm hb)).trans q) ⟨_, e⟩ ?_
  exact ⟨hz, its', n', r, e⟩
def rSetL:V→V→V→Hp→(Hp→Prop)→Prop:=fun o i v H Q=>∃ p xs k j,o=.ref p∧i=.int k∧H p=some (.lst xs)∧ixN xs.length k=some j∧Q (upd H p (.lst (xs.set j v)))
theorem set_list:PSet X rSetL:=by
 intro pins s σ H o i v ov iv u Q I ro ri rv h
 obtain ⟨p,xs,k,j,rfl,rfl,hp,hj,q⟩:=h
 cases ro
 obtain ⟨t,rfl⟩:=ri
 obtain ⟨its,n,r,ho,hz⟩:=I.lst hp
 obtain ⟨h1,h2,h3,h4⟩:=ixN_seq hj
 have hl:=r.length
 have hn:=line63
 have I':Inv X pins σ (upd H p (.lst (xs.set j v))) { s with heap:=s.heap.update p (Obj.mapSeq (·.setIfInBounds j u)) } :=
  I.lstUpd hp ho (mapSeq_set its n j u) (r.set rv j) (by rw [List.length_set]; exact hz) s.toks
 by_cases h0:0≤k
 ·have hk:k.toNat=j:=by
   rw [seqIndex_of h0 h4] at h1
   exact Option.some.inj h1
  exact PySem.W.ki_setAt ho h0 (by omega) (by rw [List.size_toArray,← hl]; exact h4) (by rw [hk]; exact ⟨_,I',q⟩)
 ·have hk:(k+(its.toArray.size:Int)).toNat=j:=by
   rw [seqIndex_neg (by omega) h3] at h1
   rw [List.size_toArray,← hl]
   exact Option.some.inj h1
  exact PySem.W.ki_setBack ho (by omega) (by rw [List.size_toArray,← hl]; exact h3) (by omega) (by rw [hk]; exact ⟨_,I',q⟩)
theorem slice_bounds (lo hi:Option Int) (n:Nat):(sliceBounds lo hi none n).1=((HT.sIx n 0 lo:Nat):Int)∧(sliceBounds lo hi none n).2.1=((HT.sIx n n hi:Nat):Int)∧(sliceBounds lo hi none n).2.2=1:=by
 refine ⟨?_,?_,rfl⟩
 ·cases lo with
  | none=>simp [sliceBounds,HT.sIx]
  | some i =>
   simp only [sliceBounds,HT.sIx,Option.getD_none,show (1:Int) > 0 by decide,if_true]
   by_cases h:i < 0
   ·simp only [h,if_true] <;> omega
   ·simp only [h,if_false] <;> omega
 ·cases hi with
  | none=>simp [sliceBounds,HT.sIx]
  | some i =>
   simp only [sliceBounds,HT.sIx,Option.getD_none,show (1:Int) > 0 by decide,if_true]
   by_cases h:i < 0
   ·simp only [h,if_true] <;> omega
   ·simp only [h,if_false] <;> omega
theorem slicePick_cut (its:List Value) (lo hi:Option Int):slicePick its.toArray lo hi none=((its.drop (HT.sIx its.length 0 lo)).take (HT.sIx its.length its.length hi - HT.sIx its.length 0 lo)).toArray:=by
 obtain ⟨h1,h2,h3⟩:=slice_bounds lo hi its.toArray.size
 unfold slicePick
 rw [h1,h2,h3]
 simp only [sliceRange_one,pick_run,List.size_toArray] <;> rfl
def rSlL (K:PySem.W.Frag):V→Option Int→Option Int→Hp→VK→Prop:=fun x lo hi H Q=>∃ a xs,x=.ref a∧SqL K H a xs∧∀ p,H p=none→Q (.ref p) (upd H p (.lst (cutV xs lo hi)))
theorem sl_list:SlR X (rSlL X.K):=by
 intro pins s σ H x v vl vu lo hi sl Q I rx hs pl pu h
 obtain ⟨a,xs,rfl,hx,q⟩:=h
 cases rx
 obtain ⟨its,r,ht,hz⟩:=I.list hx
 have hlen:=r.length
 refine ⟨"list",_,slot_list_getitem.lookup,ht.isList.typeIs,?_⟩
 refine wpAny_getItem_list_slice ht.isList hs pl pu .none (by simp) ?_ (by rw [List.size_toArray] <;> omega)
 rw [slicePick_cut,← hlen]
 refine ⟨.ref s.heap.objs.size,_,I.laid (t':=s.toks) (o:=.lst (cutV xs lo hi)) (fun b ob q=>Heap.get?_push_of_some _ q) (Nat.le_refl _) ?_,rfl,q _ (I.hok.fresh (Nat.le_refl _))⟩
 exact ⟨Nat.le_trans (cutV_length xs lo hi) hz,_,0,(r.drop (HT.sIx xs.length 0 lo)).take (HT.sIx xs.length xs.length hi - HT.sIx xs.length 0 lo),Heap.get?_push_size _ rfl⟩
theorem call_len_seq:CallR X (.builtin "len") (fun xs H Q=>∃ p ys,xs=[.ref p]∧(SqL X.K H p ys∨SqT X.K H p ys)∧Q (.int ys.length) H):=by
 intro pins s σ H xs us Q I r h
 obtain ⟨p,ys,rfl,hq,q⟩:=h
 obtain ⟨u,rfl,rx⟩:=vals1 r
 cases rx
 have hn:=line63
 rcases hq with hq | hq
 ·obtain ⟨its,r',pl,hz⟩:=I.list hq
  have hlen:=r'.length
  exact Calls.call_len_list pl.isList (by simp only [List.size_toArray] <;> omega) ⟨.int ys.length,H,I.tok _,⟨s.toks+1,by rw [List.size_toArray,hlen]⟩,q⟩
 ·obtain ⟨its,r',pl,hz⟩:=I.tuple hq
  have hlen:=r'.length
  exact len_tuple pl (by simp only [List.size_toArray] <;> omega) ⟨.int ys.length,H,I.tok _,⟨s.toks+1,by rw [List.size_toArray,hlen]⟩,q⟩
theorem call_len_str:CallR X (.builtin "len") (fun xs H Q=>∃ z,xs=[.str z]∧z.length≤sizeLine∧Q (.int z.length) H):=by
 intro pins s σ H xs us Q I r h
 obtain ⟨z,rfl,hz,q⟩:=h
 obtain ⟨u,rfl,t,rfl⟩:=vals1 r
 have hn:=line63
 exact len_str (by omega) ⟨.int z.length,H,I.tok _,⟨_,rfl⟩,q⟩
theorem call_list_of : CallR X (.type "list") (fun xs H Q => ∃ p ys, xs = [.ref p] ∧ (SqL X.K H p ys ∨ SqT X.K H p ys) ∧ ∀ l, H l = none → Q (.ref l) (upd H l (.lst ys))) := by
  intro pins s σ H xs us Q I r h
  obtain ⟨p, ys, rfl, hq, q⟩ := h
  obtain ⟨u, rfl, rx⟩ := vals1 r
  cases rx
  have fin : ∀ (its : List Value), Vals ys its → ys.length ≤ sizeLine → ∀ (h' : Heap) (c' : Nat), (∀ b o', s.heap.get? b = some o' → h'.get? b = some o') →
      h'.get? s.heap.objs.size = some { cls := .type "list", dict := none, data := .seq its.toArray c', slots := #[] } → EP X pins σ Q (.ref s.heap.objs.size) { s with heap := h' } := fun its r' hz h' c' kp e =>
    ⟨.ref s.heap.objs.size, _, I.laid (t' := s.toks) kp (Nat.le_refl _) (show ObjOk X.prog X.w _ h' _ (.lst ys) from ⟨hz, its, c', r', e⟩), rfl, q _ (I.hok.fresh (Nat.le_refl _))⟩
  rcases hq with hq | hq
  · obtain ⟨its, r', pl, hz⟩ := I.list hq
    have hlen := r'.length
    obtain ⟨o, ho, hc, n, hd⟩ := pl.isList
    exact call_list_seq p (.inl rfl) ho hc hd (fun h' c' kp e => fin its r' hz h' c' kp e) (by simp only [List.size_toArray] <;> omega)
  · obtain ⟨its, r', pl, hz⟩ := I.tuple hq
    have hlen := r'.length
    obtain ⟨o, ho, hc, n, hd⟩ := pl
    exact call_list_seq p (.inr rfl) ho hc hd (fun h' c' kp e => fin its r' hz h' c' kp e) (by simp only [List.size_toArray] <;> omega)
theorem call_tuple_of:CallR X (.type "tuple") (fun xs H Q=>∃ p ys,xs=[.ref p]∧((SqL X.K H p ys∧∀ l,H l=none→Q (.ref l) (upd H l (.tup ys)))∨(SqT X.K H p ys∧Q (.ref p) H))):=by
 intro pins s σ H xs us Q I r h
 obtain ⟨p,ys,rfl,h⟩:=h
 obtain ⟨u,rfl,rx⟩:=vals1 r
 cases rx
 rcases h with ⟨hq,q⟩ | ⟨hq,q⟩
 ·obtain ⟨its,r',pl,hz⟩:=I.list hq
  have hlen:=r'.length
  refine call_tuple_list pl.isList (fun h' kp=>?_) (by simp only [List.size_toArray] <;> omega)
  have I1:Inv X pins σ H { s with heap:=h' }:=I.kept (t':=s.toks) kp
  have I2:Inv X pins σ (upd H h'.objs.size (.tup ys)) { s with heap:=h'.push { cls:=.type "tuple",data:=.seq its.toArray } } :=
   I1.laid (t':=s.toks) (fun b o e=>Heap.get?_push_of_some _ e) (Nat.le_refl _) (show ObjOk X.prog X.w _ _ _ (.tup ys) from ⟨hz,its,r',IsTup.new _ _⟩)
  exact ⟨.ref h'.objs.size,_,I2,rfl,q _ (I1.hok.fresh (Nat.le_refl _))⟩
 ·obtain ⟨its,r',pl,hz⟩:=I.tuple hq
  exact call_tuple_same pl ⟨.ref p,H,I,rfl,q⟩
def tyV (K : PySem.W.Frag) (T : String) (x : V) (H : Hp) : Prop := match x with
  | .str _ => T = "str"
  | .int _ => T = "int"
  | .ref p => (T = "list" ∧ ∃ xs, SqL K H p xs) ∨ (T = "tuple" ∧ ∃ o, K.lookup p = some o ∧ o.cls = .type "tuple" ∧ o.dict = none) ∨
      (T = "dict" ∧ ((∃ kvs, H p = some (.dK kvs)) ∨ ∃ kvs, H p = some (.dT kvs))) ∨ (T = "set" ∧ ∃ S n, H p = some (.set S n))
  | _ => False
theorem tyV_is {pins : List (Addr × Obj)} {σ : St} {H : Hp} {s : Shared} {T : String} {x : V} {v : Value} (I : Inv X pins σ H s) (r : RelV x v) (ty : tyV X.K T x H) :
    s.TypeIs v T ∧ ∀ a, v = .ref a → ∃ ob, s.heap.get? a = some ob ∧ ob.dict = none := by
  cases x with
  | str z =>
    obtain ⟨t, rfl⟩ := r
    cases (show T = "str" from ty)
    exact ⟨typeIs_str s z t, fun _ e => nomatch e⟩
  | int i =>
    obtain ⟨t, rfl⟩ := r
    cases (show T = "int" from ty)
    exact ⟨typeIs_int s i t, fun _ e => nomatch e⟩
  | ref p =>
    cases r
    rcases ty with ⟨rfl, xs, hq⟩ | ⟨rfl, o, hk, hc, hd⟩ | ⟨rfl, hk⟩ | ⟨rfl, S, n, hk⟩
    · obtain ⟨its, _, pl, _⟩ := I.list hq
      refine ⟨pl.isList.typeIs, fun a e => ?_⟩
      cases e
      obtain ⟨o, n, e, c, hd, _⟩ := pl
      exact ⟨o, e, hd⟩
    · refine ⟨⟨o, I.kIn p o hk, hc⟩, fun a e => ?_⟩
      cases e
      exact ⟨o, I.kIn _ o hk, hd⟩
    · have z : ∃ o, s.heap.get? p = some o ∧ o.ExactDict := by
        rcases hk with ⟨kvs, hk⟩ | ⟨kvs, hk⟩
        · obtain ⟨_, _, _, _, o, _, _, e, ex, _⟩ := I.hok p _ hk
          exact ⟨o, e, ex⟩
        · obtain ⟨_, _, _, _, o, _, _, e, ex, _⟩ := I.hok p _ hk
          exact ⟨o, e, ex⟩
      obtain ⟨o, e, ex⟩ := z
      refine ⟨⟨o, e, ex.1⟩, fun a e2 => ?_⟩
      cases e2
      exact ⟨o, e, ex.2.1⟩
    · obtain ⟨o, _, _, _, e, ex, _⟩ := I.hok p _ hk
      refine ⟨⟨o, e, ex.1⟩, fun a e2 => ?_⟩
      cases e2
      exact ⟨o, e, ex.2.1⟩
  | _ => exact False.elim ty
def tBM0 (K:PySem.W.Frag) (T:String) (r:V→List V→Hp→VK→Prop) (to:TE):TE:=fun σ H Q=>to σ H fun x H1=>tyV K T x H1∧r x [] H1 Q
def tBM (K:PySem.W.Frag) (T:String) (r:V→List V→Hp→VK→Prop) (to:TE) (t:TA):TE:=fun σ H Q=>to σ H fun x H1=>tyV K T x H1∧t σ H1 fun xs H2=>r x xs H2 Q
variable {o e:Expr} {es:List Expr} {to:TE} {t:TA} {name:Str} {apos cpos:Pos} {T id:String} {r:V→List V→Hp→VK→Prop}
theorem pe_bm0 (pa : PlainAttrs T) (slot : Slot T name id) (hty : typeOf (.builtin id) = pure (.type "method_descriptor")) (hm : MtR X id r) (ho : PE X o to)
    (hbase : attributeBase o name X.env (eval o X.env) = eval o X.env := by rfl) (hline : (apos.endLine == cpos.line) = true := by rfl) : PE X (.Call (.Attribute o name apos) [] [] cpos) (tBM0 X.K T r to) := by
  intro pins s σ H Q I h
  refine wpAny_Call_method0_late hbase hline (thn (ho pins s σ H _ I h) fun v s1 ⟨x, H1, I1, r1, ty, q1⟩ => ?_)
  obtain ⟨h1, h2⟩ := tyV_is I1 r1 ty
  exact ⟨T, id, pa, slot, hty, h1, h2, Calls.callWith_builtin rfl (PySem.evalArgs_none (hm pins s1 σ H1 x [] v [] Q I1 r1 .nil q1))⟩
theorem pe_bm (pa : PlainAttrs T) (slot : Slot T name id) (hty : typeOf (.builtin id) = pure (.type "method_descriptor")) (hm : MtR X id r) (ho : PE X o to) (ha : PA X (e :: es) t)
    (hbase : attributeBase o name X.env (eval o X.env) = eval o X.env := by rfl)
    (hfew : ((backTo cpos (starEach (e :: es) X.env)).all (fun x => !x.1) && (backToKw cpos (keywordEach [] X.env)).all (fun x => x.1.isSome)
      && decide ((e :: es).length + ([] : List Keyword).length + (if ([] : List Keyword).isEmpty then 0 else 1) < 30)) = true := by rfl)
    (hline : (apos.endLine == cpos.line) = true := by rfl) (hs : starEach (e :: es) X.env = (false, eval e X.env) :: starEach es X.env := by rfl) (hplain : (backTo cpos (starEach es X.env)).any (·.1) = false := by rfl) :
    PE X (.Call (.Attribute o name apos) (e :: es) [] cpos) (tBM X.K T r to t) := by
  intro pins s σ H Q I h
  refine wpAny_Call_method_late hbase hfew hline rfl (thn (ho pins s σ H _ I h) fun v s1 ⟨x, H1, I1, r1, ty, q1⟩ => ?_)
  obtain ⟨h1, h2⟩ := tyV_is I1 r1 ty
  refine ⟨T, id, pa, slot, hty, h1, h2, ?_⟩
  have hA := ha cpos pins s1 σ H1 _ I1 q1
  rw [hs] at hA ⊢
  refine Calls.callWith_builtin (by show (false || (backTo cpos (starEach es X.env)).any (·.1)) = false; rw [hplain] <;> rfl) (Calls.evalArgs_plain ?_)
  exact thn hA fun us s2 ⟨vs, H2, I2, r2, q2⟩ => hm pins s2 σ H2 x vs v us Q I2 r1 r2 q2
end
end L2
namespace L2
open PySem PySem.Spec PyProof.Rows
def MtM (X:Cx) (id:String) (r:V→List V→Hp→VK→Prop):Prop :=
 ∀ (pins:List (Addr×Obj)) (s:Shared) (σ:St) (H:Hp) (x:V) (xs:List V) (v:Value) (us:List Value) (Q:VK),Inv X pins σ H s→RelV x v→Vals xs us→r x xs H Q →
  wpAny (model X.prog X.w) X.A (call (.builtin id) (v::us)) (EP X pins σ Q) X.xe s
theorem Vals.one:∀ {x:V} {us:List Value},Vals [x] us→∃ u,us=[u]∧RelV x u
 | _,_,.cons r .nil=>⟨_,rfl,r⟩
theorem Vals.dropLast {xs:List V} {us:List Value} (h:Vals xs us):Vals xs.dropLast us.dropLast:=by
 induction h with
 | nil=>exact .nil
 | cons r t ih =>
  cases t with
  | nil=>exact .nil
  | cons q t'=>exact .cons r ih
theorem Vals.rep {xs:List V} {us:List Value} (h:Vals xs us):∀ k:Nat,Vals (List.replicate k xs).flatten (List.replicate k us).flatten
 | 0=>.nil
 | k+1=>by
  rw [List.replicate_succ,List.replicate_succ,List.flatten_cons,List.flatten_cons]
  exact Vals.append h (Vals.rep h k)
theorem foldl_rep (its : List Value) : ∀ (k : Nat) (acc : List Value),
    List.foldl (fun x1 x2 => x1 ++ x2) acc.toArray (List.replicate k its.toArray) = (acc ++ (List.replicate k its).flatten).toArray
  | 0, acc => by simp
  | k + 1, acc => by
    have e : acc.toArray ++ its.toArray = (acc ++ its).toArray := by simp
    have e2 : (acc ++ its) ++ (List.replicate k its).flatten = acc ++ (List.replicate (k + 1) its).flatten := by
      rw [List.replicate_succ, List.flatten_cons, List.append_assoc]
    rw [← e2, ← foldl_rep its k (acc ++ its), ← e, List.replicate_succ, List.foldl_cons]
section
variable {X:Cx} {pins:List (Addr×Obj)} {σ:St} {H:Hp} {s:Shared} {l b:Addr} {xs ys zs:List V}
theorem Inv.lset {its its' : List Value} {n : Nat} {f : Array Value → Array Value} {t' : Nat} (I : Inv X pins σ H s) (hH : H l = some (.lst xs))
    (e : s.heap.get? l = some { cls := .type "list", data := .seq its.toArray n }) (hf : f its.toArray = its'.toArray) (hv : Vals ys its') (hz : ys.length ≤ sizeLine) :
    Inv X pins σ (upd H l (.lst ys)) { s with heap := s.heap.update l (Obj.mapSeq f), toks := t' } := by
  have q := PySem.IsL.update e f
  rw [hf] at q
  refine I.write (x := l) (e := l) (by rw [hH]; exact trivial) (.inl rfl) (fun b' u hb hu => (Heap.get?_update_other s.heap (Obj.mapSeq f) (Ne.symm hb)).trans hu) ⟨_, q⟩ ?_
  exact ⟨hz, its', _, hv, q⟩
theorem Inv.lnew {its : List Value} {t' : Nat} (I : Inv X pins σ H s) (hv : Vals ys its) (hz : ys.length ≤ sizeLine) :
    Inv X pins σ (upd H s.heap.objs.size (.lst ys)) { s with heap := s.heap.push { cls := .type "list", data := .seq its.toArray }, toks := t' } :=
  I.laid (fun _ _ q => Heap.get?_push_of_some _ q) (Nat.le_refl _) ⟨hz, its, 0, hv, Heap.get?_push_size _ rfl⟩
theorem Inv.fresh (I:Inv X pins σ H s):H s.heap.objs.size=none:=I.hok.fresh (Nat.le_refl _)
theorem Inv.lstM (I:Inv X pins σ H s) (hH:H l=some (.lst xs)):xs.length≤sizeLine∧∃ (its:List Value) (n:Nat),Vals xs its∧xs.length=its.length∧s.heap.get? l=some { cls:=.type "list",data:=.seq its.toArray n }:=by
 obtain ⟨z,its,n,r,e⟩:=I.hok l _ hH
 exact ⟨z,its,n,r,r.length,e⟩
theorem notLongL {n:Nat} (h:n≤sizeLine):Builtin.List.listTooLong n=false:=by
 unfold Builtin.List.listTooLong
 exact decide_eq_false (by omega)
end
section
variable {X:Cx}
def rAppend:V→List V→Hp→VK→Prop:=fun x vs H Q=>∃ l xs y,x=.ref l∧vs=[y]∧H l=some (.lst xs)∧xs.length < sizeLine∧Q .non (upd H l (.lst (xs++[y])))
theorem mt_append:MtM X "list.append" rAppend:=by
 intro pins s σ H x vs v us Q I rx rv h
 obtain ⟨l,xs,y,rfl,rfl,hH,hz,q⟩:=h
 cases rx
 obtain ⟨u,rfl,ru⟩:=rv.one
 obtain ⟨z,its,n,r,hl,e⟩:=I.lstM hH
 refine call_meets F.slot_list_append ⟨_,e,rfl⟩ F.entry_list_append (F.args_list_append_2 _ _) (PySem.list_append l its.toArray n u (by rw [List.size_toArray]; omega)) ⟨e,?_⟩
 refine ⟨.non,_,I.lset (its':=its++[u]) hH e (by simp) (r.append (.cons ru .nil)) ?_,rfl,q⟩
 rw [List.length_append,List.length_singleton]
 omega
def rExtend:V→List V→Hp→VK→Prop:=fun x vs H Q=>∃ l b xs zs,x=.ref l∧vs=[.ref b]∧H l=some (.lst xs)∧H b=some (.lst zs)∧xs.length+zs.length≤sizeLine∧Q .non (upd H l (.lst (xs++zs)))
theorem mt_extend:MtM X "list.extend" rExtend:=by
 intro pins s σ H x vs v us Q I rx rv h
 obtain ⟨l,b,xs,zs,rfl,rfl,hH,hB,hz,q⟩:=h
 cases rx
 obtain ⟨u,rfl,ru⟩:=rv.one
 cases ru
 obtain ⟨z,its,n,r,hl,e⟩:=I.lstM hH
 obtain ⟨z2,its2,n2,r2,hl2,e2⟩:=I.lstM hB
 have hsz:its.toArray.size+its2.toArray.size≤sizeLine:=by rw [List.size_toArray,List.size_toArray]; omega
 have hlong:¬ (!its.toArray.isEmpty && Builtin.List.listTooLong (its.toArray.size+its2.toArray.size))=true:=by
  rw [notLongL hsz,Bool.and_false]
  exact Bool.false_ne_true
 refine call_meets F.slot_list_extend ⟨_,e,rfl⟩ F.entry_list_extend (F.args_list_extend_2 _ _)
  (AutoSeq1.list_extend_list_list_0 l its.toArray n b its2.toArray n2 hlong (by rw [List.size_toArray]; omega) (by omega)) ⟨e,e2,?_⟩
 refine ⟨.non,_,I.lset (its':=its++its2) hH e (by simp) (r.append r2) ?_,rfl,q⟩
 rw [List.length_append]
 omega
def rCat:R2:=fun x y H Q=>∃ l b xs zs,x=.ref l∧y=.ref b∧H l=some (.lst xs)∧H b=some (.lst zs)∧xs.length+zs.length≤sizeLine∧∀ p,H p=none→Q (.ref p) (upd H p (.lst (xs++zs)))
theorem op_cat:OpR X (binaryOp .Add) rCat:=by
 intro pins s σ H x y v u Q I rx ry h
 obtain ⟨l,b,xs,zs,rfl,rfl,hH,hB,hz,q⟩:=h
 cases rx
 cases ry
 obtain ⟨z,its,n,r,hl,e⟩:=I.lstM hH
 obtain ⟨z2,its2,n2,r2,hl2,e2⟩:=I.lstM hB
 refine PySem.P.add_list e e2 ?_ (by rw [List.size_toArray,List.size_toArray]; omega)
 have ea:its.toArray++its2.toArray=(its++its2).toArray:=by simp
 rw [ea]
 exact ⟨.ref _,_,I.lnew (t':=s.toks) (r.append r2) (by rw [List.length_append]; omega),rfl,q _ I.fresh⟩
def rRep:R2:=fun x y H Q=>∃ l k xs,x=.ref l∧y=.int k∧H l=some (.lst xs)∧-(2 ^ 63)≤k∧k < 2 ^ 63∧xs.length * k.toNat≤sizeLine ∧
 ∀ p,H p=none→Q (.ref p) (upd H p (.lst (List.replicate k.toNat xs).flatten))
theorem len_rep {α:Type} (xs:List α) (k:Nat):(List.replicate k xs).flatten.length=k * xs.length:=by
 induction k with
 | zero=>simp
 | succ k ih=>rw [List.replicate_succ,List.flatten_cons,List.length_append,ih,Nat.succ_mul,Nat.add_comm]
theorem op_rep:OpR X (binaryOp .Mult) rRep:=by
 intro pins s σ H x y v u Q I rx ry h
 obtain ⟨l,k,xs,rfl,rfl,hH,h1,h2,hz,q⟩:=h
 cases rx
 obtain ⟨t,rfl⟩:=ry
 obtain ⟨z,its,n,r,hl,e⟩:=I.lstM hH
 have hlen:its.toArray.size * k.toNat≤sizeLine:=by rw [List.size_toArray,← hl]; exact hz
 have hcap:¬ its.toArray.size * k.toNat > (2 ^ 63 - 1) / 8:=by
  have:(sizeLine:Nat)≤(2 ^ 63 - 1) / 8:=by decide
  omega
 have hfit:¬ (!Builtin.List.listFitsIndex k)=true:=by
  rw [fitsIndex_both h1 h2]
  exact Bool.false_ne_true
 have hlong:¬ Builtin.List.listTooLong (its.toArray.size * k.toNat)=true:=by
  rw [notLongL hlen]
  exact Bool.false_ne_true
 have hnew:List.foldl (fun x1 x2=>x1++x2) #[] (List.replicate (if its.toArray.isEmpty=true then 0 else k.toNat) its.toArray)=(List.replicate k.toNat its).flatten.toArray:=by
  have f0:∀ m:Nat,List.foldl (fun x1 x2=>x1++x2) #[] (List.replicate m its.toArray)=(List.replicate m its).flatten.toArray:=fun m=>by
   have:=foldl_rep its m []
   rw [List.nil_append] at this
   exact this
  rw [f0]
  cases its with
  | nil=>simp
  | cons a r'=>rw [if_neg (by simp)]
 refine wpAny_binaryOp_repeat_ref (T := "list") (U := "int") (by decide) ⟨_,e,rfl⟩ (fun s'=>typeIs_int s' k t) noFill_list_mul F.fills_int_mul F.slot_int_rmul repeat_list F.slot_int_index.lookup
  (call_meets F.slot_int_rmul (typeIs_int s k t) F.entry_int_rmul (F.args_int_rmul_2 _ _) (int___rmul___int_list k t l its.toArray n)
   ⟨e,rfl,⟨_,e,rfl⟩,call_meets F.slot_list_mul ⟨_,e,rfl⟩ F.entry_list_mul (F.args_list_mul_2 _ _) (AutoListH.list___mul___list_int_3 l its.toArray n k t hfit hcap hlong) ⟨e,?_⟩⟩)
 rw [hnew]
 exact ⟨.ref _,_,I.lnew (t':=s.toks) (r.rep k.toNat) (by rw [len_rep,Nat.mul_comm]; exact hz),rfl,q _ I.fresh⟩
end
end L2
namespace Att
open PySem PySem.W PySem.Calls PyProof.Rows
theorem ints_of_wellAll {P:Params} {h:Heap}:∀ (ns:List Int) (vs:List Value),WellAll P h vs (ns.map WData.int)→IntsAre vs ns:=by
 intro ns
 induction ns with
 | nil =>
  intro vs w
  rw [List.map_nil] at w
  cases w
  exact .nil
 | cons n ns ih =>
  intro vs w
  rw [List.map_cons] at w
  cases w with
  | cons a b =>
   cases a
   exact .cons _ _ (ih _ b)
theorem script_of {l : OpenLaw} {n : Nat} (hn : l.most = some n) {P : Params} {h : Heap} {args : List WData} {vals : List Value}
    (hpre : l.row.toRowW.claim.pre args = true) (hwl : WellAll P h vals args) :
    ∃ a vs ns, vals = [Value.ref a] ∧ args = [WData.list (ns.map WData.int)] ∧ h.get? a = some { cls := .type "list", data := .seq vs.toArray } ∧ IntsAre vs ns ∧ ns.length ≤ n := by
  have hsh : WShape.hasAll [] args [.list .int] = true := (pre_splitW hpre).1
  have hc : l.pre.holds [] { args := args } = true := (pre_splitW hpre).2
  obtain ⟨d, r, rfl, h1, h2⟩ := hasAllW_cons hsh
  obtain rfl := hasAllW_nil h2
  obtain ⟨xs, rfl, h3⟩ := hasW_list h1
  obtain ⟨ns, rfl⟩ := items_int h3
  have hlen : ns.length ≤ n := by
    unfold OpenLaw.pre at hc
    have h4 : (WTm.not (.lt (.lit (.int (n : Int))) (.len (.arg 0)))).holds [] { args := [.list (ns.map .int)] } = true := by
      have h4 := (holds_andW hc).1
      rw [hn] at h4
      exact h4
    have h5 := condW_of h4 (w_not (w_lt w_lit (w_len_list (w_arg rfl))))
    rw [List.length_map] at h5
    refine Nat.le_of_not_lt fun q => ?_
    have q' : (n : Int) < ((ns.length : Nat) : Int) := by omega
    first
      | (rw [decide_eq_true q'] at h5; exact absurd h5 (by decide))
      | (simp at h5; omega)
  cases hwl with
  | cons w1 w2 =>
    cases w2
    cases w1 with
    | list ho hall => exact ⟨_, _, ns, rfl, rfl, ho, ints_of_wellAll ns _ hall, hlen⟩
theorem post_true (l:OpenLaw) (args:List WData):l.row.toRowW.claim.post args (.bool true) args=true :=
 postW_of (r:=l.row.toRowW) (X:=(true == true))
  (show WShape.has [] (.bool true) .bool=true by first | rfl | decide | simp [WShape.has,WShape.arms,WShape.armsAll])
  (show (WTm.eq .res (.lit (.bool true))).value [] { args:=args,res:=some (.bool true),after:=args }=some (.bool (true == true)) from w_eq_bool (w_res rfl) w_lit) rfl
theorem attach_call {l : OpenLaw} {n : Nat} {q : Program} {loose : List Str} {XP : (Str → Option Value) → Heap → Prop} {YP : World → Heap → Prop} {d : DefRec}
    (hn : l.most = some n) (hdf : d.params.defaults = [])
    (call : ∀ (w : World) (s₀ s₁ : Shared) (mg mb : Str → Option Value) (fa : Addr) (o : Obj) (pm cd doc : Value) (a : Addr) (vs : List Value) (ns : List Int),
      Ground q loose [] XP w s₀ mg mb s₁.heap → YP w s₁.heap →
      s₁.heap.get? fa = some o → o.data = .func (docDef d.name d.params d.body d.scope pm cd doc) → s₁.heap.CodeRec cd d.name → mg d.name = some (.ref fa) →
      s₁.heap.get? a = some { cls := .type "list", data := .seq vs.toArray } → IntsAre vs ns → ns.length ≤ n → s₁.gens = #[] →
      codeAny (model l.prog w) callerA (.call (.ref fa) ⟨[.ref a], []⟩) (fun r s' => r = .ok (.ret (.bool true)) ∧ OldK s₁.heap s'.heap ∧ s'.os = s₁.os ∧ AllBare s'.gens) s₁) :
    WalkO q loose XP YP l.row.toRowW d [] (fun f vs => PySem.call f vs) := by
  intro w s₀ s₁ mg mb G Y fa o pm cd doc dV kV ho hd hcd hD hmg hg args vals as hpre hlay hrd hwl hlo
  obtain rfl : dV = .none := Dflts.none hD hdf
  obtain rfl : kV = .none := Dflts.noKw hD
  obtain ⟨a, vs, ns, rfl, rfl, hobj, hints, hlen⟩ := script_of hn hpre hwl
  refine enter_call (codeAny_mono (call w s₀ s₁ mg mb fa o pm cd doc a vs ns G Y ho (fd_plain hd) hcd hmg hobj hints hlen hg) fun r s' hq => ?_)
  obtain ⟨rfl, h2, h3, h4⟩ := hq
  exact ⟨.inl ⟨.bool true, .bool true, [], rfl, fun _ => rfl, .bool true, post_true l _, fun _ => ⟨List.Pairwise.nil, fun _ hm => (nomatch hm)⟩⟩, h2, h3, h4⟩
end Att
namespace L2
open PySem PySem.Spec PyProof.Rows
theorem vals_ints:∀ {vs:List Value} {ns:List Int},IntsAre vs ns→Vals (ns.map V.int) vs
 | _,_,.nil=>.nil
 | _,_,.cons n t h=>.cons ⟨t,rfl⟩ (vals_ints h)
def Only (H:Hp):Prop:=∀ b,H b=none∨∃ o xs,H b=some (.frz o (.lst xs))
theorem law_call {P : Program} {w : World} {K : PySem.W.Frag} {mg mb : Str → Option Value} {CX : CXT} {k : Nat} {fa a : Addr} {fd : FuncData} {x : Str} {sp : Sp} {s₁ : Shared} {vs : List Value} {ns : List Int}
    (KX : K.In s₁.heap) (hns : s₁.heap.Ns mainGlobals mg) (hb : s₁.heap.Ns builtinsNs mb) (hbb : ∀ x : Str, x ≠ "__name__" → mb x = bootBuiltins x) (hlim : s₁.heap.NoLimit) (hg : s₁.gens = #[])
    (ha : s₁.heap.get? a = some { cls := .type "list", data := .seq vs.toArray }) (hi : IntsAre vs ns) (hl : ns.length ≤ sizeLine) (hr : Room k callerA)
    (F : ∀ base : Heap, K.In base → base.Ns mainGlobals mg → FnOk P w K mg base CX k fa fd [x] sp) (hbind : ∀ (s : Shared) (u : Value), BindsTo s fd ⟨[u], []⟩ [(x, u)])
    (hsp : ∀ H : Hp, Only H → SqL K H a (ns.map V.int) → sp [.ref a] H (fun v _ => v = .bl true) fun _ _ _ => False)
    (hCX : ∀ H e s', CX [] H s₁ (fun _ _ _ => False) e s' → False) :
    codeAny (model P w) callerA (.call (.ref fa) ⟨[.ref a], []⟩) (fun r s' => r = .ok (.ret (.bool true)) ∧ OldK s₁.heap s'.heap ∧ s'.os = s₁.os ∧ AllBare s'.gens) s₁ := by
  have rv := vals_ints hi
  have lenV := hi.length
  have core : ∀ H : Hp, Only H → SqL K H a (ns.map V.int) → HOk P w H s₁.heap → (∀ b, H b ≠ none → b = a) → (H a ≠ none → K.lookup a = none) →
      codeAny (model P w) callerA (.call (.ref fa) ⟨[.ref a], []⟩) (fun r s' => r = .ok (.ret (.bool true)) ∧ OldK s₁.heap s'.heap ∧ s'.os = s₁.os ∧ AllBare s'.gens) s₁ := by
    intro H hO hS hok hA hK
    have base_of : ∀ {b : Addr} {o : Obj}, s₁.heap.get? b = some o → H b = none → (hidT s₁.heap H).get? b = some o := fun e n => hidT_get e n
    have noA : ∀ {b : Addr} {o : Obj} {es : Array DictEntry} {ep : Nat}, s₁.heap.get? b = some o → o.data = .dict es ep → H b = none := fun {b o es ep} e d => by
      cases q : H b with
      | none => rfl
      | some u =>
        have e' : b = a := hA b (by rw [q]; simp)
        subst e'
        rw [ha] at e; cases e
        have d' : Data.seq vs.toArray _ = Data.dict es ep := d
        cases d'
    have nsK : ∀ {b : Addr} {m : Str → Option Value}, s₁.heap.Ns b m → (hidT s₁.heap H).Ns b m := fun {b m} ⟨o, es, ep, e, d, r⟩ => ⟨o, es, ep, base_of e (noA e d), d, r⟩
    have hKb : K.In (hidT s₁.heap H) := fun b o e => base_of (KX b o e) (by
      cases q : H b with
      | none => rfl
      | some u =>
        have e' : b = a := hA b (by rw [q]; simp)
        subst e'
        rw [hK (by rw [q]; simp)] at e; cases e)
    have hM : Mod K mg (hidT s₁.heap H) := ⟨hKb, nsK hns, ⟨mb, nsK hb, hbb⟩, let ⟨mc, h1, h2⟩ := hlim; ⟨mc, nsK h1, h2⟩⟩
    have e0 : Env0 P w K mg (hidT s₁.heap H) callerA [] s₁ H := ⟨rfl, hM, fun b o e => of_hidT e, Nat.le_of_eq (hidT_size _ _), trivial, fun b hb => absurd (show b ∈ ([] : List Addr) from hb) (by simp), hok, .of_eq hg⟩
    refine codeAny_mono ((F _ hKb (nsK hns)).run callerA [] s₁ H ⟨[.ref a], []⟩ [.ref a] [.ref a] _ _ hr e0 (hbind s₁ (.ref a)) (.cons rfl .nil) (hsp H hO hS)) fun r s' h => ?_
    cases r with
    | error e => exact (hCX H e s' h).elim
    | ok fl =>
      cases fl with
      | next => exact False.elim h
      | brk => exact False.elim h
      | cont => exact False.elim h
      | ret u =>
        obtain ⟨v, H', os, bare, un, hok', r', q⟩ := h
        have q' : v = .bl true := q
        subst q'
        obtain rfl : u = Value.bool true := r'
        refine ⟨rfl, OldK.of_keep fun b o e => ?_, os, bare⟩
        cases q : H b with
        | none => exact un.keep b o e q (by intro z; exact absurd (show b ∈ ([] : List Addr) from z) (by simp)) (by simp)
        | some u =>
          rcases hO b with z | ⟨ob, xs, z⟩
          · rw [q] at z; cases z
          · have z2 := un.frzs b ob _ z
            obtain ⟨e1, _⟩ := hok b _ z
            obtain ⟨e2, _⟩ := hok' b _ z2
            rw [e] at e1; cases e1
            exact e2
  cases hk : K.lookup a with
  | some o =>
    have e := KX a o hk
    rw [ha] at e
    cases e
    refine core (fun _ => none) (fun _ => .inl rfl) (.inr ⟨_, vs.toArray, _, hk, rfl, rfl, rfl, by rw [List.size_toArray, lenV]; exact hl, by simpa using rv⟩) (fun b u z => by have z' : (none : Option HO) = some u := z; cases z') (fun b z => absurd rfl z) fun z => absurd rfl z
  | none =>
    refine core (fun b => if b = a then some (.frz { cls := .type "list", data := .seq vs.toArray } (.lst (ns.map V.int))) else none) (fun b => ?_) (.inl (.inr ⟨{ cls := .type "list", data := .seq vs.toArray }, if_pos rfl⟩)) (fun b u z => ?_) (fun b z => ?_) fun _ => hk
    · by_cases hb : b = a
      · exact .inr ⟨_, _, if_pos hb⟩
      · exact .inl (if_neg hb)
    · by_cases hb : b = a
      · have z' := (if_pos hb).symm.trans z
        cases z'
        subst hb
        exact ⟨ha, by rw [List.length_map]; exact hl, vs, _, rv, ha⟩
      · have z' := (if_neg hb).symm.trans z
        cases z'
    · by_cases hb : b = a
      · exact hb
      · exact absurd (if_neg hb) z
end L2
namespace L2
open PySem PySem.Spec PyProof.Rows
theorem walk_of {l : PySem.W.OpenLaw} {n k : Nat} {q : Program} {loose : List Str} {XP : (Str → Option Value) → Heap → Prop} {YP : World → Heap → Prop} {d : DefRec} {K : Params → PySem.W.Frag} {CX : World → CXT} {sp : World → Sp} {x : Str}
    (hn : l.most = some n) (hn2 : n ≤ sizeLine) (hdf : d.params.defaults = []) (hr : Room k callerA)
    (hY : ∀ (w : World) (h : Heap), YP w h → (K w.params).In h)
    (F : ∀ (w : World) (mg : Str → Option Value) (fa : Addr) (h : Heap), (K w.params).In h → h.Ns mainGlobals mg → mg d.name = some (.ref fa) →
      ∃ fd : FuncData, (∀ (s : Shared) (u : Value), BindsTo s fd ⟨[u], []⟩ [(x, u)]) ∧
        ∀ base : Heap, (K w.params).In base → base.Ns mainGlobals mg → FnOk l.prog w (K w.params) mg base (CX w) k fa fd [x] (sp w))
    (hsp : ∀ (w : World) (H : Hp) (a : Addr) (ns : List Int), ns.length ≤ n → Only H → SqL (K w.params) H a (ns.map V.int) → sp w [.ref a] H (fun v _ => v = .bl true) fun _ _ _ => False)
    (hCX : ∀ (w : World) (H : Hp) (s : Shared) (e : Value) (s' : Shared), CX w [] H s (fun _ _ _ => False) e s' → False) :
    PySem.W.WalkO q loose XP YP l.row.toRowW d [] (fun f vs => PySem.call f vs) := by
  refine Att.attach_call hn hdf fun w s₀ s₁ mg mb fa o pm cd doc a vs ns G Y ho hd hcd hmg hobj hints hlen hg => ?_
  have KX := hY w _ Y
  obtain ⟨fd, hb, hF⟩ := F w mg fa _ KX G.T.g hmg
  exact law_call KX G.T.g G.T.b G.T.builtins G.T.nolimit hg hobj hints (Nat.le_trans hlen hn2) hr hF hb (fun H hO hS => hsp w H a ns hlen hO hS) fun H e s' => hCX w H s₁ e s'
end L2
namespace L2
open PySem PySem.Spec PyProof.Rows
def defArgs (s:Stmt):Arguments:=match s with
 | .FunctionDef _ a _ _ _ _ _ _ _ _=>a
 | _=>{ posonlyargs:=[],args:=[],vararg:=none,kwonlyargs:=[],kw_defaults:=[],kwarg:=none,defaults:=[] }
def defBody (s:Stmt):List Stmt:=match s with
 | .FunctionDef _ _ b _ _ _ _ _ _ _=>b
 | _=>[]
def defScope (s:Stmt):Scope:=match s with
 | .FunctionDef _ _ _ _ _ _ sc _ _ _=>sc
 | _=>{ kind:=.function,names:=[],isGenerator:=false,isCoroutine:=false }
abbrev CX0:CXT:=fun _ _ _ _ _ _=>False
abbrev E0:XK:=fun _ _ _=>False
theorem pass0 {X:Cx}:Passes CX0 X E0:=fun _ _ _ _ _ _ _ h=>h.elim
structure Fun (K:PySem.W.Frag) (x qual:Str) (st:Stmt) (f:Addr) (fd:FuncData):Prop where
 ex:∃ (oc:Value) (od:Option Addr) (kV doc pm:Value) (an:Option Addr) (cdv ct:Value) (osl:Array (Option Value)),
  fd=PySem.W.fnOf x qual (defArgs st) (defBody st) (defScope st) .none kV doc pm an cdv ct∧K.lookup f=some ⟨oc,od,.func fd,osl⟩∧PySem.W.codeIn K cdv qual=true
 kp:PySem.W.keepIn K (.ref f)=true
section
variable {P:Program} {w:World} {K:PySem.W.Frag} {mg:Str→Option Value} {base:Heap}
theorem Fun.ok {x qual : Str} {st : Stmt} {f : Addr} {fd : FuncData} {N ps : List Str} {k : Nat} {sp : Sp} (F : Fun K x qual st f fd) (S : FnScope N ps (defScope st)) (len : ∀ vs H Q E, sp vs H Q E → vs.length = ps.length)
    (hbody : ∀ (cdv : Value) (A : Around) (outer : List Env) (s : Shared) (H : Hp) (vs : List V) (Q : VK) (E : XK), Room k (A.deeper (envOfC qual (defScope st) s.heap.objs.size f cdv)) → sp vs H Q E →
      ∃ t, PSs (cxOf CX0 P w K mg base N qual (defScope st) f cdv A outer s H E).nox (defBody st) t ∧ t { nx := fun _ H' => Q .non H', rt := Q } (start N vs) H) : FnOk P w K mg base CX0 (k + 1) f fd ps sp := by
  obtain ⟨oc, od, kV, doc, pm, an, cdv, ct, osl, rfl, lk, hcd⟩ := F.ex
  refine fn_of lk hcd S len fun A outer s H vs Q E hr hsp => ?_
  obtain ⟨t, h, q⟩ := hbody cdv A outer s H vs Q E hr hsp
  exact ⟨t, h.nox, q⟩
theorem Fun.binds {x qual : Str} {st : Stmt} {f : Addr} {fd : FuncData} {ps : List Str} (F : Fun K x qual st f fd)
    (h : ∀ (kV doc pm : Value) (an : Option Addr) (cdv ct : Value) (us : List Value), us.length = ps.length → bindArgs (PySem.W.fnOf x qual (defArgs st) (defBody st) (defScope st) .none kV doc pm an cdv ct) ⟨us, []⟩ = pure (ps.zip us)) : Binds K fd ps [] := by
  obtain ⟨oc, od, kV, doc, pm, an, cdv, ct, osl, rfl, lk, hcd⟩ := F.ex
  exact .all (h kV doc pm an cdv ct)
theorem fun_mk {x qual : Str} {st : Stmt} {f : Addr} {oc : Value} {od an : Option Addr} {osl : Array (Option Value)} {kV doc pm cdv ct : Value} (l : K.lookup f = some ⟨oc, od, .func (PySem.W.fnOf x qual (defArgs st) (defBody st) (defScope st) .none kV doc pm an cdv ct), osl⟩)
    (c : PySem.W.codeIn K cdv qual = true) (k : PySem.W.keepIn K (.ref f) = true) : Fun K x qual st f (PySem.W.fnOf x qual (defArgs st) (defBody st) (defScope st) .none kV doc pm an cdv ct) := ⟨⟨oc, od, kV, doc, pm, an, cdv, ct, osl, rfl, l, c⟩, k⟩
end
section
variable {X:Cx}
theorem pv (i : Nat) {x : Str} {pos : Pos} (hN : X.N[i]? = some x := by rfl) (hv : Vis X.env.scope x := by first | exact Or.inl rfl | exact Or.inr (Or.inl rfl) | exact Or.inr (Or.inr rfl)) (hd : (x == ("__debug__" : Str)) = false := by decide)
    (hcd : (x == ("__classdict__" : Str)) = false := by decide) : PE X (.Name x pos) (tVar i) := pe_var hN hv hd hcd
end
end L2
end
section
set_option Elab.async false
set_option linter.all false
set_option maxRecDepth 100000
set_option maxHeartbeats 4000000
namespace L2
open PySem PySem.Spec PyProof.Rows
section
variable {prog:Program} {w:World} {A:Around} {R:Result→Shared→Prop} {s:Shared}
theorem compLoop_gen {elt target iter : Expr} {ifs : List Expr} {scope : Scope} {pos : Pos} {it acc : Value} {env : Env} (I : Nat → Shared → Prop)
    (turn : ∀ n s, I n s → wpAny (model prog w) A (pyNext it) (fun r s₁ => match r with
      | none => R (.ok .next) s₁
      | some v => wpAny (model prog w) A (letOwnedTupleGo target it v) (fun _ s₁' => wpAny (model prog w) A (assign target env v) (fun _ s₂ =>
          wpAny (model prog w) A (forIn ifs true fun c r => if r = true then do let ok ← isTrue c env (eval c env); pure (ForInStep.yield ok) else pure (ForInStep.yield r)) (fun ok s₃ =>
            if ok = true then wpAny (model prog w) A (eval elt env) (fun x s₄ =>
              wpAny (model prog w) A (call (.builtin "list.append") [acc, x]) (fun _ s₅ => ∃ m, m < n ∧ I m s₅) (fun _ _ => False) s₄) (fun _ _ => False) s₃
            else ∃ m, m < n ∧ I m s₃) (fun _ _ => False) s₂) (fun _ _ => False) s₁') (fun _ _ => False) s₁) (fun _ _ => False) s)
    (n : Nat) (h : I n s) : codeAny (model prog w) A (.compLoop (.ListComp elt [⟨target, iter, ifs, 0⟩] scope pos) 0 it acc env) R s := by
  refine codeAny_loop rfl I (fun n s hI => ?_) n h
  show wpAny _ A ((compTurn (.ListComp elt [⟨target, iter, ifs, 0⟩] scope pos) 0 it acc env).onRaise (fun x => do noteFrame x env; theTreesLotGoes x)) _ _ s
  refine wpAny_noted ?_
  rw [compTurn_list]
  refine wpAny_bind (wpAny_standAt (wpAny_bind (wpAny_mono (turn n s hI) (fun r s₁ h₁ => ?_) fun _ _ h' => h'.elim)))
  cases r with
  | none => exact wpAny_pure h₁
  | some v =>
    refine wpAny_bind (wpAny_mono h₁ (fun _ s₁' h₁' => ?_) fun _ _ h' => h'.elim)
    refine wpAny_bind (wpAny_mono h₁' (fun _ s₂ h₂ => wpAny_bind (wpAny_mono h₂ (fun ok s₃ h₃ => ?_) fun _ _ h' => h'.elim)) fun _ _ h' => h'.elim)
    cases ok with
    | false => exact wpAny_pure ⟨rfl, h₃⟩
    | true =>
      exact wpAny_bind (wpAny_bind (wpAny_mono h₃ (fun x s₄ h₄ => wpAny_bind (wpAny_mono h₄ (fun _ s₅ h₅ => wpAny_pure (wpAny_pure ⟨rfl, h₅⟩)) fun _ _ h' => h'.elim)) fun _ _ h' => h'.elim))
end
theorem cellsFrom_other {x:Str}:∀ (names:List (Str×NameKind)) (n:Nat) (acc:List (Str×Addr)),(x,NameKind.cell)∉names→(cellsFrom n names acc).lookup x=acc.lookup x
 | [],_,_,_=>rfl
 | (y,k)::r,n,acc,h=>by
  unfold cellsFrom
  split
  ·rename_i hk
   have hk:k=.cell:=eq_of_beq hk
   subst hk
   rw [cellsFrom_other r (n+1) _ (fun z=>h (List.mem_cons_of_mem _ z)),List.lookup_cons]
   have:(x == y)=false:=beq_eq_false_iff_ne.mpr fun z=>h (by subst z; exact List.mem_cons_self)
   rw [this]
  ·exact cellsFrom_other r n acc fun z=>h (List.mem_cons_of_mem _ z)
theorem cellsFrom_low {x:Str} {c:Addr}:∀ (names:List (Str×NameKind)) (n:Nat) (acc:List (Str×Addr)),(x,NameKind.cell)∈names→(cellsFrom n names acc).lookup x=some c→n≤c
 | [],_,_,h,_=>by cases h
 | (y,k)::r,n,acc,h,e=>by
  unfold cellsFrom at e
  split at e
  ·by_cases hr:(x,NameKind.cell)∈r
   ·exact Nat.le_of_succ_le (cellsFrom_low r (n+1) _ hr e)
   ·rw [cellsFrom_other r (n+1) _ hr,List.lookup_cons] at e
    have:x=y:=by
     rcases List.mem_cons.mp h with z | z
     ·exact (Prod.mk.inj z).1
     ·exact absurd z hr
    subst this
    simp at e
    exact Nat.le_of_eq e
  ·rename_i hk
   rcases List.mem_cons.mp h with z | z
   ·exact absurd (by rw [← (Prod.mk.inj z).2]; rfl) hk
   ·exact cellsFrom_low r n acc z e
theorem cellsFrom_has {x:Str}:∀ (names:List (Str×NameKind)) (n:Nat) (acc:List (Str×Addr)),(x,NameKind.cell)∈names→∃ c,(cellsFrom n names acc).lookup x=some c
 | [],_,_,h=>by cases h
 | (y,k)::r,n,acc,h=>by
  unfold cellsFrom
  split
  ·by_cases hr:(x,NameKind.cell)∈r
   ·exact cellsFrom_has r (n+1) _ hr
   ·rw [cellsFrom_other r (n+1) _ hr,List.lookup_cons]
    have:x=y:=by
     rcases List.mem_cons.mp h with z | z
     ·exact (Prod.mk.inj z).1
     ·exact absurd z hr
    subst this
    simp
  ·rename_i hk
   rcases List.mem_cons.mp h with z | z
   ·exact absurd (by rw [← (Prod.mk.inj z).2]; rfl) hk
   ·exact cellsFrom_has r n acc z
theorem cellsFrom_inj : ∀ (names : List (Str × NameKind)) (n : Nat) (acc : List (Str × Addr)), (∀ x c, acc.lookup x = some c → c < n) → (∀ x y c, acc.lookup x = some c → acc.lookup y = some c → x = y) →
    ∀ x y c, (cellsFrom n names acc).lookup x = some c → (cellsFrom n names acc).lookup y = some c → x = y
  | [], _, _, _, h => h
  | (z, k) :: r, n, acc, hb, h => by
    unfold cellsFrom
    split
    · refine cellsFrom_inj r (n + 1) _ (fun x c e => ?_) (fun x y c e1 e2 => ?_)
      · rw [List.lookup_cons] at e
        split at e
        · cases e; exact Nat.lt_succ_self _
        · exact Nat.lt_succ_of_lt (hb x c e)
      · rw [List.lookup_cons] at e1 e2
        split at e1
        · rename_i hx
          cases e1
          split at e2
          · rename_i hy
            rw [eq_of_beq hx, eq_of_beq hy]
          · exact absurd (hb y _ e2) (Nat.lt_irrefl _)
        · split at e2
          · cases e2
            exact absurd (hb x _ e1) (Nat.lt_irrefl _)
          · exact h x y c e1 e2
    · exact cellsFrom_inj r n acc hb h
theorem cellsFrom_cell {x:Str} {c:Addr}:∀ (names:List (Str×NameKind)) (h:Heap) (acc:List (Str×Addr)),(cellsFrom h.objs.size names acc).lookup x=some c→acc.lookup x=some c∨(h.objs.size≤c∧(pushCells h names).IsCell c none)
 | [],_,_,e=>.inl e
 | (z,k)::r,h,acc,e=>by
  unfold cellsFrom at e
  unfold pushCells
  split at e
  ·rename_i hk
   rw [if_pos hk]
   have e':(cellsFrom (h.push { cls:=.type "cell",data:=.cell none }).objs.size r ((z,h.objs.size)::acc)).lookup x=some c:=by rw [Heap.size_push]; exact e
   rcases cellsFrom_cell r (h.push { cls:=.type "cell",data:=.cell none }) _ e' with q | ⟨q1,q2⟩
   ·rw [List.lookup_cons] at q
    split at q
    ·cases q
     exact .inr ⟨Nat.le_refl _,_,pushCells_keeps _ _ _ _ (Heap.get?_push_size _ rfl),rfl⟩
    ·exact .inl q
   ·rw [Heap.size_push] at q1
    exact .inr ⟨Nat.le_of_succ_le q1,q2⟩
  ·rename_i hk
   rw [if_neg hk]
   exact cellsFrom_cell r h acc e
theorem newEnv_cells {M : Model} {A : Around} {E : Value → Shared → Prop} {s : Shared} {scope : Scope} {globals : Addr} {cl : List (Str × Addr)} {qual : Str} {outer : Env} {Q : Env → Shared → Prop}
    (hQ : Q { scope := scope, locals := s.heap.objs.size, globals := globals, cells := cellsFrom (s.heap.objs.size + 1) scope.names cl, qual := qual, func := none, code := outer.code, frame := outer.frame, builtins := outer.builtins }
      { s with heap := pushCells (s.heap.push { cls := .type "dict", data := .dict #[] }) scope.names }) :
    wpAny M A (newFunctionEnv scope globals cl [] qual none .none (some outer)) Q E s := by
  simp only [newFunctionEnv, Option.isSome_some, if_true]
  refine wpAny_bind (wpAny_alloc ?_)
  refine wpAny_bind (wpAny_layCells _ (fun name kind cells => by cases hkc : kind == NameKind.cell <;> simp [hkc]) _ _ _ _ ?_)
  rw [show ({ s with heap := s.heap.push { cls := .type "dict", data := .dict #[] } } : Shared).heap.objs.size = s.heap.objs.size + 1 from Heap.size_push ..]
  rw [List.forIn_nil]
  exact wpAny_bind (wpAny_pure (wpAny_pure hQ))
def Cx.block (X:Cx) (scope:Scope) (cl:List (Str×Addr)) (C:Addr) (N':List Str) (s:Shared) (H:Hp) (fp:List Addr) (pn:List (Addr×Obj)):Cx :=
 { X with N:=N',s₀:=s,H₀:=H,env:=compEnvC scope (cellsFrom (C+1) scope.names cl) C X.env,outer:=X.stack,ex:=fp,fn:=fun x=>scope.names.lookup x == some .cell,pn:=pn,xe:=fun _ _=>False }
structure Clos (X:Cx) (scope:Scope) (cl:List (Str×Addr)):Prop where
 is:closureFor scope X.env=pure cl
 sub:∀ x c,cl.lookup x=some c→X.env.cells.lookup x=some c
 has:∀ x,scope.names.lookup x=some .free→∃ c,cl.lookup x=some c
theorem lookup_relabel {env : Env} : ∀ {names : List (Str × NameKind)} {x : Str} {k : NameKind}, names.lookup x = some k →
    (names.map fun (n, k) => if (k == NameKind.free && env.scope.kind == .function && env.kindOf n == some .cell) then (n, NameKind.cell) else (n, k)).lookup x =
      some (if (k == NameKind.free && env.scope.kind == .function && env.kindOf x == some .cell) then .cell else k)
  | [], _, _, h => by simp at h
  | (n, k') :: r, x, k, h => by
    have ih := @lookup_relabel env r x k
    show List.lookup x ((if (k' == NameKind.free && env.scope.kind == .function && env.kindOf n == some .cell) = true then (n, NameKind.cell) else (n, k')) :: _) = _
    cases hx : x == n with
    | true =>
      simp only [List.lookup_cons, hx] at h
      cases h
      have e : x = n := by simpa using hx
      subst e
      split <;> simp [List.lookup_cons]
    | false =>
      simp only [List.lookup_cons, hx] at h
      by_cases hc : (k' == NameKind.free && env.scope.kind == .function && env.kindOf n == some .cell) = true
      · rw [if_pos hc]; simp only [List.lookup_cons, hx]; exact ih h
      · rw [if_neg hc]; simp only [List.lookup_cons, hx]; exact ih h
theorem lookup_relabel_inv {env : Env} : ∀ {names : List (Str × NameKind)} {x : Str} {k : NameKind},
    (names.map fun (n, k) => if (k == NameKind.free && env.scope.kind == .function && env.kindOf n == some .cell) then (n, NameKind.cell) else (n, k)).lookup x = some k →
      ∃ k', names.lookup x = some k' ∧ k = (if (k' == NameKind.free && env.scope.kind == .function && env.kindOf x == some .cell) then .cell else k')
  | names, x, k, h => by
    cases q : names.lookup x with
    | some k' =>
      have := lookup_relabel (env := env) q
      rw [this] at h
      exact ⟨k', rfl, (Option.some.inj h).symm⟩
    | none =>
      exfalso
      induction names with
      | nil => simp at h
      | cons a r ih =>
        obtain ⟨n, k'⟩ := a
        cases hx : x == n with
        | true => simp [List.lookup_cons, hx] at q
        | false =>
          simp only [List.lookup_cons, hx] at q
          have h' : List.lookup x ((if (k' == NameKind.free && env.scope.kind == .function && env.kindOf n == some .cell) = true then (n, NameKind.cell) else (n, k')) :: (r.map fun (n, k) => if (k == NameKind.free && env.scope.kind == .function && env.kindOf n == some .cell) then (n, NameKind.cell) else (n, k))) = some k := h
          by_cases hc : (k' == NameKind.free && env.scope.kind == .function && env.kindOf n == some .cell) = true
          · rw [if_pos hc] at h'; simp only [List.lookup_cons, hx] at h'; exact ih h' q
          · rw [if_neg hc] at h'; simp only [List.lookup_cons, hx] at h'; exact ih h' q
def capσ (cap:List (Option Nat)) (σ:St):St:=cap.map fun o=>o.bind fun j=>(σ[j]?).join
structure CapOk (X:Cx) (scope:Scope) (N':List Str) (cap:List (Option Nat)):Prop where
 len:cap.length=N'.length
 out:∀ (i j:Nat) (x:Str),cap[i]?=some (some j)→N'[i]?=some x→X.N[j]?=some x∧scope.names.lookup x=some .free∧(X.env.kindOf x=some .cell∨X.env.kindOf x=some .free)
section
variable {X:Cx} {pins:List (Addr×Obj)} {σ:St} {H:Hp} {s:Shared} {scope:Scope} {cl:List (Str×Addr)} {N':List Str} {cap:List (Option Nat)} {fp:List Addr}
theorem block_start {h1 : Heap} (I : Inv X pins σ H s) (hkind : scope.kind = .function) (hcell : ∀ y ∈ scope.names, y.2 = .cell → scope.names.lookup y.1 = some .cell) (cs : Clos X scope cl) (co : CapOk X scope N' cap)
    (hf : ∀ b ∈ fp, FpOk X pins H b) (ho : ∀ b ∈ fp, b < s.heap.objs.size)
    (hns : h1.Ns s.heap.objs.size (fun _ => none)) (hk : ∀ b u, s.heap.get? b = some u → h1.get? b = some u)
    (hnew : ∀ x c, (cellsFrom (s.heap.objs.size + 1) scope.names cl).lookup x = some c → cl.lookup x = some c ∨ (s.heap.objs.size + 1 ≤ c ∧ h1.IsCell c none)) (tk : Nat) :
    Inv (X.block scope cl s.heap.objs.size N' s H fp []) [] (capσ cap σ) H { s with heap := h1, toks := tk } := by
  have I1 : Inv X pins σ H { s with heap := h1, toks := tk } := I.kept hk
  have cab : ∀ x c, cl.lookup x = some c → c < s.heap.objs.size := fun x c e => by
    obtain ⟨v, q⟩ := I.cell x c (cs.sub x c e); exact q.lt
  have fr : H s.heap.objs.size = none := I.hok.fresh (Nat.le_refl _)
  have same : ∀ x, scope.names.lookup x = some .free → (cellsFrom (s.heap.objs.size + 1) scope.names cl).lookup x = cl.lookup x := fun x hx =>
    cellsFrom_other _ _ _ fun z => by have := hcell _ z rfl; rw [hx] at this; cases this
  refine ⟨⟨I.ok.mod, hkind, I.ok.glob, I.ok.blt, Nat.le_refl _, cellsFrom_inj _ _ _ (fun x c e => Nat.lt_succ_of_lt (cab x c e)) (fun x y c a b => I.ok.inj x y c (cs.sub _ _ a) (cs.sub _ _ b)), fun x hx => ?_, fun x c z e => ?_, I.ok.hd, I.ok.frames, .inl rfl, fun b hb => ⟨?_, fun x c e => ?_⟩, fun b o e => I.bs b o e,
    Nat.le_trans I.ok.bsz I.sz, fun b o e hb => ?_, fun b hb hb' => ?_, I.stack, I.stkFree⟩, rfl, I.bare, Un.kept hk, ⟨_, hns, fun i x v e1 e2 e3 => ?_⟩, fun x c e => ?_, fr, fun x c e => ?_, fun p hp => ?_, I.hok.kept hk, ?_⟩
  · have hx : (relabel scope X.env).names.lookup x = some .cell ∨ (relabel scope X.env).names.lookup x = some .free := hx
    have key : ∃ k', scope.names.lookup x = some k' ∧ (k' = .free ∨ k' = .cell) := by
      have go : ∀ k, (k = .cell ∨ k = .free) → (relabel scope X.env).names.lookup x = some k → ∃ k', scope.names.lookup x = some k' ∧ (k' = .free ∨ k' = .cell) := by
        intro k hk hx
        obtain ⟨k', e, ek⟩ := lookup_relabel_inv hx
        refine ⟨k', e, ?_⟩
        by_cases z : k' = .free
        · exact .inl z
        · rw [if_neg (by cases k' <;> first | exact absurd rfl z | simp)] at ek
          subst ek
          rcases hk with hk | hk
          · exact .inr hk
          · exact .inl hk
      rcases hx with hx | hx
      · exact go _ (.inl rfl) hx
      · exact go _ (.inr rfl) hx
    obtain ⟨k', e, hk'⟩ := key
    show ∃ c, (cellsFrom (s.heap.objs.size + 1) scope.names cl).lookup x = some c
    rcases hk' with z | z
    · subst z
      rw [same x e]
      exact cs.has x e
    · subst z
      exact cellsFrom_has _ _ _ (PySem.mem_of_lookup e)
  · have z : (scope.names.lookup x == some .cell) = true := z
    have z : scope.names.lookup x = some .cell := eq_of_beq z
    exact Nat.le_of_succ_le (cellsFrom_low _ _ _ (PySem.mem_of_lookup z) e)
  · exact Nat.ne_of_lt (ho b hb)
  · rcases hnew x c e with q | ⟨q, _⟩
    · exact (hf b hb).2.2.2.2.1 x c (cs.sub x c q)
    · have hb1 := ho b hb
      intro z
      rw [z] at q
      exact absurd hb1 (Nat.not_lt_of_le (Nat.le_of_succ_le q))
  · rcases (hf b hb).2.2.2.1 with z | z
    · exact I.ok.noex b o e z
    · have h1 := Heap.lt_size e
      have h2 := I.ok.bsz
      exact absurd (Nat.lt_of_lt_of_le h1 (Nat.le_trans h2 z)) (Nat.lt_irrefl _)
  · rcases List.mem_cons.mp (I.stkSub b hb') with z | z
    · exact (hf b hb).2.1 z
    · exact (hf b hb).2.2.1 z
  · have e1 : N'[i]? = some x := e1
    unfold capσ at e2
    rw [List.getElem?_map] at e2
    cases q : cap[i]? with
    | none => rw [q] at e2; cases e2
    | some oj =>
      rw [q] at e2
      cases oj with
      | none => cases e2
      | some j =>
        have e2' : (σ[j]?).join = some v := Option.some.inj e2
        have e2'' : σ[j]? = some (some v) := by
          cases r : σ[j]? with
          | none => rw [r] at e2'; cases e2'
          | some ov => rw [r] at e2'; cases ov with
            | none => cases e2'
            | some z => cases e2'; rfl
        obtain ⟨o1, o2, o3⟩ := co.out i j x q e1
        obtain ⟨m, hn, hl⟩ := I1.loc
        obtain ⟨u, r, l⟩ := hl j x v o1 e2'' (o3.elim (fun z => .inr (.inl z)) fun z => .inr (.inr z))
        refine ⟨u, r, .inr ⟨?_, ?_⟩⟩
        · show (relabel scope X.env).names.lookup x = some .cell ∨ (relabel scope X.env).names.lookup x = some .free
          rw [show (relabel scope X.env).names.lookup x = _ from lookup_relabel o2]
          split
          · exact .inl rfl
          · exact .inr rfl
        · obtain ⟨c, hc⟩ := cs.has x o2
          have hc' := cs.sub x c hc
          rcases l with ⟨hk', hm⟩ | ⟨_, c2, hc2, hcell2⟩
          · exfalso
            rw [hk'] at o3
            rcases o3 with o3 | o3 <;> cases o3
          · rw [hc'] at hc2; cases hc2
            exact ⟨c, (same x o2).trans hc, hcell2⟩
  · rcases hnew x c e with q | ⟨_, q⟩
    · exact I1.cell x c (cs.sub x c q)
    · exact ⟨none, q⟩
  · rcases hnew x c e with q | ⟨q, _⟩
    · exact I1.freeC x c (cs.sub x c q)
    · exact I.hok.fresh (Nat.le_of_succ_le q)
  · exact absurd (show p ∈ ([] : List (Addr × Obj)) from hp) (by simp)
  · show (capσ cap σ).length = N'.length
    unfold capσ; rw [List.length_map]; exact co.len
end
end L2
namespace L2
open PySem PySem.Spec PyProof.Rows
def tIfs:Option TT→TT
 | none=>fun _ H Q=>Q true H
 | some t=>t
def tCompL (cap:List (Option Nat)) (g:TG) (tc:Option TT) (te:TE) (σ:St) (J:It) (H1:Hp) (Q:V→Hp→Prop):Prop :=
 ∀ D,H1 D=none→∃ W:Nat→Nat→St→Hp→List V→Prop,(∃ m,W 0 m (capσ cap σ) (upd H1 D (.lst [])) []) ∧
  ∀ i m τ H ys,W i m τ H ys→H D=some (.lst ys)∧((J.stop i H∧Q (.ref D) H) ∨
   (J.go i H∧ys.length < sizeLine∧∀ x H',J.yld i H x H'→g x τ H' fun τ2 H2=>tIfs tc τ2 H2 fun b H3 =>
    if b=true then te τ2 H3 fun v H4=>H4 D=some (.lst ys)∧∃ m',m' < m∧W (i+1) m' τ2 (upd H4 D (.lst (ys++[v]))) (ys++[v])
    else ∃ m',m' < m∧W (i+1) m' τ2 H3 ys))
def tComp (cap:List (Option Nat)) (wi:TI) (g:TG) (tc:Option TT) (te:TE):TE:=fun σ H Q=>wi σ H fun J H1=>tCompL cap g tc te σ J H1 Q
def IfsOk (X:Cx) (scope:Scope) (N':List Str) (cl:List (Str×Addr)) (ifs:List Expr):Option TT→Prop
 | none=>ifs=[]
 | some t=>∃ c,ifs=[c]∧∀ C s H fp,PT (X.block scope cl C N' s H fp []) c t
structure CompOk (X:Cx) (scope:Scope) (N':List Str) (cap:List (Option Nat)) (cl:List (Str×Addr)) (tg elt:Expr) (ifs:List Expr) (g:TG) (tc:Option TT) (te:TE):Prop where
 kind:scope.kind=.function
 nocell:∀ y∈scope.names,y.2=.cell→scope.names.lookup y.1=some .cell
 names:∀ y∈scope.names,y.2=.local→scope.names.lookup y.1=some .local
 clos:Clos X scope cl
 capo:CapOk X scope N' cap
 tg:∀ C s H fp,PG (X.block scope cl C N' s H fp []) tg g
 ifs:IfsOk X scope N' cl ifs tc
 elt:∀ C s H fp,PE (X.block scope cl C N' s H fp []) elt te
section
variable {X:Cx} {scope:Scope} {N':List Str} {cap:List (Option Nat)} {cl:List (Str×Addr)} {tg elt iter:Expr} {ifs:List Expr} {g:TG} {tc:Option TT} {te:TE} {pos:Pos}
theorem comp_run {pins : List (Addr × Obj)} {s2 : Shared} {σ : St} {H2 : Hp} {it : Addr} {fp : List Addr} {tn : Nat → Heap → Prop} {J : It} {E : Value → Shared → Prop} {Q : V → Hp → Prop} {RR : Value → Addr → Result → Shared → Prop}
    (hc : X.calm = true) (ck : CompOk X scope N' cap cl tg elt ifs g tc te) (I2 : Inv X pins σ H2 s2) (T : Turn X.prog X.w X.K tg J fp it tn) (st2 : tn 0 s2.heap) (f2 : ∀ b ∈ fp, FpOk X pins H2 b) (h : tCompL cap g tc te σ J H2 Q)
    (hRR : ∀ (D C : Addr) (H' : Hp) (s' : Shared) (m : Str → Option Value), Inv X pins σ H' s' → s'.heap.Ns C m → H' C = none → X.s₀.heap.objs.size ≤ C → C ≠ X.env.locals → C ∉ X.fs → (∀ x c, X.env.cells.lookup x = some c → c ≠ C) → (∀ p ∈ X.pn ++ pins, p.1 ≠ C) → Q (.ref D) H' → RR (.ref D) C (.ok .next) s') :
    wpAny (model X.prog X.w) X.A (newList []) (fun acc s₃ => wpAny (model X.prog X.w) X.A (newFunctionEnv scope X.env.globals cl [] X.env.qual none .none (some X.env)) (fun cenv s₄ =>
      codeAny (model X.prog X.w) X.A (.compStart (.ListComp elt [⟨tg, iter, ifs, 0⟩] scope pos) 0 (.ref it) acc { cenv with scope := relabel scope X.env }) (RR acc cenv.locals) s₄) E s₃) E s2 := by
  refine wpAny_newObj_type ?_
  generalize hH : s2.heap.push { cls := .type "list", dict := none, data := .seq ([] : List Value).toArray } = hh
  have hD : H2 s2.heap.objs.size = none := I2.hok.fresh (Nat.le_refl _)
  have k3 : ∀ b u, s2.heap.get? b = some u → hh.get? b = some u := fun b u e => by rw [← hH]; exact Heap.get?_push_of_some _ e
  have I3 : Inv X pins σ (upd H2 s2.heap.objs.size (.lst [])) { s2 with heap := hh } :=
    I2.laid (t' := s2.toks) k3 (Nat.le_refl _) ⟨Nat.zero_le _, [], 0, .nil, by rw [← hH]; exact Heap.get?_push_size _ rfl⟩
  have f3 : ∀ b ∈ fp, FpOk X pins (upd H2 s2.heap.objs.size (.lst [])) b := fun b hb => by
    obtain ⟨o, e, _⟩ := T.obj _ _ st2 b hb
    exact ⟨by rw [upd_ne (Nat.ne_of_lt (Heap.lt_size e))]; exact (f2 b hb).1, (f2 b hb).2⟩
  have b3 : ∀ b ∈ fp, b < hh.objs.size := fun b hb => by
    obtain ⟨o, e, _⟩ := T.obj _ _ st2 b hb
    exact Heap.lt_size (k3 b o e)
  have st3 : tn 0 hh := T.keep _ _ _ st2 fun b hb o e => k3 b o e
  obtain ⟨W, ⟨m0, w0⟩, turn⟩ := h s2.heap.objs.size hD
  refine newEnv_cells (s := { s2 with heap := hh }) ?_
  have k4 : ∀ b u, hh.get? b = some u → (pushCells (hh.push { cls := .type "dict", data := .dict #[] }) scope.names).get? b = some u := fun b u e => pushCells_keeps _ _ b u (Heap.get?_push_of_some _ e)
  have hns' : (pushCells (hh.push { cls := .type "dict", data := .dict #[] }) scope.names).Ns hh.objs.size (fun _ => none) := (Heap.Ns.new hh (.type "dict")).keeps (pushCells_keeps _ _)
  have hnew : ∀ x c, (cellsFrom (hh.objs.size + 1) scope.names cl).lookup x = some c → cl.lookup x = some c ∨ (hh.objs.size + 1 ≤ c ∧ (pushCells (hh.push { cls := .type "dict", data := .dict #[] }) scope.names).IsCell c none) := fun x c e => by
    have := cellsFrom_cell (x := x) (c := c) scope.names (hh.push { cls := .type "dict", data := .dict #[] }) cl (by rw [Heap.size_push]; exact e)
    rw [Heap.size_push] at this
    exact this
  generalize hh1 : pushCells (hh.push { cls := .type "dict", data := .dict #[] }) scope.names = h₁ at k4 hns' hnew
  have st4 : tn 0 h₁ := T.keep _ _ _ st3 fun b hb o e => k4 b o e
  have I4 := block_start (tk := s2.toks) I3 ck.kind ck.nocell ck.clos ck.capo f3 b3 hns' k4 hnew
  generalize hX : X.block scope cl hh.objs.size N' { s2 with heap := hh } (upd H2 s2.heap.objs.size (.lst [])) fp [] = X' at I4
  have xprog : X'.prog = X.prog := by rw [← hX]; rfl
  have xw : X'.w = X.w := by rw [← hX]; rfl
  have xK : X'.K = X.K := by rw [← hX]; rfl
  have xA : X'.A = X.A := by rw [← hX]; rfl
  have xc : X'.calm = true := by rw [← hX]; exact hc
  have xenv : X'.env = compEnvC scope (cellsFrom (hh.objs.size + 1) scope.names cl) hh.objs.size X.env := by rw [← hX]; rfl
  have xxe : X'.xe = fun _ _ => False := by rw [← hX]; rfl
  have xfp : ∀ {H' : Hp}, (∀ b ∈ fp, H' b = none) → ∀ b ∈ fp, FpOk X' [] H' b := fun {H'} hn b hb => by
    have z := I4.ok.exf b (by rw [← hX]; exact hb)
    exact ⟨hn b hb, z.1, I4.ok.exfs b (by rw [← hX]; exact hb), .inl (by rw [← hX]; exact hb), z.2, fun p hp => absurd (show p ∈ ([] : List (Addr × Obj)) by rw [← hX] at hp; exact hp) (by simp)⟩
  have ctg := ck.tg hh.objs.size { s2 with heap := hh } (upd H2 s2.heap.objs.size (.lst [])) fp
  have cifs := ck.ifs
  have celt := ck.elt hh.objs.size { s2 with heap := hh } (upd H2 s2.heap.objs.size (.lst [])) fp
  rw [hX] at ctg celt
  have loop : ∀ s4 : Shared, Inv X' [] (capσ cap σ) (upd H2 s2.heap.objs.size (.lst [])) s4 → tn 0 s4.heap →
      codeAny (model X.prog X.w) X.A (.compLoop (.ListComp elt [⟨tg, iter, ifs, 0⟩] scope pos) 0 (.ref it) (.ref s2.heap.objs.size) (compEnvC scope (cellsFrom (hh.objs.size + 1) scope.names cl) hh.objs.size X.env)) (RR (.ref s2.heap.objs.size) hh.objs.size) s4 := by
    intro s4 I4 st4
    refine compLoop_gen (fun n s' => ∃ i τ H' ys, Inv X' [] τ H' s' ∧ tn i s'.heap ∧ (∀ b ∈ fp, H' b = none) ∧ W i n τ H' ys) ?_ m0 ⟨0, _, _, [], I4, st4, fun b hb => (f3 b hb).1, w0⟩
    rintro n s5 ⟨i, τ, H5, ys, I5, st5, fr5, w5⟩
    obtain ⟨hl5, stop | ⟨go, hz, step⟩⟩ := turn i n τ H5 ys w5
    · have td := T.done X' xprog xw xK xc i [] s5 τ H5 (fun _ _ => False) I5 (xfp fr5) st5 stop.1
      rw [xA] at td
      refine thn td fun r s6 ⟨hr, I6⟩ => ?_
      subst hr
      have base := I6.base
      have os := I6.os
      have hok := I6.hok
      have hfree := I6.free
      obtain ⟨m, hm, _⟩ := I6.loc
      rw [xenv] at hfree hm
      rw [← hX] at base os hok
      refine hRR _ _ H5 s6 m (I3.call' (ch := fp) os base hok I6.bare fun b hb => ⟨(f3 b hb).2.2.2.1, (f3 b hb).2.1, (f3 b hb).2.2.2.2.1, (f3 b hb).2.2.2.2.2⟩) hm hfree I3.sz (Nat.ne_of_gt I3.lt) (I3.nofs (Nat.le_refl _)) (fun x c e z => ?_) (fun p hp z => ?_) stop.2
      · obtain ⟨v, q⟩ := I3.cell x c e
        exact absurd q.lt (by rw [z]; exact Nat.lt_irrefl _)
      · exact absurd (Heap.lt_size (I3.pin p hp).1) (by rw [z]; exact Nat.lt_irrefl _)
    · have ti := T.item X' xprog xw xK xc i [] s5 τ H5 (fun _ _ => False) I5 (xfp fr5) st5 go
      rw [xA] at ti
      refine thn ti fun r s6 ⟨u, hr, h6⟩ => ?_
      subst hr
      refine thn h6 fun _ s7 ⟨x, H7, I7, r7, y7, st7, fr7⟩ => ?_
      have I7' := I7.pinned (xfp fr7) (T.obj _ _ st7)
      have ga := ctg _ s7 τ H7 x u _ I7' r7 (step x H7 y7)
      rw [xprog, xw, xA, xxe, xenv] at ga
      refine thn ga fun _ s8 ⟨τ8, H8, I8, q8⟩ => ?_
      have fin : ∀ {τ9 : St} {H9 : Hp} {s9 : Shared} {ys9 : List V}, Inv X' ([] ++ pinsAt fp s7.heap) τ9 H9 s9 → (∃ m', m' < n ∧ W (i + 1) m' τ9 H9 ys9) → ∃ m', m' < n ∧ ∃ i τ H' ys, Inv X' [] τ H' s9 ∧ tn i s9.heap ∧ (∀ b ∈ fp, H' b = none) ∧ W i m' τ H' ys := fun {τ9 H9 s9 ys9} I9 w9 => by
        obtain ⟨m', hm, w9⟩ := w9
        refine ⟨m', hm, i + 1, τ9, H9, ys9, I9.unpinned, T.keep _ _ _ st7 fun b hb o e => (I9.pin (b, o) (List.mem_append_right _ (List.mem_append_right _ (mem_pinsAt hb e)))).1, fun b hb => ?_, w9⟩
        obtain ⟨o, e, d⟩ := T.obj _ _ st7 b hb
        exact (I9.pin (b, o) (List.mem_append_right _ (List.mem_append_right _ (mem_pinsAt hb e)))).2.1
      have rest : ∀ b s9, TP X' ([] ++ pinsAt fp s7.heap) τ8 (fun b H3 =>
        if b = true then te τ8 H3 fun v H4 => H4 s2.heap.objs.size = some (.lst ys) ∧ ∃ m', m' < n ∧ W (i + 1) m' τ8 (upd H4 s2.heap.objs.size (.lst (ys ++ [v]))) (ys ++ [v])
        else ∃ m', m' < n ∧ W (i + 1) m' τ8 H3 ys) b s9 → (if b = true then wpAny (model X.prog X.w) X.A (eval elt (compEnvC scope (cellsFrom (hh.objs.size + 1) scope.names cl) hh.objs.size X.env)) (fun x s₄ =>
              wpAny (model X.prog X.w) X.A (call (.builtin "list.append") [.ref s2.heap.objs.size, x]) (fun _ s₅ => ∃ m, m < n ∧ ∃ i τ H' ys, Inv X' [] τ H' s₅ ∧ tn i s₅.heap ∧ (∀ b ∈ fp, H' b = none) ∧ W i m τ H' ys) (fun _ _ => False) s₄) (fun _ _ => False) s9
            else ∃ m, m < n ∧ ∃ i τ H' ys, Inv X' [] τ H' s9 ∧ tn i s9.heap ∧ (∀ b ∈ fp, H' b = none) ∧ W i m τ H' ys) := by
        rintro b s9 ⟨H9, I9, q9⟩
        cases b with
        | false => rw [if_neg (by simp)] at q9 ⊢; exact fin I9 q9
        | true =>
          rw [if_pos rfl] at q9 ⊢
          have ge := celt _ s9 τ8 H9 _ I9 q9
          rw [xprog, xw, xA, xxe, xenv] at ge
          refine thn ge fun v s10 ⟨y, H10, I10, r10, l10, w10⟩ => ?_
          have ap := mt_append (X := X') _ s10 τ8 H10 (.ref s2.heap.objs.size) [y] (.ref s2.heap.objs.size) [v] (fun _ H' => ∃ m', m' < n ∧ W (i + 1) m' τ8 H' (ys ++ [y])) I10 rfl (.cons r10 .nil) ⟨_, ys, y, rfl, rfl, l10, hz, w10⟩
          rw [xprog, xw, xA, xxe] at ap
          exact thn ap fun _ s11 ⟨_, H11, I11, _, w11⟩ => fin I11 w11
      cases tc with
      | none =>
        have ei : ifs = [] := cifs
        subst ei
        exact wpAny_tests_nil (rest true s8 ⟨H8, I8, q8⟩)
      | some t =>
        obtain ⟨c, ei, pt⟩ := cifs
        subst ei
        have pt := pt hh.objs.size { s2 with heap := hh } (upd H2 s2.heap.objs.size (.lst [])) fp
        rw [hX] at pt
        refine wpAny_tests_one ?_
        have gt := pt _ s8 τ8 H8 _ I8 q8
        rw [xprog, xw, xA, xxe, xenv] at gt
        exact thn gt fun b s9 q => rest b s9 q
  have goal4 := loop _ I4 st4
  exact codeAny_compStart_list goal4 (T.self _ 0 _ _ _ st4 goal4)
end
end L2
namespace L2
open PySem PySem.Spec PyProof.Rows
section
variable {X:Cx} {scope:Scope} {N':List Str} {cap:List (Option Nat)} {cl:List (Str×Addr)} {tg elt iter:Expr} {ifs:List Expr} {g:TG} {tc:Option TT} {te:TE} {wi:TI} {pos:Pos}
theorem pe_comp (hc : X.calm = true) (hi : PI X tg iter wi) (ck : CompOk X scope N' cap cl tg elt ifs g tc te) (hs : ∀ x, foldedSetIterable iter X.env x = pure x := by intro _; rfl) :
    PE X (.ListComp elt [⟨tg, iter, ifs, 0⟩] scope pos) (tComp cap wi g tc te) := by
  intro pins s σ H Q I h
  rw [eval_ListComp]
  refine wpAny_comprehension_free (use := none) rfl hs ck.clos.is ck.kind ck.names (thn (hi pins s σ H _ I h) fun v s1 h1 => thn h1 fun itv s2 h2 => ?_)
  obtain ⟨it, fp, tn, J, H2, e, I2, T, st2, f2, hC⟩ := h2
  subst e
  refine comp_run (Q := Q) (RR := fun acc C => compPost (model X.prog X.w) X.A X.xe none (EP X pins σ Q) acc C) hc ck I2 T st2 f2 hC ?_
  intro D C H' s' m I' hm hfr hC1 hC2 hC3 hC4 hC5 q
  refine ⟨m, hm, fun h' hsb => ?_⟩
  exact ⟨.ref D, H', I'.turned (t' := s'.toks) (fun b o hb e => hsb.extBut b o hb e) hfr (Ne.symm (Ne.symm hC2)) (.inr hC1) hC4 hC5, rfl, q⟩
theorem ps_comp {y : Str} {py spos : Pos} {i : Nat} (hc : X.calm = true) (hN : X.N.Nodup) (hy : X.N[i]? = some y) (hk : X.env.kindOf y = some .local)
    (hsw : swapsWith (.ListComp elt [⟨tg, iter, ifs, 0⟩] scope pos) (some (.Name y py)) spos.line X.env = pure true)
    (hi : PI X tg iter wi) (ck : CompOk X scope N' cap cl tg elt ifs g tc te) (hs : ∀ x, foldedSetIterable iter X.env x = pure x := by intro _; rfl) :
    PS X (.Assign [.Name y py] (.ListComp elt [⟨tg, iter, ifs, 0⟩] scope pos) spos) (fun D σ H => tComp cap wi g tc te σ H fun v H' => D.nx (σ.set i (some v)) H') := by
  intro pins s σ H D I h
  rw [exec_Assign_Name_used _ _ _ _ hsw]
  refine wpAny_bind (wpAny_standAt (wpAny_bind ?_))
  show wpAny _ X.A (do let _ ← comprehension (.ListComp elt [⟨tg, iter, ifs, 0⟩] scope pos) scope X.env _ (newList []) false (eval iter X.env) (some (assign (.Name y py) X.env))) _ _ s
  refine wpAny_bind (wpAny_mono (wpAny_comprehension_free (use := some (assign (.Name y py) X.env)) (Q := fun _ s' => SP X pins D .next s') rfl hs ck.clos.is ck.kind ck.names (thn (hi pins s σ H _ I h) fun v s1 h1 => thn h1 fun itv s2 h2 => ?_)) (fun _ s' hq => wpAny_pure (wpAny_pure hq)) fun _ _ e => e)
  obtain ⟨it, fp, tn, J, H2, e, I2, T, st2, f2, hC⟩ := h2
  subst e
  refine comp_run (Q := fun v H' => D.nx (σ.set i (some v)) H') (RR := fun acc C => compPost (model X.prog X.w) X.A X.xe (some (assign (.Name y py) X.env)) (fun _ s' => SP X pins D .next s') acc C) hc ck I2 T st2 f2 hC ?_
  intro D' C H' s' m I' hm hfr hC1 hC2 hC3 hC4 hC5 q
  show wpAny _ X.A (assign (.Name y py) X.env (.ref D')) _ _ s'
  obtain ⟨o, es, ep, ho, hd, hrest⟩ := hm
  have Ip : Inv X (pins ++ [(C, o)]) σ H' s' := I'.pins_of fun p hp => (List.mem_append.mp hp).elim (fun z => I'.pin p (List.mem_append_right _ z)) fun z => by
    have e : p = (C, o) := by simpa using z
    subst e
    exact ⟨ho, hfr, hC2, hC3, fun v z => by rw [hd] at z; cases z⟩
  have st := pg_name (pos := py) hN hy (.inl hk) (.inr hk) _ s' σ H' (.ref D') (.ref D') (fun σ' H' => D.nx σ' H') Ip rfl q
  refine thn st fun _ s'' ⟨σ'', H'', I'', q''⟩ => ?_
  have pc := I''.pin (C, o) (by simp)
  refine ⟨m, ⟨o, es, ep, pc.1, hd, hrest⟩, fun h' hsb => ?_⟩
  exact ⟨σ'', H'', I''.unpinned.turned (t' := s''.toks) (fun b o hb e => hsb.extBut b o hb e) pc.2.1 hC2 (.inr hC1) hC4 hC5, q''⟩
end
end L2
end
section
set_option Elab.async false
set_option linter.all false
set_option maxRecDepth 100000
set_option maxHeartbeats 4000000
namespace L2
open PySem PySem.Spec PyProof.Rows
section
variable {prog:Program} {w:World} {A:Around} {E:Value→Shared→Prop} {s:Shared}
def NextI (prog:Program) (w:World) (A:Around) (s:Shared) (it:Addr) (x:Value) (after:Heap→Prop):Prop :=
 ∀ (Q:Value→Shared→Prop) (E:Value→Shared→Prop),(∀ h',after h'→Heap.SameBut it s.heap h'→Q x { s with heap:=h' })→wpAny (model prog w) A (Builtin.SmallTypes.nextOf (.ref it)) Q E s
def NextE (prog:Program) (w:World) (A:Around) (s:Shared) (it:Addr):Prop :=
 ∀ (Q:Value→Shared→Prop) (E:Value→Shared→Prop),(∀ h' e,Heap.ExtBut it s.heap h'→(∃ o,h'.get? e=some o∧o.cls=.type "StopIteration")→E (.ref e) { s with heap:=h' }) →
  wpAny (model prog w) A (Builtin.SmallTypes.nextOf (.ref it)) Q E s
theorem nextI_list {it l : Addr} {i : Nat} {items : Array Value} {x : Value} (hit : s.heap.IsListIter it l i) (hl : s.heap.IsList l items) (hx : items[i]? = some x) :
    NextI prog w A s it x (fun h => h.IsListIter it l (i + 1)) := fun Q E hq => wpAny_nextOf_list_item hit hl hx hq
theorem nextE_list {it l : Addr} {i : Nat} {items : Array Value} (hh : A.handled = none) (hit : s.heap.IsListIter it l i) (hl : s.heap.IsList l items) (hx : items[i]? = none) :
    NextE prog w A s it := fun Q E hq => wpAny_nextOf_list_end hh hit hl hx hq
theorem nextI_tup {it t : Addr} {i : Nat} {items : Array Value} {x : Value} (hit : s.heap.IsTupleIter it t i) (ht : s.heap.IsTuple t items) (hx : items[i]? = some x) :
    NextI prog w A s it x (fun h => h.IsTupleIter it t (i + 1)) := by
  intro Q E hq
  obtain ⟨o, e1, e2, e3⟩ := id hit
  obtain ⟨ot, t1, _, nt, t2⟩ := ht
  unfold Builtin.SmallTypes.nextOf
  refine wpAny_bind (wpAny_callSpecial?_slot (name := Str.ofString "__next__") hit.typeIs F.slot_tuple_iterator_next ?_)
  refine wpAny_call_entry F.slot_tuple_iterator_next hit.typeIs F.entry_tuple_iterator_next ?_ (F.args_tuple_iterator_next_1 _)
  show wpAny _ _ (field (.ref it) 0 >>= _) _ _ s
  refine wpAny_bind (wpAny_field e1 e3 (x := .ref t) rfl ?_)
  show wpAny _ _ (if (Value.ref t == Value.none) = true then _ else _) _ _ s
  rw [if_neg (by intro z; cases z)]
  refine wpAny_bind (wpAny_field e1 e3 (x := .int i 0) rfl (wpAny_bind (wpAny_seqItems t1 t2 ?_)))
  simp only [Int.toNat_natCast, hx]
  refine wpAny_bind (wpAny_setField e1 e3 (by simp) (wpAny_pure ⟨x, rfl, wpAny_pure (hq _ ⟨_, Heap.get?_update_self _ e1 (Obj.isFreed_of_fields (Obj.data_mapFields e3 _)), (Obj.cls_mapFields ..).trans e2, ?_⟩ (Heap.SameBut.update ..))⟩))
  rw [Obj.data_mapFields e3]
  simp [rawInt]
theorem nextE_tup {it t:Addr} {i:Nat} {items:Array Value} (hh:A.handled=none) (hit:s.heap.IsTupleIter it t i) (ht:s.heap.IsTuple t items) (hx:items[i]?=none):NextE prog w A s it:=by
 intro Q E hq
 obtain ⟨o,e1,e2,e3⟩:=id hit
 obtain ⟨ot,t1,_,nt,t2⟩:=ht
 unfold Builtin.SmallTypes.nextOf
 refine wpAny_bind (wpAny_callSpecial?_slot (name:=Str.ofString "__next__") hit.typeIs F.slot_tuple_iterator_next ?_)
 refine wpAny_call_entry F.slot_tuple_iterator_next hit.typeIs F.entry_tuple_iterator_next ?_ (F.args_tuple_iterator_next_1 _)
 show wpAny _ _ (field (.ref it) 0 >>= _) _ _ s
 refine wpAny_bind (wpAny_field e1 e3 (x:=.ref t) rfl ?_)
 show wpAny _ _ (if (Value.ref t == Value.none)=true then _ else _) _ _ s
 rw [if_neg (by intro z; cases z)]
 refine wpAny_bind (wpAny_field e1 e3 (x:=.int i 0) rfl (wpAny_bind (wpAny_seqItems t1 t2 ?_)))
 simp only [Int.toNat_natCast,hx]
 refine wpAny_bind (wpAny_rule (wpAny_bind (wpAny_setField e1 e3 (by simp) ?_)))
 show wpAny _ _ (newExc (.type "StopIteration") [] >>= _) _ _ _
 refine wpAny_bind ?_
 simp only [newExc,newTuple]
 refine wpAny_bind (wpAny_newObj_type ?_ (by size_fits))
 refine wpAny_bind (m:=firstArgMember _ _) (wpAny_of_eq (a:=Value.none) (by first | rfl | (simp only [firstArgMember]; rfl)) (wpAny_newObj_type ?_ (by size_fits)))
 simp only [raiseNew]
 refine wpAny_bind (wpAny_handled ?_)
 first | rw [show A.in1.handled=none from hh] | rw [hh]
 exact wpAny_bind (wpAny_pure (wpAny_throw (hq _ _ (((Heap.SameBut.update ..).extBut.push _).push _) ⟨_,Heap.get?_push_size _ rfl,rfl⟩)))
theorem enum_item {e it : Addr} {i : Nat} {x old : Value} {st : Heap → Prop} {Q : Option Value → Shared → Prop} (he : IsEnum s.heap e it i old) (hne : e ≠ it) (hlt : it < s.heap.objs.size) (hn : NextI prog w A.in1 s it x st)
    (hkeep : ∀ h h', st h → (∀ o, h.get? it = some o → h'.get? it = some o) → st h')
    (hQ : ∀ h', IsEnumOut h' e it ((i : Int) + 1) x s.heap.objs.size → st h' → h'.get? s.heap.objs.size = some { cls := .type "tuple", data := .seq #[.int i s.toks, x] } →
      (∀ b o, b ≠ e → b ≠ it → s.heap.get? b = some o → h'.get? b = some o) → Q (some (.ref s.heap.objs.size)) { s with heap := h', toks := s.toks + 1 }) :
    wpAny (model prog w) A (pyNext (.ref e)) Q E s := by
  have hT : s.TypeIs (.ref e) "enumerate" := ⟨_, he, rfl⟩
  unfold pyNext
  refine wpAny_bind (wpAny_attempt (wpAny_callSpecial?_slot (name := Str.ofString "__next__") hT F.slot_enumerate_next
    (wpAny_call_entry F.slot_enumerate_next hT F.entry_enumerate_next ?_ (F.args_enumerate_next_1 _))))
  obtain ⟨hp, g, d, tk, os⟩ := s
  show wpAny _ _ (field (.ref e) 2 >>= _) _ _ _
  refine wpAny_bind (wpAny_field he rfl (x := .ref it) rfl (wpAny_bind (hn _ _ fun k1 st1 sb1 => ?_)))
  have sb1 : Heap.SameBut it hp k1 := sb1
  have a1 : IsEnum k1 e it i old := (sb1.2 e hne).trans he
  refine wpAny_bind (wpAny_field (s := ⟨k1, g, d, tk, os⟩) a1 rfl (x := rawInt i) rfl ?_)
  refine wpAny_bind (wpAny_field (s := ⟨k1, g, d, tk, os⟩) a1 rfl (x := .none) rfl ?_)
  refine wpAny_bind (wpAny_mkInt (s := ⟨k1, g, d, tk, os⟩) ?_)
  refine wpAny_bind (wpAny_setField_rec (s := ⟨k1, g, d, tk + 1, os⟩) a1 (by simp) fun k2 a2 sb2 => ?_)
  have sb2 : Heap.SameBut e k1 k2 := sb2
  have a2 : IsEnum k2 e it ((i : Int) + 1) old := a2
  refine wpAny_bind (wpAny_setField_rec (s := ⟨k2, g, d, tk + 1, os⟩) a2 (by simp) fun k3 a3 sb3 => ?_)
  have sb3 : Heap.SameBut e k2 k3 := sb3
  have a3 : IsEnum k3 e it ((i : Int) + 1) old := a3
  refine wpAny_bind (wpAny_newTuple (s := ⟨k3, g, d, tk + 1, os⟩) ?_)
  have sz : k3.objs.size = hp.objs.size := by rw [sb3.1, sb2.1, sb1.1]
  have el : e < hp.objs.size := Heap.lt_size he
  have tne : hp.objs.size ≠ e := Nat.ne_of_gt el
  generalize hk4 : k3.push { cls := .type "tuple", data := .seq #[.int i tk, x] } = k4
  have a4 : IsEnum k4 e it ((i : Int) + 1) old := by rw [← hk4]; exact Heap.get?_push_of_some _ a3
  have t4 : k4.get? hp.objs.size = some { cls := .type "tuple", data := .seq #[.int i tk, x] } := by rw [← hk4, ← sz]; exact Heap.get?_push_size _ rfl
  have up : ∀ b o, b ≠ e → k1.get? b = some o → k4.get? b = some o := fun b o hb q => by rw [← hk4]; exact Heap.get?_push_of_some _ (sb3.extBut b o hb (sb2.extBut b o hb q))
  dsimp only
  rw [sz]
  refine wpAny_bind ?_
  unfold Builtin.SmallTypes.ownedTupleIsFree
  refine wpAny_bind (wpAny_field (s := ⟨k4, g, d, tk + 1, os⟩) a4 rfl (x := .none) rfl (wpAny_pure ?_))
  simp only [if_true]
  refine wpAny_bind (wpAny_rule (wpAny_bind (wpAny_field (s := ⟨k4, g, d, tk + 1, os⟩) a4 rfl (x := old) rfl ?_)))
  refine wpAny_bind (wpAny_setField_rec (s := ⟨k4, g, d, tk + 1, os⟩) a4 (by simp) fun k5 a5 sb5 => ?_)
  have sb5 : Heap.SameBut e k4 k5 := sb5
  have a5 : IsEnum k5 e it ((i : Int) + 1) x := a5
  refine wpAny_bind ?_
  unfold Builtin.SmallTypes.ownedTupleHandOut
  refine wpAny_bind (wpAny_setField_rec (s := ⟨k5, g, d, tk + 1, os⟩) a5 (by simp) fun k6 a6 sb6 => ?_)
  have sb6 : Heap.SameBut e k5 k6 := sb6
  have a6 : IsEnumOut k6 e it ((i : Int) + 1) x hp.objs.size := a6
  refine wpAny_setField_rec (s := ⟨k6, g, d, tk + 1, os⟩) a6 (by simp) fun k7 a7 sb7 => ?_
  have sb7 : Heap.SameBut e k6 k7 := sb7
  have a7 : IsEnumOut k7 e it ((i : Int) + 1) x hp.objs.size := a7
  have up7 : ∀ b o, b ≠ e → k4.get? b = some o → k7.get? b = some o := fun b o hb q => sb7.extBut b o hb (sb6.extBut b o hb (sb5.extBut b o hb q))
  refine wpAny_bind (wpAny_letGo (wpAny_pure ⟨_, rfl, wpAny_pure (hQ k7 a7 ?_ (up7 _ _ tne t4) ?_)⟩))
  · exact hkeep k1 k7 st1 fun o q => up7 _ _ (Ne.symm hne) (up _ _ (Ne.symm hne) q)
  · intro b o hb1 hb2 q
    exact up7 b o hb1 (up b o hb1 (sb1.extBut b o hb2 q))
end
theorem push_get_ne {h:Heap} {o:Obj} {b:Addr} (hb:b≠h.objs.size):(h.push o).get? b=h.get? b:=Heap.get?_push_ne h b o hb
theorem Inv.turnedL {X:Cx} {pins:List (Addr×Obj)} {σ:St} {H:Hp} {s:Shared} {h':Heap} {t':Nat} {ch:List Addr} (I:Inv X pins σ H s) (k:∀ b o,b∉ch→s.heap.get? b=some o→h'.get? b=some o) (hf:∀ b∈ch,FpOk X pins H b):Inv X pins σ H { s with heap:=h',toks:=t' }:=by
 have nit:∀ b u,H b=some u→b∉ch:=fun b u e z=>by rw [(hf b z).1] at e; cases e
 refine I.step (g':=s.gens) (d':=s.drawn) (ch:=ch) (fun b hb=>⟨(hf b hb).2.2.2.1,(hf b hb).2.1,(hf b hb).2.2.2.2.1,(hf b hb).2.2.2.2.2⟩) (fun b o _ _ hc e _=>k b o hc e) (fun b o _ _ hc e _=>⟨o.slots,k b o hc e⟩) (fun _ _ _ _ n=>n)
  (fun b o hc e=>⟨o,k b o hc e⟩) (fun _ _ e=>e) (fun _ _ _ e=>e) (fun b ps e=>⟨#[],by rw [e]; simp⟩) (fun m hm=>?_) (fun b u e=>?_) I.bare
 ·obtain ⟨o,es,ep,ho,r⟩:=hm
  exact ⟨o,es,ep,k _ o (fun z=>(hf _ z).2.1 rfl) ho,r⟩
 ·refine (I.hok b u e).stay (fun c v hc q=>k c v ?_ q) (fun _ q=>q) fun _ _ q=>q
  rcases hc with z | z
  ·rw [z]; exact nit b u e
  ·exact nit c _ z
def SqB (K:PySem.W.Frag) (H:Hp) (l:Bool) (a:Addr) (xs:List V):Prop:=if l=true then SqL K H a xs else SqT K H a xs
def IsIt (l:Bool) (h:Heap) (it a:Addr) (i:Nat):Prop:=if l=true then h.IsListIter it a i else h.IsTupleIter it a i
theorem IsIt.at {l:Bool} {h h':Heap} {it a:Addr} {i:Nat} (x:IsIt l h it a i) (e:∀ o,h.get? it=some o→h'.get? it=some o):IsIt l h' it a i:=by
 cases l with
 | true=>exact Heap.IsListIter.at (show h.IsListIter it a i from x) e
 | false=>exact Heap.IsTupleIter.at (show h.IsTupleIter it a i from x) e
theorem IsIt.obj {l:Bool} {h:Heap} {it a:Addr} {i:Nat} (x:IsIt l h it a i):∃ o,h.get? it=some o∧o.data=.fields #[.ref a,.int i 0]:=by
 cases l with
 | true=>obtain ⟨o,e,_,d⟩:=(show h.IsListIter it a i from x); exact ⟨o,e,d⟩
 | false=>obtain ⟨o,e,_,d⟩:=(show h.IsTupleIter it a i from x); exact ⟨o,e,d⟩
end L2
end
section
set_option Elab.async false
set_option linter.all false
set_option maxRecDepth 100000
set_option maxHeartbeats 4000000
namespace L2
open PySem PySem.Spec PyProof.Rows
section
variable {prog:Program} {w:World} {A:Around} {E:Value→Shared→Prop} {s:Shared}
structure ZA (z ti to i j:Addr):Prop where
 tz:ti≠z
 oz:to≠z
 iz:i≠z
 jz:j≠z
 tt:ti≠to
 di:ti≠i
 dj:ti≠j
 oi:to≠i
 oj:to≠j
 ij:i≠j
theorem zip_item {z ti to i j : Addr} {x y p q : Value} {st1 st2 : Heap → Prop} {Q : Option Value → Shared → Prop} (D : ZA z ti to i j) (zz : IsZip s.heap z ti to .none) (yi : IsPair s.heap ti (.ref i) (.ref j)) (yo : IsPair s.heap to p q)
    (n1 : ∀ h', (∀ b o, b ≠ z → s.heap.get? b = some o → h'.get? b = some o) → NextI prog w A.in1 { s with heap := h' } i x st1)
    (n2 : ∀ h', (∀ b o, b ≠ z → b ≠ to → b ≠ i → s.heap.get? b = some o → h'.get? b = some o) → NextI prog w A.in1 { s with heap := h' } j y st2)
    (k1 : ∀ h h', st1 h → (∀ o, h.get? i = some o → h'.get? i = some o) → st1 h') (k2 : ∀ h h', st2 h → (∀ o, h.get? j = some o → h'.get? j = some o) → st2 h')
    (hQ : ∀ h', IsZip h' z ti to (rawInt s.heap.objs.size) → IsPair h' to x y → st1 h' → st2 h' → h'.get? s.heap.objs.size = some { cls := .type "tuple", data := .seq #[x, y] } →
      (∀ b o, b ≠ z → b ≠ to → b ≠ i → b ≠ j → s.heap.get? b = some o → h'.get? b = some o) → Q (some (.ref s.heap.objs.size)) { s with heap := h' }) :
    wpAny (model prog w) A (pyNext (.ref z)) Q E s := by
  have hT : s.TypeIs (.ref z) "zip" := ⟨_, zz, rfl⟩
  obtain ⟨hp, g, d, tk, os⟩ := s
  unfold pyNext
  refine wpAny_bind (wpAny_attempt (wpAny_callSpecial?_slot (name := Str.ofString "__next__") hT F.slot_zip_next (wpAny_call_entry F.slot_zip_next hT F.entry_zip_next ?_ (F.args_zip_next_1 _))))
  show wpAny _ _ (field (.ref z) 2 >>= _) _ _ _
  refine wpAny_bind (wpAny_field zz rfl (x := .bool false) rfl ?_)
  show wpAny _ _ (field (.ref z) 3 >>= _) _ _ _
  refine wpAny_bind (wpAny_field zz rfl (x := .ref ti) rfl ?_)
  refine wpAny_bind (wpAny_seqItems yi rfl ?_)
  show wpAny _ _ (Builtin.SmallTypes.ownedTupleIsFree (.ref z) >>= _) _ _ _
  refine wpAny_bind ?_
  unfold Builtin.SmallTypes.ownedTupleIsFree
  refine wpAny_bind (wpAny_field zz rfl (x := .none) rfl (wpAny_pure ?_))
  simp only [if_true]
  refine wpAny_bind (wpAny_rule (wpAny_bind (wpAny_field zz rfl (x := .ref to) rfl ?_)))
  refine wpAny_bind (wpAny_setField_rec zz (by simp) fun e1 z1 s1 => ?_)
  have s1 : Heap.SameBut z hp e1 := s1
  replace z1 : IsZip e1 z ti to .ellipsis := z1
  refine wpAny_bind ?_
  simp only [List.zipIdx_cons, List.zipIdx_nil, List.forIn_cons, List.forIn_nil]
  refine wpAny_bind (wpAny_bind (wpAny_onRaise ?_))
  show wpAny _ _ (Builtin.SmallTypes.nextOf (.ref i) >>= _) _ _ _
  refine wpAny_bind (n1 e1 (fun b o hb => s1.extBut b o hb) _ _ fun e2 a2 s2 => wpAny_pure ?_)
  have s2 : Heap.SameBut i e1 e2 := s2
  have o2 : IsPair e2 to p q := s2.extBut _ _ D.oi (s1.extBut _ _ D.oz yo)
  refine wpAny_bind (wpAny_seqItems o2 rfl ?_)
  refine wpAny_bind (wpAny_updateSeq_pair (s := ⟨e2, g, d, tk, os⟩) o2 fun e3 o3 s3 => ?_)
  have s3 : Heap.SameBut to e2 e3 := s3
  replace o3 : IsPair e3 to x q := o3
  refine wpAny_bind (wpAny_letGo (wpAny_pure ?_))
  refine wpAny_bind (wpAny_bind (wpAny_onRaise ?_))
  show wpAny _ _ (Builtin.SmallTypes.nextOf (.ref j) >>= _) _ _ _
  refine wpAny_bind (n2 e3 (fun b o b1 b2 b3 u => s3.extBut b o b2 (s2.extBut b o b3 (s1.extBut b o b1 u))) _ _ fun e4 a4 s4 => wpAny_pure ?_)
  have s4 : Heap.SameBut j e3 e4 := s4
  have o4 : IsPair e4 to x q := s4.extBut _ _ D.oj o3
  refine wpAny_bind (wpAny_seqItems o4 rfl ?_)
  refine wpAny_bind (wpAny_updateSeq_pair (s := ⟨e4, g, d, tk, os⟩) o4 fun e5 o5 s5 => ?_)
  have s5 : Heap.SameBut to e4 e5 := s5
  replace o5 : IsPair e5 to x y := o5
  refine wpAny_bind (wpAny_letGo (wpAny_pure (wpAny_pure ?_)))
  refine wpAny_bind (wpAny_seqItems o5 rfl ?_)
  refine wpAny_bind (wpAny_newTuple ?_)
  have sz : e5.objs.size = hp.objs.size := by rw [s5.1, s4.1, s3.1, s2.1, s1.1]
  have z5 : IsZip e5 z ti to .ellipsis := s5.extBut _ _ D.oz.symm (s4.extBut _ _ D.jz.symm (s3.extBut _ _ D.oz.symm (s2.extBut _ _ D.iz.symm z1)))
  have up5 : ∀ b o, b ≠ z → b ≠ to → b ≠ i → b ≠ j → hp.get? b = some o → e5.get? b = some o := fun b o b1 b2 b3 b4 u =>
    s5.extBut _ _ b2 (s4.extBut _ _ b4 (s3.extBut _ _ b2 (s2.extBut _ _ b3 (s1.extBut _ _ b1 u))))
  have zlt : z < e5.objs.size := Heap.lt_size z5
  show wpAny _ _ (Builtin.SmallTypes.ownedTupleHandOut (.ref z) (.ref e5.objs.size) >>= _) _ _ _
  refine wpAny_bind ?_
  unfold Builtin.SmallTypes.ownedTupleHandOut
  have z6 : IsZip (e5.push { cls := .type "tuple", data := .seq #[x, y] }) z ti to .ellipsis := Heap.get?_push_of_some _ z5
  refine wpAny_bind (wpAny_setField_rec z6 (by simp) fun e7 z7 s7 => ?_)
  have s7 : Heap.SameBut z (e5.push { cls := .type "tuple", data := .seq #[x, y] }) e7 := s7
  replace z7 : IsZip e7 z ti to (rawInt e5.objs.size) := z7
  refine wpAny_setField_rec (s := ⟨e7, g, d, tk, os⟩) z7 (by simp) fun e8 z8 s8 => ?_
  have s8 : Heap.SameBut z e7 e8 := s8
  replace z8 : IsZip e8 z ti to (rawInt e5.objs.size) := z8
  have up : ∀ b o, b ≠ z → e5.get? b = some o → e8.get? b = some o := fun b o b1 u => s8.extBut _ _ b1 (s7.extBut _ _ b1 (Heap.get?_push_of_some _ u))
  have t8 : e8.get? e5.objs.size = some { cls := .type "tuple", data := .seq #[x, y] } := s8.extBut _ _ (Nat.ne_of_gt zlt) (s7.extBut _ _ (Nat.ne_of_gt zlt) (Heap.get?_push_size _ rfl))
  rw [sz] at z8 t8
  refine wpAny_pure ⟨_, rfl, wpAny_pure ?_⟩
  show Q (some (.ref e5.objs.size)) _
  rw [sz]
  exact hQ e8 z8 (up _ _ D.oz o5) (k1 e2 e8 a2 fun o u => up _ o D.iz (s5.extBut _ _ D.oi.symm (s4.extBut _ _ D.ij (s3.extBut _ _ D.oi.symm u)))) (k2 e4 e8 a4 fun o u => up _ o D.jz (s5.extBut _ _ D.oj.symm u)) t8
    fun b o b1 b2 b3 b4 u => up b o b1 (up5 b o b1 b2 b3 b4 u)
theorem zip_end {z ti to i j : Addr} {p q : Value} {st1 : Heap → Prop} {Q : Option Value → Shared → Prop} (D : ZA z ti to i j) (zz : IsZip s.heap z ti to .none) (yi : IsPair s.heap ti (.ref i) (.ref j)) (yo : IsPair s.heap to p q)
    (n : (∀ h', (∀ b o, b ≠ z → s.heap.get? b = some o → h'.get? b = some o) → NextE prog w A.in1 { s with heap := h' } i) ∨
      (∃ x, (∀ h', (∀ b o, b ≠ z → s.heap.get? b = some o → h'.get? b = some o) → NextI prog w A.in1 { s with heap := h' } i x st1) ∧
        ∀ h', (∀ b o, b ≠ z → b ≠ to → b ≠ i → s.heap.get? b = some o → h'.get? b = some o) → NextE prog w A.in1 { s with heap := h' } j))
    (hQ : ∀ h', (∀ b o, b ≠ z → b ≠ to → b ≠ i → b ≠ j → s.heap.get? b = some o → h'.get? b = some o) → Q none { s with heap := h' }) :
    wpAny (model prog w) A (pyNext (.ref z)) Q E s := by
  have hT : s.TypeIs (.ref z) "zip" := ⟨_, zz, rfl⟩
  obtain ⟨hp, g, d, tk, os⟩ := s
  have fin : ∀ (h' : Heap) (e : Addr), (∀ b o, b ≠ z → b ≠ to → b ≠ i → b ≠ j → hp.get? b = some o → h'.get? b = some o) → (∃ o, h'.get? e = some o ∧ o.cls = .type "StopIteration") →
      wpAny (model prog w) A (do if ← isInstance (.ref e) (.type "StopIteration") then pure none else throw (.ref e)) Q E ⟨h', g, d, tk, os⟩ := fun h' e hk ⟨o, ho, hc⟩ =>
    wpAny_bind (wpAny_isInstance (T := "StopIteration") (b := true) ⟨o, ho, hc⟩ isSubtype_stop (wpAny_pure (hQ h' hk)))
  unfold pyNext
  refine wpAny_bind (wpAny_attempt (wpAny_callSpecial?_slot (name := Str.ofString "__next__") hT F.slot_zip_next (wpAny_call_entry F.slot_zip_next hT F.entry_zip_next ?_ (F.args_zip_next_1 _))))
  show wpAny _ _ (field (.ref z) 2 >>= _) _ _ _
  refine wpAny_bind (wpAny_field zz rfl (x := .bool false) rfl ?_)
  show wpAny _ _ (field (.ref z) 3 >>= _) _ _ _
  refine wpAny_bind (wpAny_field zz rfl (x := .ref ti) rfl ?_)
  refine wpAny_bind (wpAny_seqItems yi rfl ?_)
  show wpAny _ _ (Builtin.SmallTypes.ownedTupleIsFree (.ref z) >>= _) _ _ _
  refine wpAny_bind ?_
  unfold Builtin.SmallTypes.ownedTupleIsFree
  refine wpAny_bind (wpAny_field zz rfl (x := .none) rfl (wpAny_pure ?_))
  simp only [if_true]
  refine wpAny_bind (wpAny_rule (wpAny_bind (wpAny_field zz rfl (x := .ref to) rfl ?_)))
  refine wpAny_bind (wpAny_setField_rec zz (by simp) fun e1 z1 s1 => ?_)
  have s1 : Heap.SameBut z hp e1 := s1
  replace z1 : IsZip e1 z ti to .ellipsis := z1
  refine wpAny_bind ?_
  simp only [List.zipIdx_cons, List.zipIdx_nil, List.forIn_cons, List.forIn_nil]
  refine wpAny_bind (wpAny_bind (wpAny_onRaise ?_))
  show wpAny _ _ (Builtin.SmallTypes.nextOf (.ref i) >>= _) _ _ _
  rcases n with n | ⟨x, n1, n2⟩
  · refine wpAny_bind (n e1 (fun b o hb => s1.extBut b o hb) _ _ fun e2 e s2 he => ?_)
    have s2 : Heap.ExtBut i e1 e2 := s2
    obtain ⟨oe, ge, ce⟩ := he
    have ge : e2.get? e = some oe := ge
    have z2 : IsZip e2 z ti to .ellipsis := s2 _ _ D.iz.symm z1
    have ez : e ≠ z := fun u => by subst u; rw [z2] at ge; cases ge; simp at ce
    refine wpAny_setField_rec (s := ⟨e2, g, d, tk, os⟩) z2 (by simp) fun e3 _ s3 => ?_
    have s3 : Heap.SameBut z e2 e3 := s3
    exact fin e3 e (fun b o b1 b2 b3 b4 u => s3.extBut _ _ b1 (s2 _ _ b3 (s1.extBut _ _ b1 u))) ⟨oe, s3.extBut _ _ ez ge, ce⟩
  · refine wpAny_bind (n1 e1 (fun b o hb => s1.extBut b o hb) _ _ fun e2 a2 s2 => wpAny_pure ?_)
    have s2 : Heap.SameBut i e1 e2 := s2
    have o2 : IsPair e2 to p q := s2.extBut _ _ D.oi (s1.extBut _ _ D.oz yo)
    refine wpAny_bind (wpAny_seqItems o2 rfl ?_)
    refine wpAny_bind (wpAny_updateSeq_pair (s := ⟨e2, g, d, tk, os⟩) o2 fun e3 o3 s3 => ?_)
    have s3 : Heap.SameBut to e2 e3 := s3
    refine wpAny_bind (wpAny_letGo (wpAny_pure ?_))
    refine wpAny_bind (wpAny_bind (wpAny_onRaise ?_))
    show wpAny _ _ (Builtin.SmallTypes.nextOf (.ref j) >>= _) _ _ _
    refine wpAny_bind (n2 e3 (fun b o b1 b2 b3 u => s3.extBut b o b2 (s2.extBut b o b3 (s1.extBut b o b1 u))) _ _ fun e4 e s4 he => ?_)
    have s4 : Heap.ExtBut j e3 e4 := s4
    obtain ⟨oe, ge, ce⟩ := he
    have ge : e4.get? e = some oe := ge
    have z4 : IsZip e4 z ti to .ellipsis := s4 _ _ D.jz.symm (s3.extBut _ _ D.oz.symm (s2.extBut _ _ D.iz.symm z1))
    have ez : e ≠ z := fun u => by subst u; rw [z4] at ge; cases ge; simp at ce
    refine wpAny_setField_rec (s := ⟨e4, g, d, tk, os⟩) z4 (by simp) fun e5 _ s5 => ?_
    have s5 : Heap.SameBut z e4 e5 := s5
    exact fin e5 e (fun b o b1 b2 b3 b4 u => s5.extBut _ _ b1 (s4 _ _ b4 (s3.extBut _ _ b2 (s2.extBut _ _ b3 (s1.extBut _ _ b1 u))))) ⟨oe, s5.extBut _ _ ez ge, ce⟩
end
def Itz (K : PySem.W.Frag) (l m : Bool) (a b : Addr) : It :=
  ⟨fun i H => ∃ xs ys x y, SqB K H l a xs ∧ SqB K H m b ys ∧ xs[i]? = some x ∧ ys[i]? = some y,
   fun i H v H' => ∃ p x y, v = .ref p ∧ H p = none ∧ H' = upd H p (.tup [x, y]) ∧ (∀ xs, SqB K H l a xs → xs[i]? = some x) ∧ ∀ ys, SqB K H m b ys → ys[i]? = some y,
   fun i H => ∃ xs ys, SqB K H l a xs ∧ SqB K H m b ys ∧ (xs.length ≤ i ∨ ys.length ≤ i)⟩
section
variable {X:Cx} {pins:List (Addr×Obj)} {σ:St} {H:Hp} {s:Shared}
theorem nextI_b {A : Around} {l : Bool} {a it : Addr} {i : Nat} {xs : List V} {x : V} (I : Inv X pins σ H s) (hq : SqB X.K H l a xs) (h2 : IsIt l s.heap it a i) (hx : xs[i]? = some x) :
    (∃ u, RelV x u ∧ ∀ h', (∀ o, s.heap.get? a = some o → h'.get? a = some o) → (∀ o, s.heap.get? it = some o → h'.get? it = some o) → NextI X.prog X.w A { s with heap := h' } it u (fun h => IsIt l h it a (i + 1))) ∧ ∀ ys, SqB X.K H l a ys → ys[i]? = some x := by
  cases l with
  | true =>
    have hq : SqL X.K H a xs := hq
    obtain ⟨its, rv, p, hz⟩ := I.list hq
    obtain ⟨u, hu, ru⟩ := rv.get hx
    exact ⟨⟨u, ru, fun h' e1 e2 => nextI_list (s := { s with heap := h' }) (Heap.IsListIter.at (show s.heap.IsListIter it a i from h2) e2) (p.isList.at e1) (by simpa using hu)⟩, fun ys hy => by rw [I.list_inj (show SqL X.K H a ys from hy) hq]; exact hx⟩
  | false =>
    have hq : SqT X.K H a xs := hq
    obtain ⟨its, rv, p, hz⟩ := I.tuple hq
    obtain ⟨u, hu, ru⟩ := rv.get hx
    have p : s.heap.IsTuple a its.toArray := p
    exact ⟨⟨u, ru, fun h' e1 e2 => nextI_tup (s := { s with heap := h' }) (Heap.IsTupleIter.at (show s.heap.IsTupleIter it a i from h2) e2) (p.at e1) (by simpa using hu)⟩, fun ys hy => by rw [I.tuple_inj (show SqT X.K H a ys from hy) hq]; exact hx⟩
theorem nextE_b {A : Around} {l : Bool} {a it : Addr} {i : Nat} {xs : List V} (hh : A.handled = none) (I : Inv X pins σ H s) (hq : SqB X.K H l a xs) (h2 : IsIt l s.heap it a i) (hx : xs.length ≤ i) :
    ∀ h', (∀ o, s.heap.get? a = some o → h'.get? a = some o) → (∀ o, s.heap.get? it = some o → h'.get? it = some o) → NextE X.prog X.w A { s with heap := h' } it := by
  cases l with
  | true =>
    obtain ⟨its, rv, p, hz⟩ := I.list (show SqL X.K H a xs from hq)
    have hl := rv.length
    exact fun h' e1 e2 => nextE_list (s := { s with heap := h' }) hh (Heap.IsListIter.at (show s.heap.IsListIter it a i from h2) e2) (p.isList.at e1) (by simp; omega)
  | false =>
    obtain ⟨its, rv, p, hz⟩ := I.tuple (show SqT X.K H a xs from hq)
    have hl := rv.length
    have p : s.heap.IsTuple a its.toArray := p
    exact fun h' e1 e2 => nextE_tup (s := { s with heap := h' }) hh (Heap.IsTupleIter.at (show s.heap.IsTupleIter it a i from h2) e2) (p.at e1) (by simp; omega)
end
theorem turn_zip {P : Program} {w : World} {K : PySem.W.Frag} {elts : List Expr} {k : Nat} {tp : Pos} (l m : Bool) (a b z ti to i j : Addr) (D : ZA z ti to i j) (ha : a ≠ z) (hb : b ≠ z ∧ b ≠ to ∧ b ≠ i) :
    Turn P w K (.Tuple elts k tp) (Itz K l m a b) [z, ti, to, i, j] z (fun n h => IsZip h z ti to .none ∧ IsPair h ti (.ref i) (.ref j) ∧ (∃ p q, IsPair h to p q) ∧ IsIt l h i a n ∧ IsIt m h j b n) where
  mem := by simp
  obj := fun n h st c hc => by
    obtain ⟨h1, h2, ⟨p, q, h3⟩, h4, h5⟩ := st
    have hc : c = z ∨ c = ti ∨ c = to ∨ c = i ∨ c = j := by simpa using hc
    rcases hc with rfl | rfl | rfl | rfl | rfl
    · exact ⟨_, h1, fun v u => by have u' : Data.fields _ = Data.cell v := u; cases u'⟩
    · exact ⟨_, h2, fun v u => by have u' : Data.seq _ _ = Data.cell v := u; cases u'⟩
    · exact ⟨_, h3, fun v u => by have u' : Data.seq _ _ = Data.cell v := u; cases u'⟩
    · obtain ⟨o, q, d⟩ := h4.obj
      exact ⟨o, q, fun v u => by rw [d] at u; cases u⟩
    · obtain ⟨o, q, d⟩ := h5.obj
      exact ⟨o, q, fun v u => by rw [d] at u; cases u⟩
  keep := fun n h h' st e => by
    obtain ⟨h1, h2, ⟨p, q, h3⟩, h4, h5⟩ := st
    exact ⟨e z (by simp) _ h1, e ti (by simp) _ h2, ⟨p, q, e to (by simp) _ h3⟩, h4.at fun o u => e i (by simp) o u, h5.at fun o u => e j (by simp) o u⟩
  item := by
    intro X hP hw hK hc n pins s σ H E I hf st hg
    subst hP hw hK
    obtain ⟨h1, h2, ⟨p, q, h3⟩, h4, h5⟩ := st
    obtain ⟨xs, ys, x, y, qx, qy, hx, hy⟩ := hg
    obtain ⟨⟨u, ru, nu⟩, au⟩ := nextI_b (A := X.A.in1) I qx h4 hx
    obtain ⟨⟨v, rv, nv⟩, av⟩ := nextI_b (A := X.A.in1) I qy h5 hy
    obtain ⟨oi, gi, _⟩ := h4.obj
    obtain ⟨oj, gj, _⟩ := h5.obj
    refine zip_item D h1 h2 h3 (fun h' e => nu h' (fun o => e a o ha) fun o => e i o D.iz) (fun h' e => nv h' (fun o => e b o hb.1 hb.2.1 hb.2.2) fun o => e j o D.jz D.oj.symm D.ij.symm) (fun h h' st e => st.at e) (fun h h' st e => st.at e) fun h' o1 o2 o3 o4 o5 o6 => ⟨_, rfl, ?_⟩
    refine wpAny_letOwnedTupleGo_zip (s := { s with heap := h' }) o1 fun h'' p1 p2 => ?_
    have p2 : Heap.SameBut z h' h'' := p2
    have fr : H s.heap.objs.size = none := I.hok.fresh (Nat.le_refl _)
    have I1 : Inv X pins σ (upd H s.heap.objs.size (.tup [x, y])) { s with heap := s.heap.push { cls := .type "tuple", data := .seq #[u, v] } } :=
      I.laid (t' := s.toks) (fun c o e => Heap.get?_push_of_some _ e) (Nat.le_refl _) ⟨by show 2 ≤ sizeLine; decide, [u, v], .cons ru (.cons rv .nil), ⟨_, Heap.get?_push_size _ rfl, rfl, 0, rfl⟩⟩
    have ne : ∀ c ∈ [z, ti, to, i, j], c ≠ s.heap.objs.size := fun c hc => by
      have hc : c = z ∨ c = ti ∨ c = to ∨ c = i ∨ c = j := by simpa using hc
      rcases hc with rfl | rfl | rfl | rfl | rfl
      · exact Nat.ne_of_lt (Heap.lt_size h1)
      · exact Nat.ne_of_lt (Heap.lt_size h2)
      · exact Nat.ne_of_lt (Heap.lt_size h3)
      · exact Nat.ne_of_lt (Heap.lt_size gi)
      · exact Nat.ne_of_lt (Heap.lt_size gj)
    have fp1 : ∀ c ∈ [z, ti, to, i, j], FpOk X pins (upd H s.heap.objs.size (.tup [x, y])) c := fun c hc => ⟨by rw [upd_ne (ne c hc)]; exact (hf c hc).1, (hf c hc).2⟩
    have I2 := I1.turnedL (h' := h'') (t' := s.toks) (ch := [z, ti, to, i, j]) (fun c o hc e => by
      have hc' : c ≠ z ∧ c ≠ ti ∧ c ≠ to ∧ c ≠ i ∧ c ≠ j := by simpa using hc
      refine p2.extBut c o hc'.1 ?_
      by_cases hz : c = s.heap.objs.size
      · subst hz
        have e' : (s.heap.push { cls := .type "tuple", data := .seq #[u, v] }).get? s.heap.objs.size = some _ := Heap.get?_push_size _ rfl
        rw [e'] at e
        cases e
        exact o5
      · have e2 : s.heap.get? c = some o := by
          cases hs : s.heap.get? c with
          | some o' => rw [Heap.get?_push_of_some _ hs] at e; exact e
          | none => exact absurd e (by rw [push_get_ne hz, hs]; intro z; cases z)
        exact o6 c o hc'.1 hc'.2.2.1 hc'.2.2.2.1 hc'.2.2.2.2 e2) fp1
    have up : ∀ c o, c ≠ z → h'.get? c = some o → h''.get? c = some o := fun c o hc e => p2.extBut c o hc e
    exact ⟨.ref s.heap.objs.size, _, I2, rfl, ⟨s.heap.objs.size, x, y, rfl, fr, rfl, au, av⟩, ⟨p1, up _ _ D.tz (o6 _ _ D.tz D.tt D.di D.dj h2), ⟨_, _, up _ _ D.oz o2⟩, o3.at fun o e => up _ _ D.iz e, o4.at fun o e => up _ _ D.jz e⟩, fun c hc => (fp1 c hc).1⟩
  done := by
    intro X hP hw hK hc n pins s σ H E I hf st hg
    subst hP hw hK
    obtain ⟨h1, h2, ⟨p, q, h3⟩, h4, h5⟩ := st
    obtain ⟨xs, ys, qx, qy, hx⟩ := hg
    have hh : X.A.in1.handled = none := I.ok.hd hc
    have fin : ∀ h', (∀ c o, c ≠ z → c ≠ to → c ≠ i → c ≠ j → s.heap.get? c = some o → h'.get? c = some o) → (none : Option Value) = none ∧ Inv X pins σ H { s with heap := h' } := fun h' e => ⟨rfl, I.turnedL (t' := s.toks) (ch := [z, ti, to, i, j]) (fun c o hc u => by
      have hc' : c ≠ z ∧ c ≠ ti ∧ c ≠ to ∧ c ≠ i ∧ c ≠ j := by simpa using hc
      exact e c o hc'.1 hc'.2.2.1 hc'.2.2.2.1 hc'.2.2.2.2 u) hf⟩
    refine zip_end (st1 := fun h => IsIt l h i a (n + 1)) D h1 h2 h3 ?_ fun h' e => fin h' e
    by_cases hl : xs.length ≤ n
    · exact .inl fun h' e => nextE_b hh I qx h4 hl h' (fun o => e a o ha) fun o => e i o D.iz
    · have hl' : n < xs.length := by omega
      obtain ⟨⟨u, ru, nu⟩, au⟩ := nextI_b (A := X.A.in1) I qx h4 (List.getElem?_eq_getElem hl')
      exact .inr ⟨u, fun h' e => nu h' (fun o => e a o ha) fun o => e i o D.iz, fun h' e => nextE_b hh I qy h5 (by omega) h' (fun o => e b o hb.1 hb.2.1 hb.2.2) fun o => e j o D.jz D.oj.symm D.ij.symm⟩
  self := fun A n s Q E st h => wpAny_pyIter_zip st.1 h
end L2
end
section
set_option Elab.async false
set_option linter.all false
set_option maxRecDepth 100000
set_option maxHeartbeats 4000000
namespace L2
open PySem PySem.Spec PyProof.Rows
abbrev itO (l:Bool) (a:Addr):Obj:={ cls:=.type (if l=true then "list_iterator" else "tuple_iterator"),data:=.fields #[.ref a,.int 0 0] }
def SqH (l:Bool) (h:Heap) (a:Addr) (xs:Array Value):Prop:=if l=true then h.IsList a xs else h.IsTuple a xs
abbrev zh1 (h:Heap) (l:Bool) (a:Addr):Heap:=h.push (itO l a)
abbrev zh2 (h:Heap) (l m:Bool) (a b:Addr):Heap:=(zh1 h l a).push (itO m b)
abbrev zh3 (h:Heap) (l m:Bool) (a b:Addr):Heap:=(zh2 h l m a b).push { cls:=.type "tuple",data:=.seq #[.ref h.objs.size,.ref (zh1 h l a).objs.size] }
abbrev zh4 (h:Heap) (l m:Bool) (a b:Addr):Heap:=(zh3 h l m a b).push { cls:=.type "tuple",data:=.seq #[.none,.none] }
abbrev zh5 (h:Heap) (l m:Bool) (a b:Addr):Heap:=(zh4 h l m a b).push { cls:=.type "zip",data:=.fields #[.none,.bool false,.bool false,.ref (zh2 h l m a b).objs.size,.ref (zh3 h l m a b).objs.size] }
theorem meets_zip (l m : Bool) (a b : Addr) (xs ys : Array Value) :
    Meets (Builtin.«zip.__new__» ⟨[.type "zip", .ref a, .ref b], []⟩) (fun _ R s => SqH l s.heap a xs ∧ SqH m s.heap b ys ∧ R (.ok (.ret (.ref (zh4 s.heap l m a b).objs.size))) { s with heap := zh5 s.heap l m a b }) :=
  .of_wp fun prog w A R s h => by
    obtain ⟨hp, g, d, tk, os⟩ := s
    obtain ⟨ha, hb, h⟩ := h
    have hsub := sub_zip
    have keep : ∀ (o : Obj) c v, hp.get? c = some v → (hp.push o).get? c = some v := fun o c v e => Heap.get?_push_of_some _ e
    cases l with
    | true =>
      have h1 : Heap.IsList (Shared.heap ⟨hp, g, d, tk, os⟩) a xs := ha
      cases m with
      | true =>
        have h2 : Heap.IsList (Shared.heap ⟨hp.push { cls := .type "list_iterator", data := .fields #[.ref a, .int 0 0] }, g, d, tk, os⟩) b ys := (show hp.IsList b ys from hb).at fun o e => keep _ _ _ e
        wp_walk using wpAny_pyIter_list h1, wpAny_pyIter_list h2
        exact ⟨_, rfl, h⟩
      | false =>
        have h2 : Heap.IsTuple (Shared.heap ⟨hp.push { cls := .type "list_iterator", data := .fields #[.ref a, .int 0 0] }, g, d, tk, os⟩) b ys := (show hp.IsTuple b ys from hb).at fun o e => keep _ _ _ e
        wp_walk using wpAny_pyIter_list h1, wpAny_pyIter_tuple h2
        exact ⟨_, rfl, h⟩
    | false =>
      have h1 : Heap.IsTuple (Shared.heap ⟨hp, g, d, tk, os⟩) a xs := ha
      cases m with
      | true =>
        have h2 : Heap.IsList (Shared.heap ⟨hp.push { cls := .type "tuple_iterator", data := .fields #[.ref a, .int 0 0] }, g, d, tk, os⟩) b ys := (show hp.IsList b ys from hb).at fun o e => keep _ _ _ e
        wp_walk using wpAny_pyIter_tuple h1, wpAny_pyIter_list h2
        exact ⟨_, rfl, h⟩
      | false =>
        have h2 : Heap.IsTuple (Shared.heap ⟨hp.push { cls := .type "tuple_iterator", data := .fields #[.ref a, .int 0 0] }, g, d, tk, os⟩) b ys := (show hp.IsTuple b ys from hb).at fun o e => keep _ _ _ e
        wp_walk using wpAny_pyIter_tuple h1, wpAny_pyIter_tuple h2
        exact ⟨_, rfl, h⟩
section
variable {prog:Program} {w:World} {A:Around} {E:Value→Shared→Prop} {s:Shared}
theorem isIt_new {l:Bool} {h:Heap} {it a:Addr} (e:h.get? it=some (itO l a)):IsIt l h it a 0:=by
 cases l with
 | true=>exact ⟨_,e,rfl,rfl⟩
 | false=>exact ⟨_,e,rfl,rfl⟩
theorem call_zip {l m : Bool} {a b : Addr} {xs ys : Array Value} {Q : Value → Shared → Prop} (ha : SqH l s.heap a xs) (hb : SqH m s.heap b ys)
    (h : ∀ h', IsZip h' (s.heap.objs.size + 4) (s.heap.objs.size + 2) (s.heap.objs.size + 3) .none → IsPair h' (s.heap.objs.size + 2) (.ref s.heap.objs.size) (.ref (s.heap.objs.size + 1)) → IsPair h' (s.heap.objs.size + 3) .none .none →
      IsIt l h' s.heap.objs.size a 0 → IsIt m h' (s.heap.objs.size + 1) b 0 → (∀ c o, s.heap.get? c = some o → h'.get? c = some o) → Q (.ref (s.heap.objs.size + 4)) { s with heap := h' }) :
    wpAny (model prog w) A (call (.type "zip") [.ref a, .ref b]) Q E s := by
  refine callType_new F.called_zip (by decide) (F.typeCall_zip_2 _ _) (F.newCall_zip_2 _ _) (fun obj => F.args_object_init_3 obj _ _) F.entry_zip_new (meets_zip l m a b xs ys) ⟨ha, hb, ?_⟩
  have n1 : (zh1 s.heap l a).objs.size = s.heap.objs.size + 1 := Heap.size_push ..
  have n2 : (zh2 s.heap l m a b).objs.size = s.heap.objs.size + 2 := by rw [Heap.size_push, n1]
  have n3 : (zh3 s.heap l m a b).objs.size = s.heap.objs.size + 3 := by rw [Heap.size_push, n2]
  have n4 : (zh4 s.heap l m a b).objs.size = s.heap.objs.size + 4 := by rw [Heap.size_push, n3]
  have e5 : (zh5 s.heap l m a b).get? (zh4 s.heap l m a b).objs.size = some _ := Heap.get?_push_size _ rfl
  have e4 : (zh5 s.heap l m a b).get? (zh3 s.heap l m a b).objs.size = some _ := Heap.get?_push_of_some _ (Heap.get?_push_size _ rfl)
  have e3 : (zh5 s.heap l m a b).get? (zh2 s.heap l m a b).objs.size = some _ := Heap.get?_push_of_some _ (Heap.get?_push_of_some _ (Heap.get?_push_size _ rfl))
  have e2 : (zh5 s.heap l m a b).get? (zh1 s.heap l a).objs.size = some _ := Heap.get?_push_of_some _ (Heap.get?_push_of_some _ (Heap.get?_push_of_some _ (Heap.get?_push_size _ rfl)))
  have e1 : (zh5 s.heap l m a b).get? s.heap.objs.size = some _ := Heap.get?_push_of_some _ (Heap.get?_push_of_some _ (Heap.get?_push_of_some _ (Heap.get?_push_of_some _ (Heap.get?_push_size _ rfl))))
  show _ ∧ _
  rw [n2, n3, n4] at e5
  rw [n1, n2] at e3
  rw [n3] at e4
  rw [n1] at e2
  rw [n4]
  exact ⟨⟨_, e5, rfl⟩, h _ e5 e3 e4 (isIt_new e1) (isIt_new e2) fun c o u => Heap.get?_push_of_some _ (Heap.get?_push_of_some _ (Heap.get?_push_of_some _ (Heap.get?_push_of_some _ (Heap.get?_push_of_some _ u))))⟩
end
section
variable {X:Cx}
def iZip (K:PySem.W.Frag) (ta:TA):TI:=fun σ H R=>ta σ H fun vs H1=>∃ (l m:Bool) (a b:Addr),vs=[.ref a,.ref b]∧(∃ xs,SqB K H1 l a xs)∧(∃ ys,SqB K H1 m b ys)∧R (Itz K l m a b) H1
theorem sqH_of {pins:List (Addr×Obj)} {σ:St} {H:Hp} {s:Shared} {l:Bool} {a:Addr} {xs:List V} (I:Inv X pins σ H s) (h:SqB X.K H l a xs):∃ its:Array Value,SqH l s.heap a its∧a < s.heap.objs.size:=by
 cases l with
 | true =>
  obtain ⟨its,_,p,_⟩:=I.list (show SqL X.K H a xs from h)
  exact ⟨its.toArray,p.isList,by obtain ⟨o,e,_⟩:=p.isList; exact Heap.lt_size e⟩
 | false =>
  obtain ⟨its,_,p,_⟩:=I.tuple (show SqT X.K H a xs from h)
  exact ⟨its.toArray,p,by obtain ⟨o,e,_⟩:=(show s.heap.IsTuple a its.toArray from p); exact Heap.lt_size e⟩
theorem za_of {n:Nat}:ZA (n+4) (n+2) (n+3) n (n+1) :=
 ⟨(by omega:(n+2:Nat)≠n+4),(by omega:(n+3:Nat)≠n+4),(by omega:(n:Nat)≠n+4),(by omega:(n+1:Nat)≠n+4),(by omega:(n+2:Nat)≠n+3),(by omega:(n+2:Nat)≠n),(by omega:(n+2:Nat)≠n+1),(by omega:(n+3:Nat)≠n),(by omega:(n+3:Nat)≠n+1),(by omega:(n:Nat)≠n+1)⟩
theorem fresh5 {n c:Nat} (h:c∈[n+4,n+2,n+3,n,n+1]):n≤c:=by
 simp only [List.mem_cons,List.mem_nil_iff,or_false] at h
 omega
theorem ne_lt {a n k:Nat} (h:a < n):a≠n+k:=by omega
theorem pi_zip {a b : Expr} {ta : TA} {p pos tp : Pos} {elts : List Expr} {k : Nat} (hg : Gl X "zip") (hm : X.mg "zip" = none) (ha : PA X [a, b] ta) (hs : starEach [a, b] X.env = (false, eval a X.env) :: starEach [b] X.env) (hs2 : starEach [b] X.env = [(false, eval b X.env)]) :
    PI X (.Tuple elts k tp) (.Call (.Name "zip" p) [a, b] [] pos) (iZip X.K ta) := by
  intro pins s σ H R I h
  refine Call_ (ld_blt I hg hm boot_zip (PyProof.Rows.callWith_type1 (thn (ha pos pins s σ H _ I h) fun us s1 ⟨vs, H1, I1, r1, q1⟩ => ?_) hs (by rw [hs2]; rfl)))
  obtain ⟨l, m, c, d, rfl, ⟨xs, hx⟩, ⟨ys, hy⟩, q⟩ := q1
  obtain ⟨u1, u2, rfl, ru, rw2⟩ := vals2 r1
  cases ru
  cases rw2
  obtain ⟨ix, sx, lx⟩ := sqH_of I1 hx
  obtain ⟨iy, sy, ly⟩ := sqH_of I1 hy
  refine call_zip sx sy fun h' e1 e2 e3 e4 e5 e6 => ?_
  refine wpAny_pyIter_zip (s := { s1 with heap := h' }) e1 ?_
  have I2 : Inv X pins σ H1 { s1 with heap := h' } := I1.kept (t' := s1.toks) e6
  exact ⟨s1.heap.objs.size + 4, [s1.heap.objs.size + 4, s1.heap.objs.size + 2, s1.heap.objs.size + 3, s1.heap.objs.size, s1.heap.objs.size + 1], _, _, H1, rfl, I2, turn_zip l m c d _ _ _ _ _ za_of (ne_lt lx) ⟨ne_lt ly, ne_lt ly, ne_lt (k := 0) ly⟩, ⟨e1, e2, ⟨_, _, e3⟩, e4, e5⟩, fun c hc => I1.fpOk (fresh5 hc) (I1.hok.fresh (fresh5 hc)), q⟩
end
end L2
end
section
set_option Elab.async false
set_option linter.all false
set_option maxRecDepth 100000
set_option maxHeartbeats 4000000
namespace L2
open PySem PySem.Spec PyProof.Rows
open AutoSeq1 (wpAny_loadPart')
abbrev RngAt (a:Int):Nat→Value→Prop:=fun i v=>∃ t,v=.int (a+i * 1) t
section
variable {prog:Program} {w:World} {A:Around} {E:Value→Shared→Prop} {s:Shared}
theorem collect_rng {Q : List Value → Shared → Prop} {r : Addr} {a b : Int} {t u v : Tok} {n : Nat} (hh : A.handled = none) (hr : IsRange s.heap r a b 1 t u v) (hsm : Builtin.Range.small a b 1 = true) (hn : Builtin.Range.rangeSize a b 1 = n) (hl : n ≤ 2 ^ 24)
    (hQ : ∀ h' tk acc, (∀ c o, s.heap.get? c = some o → h'.get? c = some o) → ItemsOf (RngAt a) acc n → Q acc.toList { s with heap := h', toks := tk }) : wpAny (model prog w) A (collect (.ref r)) Q E s := by
  unfold collect
  refine wpAny_bind (wpAny_runValue (codeAny_builtin F.entry_proto_collect ?_))
  rw [Around.under_plainId F.plain_proto_collect _]
  show wpAny _ A.in1 (newList [] >>= fun l => again (.builtin "list.__iadd__" ⟨[l, .ref r], []⟩)) _ _ s
  refine wpAny_bind (wpAny_newObj_type ?_)
  refine wpAny_pure ⟨plainId_quiet F.plain_list_iadd _, codeAny_builtin F.entry_list_iadd ?_⟩
  rw [Around.under_plainId F.plain_list_iadd _]
  show wpAny _ A.in1 (Builtin.List.listExtendWith (.ref s.heap.objs.size) (.ref r) (.ref s.heap.objs.size)) _ _ _
  have g0 : (s.heap.push { cls := .type "list", data := .seq ([] : List Value).toArray }).get? s.heap.objs.size = some { cls := .type "list", data := .seq #[] 0 } := Heap.get?_push_size _ rfl
  have fin : ∀ (r' : Result) (s' : Shared), (∃ h' tk acc c', r' = .ok (.ret (.ref s.heap.objs.size)) ∧ s' = { s with heap := h', toks := tk } ∧ (∀ c o, c ≠ s.heap.objs.size → (s.heap.push { cls := .type "list", data := .seq ([] : List Value).toArray }).get? c = some o → h'.get? c = some o) ∧
      h'.get? s.heap.objs.size = some { cls := .type "list", dict := none, data := .seq acc c', slots := #[] } ∧ ItemsOf (RngAt a) acc n) → (match r' with
        | .ok (.ret v) => wpAny (model prog w) A (match v with
          | .ref x => do
            match (← load x).data with
              | .seq xs _ => pure xs.toList
              | _ => unsupported "internal:collect"
          | _ => unsupported "internal:collect") Q E s'
        | .ok _ => False
        | .error e => E e s') := by
    rintro r' s' ⟨h', tk, acc, c', rfl, rfl, kp, g1, it⟩
    show wpAny _ A (load s.heap.objs.size >>= _) _ _ _
    refine wpAny_bind (wpAny_load g1 (wpAny_pure ?_))
    exact hQ h' tk acc (fun c o e => kp c o (Nat.ne_of_lt (Heap.lt_size e)) (Heap.get?_push_of_some _ e)) it
  refine wpAny_mono (wpAny_extend_range (R := fun r' s' => ∃ h' tk acc c', r' = .ok (.ret (.ref s.heap.objs.size)) ∧ s' = { s with heap := h', toks := tk } ∧ (∀ c o, c ≠ s.heap.objs.size → (s.heap.push { cls := .type "list", data := .seq ([] : List Value).toArray }).get? c = some o → h'.get? c = some o) ∧
      h'.get? s.heap.objs.size = some { cls := .type "list", dict := none, data := .seq acc c', slots := #[] } ∧ ItemsOf (RngAt a) acc n)
    (s := { s with heap := s.heap.push { cls := .type "list", data := .seq ([] : List Value).toArray } }) hh (Heap.get?_push_of_some _ hr) hsm hn hl _ _ _ g0 fun h' tk acc c' kp g1 it => ⟨h', tk, acc, c', rfl, rfl, kp, g1, it⟩) (fun f s' h => ?_) fun e s' h => ?_
  · cases f with
    | done f => exact fin _ _ h
    | again c' => exact ⟨h.1, codeAny_mono h.2 fun r s'' hr => fin _ _ hr⟩
  · obtain ⟨_, _, _, _, z, _⟩ := h
    cases z
end
theorem meets_tuple_rng (r : Addr) (a b : Int) (t u v : Tok) (n : Nat) (hsm : Builtin.Range.small a b 1 = true) (hn : Builtin.Range.rangeSize a b 1 = n) (hl : n ≤ 2 ^ 24) :
    Meets (Builtin.«tuple.__new__» ⟨[.type "tuple", .ref r], []⟩) (fun A R s => A.handled = none ∧ IsRange s.heap r a b 1 t u v ∧ ∀ (h' : Heap) (tk : Nat) (acc : Array Value), (∀ c o, s.heap.get? c = some o → h'.get? c = some o) → ItemsOf (RngAt a) acc n →
      R (.ok (.ret (.ref h'.objs.size))) { s with heap := h'.push { cls := .type "tuple", data := .seq acc }, toks := tk }) :=
  .of_wp fun prog w A R s h => by
    obtain ⟨hp, g, d, tk, os⟩ := s
    obtain ⟨hh, hr, h⟩ := h
    have hsub := sub_tuple_self
    have hinit := init_tuple_lookup
    have hmh := madeHere_tuple
    have hT : Shared.TypeIs ⟨hp, g, d, tk, os⟩ (.ref r) "range" := ⟨_, hr, rfl⟩
    have hh1 : A.in1.handled = none := hh
    have ho : Heap.get? (Shared.heap ⟨hp, g, d, tk, os⟩) r = some _ := hr
    wp_walk using wpAny_loadPart' ho, wpAny_typeOf hT, collect_rng hh1 hr hsm hn hl
    intro h' tk' acc hk it
    show wpAny _ _ (Builtin.Tuple.tupleExact acc.toList.toArray >>= fun v => ret v) _ _ _
    unfold Builtin.Tuple.tupleExact
    refine wpAny_bind (wpAny_newObj_type ?_ (show acc.toList.toArray.size ≤ sizeLine by simp only [Array.toArray_toList]; rw [it.1, sizeLine_eq]; omega))
    refine wpAny_pure ⟨_, rfl, ?_⟩
    have e : acc.toList.toArray = acc := by simp
    rw [e]
    exact h h' tk' acc hk it
section
variable {prog:Program} {w:World} {A:Around} {E:Value→Shared→Prop} {s:Shared}
theorem call_tuple_rng {Q : Value → Shared → Prop} {r : Addr} {a b : Int} {t u v : Tok} {n : Nat} (hh : A.handled = none) (hr : IsRange s.heap r a b 1 t u v) (hsm : Builtin.Range.small a b 1 = true) (hn : Builtin.Range.rangeSize a b 1 = n) (hl : n ≤ 2 ^ 24)
    (h : ∀ (h' : Heap) (tk : Nat) (acc : Array Value), (∀ c o, s.heap.get? c = some o → h'.get? c = some o) → ItemsOf (RngAt a) acc n → Q (.ref h'.objs.size) { s with heap := h'.push { cls := .type "tuple", data := .seq acc }, toks := tk }) :
    wpAny (model prog w) A (call (.type "tuple") [.ref r]) Q E s :=
  callType_new F.called_tuple (by decide) (F.typeCall_tuple_1 _) (F.newCall_tuple_1 _) (fun obj => F.args_object_init_2 obj _) F.entry_tuple_new (meets_tuple_rng r a b t u v n hsm hn hl) ⟨hh, hr, fun h' tk acc hk it => ⟨⟨_, Heap.get?_push_size _ rfl, rfl⟩, h h' tk acc hk it⟩⟩
end
def rngV (i:Int) (n:Nat):List V:=(List.range n).map fun k=>V.int (i+((k:Nat):Int))
theorem vals_rng {a:Int} {acc:Array Value} {n:Nat} (h:ItemsOf (RngAt a) acc n):Vals (rngV a n) acc.toList:=by
 have key:∀ (l:List Value) (k:Nat),(∀ (j:Nat) v,l[j]?=some v→∃ t,v=Value.int (a+(((k+j:Nat)):Int)) t)→Vals ((List.range' k l.length).map fun k=>V.int (a+((k:Nat):Int))) l:=by
  intro l
  induction l with
  | nil=>intro k _; exact .nil
  | cons x l ih =>
   intro k hv
   refine .cons (hv 0 x rfl) (ih (k+1) fun j v e=>?_)
   obtain ⟨t,e2⟩:=hv (j+1) v (by simpa using e)
   exact ⟨t,by rw [e2,show k+(j+1)=k+1+j by omega]⟩
 have:=key acc.toList 0 fun j v e=>by
  obtain ⟨t,e2⟩:=h.2 j v (by simpa using e)
  exact ⟨t,by rw [e2]; simp⟩
 unfold rngV
 rw [List.range_eq_range']
 rw [show acc.toList.length=n by simpa using h.1] at this
 exact this
section
variable {X:Cx}
def argR (vs:List V) (i j:Int):Prop:=vs=[.int i,.int j]∨(i=0∧vs=[.int j])
def tRngs (tp:Bool) (ta:TA):TE:=fun σ H Q=>ta σ H fun vs H1=>∃ i j:Int,argR vs i j∧(-(2 ^ 62)≤i∧i < 2 ^ 62∧-(2 ^ 62)≤j∧j < 2 ^ 62)∧(j - i).toNat≤2 ^ 24∧∀ p,H1 p=none→Q (.ref p) (upd H1 p (if tp=true then .tup (rngV i (j - i).toNat) else .lst (rngV i (j - i).toNat)))
theorem size_rng {i j:Int}:Builtin.Range.rangeSize i j 1=(((j - i).toNat:Nat):Int):=by rw [rangeSize_one]; split <;> omega
theorem rng_arg {args : List Expr} {a : Expr} {rest : List Expr} {ta : TA} {p pos : Pos} (hg : Gl X "range") (hm : X.mg "range" = none) (ea : args = a :: rest) (ha : PA X args ta) (hs : starEach (a :: rest) X.env = (false, eval a X.env) :: starEach rest X.env) (hs2 : (backTo pos (starEach rest X.env)).any (·.1) = false)
    {pins : List (Addr × Obj)} {s : Shared} {σ : St} {H : Hp} {Q : Value → Shared → Prop} {R : Int → Int → Hp → Prop} (I : Inv X pins σ H s) (h : ta σ H fun vs H1 => ∃ i j : Int, argR vs i j ∧ R i j H1)
    (k : ∀ (r : Addr) (s1 : Shared) (H1 : Hp) (i j : Int) (t u v : Tok), Inv X pins σ H1 s1 → IsRange s1.heap r i j 1 t u v → R i j H1 → Q (.ref r) s1) : wpAny (model X.prog X.w) X.A (eval (.Call (.Name "range" p) args [] pos) X.env) Q X.xe s := by
  subst ea
  refine Call_ (ld_blt I hg hm boot_range (PyProof.Rows.callWith_type1 (thn (ha pos pins s σ H _ I h) fun us s1 ⟨vs, H1, I1, r1, q1⟩ => ?_) hs hs2))
  obtain ⟨i, j, e, q⟩ := q1
  rcases e with rfl | ⟨rfl, rfl⟩
  · obtain ⟨u1, u2, rfl, ⟨t, rfl⟩, ⟨t', rfl⟩⟩ := vals2 r1
    refine call_range_2 ?_
    exact k _ _ H1 i j _ _ _ (I1.kept fun b o e => Heap.get?_push_of_some _ e) (IsRange.new ..) q
  · obtain ⟨u1, rfl, ⟨t, rfl⟩⟩ := vals1 r1
    refine call_range_1 ?_
    exact k _ _ H1 0 j _ _ _ (I1.kept fun b o e => Heap.get?_push_of_some _ e) (IsRange.new ..) q
theorem pe_rngs {args : List Expr} {a : Expr} {rest : List Expr} {ta : TA} {p pos p2 pos2 : Pos} (tp : Bool) (hc : X.calm = true) (hg : Gl X "range") (hm : X.mg "range" = none) (hg2 : Gl X (if tp = true then "tuple" else "list")) (hm2 : X.mg (if tp = true then "tuple" else "list") = none) (ea : args = a :: rest) (ha : PA X args ta)
    (hs : starEach (a :: rest) X.env = (false, eval a X.env) :: starEach rest X.env) (hs2 : (backTo pos (starEach rest X.env)).any (·.1) = false) : PE X (.Call (.Name (if tp = true then "tuple" else "list") p2) [.Call (.Name "range" p) args [] pos] [] pos2) (tRngs tp ta) := by
  intro pins s σ H Q I h
  have sp : ∀ {T : Str} {t : String} {Q2 : Value → Shared → Prop}, Gl X T → X.mg T = none → bootBuiltins T = some (.type t) → T ≠ "__name__" → (T == ("__debug__" : Str)) = false → (∀ (r : Addr) (s1 : Shared) (H1 : Hp) (i j : Int) (u1 u2 u3 : Tok), Inv X pins σ H1 s1 → IsRange s1.heap r i j 1 u1 u2 u3 →
      ((-(2 ^ 62) ≤ i ∧ i < 2 ^ 62 ∧ -(2 ^ 62) ≤ j ∧ j < 2 ^ 62) ∧ (j - i).toNat ≤ 2 ^ 24 ∧ ∀ p, H1 p = none → Q (.ref p) (upd H1 p (if tp = true then .tup (rngV i (j - i).toNat) else .lst (rngV i (j - i).toNat)))) →
      wpAny (model X.prog X.w) X.A (call (.type t) [.ref r]) Q2 X.xe s1) → wpAny (model X.prog X.w) X.A (eval (.Call (.Name T p2) [.Call (.Name "range" p) args [] pos] [] pos2) X.env) Q2 X.xe s := fun {T t Q2} hgT hmT hb hn hd k => by
    refine Call_ (ld_blt I hgT hmT hb (PyProof.Rows.callWith_type1 ?_ rfl rfl) hn hd)
    show wpAny _ _ (spliced ((false, eval (.Call (.Name "range" p) args [] pos) X.env) :: backTo pos2 [])) _ _ s
    refine Calls.spliced_cons (rng_arg hg hm ea ha hs hs2 I h fun r s1 H1 i j u1 u2 u3 I1 hr q => ?_)
    exact Calls.spliced_nil (k r s1 H1 i j u1 u2 u3 I1 hr q)
  cases tp with
  | true =>
    refine sp (T := "tuple") (t := "tuple") hg2 hm2 (by decide +kernel) (by decide +kernel) (by decide +kernel) fun r s1 H1 i j u1 u2 u3 I1 hr ⟨⟨b1, b2, b3, b4⟩, hl, q⟩ => ?_
    refine call_tuple_rng (I1.ok.hd hc) hr (small_one b1 b2 b3 b4) size_rng hl fun h' tk acc hk it => ?_
    have I2 : Inv X pins σ H1 { s1 with heap := h', toks := tk } := I1.kept hk
    have hz : (rngV i (j - i).toNat).length ≤ sizeLine := by
      unfold rngV; rw [List.length_map, List.length_range, sizeLine_eq]; omega
    have I3 : Inv X pins σ (upd H1 h'.objs.size (.tup (rngV i (j - i).toNat))) { s1 with heap := h'.push { cls := .type "tuple", data := .seq acc }, toks := tk } :=
      I2.laid (t' := tk) (fun b o e => Heap.get?_push_of_some _ e) (Nat.le_refl _) (show ObjOk X.prog X.w _ _ _ (.tup _) from ⟨hz, acc.toList, vals_rng it, by simpa using IsTup.new h' acc⟩)
    exact ⟨.ref h'.objs.size, _, I3, rfl, q _ (I2.hok.fresh (Nat.le_refl _))⟩
  | false =>
    refine sp (T := "list") (t := "list") hg2 hm2 (by decide +kernel) (by decide +kernel) (by decide +kernel) fun r s1 H1 i j u1 u2 u3 I1 hr ⟨⟨b1, b2, b3, b4⟩, hl, q⟩ => ?_
    refine call_list_range (I1.ok.hd hc) hr (small_one b1 b2 b3 b4) size_rng hl fun h' tk acc c' hk g1 it => ?_
    have hz : (rngV i (j - i).toNat).length ≤ sizeLine := by
      unfold rngV; rw [List.length_map, List.length_range, sizeLine_eq]; omega
    have I3 : Inv X pins σ (upd H1 s1.heap.objs.size (.lst (rngV i (j - i).toNat))) { s1 with heap := h', toks := tk } :=
      I1.laid (t' := tk) hk (Nat.le_refl _) (show ObjOk X.prog X.w _ _ _ (.lst _) from ⟨hz, acc.toList, c', vals_rng it, by simpa using g1⟩)
    exact ⟨.ref s1.heap.objs.size, _, I3, rfl, q _ (I1.hok.fresh (Nat.le_refl _))⟩
end
end L2
end
section
set_option Elab.async false
set_option linter.all false
set_option maxRecDepth 100000
set_option maxHeartbeats 4000000
namespace L2
open PySem PySem.Spec PyProof.Rows
end L2
end
section
set_option Elab.async false
set_option linter.all false
set_option maxRecDepth 100000
set_option maxHeartbeats 400000
namespace L2
open PySem PySem.Spec PyProof.Rows
theorem args_minK (a d:Value):argsOk "min" ⟨[a],[("default",d)]⟩:=by unfold argsOk; kernel_rfl
section
variable {prog:Program} {w:World} {A:Around} {R:Result→Shared→Prop} {I S:Addr} {fp wr:List Addr} {n:Nat} {P:Nat→Value→Prop} {St:Nat→Heap→Prop} {bt:Nat→Nat→Bool} {kw:List (Str×Value)}
def boxO (xs:Array Value) (c:Nat):Obj:={ cls:=.type "list",dict:=none,data:=.seq xs c,slots:=#[] }
theorem loop_name:(toString "min" ++ toString ".loop" : String) = "min.loop" := by decide
theorem min_turns (W : Walks prog w A.in1 I fp wr n P St) (cm : CmpOf prog w A.in1 .Lt P bt) (nf : S ∉ fp) : ∀ (k j : Nat) (s : Shared) (v0 : Value) (c : Nat), j + 1 + k = n → St (j + 1) s.heap → P (argBest bt j) v0 → s.heap.get? S = some (boxO #[v0, v0] c) →
    (∀ v h t, P (argBest bt (n - 1)) v → (∀ b o, b ∉ wr → b ≠ S → s.heap.get? b = some o → h.get? b = some o) → R (.ok (.ret v)) { s with heap := h, toks := t }) → codeAny (model prog w) A (.builtin "min.loop" ⟨[.ref I, .none, .ref S], kw⟩) R s := by
  have nw : S ∉ wr := fun z => nf (W.sub _ z)
  intro k
  induction k with
  | zero =>
    intro j s v0 c e st p0 box fin
    refine codeAny_builtin F.entry_min_loop ?_
    rw [Around.under_plainId F.plain_min_loop _]
    refine wpAny_bind (wpAny_seqItems (items := #[v0, v0]) box rfl ?_)
    refine wpAny_bind (wpAny_tryCatch (W.done s _ _ (e ▸ st) fun h1 t1 keep => ?_))
    refine wpAny_bind (wpAny_updateSeq (keep S _ nw box) rfl (wpAny_bind (wpAny_letGo (wpAny_pure (fin v0 _ t1 (by rw [← e]; exact p0) fun b o nb ns g => ?_)))))
    exact (Heap.get?_update_other _ _ (Ne.symm ns)).trans (keep b o nb g)
  | succ k ih =>
    intro j s v0 c e st p0 box fin
    refine codeAny_builtin F.entry_min_loop ?_
    rw [Around.under_plainId F.plain_min_loop _]
    refine wpAny_bind (wpAny_seqItems (items := #[v0, v0]) box rfl ?_)
    refine wpAny_bind (wpAny_tryCatch (W.item (j + 1) s _ _ (by omega) st fun v h1 t1 pv st1 keep => ?_))
    have box1 := keep S _ nw box
    refine wpAny_bind (wpAny_pure ?_)
    refine wpAny_bind (wpAny_tryCatch (wpAny_holding (wpAny_bind (cm (j + 1) (argBest bt j) v v0 _ _ _ pv p0 (wpAny_bind (wpAny_holding (wpAny_truthy_bool (wpAny_bind (wpAny_letGo (wpAny_pure ?_))))))))))
    cases hb : bt (j + 1) (argBest bt j) with
    | true =>
      simp only [if_true]
      refine wpAny_bind (wpAny_updateSeq box1 rfl (wpAny_bind (wpAny_letGo ?_)))
      rw [loop_name]
      refine wpAny_pure ⟨plainId_quiet F.plain_min_loop _, ih (j + 1) _ v _ (by omega) (W.frame _ _ _ st1 fun b hb o g => ?_) (by simp only [argBest, hb, if_true]; exact pv) (Heap.get?_update_self _ box1 rfl) fun u h2 t2 pu keep2 => ?_⟩
      · exact (Heap.get?_update_other _ _ (fun z : S = b => nf (by rw [z]; exact hb))).trans g
      · exact fin u h2 t2 pu fun b o nb ns g => keep2 b o nb ns ((Heap.get?_update_other _ _ (Ne.symm ns)).trans (keep b o nb g))
    | false =>
      simp only [Bool.false_eq_true, if_false]
      refine wpAny_bind (wpAny_letGo ?_)
      rw [loop_name]
      refine wpAny_pure ⟨plainId_quiet F.plain_min_loop _, ih (j + 1) _ v0 c (by omega) st1 (by simp only [argBest, hb, Bool.false_eq_true, if_false]; exact p0) box1 fun u h2 t2 pu keep2 => ?_⟩
      exact fin u h2 t2 pu fun b o nb ns g => keep2 b o nb ns (keep b o nb g)
theorem min_all {d : Value} {c : Nat} {s : Shared} (W : Walks prog w A.in1 I fp wr n P St) (cm : CmpOf prog w A.in1 .Lt P bt) (nf : S ∉ fp) (st : St 0 s.heap) (box : s.heap.get? S = some (boxO #[] c))
    (fin : ∀ v h t, (n = 0 ∧ v = d ∨ 0 < n ∧ P (argBest bt (n - 1)) v) → (∀ b o, b ∉ wr → b ≠ S → s.heap.get? b = some o → h.get? b = some o) → R (.ok (.ret v)) { s with heap := h, toks := t }) :
    codeAny (model prog w) A (.builtin "min.loop" ⟨[.ref I, .none, .ref S], [("default", d)]⟩) R s := by
  have nw : S ∉ wr := fun z => nf (W.sub _ z)
  refine codeAny_builtin F.entry_min_loop ?_
  rw [Around.under_plainId F.plain_min_loop _]
  refine wpAny_bind (wpAny_seqItems (items := #[]) box rfl ?_)
  rcases Nat.eq_zero_or_pos n with hn | hn
  · subst hn
    refine wpAny_bind (wpAny_tryCatch (W.done s _ _ st fun h1 t1 keep => ?_))
    exact wpAny_bind (wpAny_rule (wpAny_pure (fin d h1 t1 (.inl ⟨rfl, rfl⟩) fun b o nb _ g => keep b o nb g)))
  · refine wpAny_bind (wpAny_tryCatch (W.item 0 s _ _ hn st fun v h1 t1 pv st1 keep => ?_))
    have box1 := keep S _ nw box
    refine wpAny_bind (wpAny_pure ?_)
    show wpAny _ A.in1 (updateSeq S (fun _ => #[v, v]) >>= _) _ _ _
    refine wpAny_bind ?_
    refine wpAny_updateSeq box1 rfl ?_
    rw [loop_name]
    refine wpAny_pure ⟨plainId_quiet F.plain_min_loop _, min_turns W cm nf (n - 1) 0 _ v _ (by omega) (W.frame _ _ _ st1 fun b hb o g => ?_) pv (Heap.get?_update_self _ box1 rfl) fun u h2 t2 pu keep2 => ?_⟩
    · exact (Heap.get?_update_other _ _ (fun z : S = b => nf (by rw [z]; exact hb))).trans g
    · exact fin u h2 t2 (.inr ⟨hn, pu⟩) fun b o nb ns g => keep2 b o nb ns ((Heap.get?_update_other _ _ (Ne.symm ns)).trans (keep b o nb g))
end
theorem call_min_def {prog : Program} {w : World} {A : Around} {E : Value → Shared → Prop} {s : Shared} {x d : Value} {Q : Value → Shared → Prop}
    (h : wpAny (model prog w) A.in1 (pyIter x) (fun it s2 => ∃ I fp wr n P St bt, it = .ref I ∧ Walks prog w A.in1 I fp wr n P St ∧ St 0 s2.heap ∧ (∀ b ∈ fp, b < s2.heap.objs.size) ∧ CmpOf prog w A.in1 .Lt P bt ∧
      ∀ v h' tk, (n = 0 ∧ v = d ∨ 0 < n ∧ P (argBest bt (n - 1)) v) → (∀ b o, b ∉ wr → s2.heap.get? b = some o → h'.get? b = some o) → Q v { s2 with heap := h', toks := tk }) E s) :
    wpAny (model prog w) A (call (.builtin "min") [x] [("default", d)]) Q E s := by
  refine wpAny_call (codeAny_call_builtin F.plain_min F.entry_min ?_)
  simp only [checkBuiltinCall, F.kind_min]
  have hc : wpAny (model prog w) A.in1 (Builtin.«min» ⟨[x], [("default", d)]⟩) (fun fin s' => match fin with
      | .done f => (match (Except.ok f : Result) with | .ok (.ret v) => Q v s' | .ok _ => False | .error e => E e s')
      | .again c' => c'.quiet = true ∧ codeAny (model prog w) A c' (fun r s' => match r with | .ok (.ret v) => Q v s' | .ok _ => False | .error e => E e s') s') E s := by
    refine wpAny_bind (wpAny_of_eq (show Builtin.Builtins.bindParams "min" ["key", "default"] 0 ⟨[], [("default", d)]⟩ = pure [none, some d] from rfl) ?_)
    refine wpAny_bind (wpAny_pure ?_)
    refine wpAny_bind (wpAny_mono h (fun it s2 h2 => ?_) fun _ _ e => e)
    obtain ⟨I, fp, wr, n, P, St, bt, rfl, W, st, hfp, cm, fin⟩ := h2
    refine wpAny_bind (wpAny_newObj_type ?_)
    rw [loop_name]
    refine wpAny_pure ⟨plainId_quiet F.plain_min_loop _, min_all (c := 0) (S := s2.heap.objs.size) W cm (fun z => Nat.lt_irrefl _ (hfp _ z)) (W.frame _ _ _ st fun b _ o g => Heap.get?_push_of_some _ g) (Heap.get?_push_size _ rfl) fun v h' tk hv keep => ?_⟩
    exact fin v h' tk hv fun b o nb g => keep b o nb (Nat.ne_of_lt (Heap.lt_size g)) (Heap.get?_push_of_some _ g)
  cases hsig : Manifest.signature? "min" with
  | none => exact wpAny_pure hc
  | some sig =>
    have ha : Bind.checkArgs "min" sig ⟨[x], [("default", d)]⟩ = pure () := by simpa only [argsOk, hsig] using args_minK x d
    simp only [ha]
    exact wpAny_pure hc
end L2
end
section
set_option Elab.async false
set_option linter.all false
set_option maxRecDepth 100000
set_option maxHeartbeats 400000
namespace L2
open PySem PySem.Spec PyProof.Rows
theorem size_down (a b:Int):Builtin.Range.rangeSize a b (-1)=if b < a then a - b else 0:=by
 unfold Builtin.Range.rangeSize
 rw [if_neg (by decide),show -(-1:Int)=1 from rfl,Int.ediv_one]
 by_cases h:b < a
 ·rw [if_pos h,if_pos h]; omega
 ·rw [if_neg h,if_neg h]
theorem small_down {a b:Int} (h1:-(2 ^ 62)≤a) (h2:a < 2 ^ 62) (h3:-(2 ^ 62)≤b) (h4:b < 2 ^ 62):Builtin.Range.small a b (-1)=true:=by
 unfold Builtin.Range.small
 rw [size_down]
 simp only [Builtin.Range.rangeFitsLong,Bool.and_eq_true,Bool.or_eq_true,decide_eq_true_eq,beq_iff_eq,show ¬ (-1:Int) > 0 by decide,if_false]
 split <;> omega
def Itd (hi:Int) (n:Nat):It:=⟨fun i _=>i < n,fun i H x H'=>H'=H∧x=.int (hi - i),fun i _=>n≤i⟩
theorem turn_down {P:Program} {w:World} {K:PySem.W.Frag} {tg:Expr} (it:Addr) (hi:Int) (n:Nat):Turn P w K tg (Itd hi n) [it] it (fun i h=>IsRangeIter h it (hi+(i:Nat) * (-1)) ((n:Int) - (i:Nat)) (-1)) where
 mem:=by simp
 obj:=fun i h st b hb=>by
  obtain rfl:b=it:=by simpa using hb
  exact ⟨_,st,fun v z=>by
   have z:Data.fields _=Data.cell v:=z
   cases z⟩
 keep:=fun i h h' st k=>k it (by simp) _ st
 item:=by
  intro X hP hw hK hc i pins s σ H E I hf st hg
  subst hP hw hK
  obtain ⟨f0,f1,f2,f3,f4,f5⟩:=hf it (by simp)
  refine (Walks.range (prog:=X.prog) (w:=X.w) (I.ok.hd hc) it hi (-1) n).item i s _ _ hg st fun v h' tk hv st' kk=>?_
  obtain ⟨t,rfl⟩:=hv
  refine ⟨_,rfl,go_of (s:={ s with heap:=h',toks:=tk }) (n := "range_iterator") st' rfl rfl (by decide) ⟨.int (hi - i),H,I.turned (fun b o hb e=>kk b o (by simpa using hb) e) f0 f1 f3 f4 f5,⟨t,?_⟩,⟨rfl,rfl⟩,st',fun b hb=>(hf b hb).1⟩⟩
  rw [show hi+(i:Nat) * (-1)=hi - (i:Nat) by omega]
 done:=by
  intro X hP hw hK hc i pins s σ H E I hf st hg
  subst hP hw hK
  obtain ⟨f0,f1,f2,f3,f4,f5⟩:=hf it (by simp)
  exact wpAny_pyNext_range_end (I.ok.hd hc) st (by have:n≤i:=hg; omega) fun h' eb=>⟨rfl,I.turned (t':=s.toks) (fun b o hb e=>eb b o hb e) f0 f1 f3 f4 f5⟩
 self:=fun _ _ _ _ _ st h=>wpAny_pyIter_rangeiter st h
section
variable {X:Cx} {tg:Expr}
theorem down_it {pins : List (Addr × Obj)} {σ : St} {H : Hp} {s : Shared} {R : It → Hp → Prop} {E : Value → Shared → Prop} {i j : Int} {t u v : Tok} {tk : Nat} (I : Inv X pins σ H s) (h1 : -(2 ^ 62) ≤ i) (h2 : i < 2 ^ 62) (h3 : -(2 ^ 62) ≤ j) (h4 : j < 2 ^ 62)
    (q : R (Itd i (i - j).toNat) H) : wpAny (model X.prog X.w) X.A (pyIter (.ref s.heap.objs.size)) (PIE X pins σ tg R) E { s with heap := s.heap.push { cls := .type "range", data := .fields #[.int i t, .int j u, .int (-1) v] }, toks := tk } := by
  refine wpAny_pyIter_range (IsRange.new ..) (small_down h1 h2 h3 h4) ?_
  have I1 : Inv X pins σ H { s with heap := s.heap.push { cls := .type "range", data := .fields #[.int i t, .int j u, .int (-1) v] }, toks := tk } := I.kept fun b o e => Heap.get?_push_of_some _ e
  refine ⟨_, [_], _, _, H, rfl, I1.kept (t' := tk) fun b o e => Heap.get?_push_of_some _ e, turn_down _ i (i - j).toNat, ?_, fun b hb => ?_, q⟩
  · have e1 : i + ((0 : Nat) : Int) * (-1) = i := by omega
    have e2 : (((i - j).toNat : Nat) : Int) - ((0 : Nat) : Int) = Builtin.Range.rangeSize i j (-1) := by rw [size_down]; split <;> omega
    show IsRangeIter _ _ (i + ((0 : Nat) : Int) * (-1)) ((((i - j).toNat : Nat) : Int) - ((0 : Nat) : Int)) (-1)
    rw [e1, e2]
    exact Heap.get?_push_size _ rfl
  · obtain rfl := List.mem_singleton.mp hb
    exact I1.fpOk (Nat.le_refl _) (I1.hok.fresh (Nat.le_refl _))
def iDown (ta:TA):TI:=fun σ H R=>ta σ H fun vs H1=>∃ i j:Int,vs=[.int i,.int j,.int (-1)]∧(-(2 ^ 62)≤i∧i < 2 ^ 62∧-(2 ^ 62)≤j∧j < 2 ^ 62)∧R (Itd i (i - j).toNat) H1
theorem pi_down {a b c : Expr} {ta : TA} {p pos : Pos} (hg : Gl X "range") (hm : X.mg "range" = none) (ha : PA X [a, b, c] ta) (hs : starEach [a, b, c] X.env = (false, eval a X.env) :: starEach [b, c] X.env) (hs2 : (backTo pos (starEach [b, c] X.env)).any (·.1) = false) :
    PI X tg (.Call (.Name "range" p) [a, b, c] [] pos) (iDown ta) := by
  intro pins s σ H R I h
  refine Call_ (ld_blt I hg hm boot_range (PyProof.Rows.callWith_type1 (thn (ha pos pins s σ H _ I h) fun us s1 ⟨vs, H1, I1, r1, q1⟩ => ?_) hs hs2))
  obtain ⟨i, j, e, ⟨q1, q2, q3, q4⟩, q⟩ := q1
  subst e
  cases r1 with
  | cons r rr =>
    cases rr with
    | cons r2 rr =>
      cases rr with
      | cons r3 rr =>
        cases rr
        obtain ⟨t, rfl⟩ := r
        obtain ⟨t2, rfl⟩ := r2
        obtain ⟨t3, rfl⟩ := r3
        exact call_range_3 (by decide) (down_it I1 q1 q2 q3 q4 q) (.inl (PyProof.noPylong_small (by decide)))
end
end L2
end
section
set_option Elab.async false
set_option linter.all false
set_option maxRecDepth 100000
set_option maxHeartbeats 4000000
namespace Ev
open L2
open PySem PySem.Spec PyProof.Rows
inductive D where
 | non | bl (b:Bool) | int (i:Int) | str (s:Str) | tup (ds:List D) | adr (n:Nat) | ls (ds:List D)
 deriving Inhabited
inductive MO where
 | lst (ds:List D) | scr (ds:List D) | dK (kvs:List (Key×D)) | dT (kvs:List (List Key×D))
 deriving Inhabited
abbrev Mem:=List MO
abbrev En:=List (Option D)
inductive W where
 | d (x:D) | lv (ds:List D)
 deriving Inhabited
structure Exn where
 cls:Nat
 fs:List D
inductive Out (α:Type) where
 | ok (a:α) (M:Mem) | err (x:Exn) (M:Mem) | stuck
def Out.bind {α β:Type} (o:Out α) (f:α→Mem→Out β):Out β:=match o with
 | .ok a M=>f a M
 | .err x M=>.err x M
 | .stuck=>.stuck
def ScrL (K:PySem.W.Frag) (H:Hp) (a:Addr) (xs:List V):Prop :=
 (∃ o,H a=some (.frz o (.lst xs)))∨∃ (o:Obj) (its:Array Value) (n:Nat),K.lookup a=some o∧o.cls=.type "list" ∧ o.dict=none∧o.data=.seq its n∧its.size≤sizeLine∧Vals xs its.toList
theorem ScrL.sq {K:PySem.W.Frag} {H:Hp} {a:Addr} {xs:List V} (h:ScrL K H a xs):SqL K H a xs:=by
 rcases h with ⟨o,h⟩ | h
 ·exact .inl (.inr ⟨o,h⟩)
 ·exact .inr h
mutual
def RD (K:PySem.W.Frag) (ads:List Addr) (H:Hp):D→V→Prop
 | .non,v=>v=.non
 | .bl b,v=>v=.bl b
 | .int i,v=>v=.int i
 | .str s,v=>v=.str s
 | .tup ds,v=>∃ a xs,v=.ref a∧H a=some (.tup xs)∧RDs K ads H ds xs
 | .adr n,v=>∃ a,v=.ref a∧ads[n]?=some a
 | .ls ds,v=>∃ a xs,v=.ref a∧ScrL K H a xs∧RDs K ads H ds xs
def RDs (K:PySem.W.Frag) (ads:List Addr) (H:Hp):List D→List V→Prop
 | [],xs=>xs=[]
 | d::ds,xs=>∃ x r,xs=x::r∧RD K ads H d x∧RDs K ads H ds r
end
section
variable (K:PySem.W.Frag) (ads:List Addr) (H:Hp)
def RKs {κ:Type}:List (κ×D)→List (κ×V)→Prop
 | [],xs=>xs=[]
 | p::ps,xs=>∃ x r,xs=x::r∧p.1=x.1∧RD K ads H p.2 x.2∧RKs ps r
def MOk (a:Addr):MO→Prop
 | .lst ds=>∃ xs,H a=some (.lst xs)∧RDs K ads H ds xs
 | .scr ds=>∃ o xs,H a=some (.frz o (.lst xs))∧RDs K ads H ds xs
 | .dK kvs=>∃ ks,H a=some (.dK ks)∧RKs K ads H kvs ks
 | .dT kvs=>∃ ks,H a=some (.dT ks)∧RKs K ads H kvs ks
structure MRel (M:Mem):Prop where
 nd:ads.Nodup
 len:ads.length=M.length
 obj:∀ (n:Nat) (o:MO) (a:Addr),M[n]?=some o→ads[n]?=some a→MOk K ads H a o
def REn (ρ:En) (σ:L2.St):Prop:=∀ (i:Nat) (d:D),ρ[i]?=some (some d)→∃ v,σ[i]?=some (some v)∧RD K ads H d v
def RW:W→V→Prop
 | .d x,v=>RD K ads H x v
 | .lv ds,v=>∃ a xs,v=.ref a∧H a=some (.lst xs)∧a∉ads∧RDs K ads H ds xs
end
def Kept (ads:List Addr) (H H':Hp):Prop:=∀ b o,b∉ads→H b=some o→H' b=some o
def TupK (H H':Hp):Prop:=∀ b xs,H b=some (.tup xs)→H' b=some (.tup xs)
structure Grow (ads ads':List Addr) (H H':Hp):Prop where
 pre:∃ r,ads'=ads++r
 new:∀ b∈ads',b∉ads→H b=none
 kept:Kept ads H H'
 tups:TupK H H'
 frz:∀ b o u,H b=some (.frz o u)→H' b=some (.frz o u)
theorem Grow.refl (ads:List Addr) (H:Hp):Grow ads ads H H:=⟨⟨[],by simp⟩,fun b h n=>absurd h n,fun _ _ _ h=>h,fun _ _ h=>h,fun _ _ _ h=>h⟩
theorem Grow.trans {a b c:List Addr} {H H1 H2:Hp} (g:Grow a b H H1) (k:Grow b c H1 H2):Grow a c H H2:=by
 obtain ⟨r,e⟩:=g.pre
 obtain ⟨r',e'⟩:=k.pre
 refine ⟨⟨r++r',by rw [e',e,List.append_assoc]⟩,fun x h n=>?_,fun x o n h=>?_,fun x xs h=>k.tups x xs (g.tups x xs h),fun x o u h=>k.frz x o u (g.frz x o u h)⟩
 ·by_cases hb:x∈b
  ·exact g.new x hb n
  ·have:=k.new x h hb
   cases q:H x with
   | none=>rfl
   | some o=>rw [g.kept x o n q] at this; cases this
 ·refine k.kept x o (fun hb=>?_) (g.kept x o n h)
  rw [g.new x hb n] at h; cases h
section
variable {K:PySem.W.Frag} {ads ads':List Addr} {H H':Hp}
theorem Grow.get (g:Grow ads ads' H H') {n:Nat} {a:Addr} (h:ads[n]?=some a):ads'[n]?=some a:=by
 obtain ⟨r,e⟩:=g.pre
 rw [e,List.getElem?_append_left (by have:=(List.getElem?_eq_some_iff.mp h).1; exact this)]
 exact h
theorem Grow.scr (g:Grow ads ads' H H') {a:Addr} {xs:List V} (h:ScrL K H a xs):ScrL K H' a xs:=by
 rcases h with ⟨o,h⟩ | h
 ·exact .inl ⟨o,g.frz _ _ _ h⟩
 ·exact .inr h
mutual
theorem Grow.rd (g:Grow ads ads' H H'):∀ (d:D) (v:V),RD K ads H d v→RD K ads' H' d v
 | .non,_,h=>by unfold RD at *; exact h
 | .bl _,_,h=>by unfold RD at *; exact h
 | .int _,_,h=>by unfold RD at *; exact h
 | .str _,_,h=>by unfold RD at *; exact h
 | .adr n,v,h=>by unfold RD at *; obtain ⟨a,e,h⟩:=h; exact ⟨a,e,g.get h⟩
 | .tup ds,v,h=>by unfold RD at *; obtain ⟨a,xs,e,h,r⟩:=h; exact ⟨a,xs,e,g.tups _ _ h,Grow.rds g ds xs r⟩
 | .ls ds,v,h=>by unfold RD at *; obtain ⟨a,xs,e,h,r⟩:=h; exact ⟨a,xs,e,g.scr h,Grow.rds g ds xs r⟩
theorem Grow.rds (g:Grow ads ads' H H'):∀ (ds:List D) (vs:List V),RDs K ads H ds vs→RDs K ads' H' ds vs
 | [],_,h=>by unfold RDs at *; exact h
 | d::ds,vs,h=>by unfold RDs at *; obtain ⟨x,r,e,h1,h2⟩:=h; exact ⟨x,r,e,Grow.rd g d x h1,Grow.rds g ds r h2⟩
end
theorem Grow.rks {κ:Type} (g:Grow ads ads' H H'):∀ (ds:List (κ×D)) (vs:List (κ×V)),RKs K ads H ds vs→RKs K ads' H' ds vs
 | [],_,h=>by unfold RKs at *; exact h
 | d::ds,vs,h=>by unfold RKs at *; obtain ⟨x,r,e,h0,h1,h2⟩:=h; exact ⟨x,r,e,h0,g.rd d.2 x.2 h1,Grow.rks g ds r h2⟩
theorem Grow.ren (g:Grow ads ads' H H') {ρ:En} {σ:L2.St} (h:REn K ads H ρ σ):REn K ads' H' ρ σ:=fun i d e=>by
 obtain ⟨v,e1,r⟩:=h i d e
 exact ⟨v,e1,g.rd d v r⟩
theorem Grow.notin (g:Grow ads ads' H H') {a:Addr} {o:HO} (n:a∉ads) (e:H a=some o):a∉ads':=fun h=>by
 rw [g.new a h n] at e; cases e
theorem Grow.rw (g:Grow ads ads' H H') {w:W} {v:V} (h:RW K ads H w v):RW K ads' H' w v:=by
 cases w with
 | d x=>exact g.rd x v h
 | lv ds =>
  obtain ⟨a,xs,e,h,n,r⟩:=h
  exact ⟨a,xs,e,g.kept a _ n h,g.notin n h,g.rds ds xs r⟩
theorem RDs.len:∀ {ds:List D} {vs:List V},RDs K ads H ds vs→ds.length=vs.length
 | [],_,h=>by unfold RDs at h; subst h; rfl
 | d::ds,vs,h=>by unfold RDs at h; obtain ⟨x,r,e,h1,h2⟩:=h; subst e; simp [RDs.len h2]
theorem RDs.get:∀ {ds:List D} {vs:List V} {i:Nat} {d:D},RDs K ads H ds vs→ds[i]?=some d→∃ v,vs[i]?=some v∧RD K ads H d v
 | [],_,_,_,h,e=>by simp at e
 | d::ds,vs,0,d',h,e=>by unfold RDs at h; obtain ⟨x,r,rfl,h1,h2⟩:=h; simp at e; subst e; exact ⟨x,rfl,h1⟩
 | d::ds,vs,i+1,d',h,e=>by
  unfold RDs at h; obtain ⟨x,r,rfl,h1,h2⟩:=h
  obtain ⟨v,e',r'⟩:=RDs.get (i:=i) h2 (by simpa using e)
  exact ⟨v,by simpa using e',r'⟩
theorem RDs.app:∀ {ds es:List D} {vs ws:List V},RDs K ads H ds vs→RDs K ads H es ws→RDs K ads H (ds++es) (vs++ws)
 | [],_,vs,_,h,k=>by unfold RDs at h; subst h; exact k
 | d::ds,es,vs,ws,h,k=>by
  unfold RDs at h; obtain ⟨x,r,rfl,h1,h2⟩:=h
  show RDs K ads H (d::(ds++es)) (x::(r++ws))
  unfold RDs; exact ⟨x,_,rfl,h1,RDs.app h2 k⟩
theorem RDs.one {d:D} {v:V} (h:RD K ads H d v):RDs K ads H [d] [v]:=by
 unfold RDs; exact ⟨v,[],rfl,h,by unfold RDs; rfl⟩
theorem RDs.take:∀ {ds:List D} {vs:List V} (n:Nat),RDs K ads H ds vs→RDs K ads H (ds.take n) (vs.take n)
 | _,_,0,_=>by simp; unfold RDs; rfl
 | [],vs,n+1,h=>by unfold RDs at h; subst h; simp; unfold RDs; rfl
 | d::ds,vs,n+1,h=>by unfold RDs at h; obtain ⟨x,r,rfl,h1,h2⟩:=h; simp only [List.take_succ_cons]; unfold RDs; exact ⟨x,_,rfl,h1,RDs.take n h2⟩
theorem RDs.drop:∀ {ds:List D} {vs:List V} (n:Nat),RDs K ads H ds vs→RDs K ads H (ds.drop n) (vs.drop n)
 | _,_,0,h=>by simpa using h
 | [],vs,n+1,h=>by unfold RDs at h; subst h; simp; unfold RDs; rfl
 | d::ds,vs,n+1,h=>by unfold RDs at h; obtain ⟨x,r,rfl,h1,h2⟩:=h; simp only [List.drop_succ_cons]; exact RDs.drop n h2
theorem RDs.setAt:∀ {ds:List D} {vs:List V} (n:Nat) {d:D} {v:V},RDs K ads H ds vs→RD K ads H d v→RDs K ads H (ds.set n d) (vs.set n v)
 | [],vs,n,_,_,h,_=>by unfold RDs at h; subst h; simp; unfold RDs; rfl
 | d::ds,vs,0,_,_,h,k=>by unfold RDs at h; obtain ⟨x,r,rfl,h1,h2⟩:=h; simp only [List.set_cons_zero]; unfold RDs; exact ⟨_,_,rfl,k,h2⟩
 | d::ds,vs,n+1,_,_,h,k=>by unfold RDs at h; obtain ⟨x,r,rfl,h1,h2⟩:=h; simp only [List.set_cons_succ]; unfold RDs; exact ⟨_,_,rfl,h1,RDs.setAt n h2 k⟩
theorem MRel.grow {M:Mem} (m:MRel K ads H M) (g:Grow ads ads H H') (k:∀ a∈ads,H' a=H a):MRel K ads H' M:=⟨m.nd,m.len,fun n o a e1 e2=>by
 have h:=m.obj n o a e1 e2
 have ha:=k a (List.mem_of_getElem? e2)
 cases o with
 | lst ds=>obtain ⟨xs,h,r⟩:=h; exact ⟨xs,ha.trans h,g.rds _ _ r⟩
 | scr ds=>obtain ⟨o,xs,h,r⟩:=h; exact ⟨o,xs,ha.trans h,g.rds _ _ r⟩
 | dK ds=>obtain ⟨xs,h,r⟩:=h; exact ⟨xs,ha.trans h,g.rks _ _ r⟩
 | dT ds=>obtain ⟨xs,h,r⟩:=h; exact ⟨xs,ha.trans h,g.rks _ _ r⟩⟩
theorem MRel.there {M:Mem} (m:MRel K ads H M) {a:Addr} (h:a∈ads):∃ o,H a=some o∧∀ xs,o≠.tup xs:=by
 obtain ⟨n,hn,e⟩:=List.mem_iff_getElem.mp h
 have e2:ads[n]?=some a:=by rw [List.getElem?_eq_getElem hn,e]
 have hM:n < M.length:=by rw [← m.len]; exact hn
 have h:=m.obj n M[n] a (List.getElem?_eq_getElem hM) e2
 cases q:M[n] with
 | lst ds=>rw [q] at h; obtain ⟨xs,h,r⟩:=h; exact ⟨_,h,fun _ z=>by cases z⟩
 | scr ds=>rw [q] at h; obtain ⟨o,xs,h,r⟩:=h; exact ⟨_,h,fun _ z=>by cases z⟩
 | dK ds=>rw [q] at h; obtain ⟨xs,h,r⟩:=h; exact ⟨_,h,fun _ z=>by cases z⟩
 | dT ds=>rw [q] at h; obtain ⟨xs,h,r⟩:=h; exact ⟨_,h,fun _ z=>by cases z⟩
theorem MRel.fresh {M:Mem} (m:MRel K ads H M) {p:Addr} (h:H p=none):p∉ads:=fun z=>by
 obtain ⟨o,e,_⟩:=m.there z; rw [h] at e; cases e
theorem Grow.new1 {M:Mem} (m:MRel K ads H M) {p:Addr} {o:HO} (h:H p=none):Grow ads ads H (upd H p o) :=
 ⟨⟨[],by simp⟩,fun b h n=>absurd h n,fun b u n e=>by rw [upd_ne (fun z=>by subst z; rw [h] at e; cases e)]; exact e,fun b xs e=>by rw [upd_ne (fun z=>by subst z; rw [h] at e; cases e)]; exact e,fun b u x e=>by rw [upd_ne (fun z=>by subst z; rw [h] at e; cases e)]; exact e⟩
theorem MRel.new1 {M:Mem} (m:MRel K ads H M) {p:Addr} {o:HO} (h:H p=none):MRel K ads (upd H p o) M :=
 m.grow (Grow.new1 m h) fun a ha=>upd_ne (fun z=>by subst z; exact m.fresh h ha)
theorem nodup_at {α:Type} {l:List α} (h:l.Nodup) {i j:Nat} {x:α} (a:l[i]?=some x) (b:l[j]?=some x):i=j:=by
 obtain ⟨h1,e1⟩:=List.getElem?_eq_some_iff.mp a
 obtain ⟨h2,e2⟩:=List.getElem?_eq_some_iff.mp b
 rcases Nat.lt_trichotomy i j with q | q | q
 ·exact absurd (e1.trans e2.symm) (List.pairwise_iff_getElem.mp h i j h1 h2 q)
 ·exact q
 ·exact absurd (e2.trans e1.symm) (List.pairwise_iff_getElem.mp h j i h2 h1 q)
mutual
theorem RD.wide {a:Addr}:∀ (d:D) (v:V),RD K ads H d v→RD K (ads++[a]) H d v
 | .non,_,h=>by unfold RD at *; exact h
 | .bl _,_,h=>by unfold RD at *; exact h
 | .int _,_,h=>by unfold RD at *; exact h
 | .str _,_,h=>by unfold RD at *; exact h
 | .adr n,v,h=>by
  unfold RD at *; obtain ⟨b,e,h⟩:=h
  exact ⟨b,e,by rw [List.getElem?_append_left (List.getElem?_eq_some_iff.mp h).1]; exact h⟩
 | .tup ds,v,h=>by unfold RD at *; obtain ⟨b,xs,e,h,r⟩:=h; exact ⟨b,xs,e,h,RDs.wide ds xs r⟩
 | .ls ds,v,h=>by unfold RD at *; obtain ⟨b,xs,e,h,r⟩:=h; exact ⟨b,xs,e,h,RDs.wide ds xs r⟩
theorem RDs.wide {a:Addr}:∀ (ds:List D) (vs:List V),RDs K ads H ds vs→RDs K (ads++[a]) H ds vs
 | [],_,h=>by unfold RDs at *; exact h
 | d::ds,vs,h=>by unfold RDs at *; obtain ⟨x,r,e,h1,h2⟩:=h; exact ⟨x,r,e,RD.wide d x h1,RDs.wide ds r h2⟩
end
theorem RKs.wide {κ:Type} {a:Addr}:∀ (ds:List (κ×D)) (vs:List (κ×V)),RKs K ads H ds vs→RKs K (ads++[a]) H ds vs
 | [],_,h=>by unfold RKs at *; exact h
 | d::ds,vs,h=>by unfold RKs at *; obtain ⟨x,r,e,h0,h1,h2⟩:=h; exact ⟨x,r,e,h0,RD.wide d.2 x.2 h1,RKs.wide ds r h2⟩
theorem MOk.wide {a b:Addr} {o:MO} (h:MOk K ads H b o):MOk K (ads++[a]) H b o:=by
 cases o with
 | lst ds=>obtain ⟨xs,h,r⟩:=h; exact ⟨xs,h,r.wide⟩
 | scr ds=>obtain ⟨o,xs,h,r⟩:=h; exact ⟨o,xs,h,r.wide⟩
 | dK ds=>obtain ⟨xs,h,r⟩:=h; exact ⟨xs,h,r.wide⟩
 | dT ds=>obtain ⟨xs,h,r⟩:=h; exact ⟨xs,h,r.wide⟩
theorem MRel.push {M : Mem} {o : MO} {a : Addr} (m : MRel K ads H M) (n : a ∉ ads) (h : MOk K ads H a o) : MRel K (ads ++ [a]) H (M ++ [o]) where
  nd := by
    rw [List.nodup_append]
    exact ⟨m.nd, by simp, fun x hx y hy => by have : y = a := by simpa using hy
                                              subst this; exact fun z => n (z ▸ hx)⟩
  len := by simp [m.len]
  obj := fun i o' b e1 e2 => by
    by_cases hi : i < M.length
    · rw [List.getElem?_append_left hi] at e1
      rw [List.getElem?_append_left (by rw [m.len]; exact hi)] at e2
      exact (m.obj i o' b e1 e2).wide
    · have hi' : i = M.length := by
        have := (List.getElem?_eq_some_iff.mp e1).1
        simp at this; omega
      subst hi'
      rw [List.getElem?_append_right (Nat.le_refl _)] at e1
      rw [List.getElem?_append_right (by rw [m.len]; exact Nat.le_refl _)] at e2
      simp [m.len] at e1 e2
      subst e1 e2
      exact h.wide
theorem MRel.write {M : Mem} {n : Nat} {a : Addr} {u o : MO} {ho : HO} (m : MRel K ads H M) (e : M[n]? = some u) (ea : ads[n]? = some a) (nf : ∀ o x, H a ≠ some (.frz o x)) (hn : MOk K ads (upd H a ho) a o) :
    Grow ads ads H (upd H a ho) ∧ MRel K ads (upd H a ho) (M.set n o) := by
  have hin : a ∈ ads := List.mem_of_getElem? ea
  obtain ⟨o1, e1, nt⟩ := m.there hin
  have g : Grow ads ads H (upd H a ho) := ⟨⟨[], by simp⟩, fun b h n => absurd h n, fun b x nb h => by rw [upd_ne (by intro z; subst z; exact nb hin)]; exact h, fun b xs h => by
      rw [upd_ne (fun z => by subst z; rw [e1] at h; exact nt xs (Option.some.inj h))]; exact h, fun b o u h => by rw [upd_ne (fun z => by subst z; exact nf _ _ h)]; exact h⟩
  refine ⟨g, m.nd, by rw [List.length_set]; exact m.len, fun i o' b x1 x2 => ?_⟩
  by_cases hi : i = n
  · subst hi
    rw [ea] at x2; cases x2
    rw [List.getElem?_set_self (List.getElem?_eq_some_iff.mp e).1] at x1
    cases x1; exact hn
  · rw [List.getElem?_set_ne (Ne.symm hi)] at x1
    have hb : b ≠ a := fun z => by
      subst z
      exact hi (nodup_at m.nd x2 ea)
    have h := m.obj i o' b x1 x2
    cases o' with
    | lst ds => obtain ⟨xs, h, r⟩ := h; exact ⟨xs, by rw [upd_ne hb]; exact h, g.rds _ _ r⟩
    | scr ds => obtain ⟨o, xs, h, r⟩ := h; exact ⟨o, xs, by rw [upd_ne hb]; exact h, g.rds _ _ r⟩
    | dK ds => obtain ⟨xs, h, r⟩ := h; exact ⟨xs, by rw [upd_ne hb]; exact h, g.rks _ _ r⟩
    | dT ds => obtain ⟨xs, h, r⟩ := h; exact ⟨xs, by rw [upd_ne hb]; exact h, g.rks _ _ r⟩
end
end Ev
end
section
set_option Elab.async false
set_option linter.all false
set_option maxRecDepth 100000
set_option maxHeartbeats 4000000
namespace Ev
open L2
open PySem PySem.Spec PyProof.Rows
mutual
def pyD (M:Mem):Nat→D→Option PyData
 | _,.non=>some .none
 | _,.bl b=>some (.bool b)
 | _,.int i=>some (.int i)
 | _,.str s=>some (.str s)
 | 0,.tup _=>none
 | 0,.adr _=>none
 | 0,.ls _=>none
 | n+1,.ls ds=>(pyDs M n ds).map .list
 | n+1,.tup ds=>(pyDs M n ds).map .tuple
 | n+1,.adr k=>match M[k]? with
  | some (.lst ds)=>(pyDs M n ds).map .list
  | some (.scr ds)=>(pyDs M n ds).map .list
  | _=>none
def pyDs (M:Mem):Nat→List D→Option (List PyData)
 | _,[]=>some []
 | n,d::ds=>match pyD M n d,pyDs M n ds with
  | some p,some ps=>some (p::ps)
  | _,_=>none
end
def pyW (M:Mem):W→Option PyData
 | .d x=>pyD M 30 x
 | .lv ds=>(pyDs M 30 ds).map .list
inductive BOp where
 | add | sub | mul | fdiv | mod | pow
 deriving DecidableEq
inductive COp where
 | eq | ne | lt | le | gt | ge | isN | notN | isin | notin
 deriving DecidableEq
inductive Ty where
 | int | bool | str | tuple | list | dict | none
 deriving DecidableEq
inductive Bi where
 | len | max2 | min2 | int1 | list1 | tuple1 | repr1 | isi (t:Ty) | all1 | any1 | dict1 | min1 | max1
 deriving DecidableEq
inductive Me where
 | append | insert | reverse | extend
 deriving DecidableEq
inductive SK where
 | seq | rng1 | rng2 | enum | zip | rngd
 deriving DecidableEq
mutual
inductive C where
 | var (i:Nat)
 | cst (d:D)
 | bin (op:BOp) (a b:C)
 | cmp (op:COp) (a b:C)
 | chain (o1 o2:COp) (a b c:C)
 | conj (cs:List C) | disj (cs:List C) | neg (a:C)
 | ite (c:Tst) (a b:C)
 | tup (cs:List C) | lst (cs:List C)
 | sub (a b:C)
 | slc (a:C) (lo hi:Option C)
 | stp (a:C) (k:Int)
 | sfind (a b:C)
 | call (f:Nat) (cs:List C)
 | bi (b:Bi) (cs:List C)
 | me (m:Me) (o:C) (cs:List C)
 | dct (ks:List Str) (cs:List C)
 | rng (tp:Bool) (cs:List C)
 | usub (a:C)
 | minD (a b:C)
 | comp (k:SK) (src:List C) (tg:List Nat) (cond:Option Tst) (elt:C) (cap:List (Option Nat))
inductive Tst where
 | val (c:C) | conj (ts:List Tst) | disj (ts:List Tst) | neg (a:Tst)
end
def seqW (M:Mem):W→Option (Bool×List D)
 | .lv ds=>some (true,ds)
 | .d (.tup ds)=>some (false,ds)
 | .d (.ls ds)=>some (true,ds)
 | .d (.adr n)=>match M[n]? with
  | some (.lst ds)=>some (true,ds)
  | some (.scr ds)=>some (true,ds)
  | _=>none
 | _=>none
def lstW (M:Mem):W→Option (List D)
 | .lv ds=>some ds
 | .d (.adr n)=>match M[n]? with
  | some (.lst ds)=>some ds
  | _=>none
 | _=>none
def own:W→Mem→Out D
 | .d x,M=>.ok x M
 | .lv ds,M=>.ok (.adr M.length) (M++[.lst ds])
def ixD (ds:List D) (i:Int):Option D:=atI ds i
def cutD (ds:List D) (lo hi:Option Int):List D:=(ds.drop (HT.sIx ds.length 0 lo)).take (HT.sIx ds.length ds.length hi - HT.sIx ds.length 0 lo)
def binW (op:BOp) (a b:W) (M:Mem):Out W :=
 match op,a,b with
 | .add,.d (.int i),.d (.int j)=>.ok (.d (.int (i+j))) M
 | .sub,.d (.int i),.d (.int j)=>.ok (.d (.int (i - j))) M
 | .mul,.d (.int i),.d (.int j)=>if (-(2 ^ 64) < i∧i < 2 ^ 64)∨(-(2 ^ 64) < j∧j < 2 ^ 64) then .ok (.d (.int (i * j))) M else .stuck
 | .fdiv,.d (.int i),.d (.int j)=>if 0 < j∧j < 1073741824 then .ok (.d (.int (i / j))) M else .stuck
 | .mod,.d (.int i),.d (.int j)=>if 0 < j then .ok (.d (.int (i % j))) M else .stuck
 | .pow,.d (.int i),.d (.int j)=>if 0≤j∧j≤1000000∧i.natAbs < 2 ^ 64 then .ok (.d (.int (i ^ j.toNat))) M else .stuck
 | .add,.d (.tup xs),.d (.tup ys)=>if xs.length+ys.length≤sizeLine then .ok (.d (.tup (xs++ys))) M else .stuck
 | .add,a,b=>match lstW M a,lstW M b with
  | some xs,some ys=>if xs.length+ys.length≤sizeLine then .ok (.lv (xs++ys)) M else .stuck
  | _,_=>.stuck
 | .mul,a,.d (.int k)=>match lstW M a with
  | some xs=>if -(2 ^ 63)≤k∧k < 2 ^ 63∧xs.length * k.toNat≤sizeLine then .ok (.lv (List.replicate k.toNat xs).flatten) M else .stuck
  | none=>.stuck
 | _,_,_=>.stuck
def inPy (p:PyData):List PyData→Bool
 | []=>false
 | q::qs=>PyData.eqv q p || inPy p qs
def dctW (M:Mem):W→Option (List (Key×D))
 | .d (.adr n)=>match M[n]? with
  | some (.dK kvs)=>some kvs
  | _=>none
 | _=>none
def keyW:W→Option Key
 | .d (.int i)=>some (Sum.inl i)
 | .d (.str s)=>some (Sum.inr s)
 | _=>none
def getK {κ:Type} [DecidableEq κ] (kvs:List (κ×D)) (k:κ):Option D:=(kvs.find? fun p=>decide (p.1=k)).map (·.2)
def eqKs (M:Mem) (kb:List (Key×D)):List (Key×D)→Option Bool
 | []=>some true
 | (k,v)::r=>match getK kb k with
  | none=>some false
  | some y=>match pyD M 30 v,pyD M 30 y with
   | some p,some q=>if SeqAt.shaped p=true∧SeqAt.shaped q=true then (eqKs M kb r).map (PyData.eqv p q && ·) else none
   | _,_=>none
def cmpW (op:COp) (a b:W) (M:Mem):Out Bool :=
 match op with
 | .eq=>match pyW M a,pyW M b with
  | some p,some q=>if SeqAt.shaped p=true∧SeqAt.shaped q=true then .ok (PyData.eqv p q) M else .stuck
  | _,_=>match dctW M a,dctW M b with
   | some ka,some kb=>match eqKs M kb ka with
    | some r=>.ok (ka.length == kb.length && r) M
    | none=>.stuck
   | _,_=>.stuck
 | .ne=>match pyW M a,pyW M b with
  | some p,some q=>if SeqAt.shaped p=true∧SeqAt.shaped q=true then .ok (!PyData.eqv p q) M else .stuck
  | _,_=>.stuck
 | .lt=>match a,b with
  | .d (.int i),.d (.int j)=>.ok (decide (i < j)) M
  | .d (.str x),.d (.str y)=>.ok (decide (x.cps.toList < y.cps.toList)) M
  | _,_=>.stuck
 | .le=>match a,b with
  | .d (.int i),.d (.int j)=>.ok (decide (i≤j)) M
  | .d (.str x),.d (.str y)=>.ok (!decide (y.cps.toList < x.cps.toList)) M
  | _,_=>.stuck
 | .gt=>match a,b with
  | .d (.int i),.d (.int j)=>.ok (decide (j < i)) M
  | _,_=>.stuck
 | .ge=>match a,b with
  | .d (.int i),.d (.int j)=>.ok (decide (j≤i)) M
  | _,_=>.stuck
 | .isN=>match a with
  | .d .non=>.ok true M
  | _=>.ok false M
 | .notN=>match a with
  | .d .non=>.ok false M
  | _=>.ok true M
 | .isin=>match pyW M a,seqW M b with
  | some p,some (_,ds)=>match pyDs M 30 ds with
   | some qs=>if SeqAt.shaped p=true∧qs.all SeqAt.shaped=true then .ok (inPy p qs) M else .stuck
   | none=>.stuck
  | _,none=>match keyW a,dctW M b with
   | some k,some kvs=>.ok (getK kvs k).isSome M
   | _,_=>.stuck
  | _,_=>.stuck
 | .notin=>match pyW M a,seqW M b with
  | some p,some (_,ds)=>match pyDs M 30 ds with
   | some qs=>if SeqAt.shaped p=true∧qs.all SeqAt.shaped=true then .ok (!inPy p qs) M else .stuck
   | none=>.stuck
  | _,none=>match keyW a,dctW M b with
   | some k,some kvs=>.ok (!(getK kvs k).isSome) M
   | _,_=>.stuck
  | _,_=>.stuck
def truW (M:Mem):W→Option Bool
 | .d .non=>some false
 | .d (.bl b)=>some b
 | .d (.int i)=>some (i != 0)
 | w=>(seqW M w).map fun p=>!p.2.isEmpty
def subW (a b : W) (M : Mem) : Out W :=
  match b with
  | .d (.int i) => match seqW M a with
    | some (_, ds) => match ixD ds i with
      | some d => .ok (.d d) M
      | none => .stuck
    | none => match a with
      | .d (.str s) => if s.length ≤ sizeLine then match atI s.cps.toList i with
          | some c => .ok (.d (.str ⟨#[c]⟩)) M
          | none => .stuck
        else .stuck
      | .d (.adr n) => match M[n]? with
        | some (.dK kvs) => match getK kvs (Sum.inl i : Key) with
          | some d => .ok (.d d) M
          | none => .stuck
        | _ => .stuck
      | _ => .stuck
  | .d (.str k) => match a with
    | .d (.adr n) => match M[n]? with
      | some (.dK kvs) => match (kvs.find? fun p => decide (p.1 = (Sum.inr k : Key))).map (·.2) with
        | some d => .ok (.d d) M
        | none => .stuck
      | _ => .stuck
    | _ => .stuck
  | _ => .stuck
def slcW (a:W) (lo hi:Option Int) (M:Mem):Out W :=
 match seqW M a with
 | some (true,ds)=>.ok (.lv (cutD ds lo hi)) M
 | some (false,ds)=>if HT.sIx ds.length 0 lo=0∧HT.sIx ds.length ds.length hi=ds.length then .stuck else .ok (.d (.tup (cutD ds lo hi))) M
 | none=>.stuck
def optI:W→Option Int
 | .d (.int i)=>some i
 | _=>none
def tagW (M:Mem):W→Option Ty
 | .lv _=>some .list
 | .d .non=>some .none
 | .d (.bl _)=>some .bool
 | .d (.int _)=>some .int
 | .d (.str _)=>some .str
 | .d (.tup _)=>some .tuple
 | .d (.ls _)=>none
 | .d (.adr n)=>match M[n]? with
  | some (.lst _)=>some .list
  | some (.scr _)=>some .list
  | some (.dK _)=>some .dict
  | some (.dT _)=>some .dict
  | none=>none
def blsD:List D→Option (List Bool)
 | []=>some []
 | .bl b::ds=>(blsD ds).map (b::·)
 | _::_=>none
def intsD:List D→Option (List Int)
 | []=>some []
 | .int b::ds=>(intsD ds).map (b::·)
 | _::_=>none
def stepL {α:Type} (xs:List α) (k:Int):List α:=(List.range (Builtin.Slice.slicePlaces (Builtin.Slice.sliceAdjust none none k (xs.length:Int)).1 (Builtin.Slice.sliceAdjust none none k (xs.length:Int)).2 k)).filterMap fun (j:Nat)=>xs[((Builtin.Slice.sliceAdjust none none k (xs.length:Int)).1+(j:Int) * k).toNat]?
def stpW (a:W) (k:Int) (M:Mem):Out W :=
 match a with
 | .d (.tup ds)=>if (k=2∨k=-1)∧(stepL ds k).length≤sizeLine then .ok (.d (.tup (stepL ds k))) M else .stuck
 | _=>.stuck
def findW (a b:W) (M:Mem):Out W :=
 match a,b with
 | .d (.str x),.d (.str y)=>.ok (.d (.int (Txt.find x y))) M
 | _,_=>.stuck
def putD {κ:Type} [DecidableEq κ] (kvs:List (κ×D)) (k:κ) (v:D):List (κ×D) :=
 if (kvs.any fun kv=>decide (kv.1=k))=true then kvs.map (fun kv=>if kv.1=k then (kv.1,v) else kv) else kvs++[(k,v)]
def pairD:D→Option (Key×D)
 | .tup [.int i,d]=>some (Sum.inl i,d)
 | .tup [.str x,d]=>some (Sum.inr x,d)
 | _=>none
def prsD (acc:List (Key×D)):List D→Option (List (Key×D))
 | []=>some acc
 | d::ds=>match pairD d with
  | some (k,x)=>prsD (putD acc k x) ds
  | none=>none
def biW (b:Bi) (ws:List W) (M:Mem):Out W :=
 match b,ws with
 | .len,[w]=>match seqW M w with
  | some (_,ds)=>.ok (.d (.int ds.length)) M
  | none=>match w with
   | .d (.str x)=>if x.length≤sizeLine then .ok (.d (.int x.length)) M else .stuck
   | _=>.stuck
 | .all1,[w]=>match seqW M w with
  | some (_,ds)=>match blsD ds with
   | some bs=>.ok (.d (.bl (bs.all id))) M
   | none=>.stuck
  | none=>.stuck
 | .any1,[w]=>match seqW M w with
  | some (_,ds)=>match blsD ds with
   | some bs=>.ok (.d (.bl (bs.any id))) M
   | none=>.stuck
  | none=>.stuck
 | .min1,[w]=>match seqW M w with
  | some (_,ds)=>match intsD ds with
   | some (i::is)=>.ok (.d (.int (is.foldl (fun a b=>if b < a then b else a) i))) M
   | _=>.stuck
  | none=>.stuck
 | .max1,[w]=>match seqW M w with
  | some (_,ds)=>match intsD ds with
   | some (i::is)=>.ok (.d (.int (is.foldl (fun a b=>if a < b then b else a) i))) M
   | _=>.stuck
  | none=>.stuck
 | .max2,[.d (.int i),.d (.int j)]=>.ok (.d (.int (if j > i then j else i))) M
 | .min2,[.d (.int i),.d (.int j)]=>.ok (.d (.int (if j < i then j else i))) M
 | .int1,[.d (.int i)]=>.ok (.d (.int i)) M
 | .int1,[.d (.bl k)]=>.ok (.d (.int (if k then 1 else 0))) M
 | .list1,[w]=>match seqW M w with
  | some (_,ds)=>.ok (.lv ds) M
  | none=>.stuck
 | .tuple1,[w]=>match seqW M w with
  | some (_,ds)=>.ok (.d (.tup ds)) M
  | none=>.stuck
 | .repr1,[w]=>match pyW M w with
  | some p=>if p.showable=true∧p.depth≤40∧p.shown.length≤sizeLine then .ok (.d (.str p.shown)) M else .stuck
  | none=>.stuck
 | .dict1,[w]=>match dctW M w with
  | some kvs=>.ok (.d (.adr M.length)) (M++[.dK kvs])
  | none=>match seqW M w with
   | some (true,ds)=>match prsD [] ds with
    | some kvs=>.ok (.d (.adr M.length)) (M++[.dK kvs])
    | none=>.stuck
   | _=>.stuck
 | .isi t,[w]=>match tagW M w with
  | some g=>.ok (.d (.bl (decide (g=t) || (decide (g=.bool) && decide (t=.int))))) M
  | none=>.stuck
 | _,_=>.stuck
def rngArg:List W→Option (Int×Int)
 | [.d (.int i),.d (.int j)]=>some (i,j)
 | [.d (.int j)]=>some (0,j)
 | _=>none
def rngD (i:Int) (n:Nat):List D:=(List.range n).map fun k=>D.int (i+((k:Nat):Int))
def rngOut (tp:Bool) (ds:List D):W:=if tp=true then .d (.tup ds) else .lv ds
def rngW (tp:Bool) (ws:List W) (M:Mem):Out W:=match rngArg ws with
 | some (i,j)=>if (-(2 ^ 62)≤i∧i < 2 ^ 62∧-(2 ^ 62)≤j∧j < 2 ^ 62)∧(j - i).toNat≤2 ^ 24 then .ok (rngOut tp (rngD i (j - i).toNat)) M else .stuck
 | none=>.stuck
def meW (m:Me) (o:W) (ws:List D) (M:Mem):Out W :=
 match o with
 | .d (.adr n)=>match M[n]? with
  | some (.lst ds)=>match m,ws with
   | .append,[x]=>if ds.length < sizeLine then .ok (.d .non) (M.set n (.lst (ds++[x]))) else .stuck
   | .insert,[.int i,x]=>if ds.length < sizeLine∧0≤i∧i≤ds.length then .ok (.d .non) (M.set n (.lst (ds.take i.toNat++x::ds.drop i.toNat))) else .stuck
   | .reverse,[]=>.ok (.d .non) (M.set n (.lst ds.reverse))
   | _,_=>.stuck
  | _=>.stuck
 | _=>.stuck
inductive Z1 where
 | items (ds:List D) | at (n:Nat)
def seqZ (M:Mem):Z1→Option (List D)
 | .items ds=>some ds
 | .at n=>match M[n]? with
  | some (.lst ds)=>some ds
  | some (.scr ds)=>some ds
  | _=>none
def z1W (M:Mem):W→Option Z1
 | .lv ds=>some (.items ds)
 | .d (.tup ds)=>some (.items ds)
 | .d (.ls ds)=>some (.items ds)
 | .d (.adr n)=>if (seqW M (.d (.adr n))).isSome then some (.at n) else none
 | _=>none
def zipAt (xs ys:List D) (i:Nat):Option D:=match xs[i]?,ys[i]? with
 | some x,some y=>some (.tup [x,y])
 | _,_=>none
inductive It where
 | at (n:Nat) | items (ds:List D) | rng (lo:Int) (n:Nat) | enumAt (n:Nat) | enumIt (ds:List D) | zip (a b:Z1)
def itemAt (M:Mem) (i:Nat):It→Option (Option D)
 | .at n=>match M[n]? with
  | some (.lst ds)=>some ds[i]?
  | some (.scr ds)=>some ds[i]?
  | _=>none
 | .items ds=>some ds[i]?
 | .rng lo n=>some (if i < n then some (.int (lo+i)) else none)
 | .enumAt n=>match M[n]? with
  | some (.lst ds)=>some (ds[i]?.map fun d=>.tup [.int i,d])
  | some (.scr ds)=>some (ds[i]?.map fun d=>.tup [.int i,d])
  | _=>none
 | .enumIt ds=>some (ds[i]?.map fun d=>.tup [.int i,d])
 | .zip a b=>match seqZ M a,seqZ M b with
  | some xs,some ys=>some (zipAt xs ys i)
  | _,_=>none
def itLen (M:Mem):It→Nat
 | .at n=>match M[n]? with
  | some (.lst ds)=>ds.length
  | some (.scr ds)=>ds.length
  | _=>0
 | .items ds=>ds.length
 | .rng _ n=>n
 | .enumAt n=>match M[n]? with
  | some (.lst ds)=>ds.length
  | some (.scr ds)=>ds.length
  | _=>0
 | .enumIt ds=>ds.length
 | .zip a b=>match seqZ M a,seqZ M b with
  | some xs,some ys=>min xs.length ys.length
  | _,_=>0
def dwnD (i:Int) (n:Nat):List D:=(List.range n).map fun k=>.int (i - (k:Nat))
def srcW (k:SK) (ws:List W) (M:Mem):Out It :=
 match k,ws with
 | .seq,[.lv ds]=>.ok (.items ds) M
 | .seq,[.d (.tup ds)]=>.ok (.items ds) M
 | .seq,[.d (.ls ds)]=>.ok (.items ds) M
 | .seq,[.d (.adr n)]=>if (seqW M (.d (.adr n))).isSome then .ok (.at n) M else .stuck
 | .rng1,[.d (.int j)]=>if -(2 ^ 62)≤j∧j < 2 ^ 62 then .ok (.rng 0 j.toNat) M else .stuck
 | .rng2,[.d (.int i),.d (.int j)]=>if -(2 ^ 62)≤i∧i < 2 ^ 62∧-(2 ^ 62)≤j∧j < 2 ^ 62 then .ok (.rng i (j - i).toNat) M else .stuck
 | .enum,[.lv ds]=>.ok (.enumIt ds) M
 | .enum,[.d (.tup ds)]=>.ok (.enumIt ds) M
 | .enum,[.d (.ls ds)]=>.ok (.enumIt ds) M
 | .enum,[.d (.adr n)]=>if (seqW M (.d (.adr n))).isSome then .ok (.enumAt n) M else .stuck
 | .rngd,[.d (.int i),.d (.int j),.d (.int k)]=>if k=-1∧-(2 ^ 62)≤i∧i < 2 ^ 62∧-(2 ^ 62)≤j∧j < 2 ^ 62 then .ok (.items (dwnD i (i - j).toNat)) M else .stuck
 | .zip,[u,v]=>match z1W M u,z1W M v with
  | some a,some b=>.ok (.zip a b) M
  | _,_=>.stuck
 | _,_=>.stuck
def setAll (tg:List Nat) (ds:List D) (ρ:En):Option En :=
 match tg,ds with
 | [],[]=>some ρ
 | i::tg,d::ds=>setAll tg ds (ρ.set i (some d))
 | _,_=>none
def bindT (tg:List Nat) (d:D) (ρ:En):Option En :=
 match tg with
 | [i]=>some (ρ.set i (some d))
 | _=>match d with
  | .tup ds=>setAll tg ds ρ
  | _=>none
abbrev Fns:=Nat→List D→Mem→Out W
def capEn (cap:List (Option Nat)) (ρ:En):En:=cap.map fun o=>o.bind fun j=>(ρ[j]?).join
def compGo (cond : En → Mem → Out Bool) (elt : En → Mem → Out D) (it : It) (tg : List Nat) : Nat → Nat → En → Mem → List D → Out W
  | 0, i, _, M, acc => match itemAt M i it with
    | some none => .ok (.lv acc) M
    | _ => .stuck
  | f + 1, i, τ, M, acc => match itemAt M i it with
    | some none => .ok (.lv acc) M
    | some (some d) => match bindT tg d τ with
      | none => .stuck
      | some τ => if acc.length < sizeLine then
          (cond τ M).bind fun b M => if b then (elt τ M).bind fun x M => compGo cond elt it tg f (i + 1) τ M (acc ++ [x]) else compGo cond elt it tg f (i + 1) τ M acc
        else .stuck
    | none => .stuck
def negW (x:W) (M:Mem):Out W:=match x with
 | .d (.int i)=>.ok (.d (.int (-i))) M
 | _=>.stuck
def mnD (d:Int):List Int→Int
 | []=>d
 | i::is=>is.foldl (fun a b=>if b < a then b else a) i
def minDW (x y:W) (M:Mem):Out W:=match seqW M x,y with
 | some (_,ds),.d (.int d)=>match intsD ds with
  | some is=>.ok (.d (.int (mnD d is))) M
  | none=>.stuck
 | _,_=>.stuck
mutual
def ev (G : Fns) : C → En → Mem → Out W
  | .var i, ρ, M => match ρ[i]? with
    | some (some d) => .ok (.d d) M
    | _ => .stuck
  | .cst d, _, M => .ok (.d d) M
  | .bin op a b, ρ, M => (ev G a ρ M).bind fun x M => (ev G b ρ M).bind fun y M => binW op x y M
  | .cmp op a b, ρ, M => (ev G a ρ M).bind fun x M => (ev G b ρ M).bind fun y M => (cmpW op x y M).bind fun r M => .ok (.d (.bl r)) M
  | .chain o1 o2 a b c, ρ, M => (ev G a ρ M).bind fun x M => (ev G b ρ M).bind fun y M => (cmpW o1 x y M).bind fun r M =>
      if r then (ev G c ρ M).bind fun z M => (cmpW o2 y z M).bind fun r M => .ok (.d (.bl r)) M else .ok (.d (.bl false)) M
  | .conj cs, ρ, M => evAnd G cs ρ M
  | .disj cs, ρ, M => evOr G cs ρ M
  | .neg a, ρ, M => (ev G a ρ M).bind fun x M => match x with
    | .d (.bl r) => .ok (.d (.bl (!r))) M
    | _ => .stuck
  | .ite c a b, ρ, M => (evT G c ρ M).bind fun r M => if r then ev G a ρ M else ev G b ρ M
  | .tup cs, ρ, M => (evDs G cs ρ M).bind fun ds M => if ds.length ≤ sizeLine then .ok (.d (.tup ds)) M else .stuck
  | .lst cs, ρ, M => (evDs G cs ρ M).bind fun ds M => if ds.length ≤ sizeLine then .ok (.lv ds) M else .stuck
  | .sub a b, ρ, M => (ev G a ρ M).bind fun x M => (ev G b ρ M).bind fun y M => subW x y M
  | .slc a lo hi, ρ, M => (ev G a ρ M).bind fun x M => (evO G lo ρ M).bind fun l M => (evO G hi ρ M).bind fun h M => slcW x l h M
  | .stp a k, ρ, M => (ev G a ρ M).bind fun x M => stpW x k M
  | .sfind a b, ρ, M => (ev G a ρ M).bind fun x M => match x with
    | .d (.str z) => (ev G b ρ M).bind fun y M => findW (.d (.str z)) y M
    | _ => .stuck
  | .call f cs, ρ, M => (evDs G cs ρ M).bind fun ds M => G f ds M
  | .bi b cs, ρ, M => (evWs G cs ρ M).bind fun ws M => biW b ws M
  | .me m o cs, ρ, M => (ev G o ρ M).bind fun x M => if (lstW M x).isSome then (evDs G cs ρ M).bind fun ds M => meW m x ds M else .stuck
  | .dct ks cs, ρ, M => (evDs G cs ρ M).bind fun ds M => if ks.length = ds.length then .ok (.d (.adr M.length)) (M ++ [.dK ((ks.map Sum.inr).zip ds)]) else .stuck
  | .rng tp cs, ρ, M => (evWs G cs ρ M).bind fun ws M => rngW tp ws M
  | .usub a, ρ, M => (ev G a ρ M).bind fun x M => negW x M
  | .minD a b, ρ, M => (ev G a ρ M).bind fun x M => (ev G b ρ M).bind fun y M => minDW x y M
  | .comp k src tg cond elt cap, ρ, M => (evWs G src ρ M).bind fun ws M => (srcW k ws M).bind fun it M =>
      compGo (fun τ M => evCond G cond τ M) (fun τ M => (ev G elt τ M).bind own) it tg (itLen M it) 0 (capEn cap ρ) M []
def evT (G:Fns):Tst→En→Mem→Out Bool
 | .conj ts,ρ,M=>evAll G ts ρ M
 | .disj ts,ρ,M=>evAny G ts ρ M
 | .neg a,ρ,M=>(evT G a ρ M).bind fun r M=>.ok (!r) M
 | .val c,ρ,M=>(ev G c ρ M).bind fun w M=>match truW M w with
  | some r=>.ok r M
  | none=>.stuck
def evAnd (G:Fns):List C→En→Mem→Out W
 | [],_,_=>.stuck
 | c::cs,ρ,M=>(ev G c ρ M).bind fun x M=>match cs,x with
  | [],x=>.ok x M
  | _,.d (.bl true)=>evAnd G cs ρ M
  | _,.d (.bl false)=>.ok (.d (.bl false)) M
  | _,_=>.stuck
def evOr (G:Fns):List C→En→Mem→Out W
 | [],_,_=>.stuck
 | c::cs,ρ,M=>(ev G c ρ M).bind fun x M=>match cs,x with
  | [],x=>.ok x M
  | _,.d (.bl false)=>evOr G cs ρ M
  | _,.d (.bl true)=>.ok (.d (.bl true)) M
  | _,_=>.stuck
def evAll (G:Fns):List Tst→En→Mem→Out Bool
 | [],_,_=>.stuck
 | c::cs,ρ,M=>(evT G c ρ M).bind fun x M=>match cs,x with
  | [],x=>.ok x M
  | _,true=>evAll G cs ρ M
  | _,false=>.ok false M
def evAny (G:Fns):List Tst→En→Mem→Out Bool
 | [],_,_=>.stuck
 | c::cs,ρ,M=>(evT G c ρ M).bind fun x M=>match cs,x with
  | [],x=>.ok x M
  | _,false=>evAny G cs ρ M
  | _,true=>.ok true M
def evDs (G:Fns):List C→En→Mem→Out (List D)
 | [],_,M=>.ok [] M
 | c::cs,ρ,M=>((ev G c ρ M).bind own).bind fun d M=>(evDs G cs ρ M).bind fun ds M=>.ok (d::ds) M
def evWs (G:Fns):List C→En→Mem→Out (List W)
 | [],_,M=>.ok [] M
 | c::cs,ρ,M=>(ev G c ρ M).bind fun d M=>(evWs G cs ρ M).bind fun ds M=>.ok (d::ds) M
def evO (G:Fns):Option C→En→Mem→Out (Option Int)
 | none,_,M=>.ok none M
 | some c,ρ,M=>(ev G c ρ M).bind fun w M=>match w with
  | .d (.int i)=>.ok (some i) M
  | _=>.stuck
def evCond (G:Fns):Option Tst→En→Mem→Out Bool
 | none,_,M=>.ok true M
 | some c,ρ,M=>evT G c ρ M
end
end Ev
end
section
set_option Elab.async false
set_option linter.all false
set_option maxRecDepth 100000
set_option maxHeartbeats 4000000
namespace Ev
open L2
open PySem PySem.Spec PyProof.Rows
def RWn (K:PySem.W.Frag) (ads:List Addr) (H₀ H:Hp):W→V→Prop
 | .d x,v=>RD K ads H x v
 | .lv ds,v=>∃ a xs,v=.ref a∧H₀ a=none∧H a=some (.lst xs)∧a∉ads∧RDs K ads H ds xs
def PostW (K:PySem.W.Frag) (ads:List Addr) (H:Hp) (w:W) (M':Mem) (Q:VK):Prop :=
 ∀ v H' ads',Grow ads ads' H H'→MRel K ads' H' M'→RWn K ads' H H' w v→Q v H'
def PostDs (K:PySem.W.Frag) (ads:List Addr) (H:Hp) (ds:List D) (M':Mem) (Q:List V→Hp→Prop):Prop :=
 ∀ vs H' ads',Grow ads ads' H H'→MRel K ads' H' M'→RDs K ads' H' ds vs→Q vs H'
def PostB (K:PySem.W.Frag) (ads:List Addr) (H:Hp) (b:Bool) (M':Mem) (Q:Bool→Hp→Prop):Prop :=
 ∀ H' ads',Grow ads ads' H H'→MRel K ads' H' M'→Q b H'
def OkW (K:PySem.W.Frag) (ads:List Addr) (H:Hp) (Q:VK):Out W→Prop
 | .ok w M=>PostW K ads H w M Q
 | _=>False
def OkDs (K:PySem.W.Frag) (ads:List Addr) (H:Hp) (Q:List V→Hp→Prop):Out (List D)→Prop
 | .ok w M=>PostDs K ads H w M Q
 | _=>False
def OkB (K:PySem.W.Frag) (ads:List Addr) (H:Hp) (Q:Bool→Hp→Prop):Out Bool→Prop
 | .ok w M=>PostB K ads H w M Q
 | _=>False
structure SR (K:PySem.W.Frag) (ads:List Addr) (M:Mem) (ρ:En) (σ:L2.St) (H:Hp):Prop where
 mem:MRel K ads H M
 en:REn K ads H ρ σ
 ln:ρ.length=σ.length
def tE (K:PySem.W.Frag) (o:En→Mem→Out W):TE:=fun σ H Q=>∃ ads M ρ,SR K ads M ρ σ H∧OkW K ads H Q (o ρ M)
def tDs (K:PySem.W.Frag) (o:En→Mem→Out (List D)):TA:=fun σ H Q=>∃ ads M ρ,SR K ads M ρ σ H∧OkDs K ads H Q (o ρ M)
def tTs (K:PySem.W.Frag) (o:En→Mem→Out Bool):TT:=fun σ H Q=>∃ ads M ρ,SR K ads M ρ σ H∧OkB K ads H Q (o ρ M)
section
variable {K:PySem.W.Frag} {ads ads' ads2:List Addr} {H H' H2:Hp} {M M2:Mem} {ρ:En} {σ:L2.St}
theorem RWn.rw {H₀:Hp} {w:W} {v:V} (h:RWn K ads H₀ H w v):RW K ads H w v:=by
 cases w with
 | d x=>exact h
 | lv ds=>obtain ⟨a,xs,e,_,h1,n,r⟩:=h; exact ⟨a,xs,e,h1,n,r⟩
theorem SR.grow (s:SR K ads M ρ σ H) (g:Grow ads ads' H H') (m:MRel K ads' H' M2):SR K ads' M2 ρ σ H':=⟨m,g.ren s.en,s.ln⟩
theorem none_back (g:Grow ads ads' H H') (m:MRel K ads H M) (m':MRel K ads' H' M2) {a:Addr} (h:H' a=none):H a=none:=by
 by_cases hb:a∈ads
 ·have:a∈ads':=by obtain ⟨r,e⟩:=g.pre; rw [e]; exact List.mem_append_left _ hb
  exact absurd this (m'.fresh h)
 ·cases q:H a with
  | none=>rfl
  | some o=>rw [g.kept a o hb q] at h; cases h
theorem RWn.back {w:W} {v:V} (g:Grow ads ads' H H') (m:MRel K ads H M) (m':MRel K ads' H' M2) (h:RWn K ads2 H' H2 w v):RWn K ads2 H H2 w v:=by
 cases w with
 | d x=>exact h
 | lv ds=>obtain ⟨a,xs,e,h0,h1,n,r⟩:=h; exact ⟨a,xs,e,none_back g m m' h0,h1,n,r⟩
theorem PostW.shift {w:W} {Mw:Mem} {Q:VK} (p:PostW K ads H w Mw Q) (g:Grow ads ads' H H') (m:MRel K ads H M) (m':MRel K ads' H' M2):PostW K ads' H' w Mw Q :=
 fun v H1 ads1 g1 m1 r=>p v H1 ads1 (g.trans g1) m1 (r.back g m m')
theorem OkW.shift {o:Out W} {Q:VK} (p:OkW K ads H Q o) (g:Grow ads ads' H H') (m:MRel K ads H M) (m':MRel K ads' H' M2):OkW K ads' H' Q o:=by
 cases o with
 | ok w Mw=>exact PostW.shift p g m m'
 | err _ _=>exact p
 | stuck=>exact p
theorem OkB.shift {o:Out Bool} {Q:Bool→Hp→Prop} (p:OkB K ads H Q o) (g:Grow ads ads' H H'):OkB K ads' H' Q o:=by
 cases o with
 | ok w Mw=>exact fun H1 ads1 g1 m1=>p H1 ads1 (g.trans g1) m1
 | err _ _=>exact p
 | stuck=>exact p
theorem tE_bind {o : En → Mem → Out W} {k : W → Mem → Out W} {Q : VK} {R : V → Hp → Prop} (s : SR K ads M ρ σ H) (h : OkW K ads H Q ((o ρ M).bind k))
    (hk : ∀ w M1 v H1 ads1, SR K ads1 M1 ρ σ H1 → RW K ads1 H1 w v → OkW K ads1 H1 Q (k w M1) → R v H1) : tE K o σ H R := by
  refine ⟨ads, M, ρ, s, ?_⟩
  cases q : o ρ M with
  | ok w M1 =>
    rw [q] at h
    have h : OkW K ads H Q (k w M1) := h
    exact fun v H1 ads1 g1 m1 r => hk w M1 v H1 ads1 (s.grow g1 m1) r.rw (h.shift g1 s.mem m1)
  | err _ _ => rw [q] at h; exact h
  | stuck => rw [q] at h; exact h
theorem two {oa ob : En → Mem → Out W} {f : W → W → Mem → Out W} {r : R2} {Q : VK}
    (hr : ∀ {ads M H x y vx vy Q}, MRel K ads H M → RW K ads H x vx → RW K ads H y vy → OkW K ads H Q (f x y M) → r vx vy H Q)
    (h : tE K (fun ρ M => (oa ρ M).bind fun x M => (ob ρ M).bind fun y M => f x y M) σ H Q) : tOp r (tE K oa) (tE K ob) σ H Q := by
  obtain ⟨ads, M, ρ, s, h⟩ := h
  refine tE_bind s h fun w M1 v H1 ads1 s1 rw1 h1 => ?_
  refine ⟨ads1, M1, ρ, s1, ?_⟩
  cases q : ob ρ M1 with
  | ok y M2 =>
    rw [q] at h1
    have h1 : OkW K ads1 H1 Q (f w y M2) := h1
    exact fun vy H2 ads2 g2 m2 ry => hr m2 (g2.rw rw1) ry.rw (h1.shift g2 s1.mem m2)
  | err _ _ => rw [q] at h1; exact h1
  | stuck => rw [q] at h1; exact h1
theorem OkW.plain {Q:VK} {x:D} {v:V} (h:OkW K ads H Q (.ok (.d x) M)) (m:MRel K ads H M) (r:RD K ads H x v):Q v H:=h v H ads (Grow.refl _ _) m r
theorem OkW.list {Q:VK} {ds:List D} {xs:List V} (h:OkW K ads H Q (.ok (.lv ds) M)) (m:MRel K ads H M) (r:RDs K ads H ds xs) {p:Addr} (hp:H p=none):Q (.ref p) (upd H p (.lst xs)) :=
 h _ _ ads (Grow.new1 m hp) (m.new1 hp) ⟨p,xs,rfl,hp,upd_same,m.fresh hp,(Grow.new1 m hp).rds _ _ r⟩
theorem OkW.tuple {Q:VK} {ds:List D} {xs:List V} (h:OkW K ads H Q (.ok (.d (.tup ds)) M)) (m:MRel K ads H M) (r:RDs K ads H ds xs) {p:Addr} (hp:H p=none):Q (.ref p) (upd H p (.tup xs)):=by
 refine h _ _ ads (Grow.new1 m hp) (m.new1 hp) ?_
 show RD _ _ _ (.tup ds) _
 unfold RD
 exact ⟨p,xs,rfl,upd_same,(Grow.new1 m hp).rds _ _ r⟩
theorem seq_ok {w : W} {v : V} {l : Bool} {ds : List D} (m : MRel K ads H M) (r : RW K ads H w v) (e : seqW M w = some (l, ds)) :
    ∃ a xs, v = .ref a ∧ RDs K ads H ds xs ∧ ((l = true ∧ SqL K H a xs) ∨ (l = false ∧ SqT K H a xs)) := by
  cases w with
  | lv es =>
    simp only [seqW, Option.some.injEq, Prod.mk.injEq] at e
    obtain ⟨rfl, rfl⟩ := e
    obtain ⟨a, xs, e, h, n, r⟩ := r
    exact ⟨a, xs, e, r, .inl ⟨rfl, SqL.of h⟩⟩
  | d x =>
    cases x with
    | tup es =>
      simp only [seqW, Option.some.injEq, Prod.mk.injEq] at e
      obtain ⟨rfl, rfl⟩ := e
      have r : RD K ads H (.tup es) v := r
      unfold RD at r
      obtain ⟨a, xs, e, h, r⟩ := r
      exact ⟨a, xs, e, r, .inr ⟨rfl, SqT.of h⟩⟩
    | ls es =>
      simp only [seqW, Option.some.injEq, Prod.mk.injEq] at e
      obtain ⟨rfl, rfl⟩ := e
      have r : RD K ads H (.ls es) v := r
      unfold RD at r
      obtain ⟨a, xs, e, h, r⟩ := r
      exact ⟨a, xs, e, r, .inl ⟨rfl, h.sq⟩⟩
    | adr n =>
      have r : RD K ads H (.adr n) v := r
      unfold RD at r
      obtain ⟨a, ev, ea⟩ := r
      simp only [seqW] at e
      cases q : M[n]? with
      | none => rw [q] at e; cases e
      | some o =>
        rw [q] at e
        have ho := m.obj n o a q ea
        cases o with
        | lst es => cases e; obtain ⟨xs, h, r⟩ := ho; exact ⟨a, xs, ev, r, .inl ⟨rfl, SqL.of h⟩⟩
        | scr es => cases e; obtain ⟨o, xs, h, r⟩ := ho; exact ⟨a, xs, ev, r, .inl ⟨rfl, .inl (.inr ⟨o, h⟩)⟩⟩
        | dK _ => cases e
        | dT _ => cases e
    | non => cases e
    | bl _ => cases e
    | int _ => cases e
    | str _ => cases e
theorem lst_ok {w:W} {v:V} {ds:List D} (m:MRel K ads H M) (r:RW K ads H w v) (e:lstW M w=some ds):∃ a xs,v=.ref a∧RDs K ads H ds xs∧H a=some (.lst xs):=by
 cases w with
 | lv es =>
  simp only [lstW,Option.some.injEq] at e
  subst e
  obtain ⟨a,xs,e,h,n,r⟩:=r
  exact ⟨a,xs,e,r,h⟩
 | d x =>
  cases x with
  | adr n =>
   have r:RD K ads H (.adr n) v:=r
   unfold RD at r
   obtain ⟨a,ev,ea⟩:=r
   simp only [lstW] at e
   cases q:M[n]? with
   | none=>rw [q] at e; cases e
   | some o =>
    rw [q] at e
    have ho:=m.obj n o a q ea
    cases o with
    | lst es=>cases e; obtain ⟨xs,h,r⟩:=ho; exact ⟨a,xs,ev,r,h⟩
    | scr es=>cases e
    | dK _=>cases e
    | dT _=>cases e
  | tup _=>cases e
  | ls _=>cases e
  | non=>cases e
  | bl _=>cases e
  | int _=>cases e
  | str _=>cases e
theorem rw_int {i:Int} {v:V} (r:RW K ads H (.d (.int i)) v):v=.int i:=by
 have r:RD K ads H (.int i) v:=r
 unfold RD at r; exact r
theorem rw_str {i:Str} {v:V} (r:RW K ads H (.d (.str i)) v):v=.str i:=by
 have r:RD K ads H (.str i) v:=r
 unfold RD at r; exact r
theorem rw_bl {i:Bool} {v:V} (r:RW K ads H (.d (.bl i)) v):v=.bl i:=by
 have r:RD K ads H (.bl i) v:=r
 unfold RD at r; exact r
theorem rw_non {v:V} (r:RW K ads H (.d .non) v):v=.non:=by
 have r:RD K ads H .non v:=r
 unfold RD at r; exact r
theorem rd_int (i:Int):RD K ads H (.int i) (.int i):=by unfold RD; rfl
theorem rd_bl (i:Bool):RD K ads H (.bl i) (.bl i):=by unfold RD; rfl
theorem rd_str (i:Str):RD K ads H (.str i) (.str i):=by unfold RD; rfl
theorem rd_non:RD K ads H .non .non:=by unfold RD; rfl
end
section
variable {X:Cx}
def rBin (K:PySem.W.Frag) (op:BOp):R2:=fun x y H Q=>∃ ads M wx wy,MRel K ads H M∧RW K ads H wx x∧RW K ads H wy y∧OkW K ads H Q (binW op wx wy M)
def opOf:BOp→Operator
 | .add=>.Add | .sub=>.Sub | .mul=>.Mult | .fdiv=>.FloorDiv | .mod=>.Mod | .pow=>.Pow
theorem op_catE:OpR X (binaryOp .Add) (fun x y H Q=>∃ a b ys,x=.ref a∧y=.ref b∧SqT X.K H a []∧SqT X.K H b ys∧Q (.ref b) H):=by
 intro pins s σ H x y v u Q I rx ry h
 obtain ⟨a,b,ys,rfl,rfl,ha,hb,q⟩:=h
 cases rx
 cases ry
 obtain ⟨its,r1,p1,_⟩:=I.tuple ha
 obtain ⟨its2,r2,p2,_⟩:=I.tuple hb
 cases r1
 obtain ⟨⟨cls,dd,data,sl⟩,ho,hc,n,hd⟩:=id p1
 obtain ⟨⟨cls2,dd2,data2,sl2⟩,ho2,hc2,n2,hd2⟩:=id p2
 simp only at hc hd hc2 hd2
 subst hc hd hc2 hd2
 exact concat_meets ⟨_,ho,rfl⟩ ⟨_,ho2,rfl⟩ noFill_tuple_add seq_tuple_add PySem.F.slot_tuple_add PySem.F.entry_tuple_add (PySem.F.args_tuple_add_2 _ _)
  (tuple_addW0 a b _ its2.toArray n n2 dd dd2 sl sl2 rfl) ⟨ho,ho2,⟨.ref b,H,I,rfl,q⟩⟩
theorem RDs.rep {K:PySem.W.Frag} {ads:List Addr} {H:Hp} {ds:List D} {vs:List V} (r:RDs K ads H ds vs):∀ k:Nat,RDs K ads H (List.replicate k ds).flatten (List.replicate k vs).flatten
 | 0=>by simp; unfold RDs; rfl
 | k+1=>by simp only [List.replicate_succ,List.flatten_cons]; exact r.app (RDs.rep r k)
theorem op_bin (op:BOp):OpR X (binaryOp (opOf op)) (rBin X.K op):=by
 intro pins s σ H x y v u Q I rx ry h
 obtain ⟨ads,M,wx,wy,m,r1,r2,h⟩:=h
 have listy:∀ {op},op=BOp.add→OkW X.K ads H Q (match lstW M wx,lstW M wy with
  | some xs,some ys=>if xs.length+ys.length≤sizeLine then .ok (.lv (xs++ys)) M else .stuck
  | _,_=>.stuck)→wpAny (model X.prog X.w) X.A (binaryOp (opOf op) v u) (EP X pins σ Q) X.xe s:=by
  intro op e h
  subst e
  cases q1:lstW M wx with
  | none=>rw [q1] at h; exact h.elim
  | some xs =>
   cases q2:lstW M wy with
   | none=>rw [q1,q2] at h; exact h.elim
   | some ys =>
    rw [q1,q2] at h
    dsimp only at h
    split at h
    ·rename_i hz
     obtain ⟨a,vs,e1,ra,ha⟩:=lst_ok m r1 q1
     obtain ⟨b,ws,e2,rb,hb⟩:=lst_ok m r2 q2
     subst e1 e2
     refine op_cat pins s σ H _ _ v u Q I rx ry ⟨a,b,vs,ws,rfl,rfl,ha,hb,by rw [← ra.len,← rb.len]; exact hz,fun p hp=>h.list m (ra.app rb) hp⟩
    ·exact h.elim
 unfold binW at h
 split at h
 ·rw [rw_int r1] at rx; rw [rw_int r2] at ry
  exact op_add pins s σ H _ _ v u Q I rx ry ⟨_,_,rfl,rfl,h.plain m (rd_int _)⟩
 ·rw [rw_int r1] at rx; rw [rw_int r2] at ry
  exact op_sub pins s σ H _ _ v u Q I rx ry ⟨_,_,rfl,rfl,h.plain m (rd_int _)⟩
 ·rw [rw_int r1] at rx; rw [rw_int r2] at ry
  split at h
  ·rename_i hc
   exact op_mul pins s σ H _ _ v u Q I rx ry ⟨_,_,rfl,rfl,hc,h.plain m (rd_int _)⟩
  ·exact h.elim
 ·rw [rw_int r1] at rx; rw [rw_int r2] at ry
  split at h
  ·rename_i hc
   exact op_fdiv pins s σ H _ _ v u Q I rx ry ⟨_,_,rfl,rfl,hc,h.plain m (rd_int _)⟩
  ·exact h.elim
 ·rw [rw_int r1] at rx; rw [rw_int r2] at ry
  split at h
  ·rename_i hc
   exact op_mod pins s σ H _ _ v u Q I rx ry ⟨_,_,rfl,rfl,hc,h.plain m (rd_int _)⟩
  ·exact h.elim
 ·rw [rw_int r1] at rx; rw [rw_int r2] at ry
  split at h
  ·rename_i hc
   exact op_pow pins s σ H _ _ v u Q I rx ry ⟨_,_,rfl,rfl,hc,h.plain m (rd_int _)⟩
  ·exact h.elim
 ·rename_i xs ys
  split at h
  ·rename_i hc
   have r1:RD X.K ads H (.tup xs) x:=r1
   have r2:RD X.K ads H (.tup ys) y:=r2
   unfold RD at r1 r2
   obtain ⟨a,vs,e1,ha,ra⟩:=r1
   obtain ⟨b,ws,e2,hb,rb⟩:=r2
   subst e1 e2
   by_cases hx0:vs=[]
   ·have ex:xs=[]:=List.eq_nil_of_length_eq_zero (by rw [ra.len,hx0]; rfl)
    subst ex hx0
    refine op_catE pins s σ H _ _ v u Q I rx ry ⟨a,b,ws,rfl,rfl,SqT.of ha,SqT.of hb,OkW.plain (x:=.tup ys) h m ?_⟩
    unfold RD
    exact ⟨b,ws,rfl,hb,rb⟩
   refine op_catT pins s σ H _ _ v u Q I rx ry ⟨a,b,vs,ws,rfl,rfl,SqT.of ha,SqT.of hb,hx0,by rw [← ra.len,← rb.len]; exact hc,fun z=>?_,fun _ p hp=>h.tuple m (ra.app rb) hp⟩
   have ey:ys=[]:=List.eq_nil_of_length_eq_zero (by rw [rb.len,z]; rfl)
   subst ey
   rw [List.append_nil] at h
   refine h.plain m ?_
   unfold RD
   exact ⟨a,vs,rfl,ha,ra⟩
  ·exact h.elim
 ·exact listy rfl h
 ·rename_i k _
  cases q1:lstW M wx with
  | none=>rw [q1] at h; exact h.elim
  | some xs =>
   rw [q1] at h
   dsimp only at h
   split at h
   ·rename_i hz
    obtain ⟨a,vs,e1,ra,ha⟩:=lst_ok m r1 q1
    subst e1
    rw [rw_int r2] at ry
    refine op_rep pins s σ H _ _ v u Q I rx ry ⟨a,k,vs,rfl,rfl,ha,hz.1,hz.2.1,by rw [← ra.len]; exact hz.2.2,fun p hp=>h.list m (RDs.rep ra k.toNat) hp⟩
   ·exact h.elim
 ·exact h.elim
end
end Ev
end
section
set_option Elab.async false
set_option linter.all false
set_option maxRecDepth 100000
set_option maxHeartbeats 4000000
namespace Ev
open L2
open PySem PySem.Spec PyProof.Rows
section
variable {X:Cx} {pins:List (Addr×Obj)} {σ:L2.St} {H:Hp} {s:Shared} {ads:List Addr} {M:Mem}
theorem reads_all (I : Inv X pins σ H s) (n : Nat) (hA : ∀ d v u p, RD X.K ads H d v → RelV v u → pyD M n d = some p → ∃ as, Reads s.heap u p as) :
    ∀ (ds : List D) (vs : List V) (us : List Value) (ps : List PyData), RDs X.K ads H ds vs → Vals vs us → pyDs M n ds = some ps → ∃ as, ReadsAll s.heap us ps as
  | [], vs, us, ps, r, rv, e => by
    unfold RDs at r
    subst r
    cases rv
    unfold pyDs at e
    cases e
    exact ⟨[], .nil⟩
  | d :: ds, vs, us, ps, r, rv, e => by
    unfold RDs at r
    obtain ⟨x, r', rfl, h1, h2⟩ := r
    cases rv with
    | cons rx rr =>
      unfold pyDs at e
      cases q1 : pyD M n d with
      | none => rw [q1] at e; cases e
      | some p =>
        cases q2 : pyDs M n ds with
        | none => rw [q1, q2] at e; cases e
        | some qs =>
          rw [q1, q2] at e
          cases e
          obtain ⟨as, k1⟩ := hA d x _ p h1 rx q1
          obtain ⟨bs, k2⟩ := reads_all I n hA ds r' _ qs h2 rr q2
          exact ⟨as ++ bs, .cons k1 k2⟩
theorem reads_d (I:Inv X pins σ H s) (m:MRel X.K ads H M):∀ (n:Nat) (d:D) (v:V) (u:Value) (p:PyData),RD X.K ads H d v→RelV v u→pyD M n d=some p→∃ as,Reads s.heap u p as:=by
 intro n
 induction n with
 | zero =>
  intro d v u p r rv e
  cases d with
  | non=>unfold RD at r; subst r; cases rv; unfold pyD at e; cases e; exact ⟨_,.none⟩
  | bl b=>unfold RD at r; subst r; cases rv; unfold pyD at e; cases e; exact ⟨_,.bool _⟩
  | int b=>unfold RD at r; subst r; obtain ⟨t,rfl⟩:=rv; unfold pyD at e; cases e; exact ⟨_,.int _ _⟩
  | str b=>unfold RD at r; subst r; obtain ⟨t,rfl⟩:=rv; unfold pyD at e; cases e; exact ⟨_,.str _ _⟩
  | tup _=>unfold pyD at e; cases e
  | adr _=>unfold pyD at e; cases e
  | ls _=>unfold pyD at e; cases e
 | succ n ih =>
  intro d v u p r rv e
  cases d with
  | non=>unfold RD at r; subst r; cases rv; unfold pyD at e; cases e; exact ⟨_,.none⟩
  | bl b=>unfold RD at r; subst r; cases rv; unfold pyD at e; cases e; exact ⟨_,.bool _⟩
  | int b=>unfold RD at r; subst r; obtain ⟨t,rfl⟩:=rv; unfold pyD at e; cases e; exact ⟨_,.int _ _⟩
  | str b=>unfold RD at r; subst r; obtain ⟨t,rfl⟩:=rv; unfold pyD at e; cases e; exact ⟨_,.str _ _⟩
  | tup ds =>
   unfold RD at r
   obtain ⟨a,xs,rfl,hs,r⟩:=r
   cases rv
   unfold pyD at e
   cases q:pyDs M n ds with
   | none=>rw [q] at e; cases e
   | some ps =>
    rw [q] at e; cases e
    obtain ⟨its,rv,⟨o,h1,h2,k,h3⟩,_⟩:=I.tuple (SqT.of (K:=X.K) hs)
    obtain ⟨as,ra⟩:=reads_all I n ih ds xs its ps r rv q
    exact ⟨as,.tuple h1 h2 h3 (by simpa using ra)⟩
  | ls ds =>
   unfold RD at r
   obtain ⟨a,xs,rfl,hs,r⟩:=r
   cases rv
   unfold pyD at e
   cases q:pyDs M n ds with
   | none=>rw [q] at e; cases e
   | some ps =>
    rw [q] at e; cases e
    obtain ⟨its,rv,⟨o,kk,h1,h2,h3,h4⟩,_⟩:=I.list hs.sq
    obtain ⟨as,ra⟩:=reads_all I n ih ds xs its ps r rv q
    exact ⟨a::as,.list h1 h2 h4 (by simpa using ra)⟩
  | adr k =>
   unfold RD at r
   obtain ⟨a,rfl,ea⟩:=r
   cases rv
   unfold pyD at e
   have lst:∀ ds,SqL X.K H a ds→∀ es,RDs X.K ads H es ds→(pyDs M n es).map PyData.list=some p→∃ as,Reads s.heap (.ref a) p as:=by
    intro xs hs es r e
    cases q:pyDs M n es with
    | none=>rw [q] at e; cases e
    | some ps =>
     rw [q] at e; cases e
     obtain ⟨its,rv,⟨o,kk,h1,h2,h3,h4⟩,_⟩:=I.list hs
     obtain ⟨as,ra⟩:=reads_all I n ih es xs its ps r rv q
     exact ⟨a::as,.list h1 h2 h4 (by simpa using ra)⟩
   cases q:M[k]? with
   | none=>rw [q] at e; cases e
   | some o =>
    rw [q] at e
    have ho:=m.obj k o a q ea
    cases o with
    | lst es=>obtain ⟨xs,h,r⟩:=ho; exact lst xs (SqL.of h) es r e
    | scr es=>obtain ⟨o,xs,h,r⟩:=ho; exact lst xs (.inl (.inr ⟨o,h⟩)) es r e
    | dK _=>cases e
    | dT _=>cases e
theorem reads_w (I:Inv X pins σ H s) (m:MRel X.K ads H M) {w:W} {v:V} {u:Value} {p:PyData} (r:RW X.K ads H w v) (rv:RelV v u) (e:pyW M w=some p):∃ as,Reads s.heap u p as:=by
 cases w with
 | d x=>exact reads_d I m 30 x v u p r rv e
 | lv ds =>
  obtain ⟨a,xs,rfl,h,n,r⟩:=r
  cases rv
  have e:(pyDs M 30 ds).map PyData.list=some p:=e
  cases q:pyDs M 30 ds with
  | none=>rw [q] at e; cases e
  | some ps =>
   rw [q] at e; cases e
   obtain ⟨its,rv,⟨o,kk,h1,h2,h3,h4⟩,_⟩:=I.list (SqL.of (K:=X.K) h)
   obtain ⟨as,ra⟩:=reads_all I 30 (reads_d I m 30) ds xs its ps r rv q
   exact ⟨a::as,.list h1 h2 h4 (by simpa using ra)⟩
end
section
variable {K:PySem.W.Frag} {ads:List Addr} {H:Hp}
theorem RKs.find {κ:Type} [DecidableEq κ] {k:κ}:∀ {kvs:List (κ×D)} {ks:List (κ×V)} {d:D},RKs K ads H kvs ks→(kvs.find? fun p=>decide (p.1=k)).map (·.2)=some d→∃ v,valV ks k=some v∧RD K ads H d v
 | [],_,_,_,e=>by cases e
 | p::ps,ks,d,r,e=>by
  unfold RKs at r
  obtain ⟨x,r',rfl,h0,h1,h2⟩:=r
  by_cases hk:p.1=k
  ·have e':p.2=d:=by simpa [List.find?_cons,hk] using e
   subst e'
   exact ⟨x.2,valV_pos (h0 ▸ hk),h1⟩
  ·obtain ⟨v,e1,rv⟩:=RKs.find h2 (by simpa [List.find?_cons,hk] using e)
   exact ⟨v,(valV_neg (h0 ▸ hk)).trans e1,rv⟩
theorem RKs.len {κ:Type}:∀ {kvs:List (κ×D)} {ks:List (κ×V)},RKs K ads H kvs ks→kvs.length=ks.length
 | [],_,r=>by unfold RKs at r; subst r; rfl
 | p::ps,ks,r=>by unfold RKs at r; obtain ⟨x,r',rfl,h0,h1,h2⟩:=r; simp [RKs.len h2]
theorem RKs.find0 {κ:Type} [DecidableEq κ] {k:κ}:∀ {kvs:List (κ×D)} {ks:List (κ×V)},RKs K ads H kvs ks→getK kvs k=none→valV ks k=none
 | [],_,r,_=>by unfold RKs at r; subst r; rfl
 | p::ps,ks,r,e=>by
  unfold RKs at r
  obtain ⟨x,r',rfl,h0,h1,h2⟩:=r
  by_cases hk:p.1=k
  ·unfold getK at e
   simp [List.find?_cons,hk] at e
  ·exact (valV_neg (h0 ▸ hk)).trans (RKs.find0 h2 (by unfold getK at e ⊢; simpa [List.find?_cons,hk] using e))
end
section
variable {X:Cx} {pins:List (Addr×Obj)} {σ:L2.St} {H:Hp} {s:Shared} {ads:List Addr} {M:Mem}
theorem dct_ok {w:W} {v:V} {kvs:List (Key×D)} {K:PySem.W.Frag} (m:MRel K ads H M) (r:RW K ads H w v) (e:dctW M w=some kvs):∃ a ks,v=.ref a∧H a=some (.dK ks)∧RKs K ads H kvs ks:=by
 cases w with
 | lv es=>cases e
 | d x =>
  cases x with
  | adr n =>
   have r:RD K ads H (.adr n) v:=r
   unfold RD at r
   obtain ⟨a,ev,ea⟩:=r
   simp only [dctW] at e
   cases q:M[n]? with
   | none=>rw [q] at e; cases e
   | some o =>
    rw [q] at e
    have ho:=m.obj n o a q ea
    cases o with
    | lst es=>cases e
    | scr es=>cases e
    | dK _=>cases e; obtain ⟨ks,h,r⟩:=ho; exact ⟨a,ks,ev,h,r⟩
    | dT _=>cases e
  | tup _=>cases e
  | ls _=>cases e
  | non=>cases e
  | bl _=>cases e
  | int _=>cases e
  | str _=>cases e
theorem key_ok {w:W} {v:V} {k:Key} {K:PySem.W.Frag} (r:RW K ads H w v) (e:keyW w=some k):v=kV k:=by
 cases w with
 | lv es=>cases e
 | d x =>
  cases x with
  | int i=>cases e; exact rw_int r
  | str i=>cases e; exact rw_str r
  | adr _=>cases e
  | tup _=>cases e
  | ls _=>cases e
  | non=>cases e
  | bl _=>cases e
theorem dget_of {K:PySem.W.Frag} {kvs:List (Key×D)} {ks:List (Key×V)} {a:Addr} {k:Key} (ha:H a=some (.dK ks)) (r:RKs K ads H kvs ks):∃ o,DGet H a (kV k) o∧o.isSome=(getK kvs k).isSome:=by
 refine ⟨_,DGet.k (k:=k) ha,?_⟩
 cases q:getK kvs k with
 | none=>rw [r.find0 q]; rfl
 | some d=>obtain ⟨v,e,_⟩:=r.find q; rw [e]; rfl
theorem hits_ok (I : Inv X pins σ H s) (m : MRel X.K ads H M) (hu : X.A.units + 100 < cLine) {kb : List (Key × D)} {ksb : List (Key × V)} {vsb : List (Key × Value)} (rb : RKs X.K ads H kb ksb) (vb : KV ksb vsb) :
    ∀ {ka : List (Key × D)} {ksa : List (Key × V)} {vsa : List (Key × Value)} {r : Bool}, RKs X.K ads H ka ksa → KV ksa vsa → eqKs M kb ka = some r → PySem.W.KeqHits X.A.in1 s vsb vsa r
  | [], ksa, vsa, r, ra, va, e => by
    unfold RKs at ra
    subst ra
    cases va
    cases e
    exact .nil
  | (k, d) :: ka, ksa, vsa, r, ra, va, e => by
    unfold RKs at ra
    obtain ⟨x, r', rfl, h0, h1, h2⟩ := ra
    obtain ⟨x1, x2⟩ := x
    have h0 : k = x1 := h0
    subst h0
    have h1 : RD X.K ads H d x2 := h1
    cases va with
    | cons hp hr =>
      rename_i q vr
      obtain ⟨q1, q2⟩ := q
      obtain ⟨e1, e2⟩ := hp
      have e1 : k = q1 := e1
      subst e1
      have e2 : RelV x2 q2 := e2
      have hv := vb.val k
      simp only [eqKs] at e
      cases hg : getK kb k with
      | none =>
        rw [hg] at e
        cases e
        rw [rb.find0 hg] at hv
        exact .miss (RelO.none_of hv)
      | some y =>
        rw [hg] at e
        dsimp only at e
        obtain ⟨v', ev', rv'⟩ := rb.find hg
        rw [ev'] at hv
        obtain ⟨u', eu, ru⟩ := RelO.some_of hv
        cases p1 : pyD M 30 d with
        | none => rw [p1] at e; cases e
        | some p =>
          cases p2 : pyD M 30 y with
          | none => rw [p1, p2] at e; cases e
          | some p' =>
            rw [p1, p2] at e
            dsimp only at e
            split at e
            · rename_i hs
              cases hr2 : eqKs M kb ka with
              | none => rw [hr2] at e; cases e
              | some b =>
                rw [hr2] at e
                have e : (PyData.eqv p p' && b) = r := Option.some.inj e
                subst e
                obtain ⟨as, rda⟩ := reads_d I m 30 d x2 q2 p h1 e2 p1
                obtain ⟨bs, rdb⟩ := reads_d I m 30 y v' u' p' rv' ru p2
                exact .hit eu (PySem.W.keq_at rda rdb hs.1 hs.2 (by show X.A.units + 1 + 64 < cLine; omega)) (hits_ok I m hu rb vb h2 hr hr2)
            · cases e
end
def cOf:COp→CmpOp
 | .eq=>.Eq | .ne=>.NotEq | .lt=>.Lt | .le=>.LtE | .gt=>.Gt | .ge=>.GtE | .isN=>.Is | .notN=>.IsNot | .isin=>.In | .notin=>.NotIn
def OkC (K:PySem.W.Frag) (ads:List Addr) (H:Hp) (Q:VK):Out Bool→Prop
 | .ok b M=>∀ H' ads',Grow ads ads' H H'→MRel K ads' H' M→Q (.bl b) H'
 | _=>False
def rCmp (K:PySem.W.Frag) (op:COp):R2:=fun x y H Q=>∃ ads M wx wy,MRel K ads H M∧RW K ads H wx x∧RW K ads H wy y∧((op=.isN∨op=.notN)→y=.non)∧OkC K ads H Q (cmpW op wx wy M)
theorem OkC.now {K:PySem.W.Frag} {ads:List Addr} {H:Hp} {Q:VK} {b:Bool} {M:Mem} (h:OkC K ads H Q (.ok b M)) (m:MRel K ads H M):Q (.bl b) H:=h H ads (Grow.refl _ _) m
section
variable {X:Cx}
open Classical in
noncomputable def isEqP (h:Heap) (p:PyData) (y:Value):Bool:=decide (∃ q' cs',Reads h y q' cs'∧PyData.eqv q' p=true)
open Classical in
theorem isEqP_at {h:Heap} {p q:PyData} {y:Value} {cs:List Addr} (ry:Reads h y q cs):isEqP h p y=PyData.eqv q p:=by
 unfold isEqP
 cases hb:PyData.eqv q p with
 | true=>exact decide_eq_true ⟨q,cs,ry,hb⟩
 | false =>
  refine decide_eq_false ?_
  rintro ⟨q',cs',ry',hq'⟩
  obtain ⟨e,_⟩:=PyProof.Rows.reads_det (fun _ _ e _=>e) ry ry'
  rw [← e,hq'] at hb
  cases hb
theorem eqs_at {s : Shared} {A : Around} {x : Value} {p : PyData} {as : List Addr} (rx : Reads s.heap x p as) (hx : SeqAt.shaped p = true) (hu : A.units + 65 < cLine) :
    ∀ {us : List Value} {qs : List PyData} {bs : List Addr}, ReadsAll s.heap us qs bs → qs.all SeqAt.shaped = true → (∀ y ∈ us, SeqAt.EqAt A.in1 s y x (isEqP s.heap p y)) ∧ us.any (isEqP s.heap p) = inPy p qs
  | _, _, _, .nil, _ => ⟨(fun y hy => by cases hy), rfl⟩
  | _, _, _, .cons (v := v) (d := q) ry rr, hq => by
    rw [List.all_cons, Bool.and_eq_true] at hq
    have hq' := hq
    obtain ⟨k1, k2⟩ := eqs_at rx hx hu rr hq'.2
    have e0 := SeqAt.eqAt_reads q p A.in1 s v x _ _ ry rx (SeqAt.canLay_of_shaped hq'.1) (SeqAt.canLay_of_shaped hx) (SeqAt.room_of_shaped hq'.1 (by show A.units + 1 + 64 < cLine; omega))
    rw [← isEqP_at ry] at e0
    refine ⟨fun y hy => ?_, ?_⟩
    · rcases List.mem_cons.mp hy with z | z
      · subst z; exact e0
      · exact k1 y z
    · rw [List.any_cons, k2, isEqP_at ry]; rfl
theorem eqs_all {s : Shared} {A : Around} {x : Value} {p : PyData} {as : List Addr} (rx : Reads s.heap x p as) (hx : SeqAt.shaped p = true) (hu : A.units + 65 < cLine)
    {us : List Value} {qs : List PyData} {bs : List Addr} (r : ReadsAll s.heap us qs bs) (hq : qs.all SeqAt.shaped = true) : ∃ e : Value → Bool, (∀ y ∈ us, SeqAt.EqAt A.in1 s y x (e y)) ∧ us.any e = inPy p qs :=
  ⟨isEqP s.heap p, eqs_at rx hx hu r hq⟩
theorem op_le_str:OpR X (compareOp .LtE) (fun x y H Q=>∃ i j,x=.str i∧y=.str j∧Q (.bl (!decide (j.cps.toList < i.cps.toList))) H):=by
 intro pins s σ H x y v u Q I rx ry h
 obtain ⟨i,j,rfl,rfl,q⟩:=h
 obtain ⟨t,rfl⟩:=rx
 obtain ⟨t',rfl⟩:=ry
 exact PySem.P.le_str ⟨.bl _,H,I,rfl,q⟩
theorem op_cmp (hu:X.A.units+100 < cLine) (op:COp):OpR X (compareOp (cOf op)) (rCmp X.K op):=by
 intro pins s σ H x y v u Q I rx ry h
 obtain ⟨ads,M,wx,wy,m,r1,r2,hn,h⟩:=h
 unfold cmpW at h
 cases op with
 | eq =>
  dsimp only at h
  have dicty:OkC X.K ads H Q (match dctW M wx,dctW M wy with
   | some ka,some kb=>match eqKs M kb ka with
    | some r=>.ok (ka.length == kb.length && r) M
    | none=>.stuck
   | _,_=>.stuck)→wpAny (model X.prog X.w) X.A (compareOp .Eq v u) (EP X pins σ Q) X.xe s:=by
   intro h
   cases q1:dctW M wx with
   | none=>rw [q1] at h; exact h.elim
   | some ka =>
    cases q2:dctW M wy with
    | none=>rw [q1,q2] at h; exact h.elim
    | some kb =>
     rw [q1,q2] at h
     dsimp only at h
     cases q3:eqKs M kb ka with
     | none=>rw [q3] at h; exact h.elim
     | some r =>
      rw [q3] at h
      dsimp only at h
      obtain ⟨a,ksa,rfl,ha,ra⟩:=dct_ok m r1 q1
      obtain ⟨b,ksb,rfl,hb,rb⟩:=dct_ok m r2 q2
      cases rx
      cases ry
      obtain ⟨za,hda,vsa,va,dda⟩:=dk_of I.hok ha
      obtain ⟨zb,hdb,vsb,vb,ddb⟩:=dk_of I.hok hb
      refine PySem.W.keq_eq hda hdb dda ddb (by omega) (fun _=>hits_ok I m hu rb vb ra va q3) ⟨.bl _,H,I,rfl,?_⟩
      have e1:vsa.length=ka.length:=by rw [← va.length,ra.len]
      have e2:vsb.length=kb.length:=by rw [← vb.length,rb.len]
      rw [e1,e2]
      exact h.now m
  cases q1:pyW M wx with
  | none=>rw [q1] at h; exact dicty h
  | some p =>
   cases q2:pyW M wy with
   | none=>rw [q1,q2] at h; exact dicty h
   | some q =>
    rw [q1,q2] at h
    dsimp only at h
    split at h
    ·rename_i hs
     obtain ⟨as,ra⟩:=reads_w I m r1 rx q1
     obtain ⟨bs,rb⟩:=reads_w I m r2 ry q2
     exact SeqAt.compareEq_shaped ra rb hs.1 hs.2 (by omega) ⟨.bl _,H,I,rfl,h.now m⟩
    ·exact h.elim
 | ne =>
  dsimp only at h
  cases q1:pyW M wx with
  | none=>rw [q1] at h; exact h.elim
  | some p =>
   cases q2:pyW M wy with
   | none=>rw [q1,q2] at h; exact h.elim
   | some q =>
    rw [q1,q2] at h
    dsimp only at h
    split at h
    ·rename_i hs
     obtain ⟨as,ra⟩:=reads_w I m r1 rx q1
     obtain ⟨bs,rb⟩:=reads_w I m r2 ry q2
     exact SeqAt.compareNe_shaped ra rb hs.1 hs.2 (by omega) ⟨.bl _,H,I,rfl,h.now m⟩
    ·exact h.elim
 | lt =>
  dsimp only at h
  split at h
  ·rw [rw_int r1] at rx; rw [rw_int r2] at ry
   exact op_lt pins s σ H _ _ v u Q I rx ry ⟨_,_,rfl,rfl,h.now m⟩
  ·rw [rw_str r1] at rx; rw [rw_str r2] at ry
   exact op_lt_str pins s σ H _ _ v u Q I rx ry ⟨_,_,rfl,rfl,h.now m⟩
  ·exact h.elim
 | le =>
  dsimp only at h
  split at h
  ·rw [rw_int r1] at rx; rw [rw_int r2] at ry
   exact op_le pins s σ H _ _ v u Q I rx ry ⟨_,_,rfl,rfl,h.now m⟩
  ·rw [rw_str r1] at rx; rw [rw_str r2] at ry
   exact op_le_str pins s σ H _ _ v u Q I rx ry ⟨_,_,rfl,rfl,h.now m⟩
  ·exact h.elim
 | gt =>
  dsimp only at h
  split at h
  ·rw [rw_int r1] at rx; rw [rw_int r2] at ry
   exact op_gt pins s σ H _ _ v u Q I rx ry ⟨_,_,rfl,rfl,h.now m⟩
  ·exact h.elim
 | ge =>
  dsimp only at h
  split at h
  ·rw [rw_int r1] at rx; rw [rw_int r2] at ry
   exact op_ge pins s σ H _ _ v u Q I rx ry ⟨_,_,rfl,rfl,h.now m⟩
  ·exact h.elim
 | isN =>
  have e:=hn (.inl rfl)
  have hx:∀ b,cmpW .isN wx wy M=.ok b M→b=decide (x=.non):=by
   intro b e
   unfold cmpW at e
   dsimp only at e
   split at e
   ·cases e; rw [rw_non r1]; rfl
   ·rename_i hne
    cases e
    refine (decide_eq_false ?_).symm
    intro z
    subst z
    cases wx with
    | lv ds=>obtain ⟨a,xs,e,_⟩:=r1; cases e
    | d z=>cases z with
     | non=>exact hne rfl
     | bl b=>have:=rw_bl r1; cases this
     | int b=>have:=rw_int r1; cases this
     | str b=>have:=rw_str r1; cases this
     | tup b=>have r1:RD X.K ads H (.tup b) .non:=r1; unfold RD at r1; obtain ⟨a,xs,e,_⟩:=r1; cases e
     | adr b=>have r1:RD X.K ads H (.adr b) .non:=r1; unfold RD at r1; obtain ⟨a,e,_⟩:=r1; cases e
     | ls b=>have r1:RD X.K ads H (.ls b) .non:=r1; unfold RD at r1; obtain ⟨a,xs,e,_⟩:=r1; cases e
  subst e
  have:∃ b,cmpW .isN wx wy M=.ok b M:=by unfold cmpW; dsimp only; split <;> exact ⟨_,rfl⟩
  obtain ⟨b,hb⟩:=this
  have h:OkC X.K ads H Q (cmpW .isN wx wy M):=h
  rw [hb] at h
  refine op_isN pins s σ H _ _ v u Q I rx ry ⟨rfl,?_⟩
  rw [← hx b hb]
  exact h.now m
 | notN =>
  have e:=hn (.inr rfl)
  have hx:∀ b,cmpW .notN wx wy M=.ok b M→b=!decide (x=.non):=by
   intro b e
   unfold cmpW at e
   dsimp only at e
   split at e
   ·cases e; rw [rw_non r1]; rfl
   ·rename_i hne
    cases e
    have:decide (x=.non)=false:=by
     refine decide_eq_false ?_
     intro z
     subst z
     cases wx with
     | lv ds=>obtain ⟨a,xs,e,_⟩:=r1; cases e
     | d z=>cases z with
      | non=>exact hne rfl
      | bl b=>have:=rw_bl r1; cases this
      | int b=>have:=rw_int r1; cases this
      | str b=>have:=rw_str r1; cases this
      | tup b=>have r1:RD X.K ads H (.tup b) .non:=r1; unfold RD at r1; obtain ⟨a,xs,e,_⟩:=r1; cases e
      | adr b=>have r1:RD X.K ads H (.adr b) .non:=r1; unfold RD at r1; obtain ⟨a,e,_⟩:=r1; cases e
      | ls b=>have r1:RD X.K ads H (.ls b) .non:=r1; unfold RD at r1; obtain ⟨a,xs,e,_⟩:=r1; cases e
    rw [this]; rfl
  subst e
  have:∃ b,cmpW .notN wx wy M=.ok b M:=by unfold cmpW; dsimp only; split <;> exact ⟨_,rfl⟩
  obtain ⟨b,hb⟩:=this
  have h:OkC X.K ads H Q (cmpW .notN wx wy M):=h
  rw [hb] at h
  refine op_notN pins s σ H _ _ v u Q I rx ry ⟨rfl,?_⟩
  rw [← hx b hb]
  exact h.now m
 | isin =>
  dsimp only at h
  cases q2:seqW M wy with
  | none =>
   rw [q2] at h
   have h:OkC X.K ads H Q (match keyW wx,dctW M wy with
    | some k,some kvs=>.ok ((getK kvs k).isSome) M
    | _,_=>.stuck):=by cases hp:pyW M wx <;> rw [hp] at h <;> exact h
   cases q3:keyW wx with
   | none=>rw [q3] at h; exact h.elim
   | some k =>
    cases q4:dctW M wy with
    | none=>rw [q3,q4] at h; exact h.elim
    | some kvs =>
     rw [q3,q4] at h
     have ek:=key_ok r1 q3
     subst ek
     obtain ⟨a,ks,rfl,ha,ra⟩:=dct_ok m r2 q4
     cases ry
     obtain ⟨o,g,eo⟩:=dget_of (k:=k) ha ra
     refine d_in (by omega) I g rx fun s' I'=>⟨.bl _,H,I',rfl,?_⟩
     rw [eo]
     exact h.now m
  | some lds =>
   cases q1:pyW M wx with
   | none=>rw [q1,q2] at h; exact h.elim
   | some p =>
    obtain ⟨l,ds⟩:=lds
    rw [q1,q2] at h
    dsimp only at h
    cases q3:pyDs M 30 ds with
    | none=>rw [q3] at h; exact h.elim
    | some qs =>
     rw [q3] at h
     dsimp only at h
     split at h
     ·rename_i hs
      obtain ⟨as,ra⟩:=reads_w I m r1 rx q1
      obtain ⟨a,xs,ea,rd,sq⟩:=seq_ok m r2 q2
      subst ea
      cases ry
      rcases sq with ⟨_,sq⟩ | ⟨_,sq⟩
      ·obtain ⟨its,rv,pl,_⟩:=I.list sq
       obtain ⟨bs,rb⟩:=reads_all I 30 (reads_d I m 30) ds xs its qs rd rv q3
       obtain ⟨e,he,hany⟩:=eqs_all (A:=X.A) ra hs.1 (by omega) rb hs.2
       refine SeqAt.in_listAt e pl.isList (fun y hy=>he y (by simpa using hy)) ⟨.bl _,H,I,rfl,?_⟩
       have:its.toArray.any e=inPy p qs:=by rw [← hany]; simp
       rw [this]; exact h.now m
      ·obtain ⟨its,rv,pl,_⟩:=I.tuple sq
       obtain ⟨bs,rb⟩:=reads_all I 30 (reads_d I m 30) ds xs its qs rd rv q3
       obtain ⟨e,he,hany⟩:=eqs_all (A:=X.A) ra hs.1 (by omega) rb hs.2
       refine SeqAt.in_tupleAt e (show s.heap.IsTuple a its.toArray from pl) (fun y hy=>he y (by simpa using hy)) ⟨.bl _,H,I,rfl,?_⟩
       have:its.toArray.any e=inPy p qs:=by rw [← hany]; simp
       rw [this]; exact h.now m
     ·exact h.elim
 | notin =>
  dsimp only at h
  cases q2:seqW M wy with
  | none =>
   rw [q2] at h
   have h:OkC X.K ads H Q (match keyW wx,dctW M wy with
    | some k,some kvs=>.ok (!(getK kvs k).isSome) M
    | _,_=>.stuck):=by cases hp:pyW M wx <;> rw [hp] at h <;> exact h
   cases q3:keyW wx with
   | none=>rw [q3] at h; exact h.elim
   | some k =>
    cases q4:dctW M wy with
    | none=>rw [q3,q4] at h; exact h.elim
    | some kvs =>
     rw [q3,q4] at h
     have ek:=key_ok r1 q3
     subst ek
     obtain ⟨a,ks,rfl,ha,ra⟩:=dct_ok m r2 q4
     cases ry
     obtain ⟨o,g,eo⟩:=dget_of (k:=k) ha ra
     refine d_notIn (by omega) I g rx fun s' I'=>⟨.bl _,H,I',rfl,?_⟩
     rw [eo]
     exact h.now m
  | some lds =>
   cases q1:pyW M wx with
   | none=>rw [q1,q2] at h; exact h.elim
   | some p =>
    obtain ⟨l,ds⟩:=lds
    rw [q1,q2] at h
    dsimp only at h
    cases q3:pyDs M 30 ds with
    | none=>rw [q3] at h; exact h.elim
    | some qs =>
     rw [q3] at h
     dsimp only at h
     split at h
     ·rename_i hs
      obtain ⟨as,ra⟩:=reads_w I m r1 rx q1
      obtain ⟨a,xs,ea,rd,sq⟩:=seq_ok m r2 q2
      subst ea
      cases ry
      rcases sq with ⟨_,sq⟩ | ⟨_,sq⟩
      ·obtain ⟨its,rv,pl,_⟩:=I.list sq
       obtain ⟨bs,rb⟩:=reads_all I 30 (reads_d I m 30) ds xs its qs rd rv q3
       obtain ⟨e,he,hany⟩:=eqs_all (A:=X.A) ra hs.1 (by omega) rb hs.2
       refine SeqAt.notIn_listAt e pl.isList (fun y hy=>he y (by simpa using hy)) ⟨.bl _,H,I,rfl,?_⟩
       have:its.toArray.any e=inPy p qs:=by rw [← hany]; simp
       rw [this]; exact h.now m
      ·obtain ⟨its,rv,pl,_⟩:=I.tuple sq
       obtain ⟨bs,rb⟩:=reads_all I 30 (reads_d I m 30) ds xs its qs rd rv q3
       obtain ⟨e,he,hany⟩:=eqs_all (A:=X.A) ra hs.1 (by omega) rb hs.2
       refine SeqAt.notIn_tupleAt e (show s.heap.IsTuple a its.toArray from pl) (fun y hy=>he y (by simpa using hy)) ⟨.bl _,H,I,rfl,?_⟩
       have:its.toArray.any e=inPy p qs:=by rw [← hany]; simp
       rw [this]; exact h.now m
     ·exact h.elim
end
end Ev
end
section
set_option Elab.async false
set_option linter.all false
set_option maxRecDepth 100000
set_option maxHeartbeats 4000000
namespace Ev
open L2
open PySem PySem.Spec PyProof.Rows
section
variable {K:PySem.W.Frag} {ads:List Addr} {H:Hp} {M:Mem}
theorem tru_w {w:W} {v:V} {k:Bool} (m:MRel K ads H M) (r:RW K ads H w v) (e:truW M w=some k):TruV K v H k:=by
 have seq:∀ w,RW K ads H w v→((seqW M w).map fun p=>!p.2.isEmpty)=some k→TruV K v H k:=by
  intro w r e
  cases q:seqW M w with
  | none=>rw [q] at e; cases e
  | some p =>
   obtain ⟨l,ds⟩:=p
   rw [q] at e
   have e:(!ds.isEmpty)=k:=Option.some.inj e
   obtain ⟨a,xs,rfl,rd,sq⟩:=seq_ok m r q
   have hl:=rd.len
   have ex:k=!xs.isEmpty:=by
    rw [← e]
    cases ds <;> cases xs <;> simp_all
   rcases sq with ⟨_,sq⟩ | ⟨_,sq⟩
   ·exact .inl ⟨xs,sq,ex⟩
   ·exact .inr (.inl ⟨xs,sq,ex⟩)
 cases w with
 | lv ds=>exact seq _ r e
 | d x =>
  cases x with
  | non=>rw [rw_non r]; exact (Option.some.inj e).symm
  | bl b=>rw [rw_bl r]; exact (Option.some.inj e).symm
  | int i=>rw [rw_int r]; exact (Option.some.inj e).symm
  | str s=>exact seq _ r e
  | tup ds=>exact seq _ r e
  | adr n=>exact seq _ r e
  | ls n=>exact seq _ r e
theorem RDs.atI {ds:List D} {xs:List V} {i:Int} {d:D} (r:RDs K ads H ds xs) (e:L2.atI ds i=some d):∃ v,L2.atI xs i=some v∧RD K ads H d v:=by
 unfold L2.atI at e ⊢
 rw [← r.len]
 cases q:ixN ds.length i with
 | none=>rw [q] at e; cases e
 | some j=>rw [q] at e; exact r.get e
theorem RDs.cut {ds:List D} {xs:List V} {lo hi:Option Int} (r:RDs K ads H ds xs):RDs K ads H (cutD ds lo hi) (cutV xs lo hi):=by
 unfold cutD cutV
 rw [← r.len]
 exact (r.drop _).take _
theorem RKs.any {κ:Type} [DecidableEq κ] {k:κ}:∀ {kvs:List (κ×D)} {ks:List (κ×V)},RKs K ads H kvs ks→(kvs.any fun kv=>decide (kv.1=k))=(ks.any fun kv=>decide (kv.1=k))
 | [],_,r=>by unfold RKs at r; subst r; rfl
 | p::ps,ks,r=>by unfold RKs at r; obtain ⟨x,r',rfl,h0,h1,h2⟩:=r; simp [RKs.any h2,h0]
theorem RKs.map {κ : Type} [DecidableEq κ] {k : κ} {d : D} {v : V} (rd : RD K ads H d v) : ∀ {kvs : List (κ × D)} {ks : List (κ × V)}, RKs K ads H kvs ks →
    RKs K ads H (kvs.map fun kv => if kv.1 = k then (kv.1, d) else kv) (ks.map fun kv => if kv.1 = k then (kv.1, v) else kv)
  | [], _, r => by unfold RKs at r; subst r; simp; unfold RKs; rfl
  | p :: ps, ks, r => by
    unfold RKs at r
    obtain ⟨x, r', rfl, h0, h1, h2⟩ := r
    simp only [List.map_cons]
    unfold RKs
    refine ⟨_, _, rfl, ?_, ?_, RKs.map rd h2⟩
    · rw [h0]; split <;> first | rfl | exact h0
    · rw [h0]; split <;> first | exact rd | exact h1
theorem RKs.app {κ:Type}:∀ {kvs es:List (κ×D)} {ks fs:List (κ×V)},RKs K ads H kvs ks→RKs K ads H es fs→RKs K ads H (kvs++es) (ks++fs)
 | [],_,_,_,r,q=>by unfold RKs at r; subst r; exact q
 | p::ps,es,ks,fs,r,q=>by
  unfold RKs at r
  obtain ⟨x,r',rfl,h0,h1,h2⟩:=r
  show RKs K ads H (p::(ps++es)) (x::(r'++fs))
  unfold RKs; exact ⟨x,_,rfl,h0,h1,RKs.app h2 q⟩
theorem RKs.put {κ:Type} [DecidableEq κ] {k:κ} {d:D} {v:V} {kvs:List (κ×D)} {ks:List (κ×V)} (r:RKs K ads H kvs ks) (rd:RD K ads H d v):RKs K ads H (putD kvs k d) (putK ks k v):=by
 unfold putD putK
 rw [r.any (k:=k)]
 split
 ·exact RKs.map rd r
 ·refine r.app ?_
  unfold RKs
  exact ⟨_,[],rfl,rfl,rd,by unfold RKs; rfl⟩
end
section
variable {X:Cx} {M':Mem}
def rSub (K:PySem.W.Frag):R2:=fun x y H Q=>∃ ads M wx wy,MRel K ads H M∧RW K ads H wx x∧RW K ads H wy y∧OkW K ads H Q (subW wx wy M)
theorem ix_sub (hu:X.A.units+1 < cLine):IxR X (rSub X.K):=by
 intro value slice pins s σ H x y v u Q I rx ry h hs
 obtain ⟨ads,M,wx,wy,m,r1,r2,h⟩:=h
 unfold subW at h
 split at h
 ·rename_i i
  have ey:=rw_int r2
  subst ey
  cases q:seqW M wx with
  | some p =>
   obtain ⟨l,ds⟩:=p
   rw [q] at h
   dsimp only at h
   cases q2:ixD ds i with
   | none=>rw [q2] at h; exact h.elim
   | some d =>
    rw [q2] at h
    obtain ⟨a,xs,rfl,rd,sq⟩:=seq_ok m r1 q
    obtain ⟨z,e2,rz⟩:=rd.atI q2
    rcases sq with ⟨_,sq⟩ | ⟨_,sq⟩
    ·exact ix_list value slice pins s σ H _ _ v u Q I rx ry ⟨a,xs,i,z,rfl,rfl,sq,e2,h.plain m rz⟩ hs
    ·exact ix_tup value slice pins s σ H _ _ v u Q I rx ry ⟨a,xs,i,z,rfl,rfl,sq,e2,h.plain m rz⟩ hs
  | none =>
   rw [q] at h
   dsimp only at h
   split at h
   ·split at h
    ·rename_i z hz
     have ex:=rw_str r1
     subst ex
     cases q2:L2.atI z.cps.toList i with
     | none=>rw [q2] at h; exact h.elim
     | some c =>
      rw [q2] at h
      exact ix_str value slice pins s σ H _ _ v u Q I rx ry ⟨_,i,c,rfl,rfl,hz,q2,h.plain m (rd_str _)⟩ hs
    ·exact h.elim
   ·rename_i n
    have r1:RD X.K ads H (.adr n) x:=r1
    unfold RD at r1
    obtain ⟨a,rfl,ea⟩:=r1
    split at h
    ·rename_i kvs q
     obtain ⟨ks,hk,rk⟩:=m.obj n _ a q ea
     split at h
     ·rename_i d q2
      obtain ⟨z,e2,rz⟩:=rk.find (k:=Sum.inl i) q2
      cases rx
      have g:DGet H a (kV (Sum.inl i)) (some z):=by have:=DGet.k (k:=Sum.inl i) hk; rw [e2] at this; exact this
      exact tail_any (dict_typeIs I g) F.slot_dict_getitem.lookup (d_getItem hu I g ry fun w' s' I' rw'=>⟨z,H,I',rw',h.plain m rz⟩) hs
     ·exact h.elim
    ·exact h.elim
   ·exact h.elim
 ·rename_i k
  have ey:=rw_str r2
  subst ey
  split at h
  ·rename_i n
   have r1:RD X.K ads H (.adr n) x:=r1
   unfold RD at r1
   obtain ⟨a,rfl,ea⟩:=r1
   split at h
   ·rename_i kvs q
    obtain ⟨ks,hk,rk⟩:=m.obj n _ a q ea
    split at h
    ·rename_i d q2
     obtain ⟨z,e2,rz⟩:=rk.find (k:=Sum.inr k) q2
     cases rx
     have g:DGet H a (kV (Sum.inr k)) (some z):=by have:=DGet.k (k:=Sum.inr k) hk; rw [e2] at this; exact this
     exact tail_any (dict_typeIs I g) F.slot_dict_getitem.lookup (d_getItem hu I g ry fun w' s' I' rw'=>⟨z,H,I',rw',h.plain m rz⟩) hs
    ·exact h.elim
   ·exact h.elim
  ·exact h.elim
 ·exact h.elim
def rSlc (K:PySem.W.Frag):V→Option Int→Option Int→Hp→VK→Prop:=fun x lo hi H Q=>∃ ads M wx,MRel K ads H M∧RW K ads H wx x∧OkW K ads H Q (slcW wx lo hi M)
theorem sl_slc:SlR X (rSlc X.K):=by
 intro pins s σ H x v vl vu lo hi sl Q I rx hs pl pu h
 obtain ⟨ads,M,wx,m,r1,h⟩:=h
 unfold slcW at h
 split at h
 ·rename_i ds q
  obtain ⟨a,xs,rfl,rd,sq⟩:=seq_ok m r1 q
  rcases sq with ⟨_,sq⟩ | ⟨e,_⟩
  ·exact sl_list pins s σ H _ v vl vu lo hi sl Q I rx hs pl pu ⟨a,xs,rfl,sq,fun p hp=>h.list m rd.cut hp⟩
  ·cases e
 ·rename_i ds q
  obtain ⟨a,xs,rfl,rd,sq⟩:=seq_ok m r1 q
  rcases sq with ⟨e,_⟩ | ⟨_,sq⟩
  ·cases e
  ·split at h
   ·exact h.elim
   ·rename_i hw
    refine sl_tup pins s σ H _ v vl vu lo hi sl Q I rx hs pl pu ⟨a,xs,rfl,sq,by rw [← rd.len]; exact hw,fun p hp=>h.tuple m rd.cut hp⟩
 ·exact h.elim
def RWs (K:PySem.W.Frag) (ads:List Addr) (H:Hp):List W→List V→Prop
 | [],vs=>vs=[]
 | w::ws,vs=>∃ v r,vs=v::r∧RW K ads H w v∧RWs K ads H ws r
def rBi (K:PySem.W.Frag) (b:Bi):List V→Hp→VK→Prop:=fun vs H Q=>∃ ads M ws,MRel K ads H M∧RWs K ads H ws vs∧OkW K ads H Q (biW b ws M)
theorem RWs.one {K:PySem.W.Frag} {ads:List Addr} {H:Hp} {w:W} {vs:List V} (r:RWs K ads H [w] vs):∃ v,vs=[v]∧RW K ads H w v:=by
 obtain ⟨v,r,rfl,h,h2⟩:=r
 have h2:r=[]:=h2
 subst h2
 exact ⟨v,rfl,h⟩
theorem RWs.two {K:PySem.W.Frag} {ads:List Addr} {H:Hp} {w w2:W} {vs:List V} (r:RWs K ads H [w,w2] vs):∃ v v2,vs=[v,v2]∧RW K ads H w v∧RW K ads H w2 v2:=by
 obtain ⟨v,r,rfl,h,h2⟩:=r
 obtain ⟨v2,rfl,h3⟩:=RWs.one h2
 exact ⟨v,v2,rfl,h,h3⟩
theorem bi_len:CallR X (.builtin "len") (rBi X.K .len):=by
 intro pins s σ H xs us Q I r h
 obtain ⟨ads,M,ws,m,rw,h⟩:=h
 rcases ws with _ | ⟨w,_ | ⟨w2,ws⟩⟩
 ·exact h.elim
 ·obtain ⟨v,rfl,rv⟩:=rw.one
  unfold biW at h
  dsimp only at h
  split at h
  ·rename_i l ds q
   obtain ⟨a,ys,rfl,rd,sq⟩:=seq_ok m rv q
   refine call_len_seq pins s σ H _ us Q I r ⟨a,ys,rfl,?_,by rw [← rd.len]; exact h.plain m (rd_int _)⟩
   rcases sq with ⟨_,sq⟩ | ⟨_,sq⟩
   ·exact .inl sq
   ·exact .inr sq
  ·split at h
   ·split at h
    ·rename_i hz
     have e1:=rw_str rv
     subst e1
     exact call_len_str pins s σ H _ us Q I r ⟨_,rfl,hz,h.plain m (rd_int _)⟩
    ·exact h.elim
   ·exact h.elim
 ·exact h.elim
theorem iter_walk {pins : List (Addr × Obj)} {σ : L2.St} {H : Hp} {s : Shared} {a : Addr} {xs : List V} {A : Around} (hh : A.handled = none) (I : Inv X pins σ H s) (sq : SqL X.K H a xs ∨ SqT X.K H a xs) {Q : Value → Shared → Prop} {E : Value → Shared → Prop}
    (q : ∀ (its : List Value) (I1 : Addr) (fp wr : List Addr) (St : Nat → Heap → Prop) (s2 : Shared), Vals xs its → Walks X.prog X.w A I1 fp wr its.length (fun i v => its[i]? = some v) St → St 0 s2.heap → (∀ b ∈ fp, b < s2.heap.objs.size) →
      (∀ h' tk, (∀ b o, b ∉ wr → s2.heap.get? b = some o → h'.get? b = some o) → Inv X pins σ H { s2 with heap := h', toks := tk }) → Q (.ref I1) s2) : wpAny (model X.prog X.w) A (pyIter (.ref a)) Q E s := by
  have kp : ∀ {o : Obj} {h' : Heap} {tk : Nat}, (∀ b u, b ∉ [s.heap.objs.size] → (s.heap.push o).get? b = some u → h'.get? b = some u) → Inv X pins σ H { s with heap := h', toks := tk } := fun {o h' tk} k =>
    I.kept fun b u e => k b u (fun z => by
      have hb : b = s.heap.objs.size := by simpa using z
      exact absurd (Heap.lt_size e) (by rw [hb]; exact Nat.lt_irrefl _)) (Heap.get?_push_of_some _ e)
  rcases sq with sq | sq
  · obtain ⟨its, rv, pl, hz⟩ := I.list sq
    obtain ⟨o, ho, hc, n, hd⟩ := pl.isList
    have hlt := Heap.lt_size ho
    have W := Walks.list (prog := X.prog) (w := X.w) hh s.heap.objs.size a (Nat.ne_of_lt hlt) its.toArray
    simp only [List.size_toArray, List.getElem?_toArray] at W
    refine wpAny_pyIter_list pl.isList (q its _ _ _ _ _ rv W ⟨⟨_, Heap.get?_push_size _ rfl, rfl, rfl⟩, ⟨o, Heap.get?_push_of_some _ ho, hc, n, hd⟩⟩ (fun b hb => ?_) fun h' tk k => kp k)
    show b < (s.heap.push _).objs.size
    rw [Heap.size_push]
    have hb : b = s.heap.objs.size ∨ b = a := by simpa using hb
    rcases hb with z | z
    · rw [z]; exact Nat.lt_succ_self _
    · rw [z]; exact Nat.lt_succ_of_lt hlt
  · obtain ⟨its, rv, pl, hz⟩ := I.tuple sq
    obtain ⟨o, ho, hc, n, hd⟩ := id pl
    have hlt := Heap.lt_size ho
    have W := Walks.tuple (prog := X.prog) (w := X.w) hh s.heap.objs.size a (Nat.ne_of_lt hlt) its.toArray
    simp only [List.size_toArray, List.getElem?_toArray] at W
    refine wpAny_pyIter_tuple (show s.heap.IsTuple a its.toArray from pl) (q its _ _ _ _ _ rv W ⟨⟨_, Heap.get?_push_size _ rfl, rfl, rfl⟩, ⟨o, Heap.get?_push_of_some _ ho, hc, n, hd⟩⟩ (fun b hb => ?_) fun h' tk k => kp k)
    show b < (s.heap.push _).objs.size
    rw [Heap.size_push]
    have hb : b = s.heap.objs.size ∨ b = a := by simpa using hb
    rcases hb with z | z
    · rw [z]; exact Nat.lt_succ_self _
    · rw [z]; exact Nat.lt_succ_of_lt hlt
theorem bi_list:CallR X (.type "list") (rBi X.K .list1):=by
 intro pins s σ H xs us Q I r h
 obtain ⟨ads,M,ws,m,rw,h⟩:=h
 rcases ws with _ | ⟨w,_ | ⟨w2,ws⟩⟩
 ·exact h.elim
 ·obtain ⟨v,rfl,rv⟩:=rw.one
  unfold biW at h
  dsimp only at h
  split at h
  ·rename_i l ds q
   obtain ⟨a,ys,rfl,rd,sq⟩:=seq_ok m rv q
   refine call_list_of pins s σ H _ us Q I r ⟨a,ys,rfl,?_,fun p hp=>h.list m rd hp⟩
   rcases sq with ⟨_,sq⟩ | ⟨_,sq⟩
   ·exact .inl sq
   ·exact .inr sq
  ·exact h.elim
 ·exact h.elim
theorem bi_tuple:CallR X (.type "tuple") (rBi X.K .tuple1):=by
 intro pins s σ H xs us Q I r h
 obtain ⟨ads,M,ws,m,rw,h⟩:=h
 rcases ws with _ | ⟨w,_ | ⟨w2,ws⟩⟩
 ·exact h.elim
 ·obtain ⟨v,rfl,rv⟩:=rw.one
  unfold biW at h
  dsimp only at h
  split at h
  ·rename_i l ds q
   have hq:=q
   obtain ⟨a,ys,rfl,rd,sq⟩:=seq_ok m rv q
   rcases sq with ⟨_,sq⟩ | ⟨el,sq⟩
   ·exact call_tuple_of pins s σ H _ us Q I r ⟨a,ys,rfl,.inl ⟨sq,fun p hp=>h.tuple m rd hp⟩⟩
   ·refine call_tuple_of pins s σ H _ us Q I r ⟨a,ys,rfl,.inr ⟨sq,h.plain m ?_⟩⟩
    subst el
    cases w with
    | lv es=>cases hq
    | d x =>
     cases x with
     | tup es =>
      have e:es=ds:=by simpa [seqW] using hq
      subst e
      exact rv
     | adr n =>
      simp only [seqW] at hq
      split at hq <;> cases hq
     | ls _=>cases hq
     | non=>cases hq
     | bl _=>cases hq
     | int _=>cases hq
     | str _=>cases hq
  ·exact h.elim
 ·exact h.elim
theorem ints_at {K:PySem.W.Frag} {ads:List Addr} {H:Hp}:∀ {ds:List D} {bs:List Int} {ys:List V} {its:List Value},intsD ds=some bs→RDs K ads H ds ys→Vals ys its→its.length=bs.length∧∀ (i:Nat) (v:Value),its[i]?=some v→∃ t,v=Value.int (bs.getD i 0) t
 | [],bs,ys,its,e,r,v=>by
  cases e
  unfold RDs at r
  subst r
  cases v
  exact ⟨rfl,fun i v e=>by simp at e⟩
 | d::ds,bs,ys,its,e,r,v=>by
  unfold RDs at r
  obtain ⟨y,r',rfl,h1,h2⟩:=r
  cases d <;> first | cases e | skip
  rename_i b
  have e:(intsD ds).map (b::·)=some bs:=e
  cases q:intsD ds with
  | none=>rw [q] at e; cases e
  | some bs' =>
   rw [q] at e
   cases e
   unfold RD at h1
   subst h1
   cases v with
   | cons hv ht =>
    obtain ⟨e1,e2⟩:=ints_at q h2 ht
    obtain ⟨t,rfl⟩:=hv
    refine ⟨by simp [e1],fun i v e=>?_⟩
    cases i with
    | zero=>exact ⟨t,by simpa using e.symm⟩
    | succ i=>exact e2 i v (by simpa using e)
theorem best_fold (c:Int→Int→Bool) (i0:Int) (is:List Int):∀ k,k < (i0::is).length→(i0::is).getD (argBest (fun i j=>c ((i0::is).getD i 0) ((i0::is).getD j 0)) k) 0=(is.take k).foldl (fun a b=>if c b a=true then b else a) i0
 | 0,_=>by simp [argBest]
 | k+1,h=>by
  have ih:=best_fold c i0 is k (by omega)
  have hk:k < is.length:=by simpa using h
  rw [List.take_add_one,List.getElem?_eq_getElem hk,List.foldl_append]
  simp only [Option.toList_some,List.foldl_cons,List.foldl_nil]
  rw [← ih]
  have hg:(i0::is).getD (k+1) 0=is[k]:=by simp [List.getD_eq_getElem?_getD,hk]
  show (i0::is).getD (if c ((i0::is).getD (k+1) 0) ((i0::is).getD (argBest (fun i j=>c ((i0::is).getD i 0) ((i0::is).getD j 0)) k) 0)=true then k+1 else argBest (fun i j=>c ((i0::is).getD i 0) ((i0::is).getD j 0)) k) 0=_
  rw [hg]
  by_cases q:c is[k] ((i0::is).getD (argBest (fun i j=>c ((i0::is).getD i 0) ((i0::is).getD j 0)) k) 0)=true
  ·rw [if_pos q,if_pos q]; exact hg
  ·rw [if_neg q,if_neg q]
theorem nodict_all (n:Nat) (hA:∀ d p,pyD M' n d=some p→p.hasDict=false):∀ (ds:List D) (ps:List PyData),pyDs M' n ds=some ps→PyData.hasDictAll ps=false
 | [],ps,e=>by unfold pyDs at e; cases e; rfl
 | d::ds,ps,e=>by
  unfold pyDs at e
  cases q1:pyD M' n d with
  | none=>rw [q1] at e; cases e
  | some p =>
   cases q2:pyDs M' n ds with
   | none=>rw [q1,q2] at e; cases e
   | some qs =>
    rw [q1,q2] at e
    cases e
    rw [PyData.hasDictAll,hA d p q1,nodict_all n hA ds qs q2]
    rfl
theorem nodict_d:∀ (n:Nat) (d:D) (p:PyData),pyD M' n d=some p→p.hasDict=false:=by
 intro n
 induction n with
 | zero=>intro d p e; cases d <;> (unfold pyD at e; cases e) <;> simp [PyData.hasDict]
 | succ n ih =>
  intro d p e
  cases d with
  | tup ds =>
   unfold pyD at e
   cases q:pyDs M' n ds with
   | none=>rw [q] at e; cases e
   | some ps=>rw [q] at e; cases e; rw [PyData.hasDict]; exact nodict_all n ih ds ps q
  | adr k =>
   unfold pyD at e
   split at e
   ·cases q:pyDs M' n _ with
    | none=>rw [q] at e; cases e
    | some ps=>rw [q] at e; cases e; rw [PyData.hasDict]; exact nodict_all n ih _ ps q
   ·cases q:pyDs M' n _ with
    | none=>rw [q] at e; cases e
    | some ps=>rw [q] at e; cases e; rw [PyData.hasDict]; exact nodict_all n ih _ ps q
   ·cases e
  | ls ds =>
   unfold pyD at e
   cases q:pyDs M' n ds with
   | none=>rw [q] at e; cases e
   | some ps=>rw [q] at e; cases e; rw [PyData.hasDict]; exact nodict_all n ih ds ps q
  | non=>unfold pyD at e; cases e; simp [PyData.hasDict]
  | bl _=>unfold pyD at e; cases e; simp [PyData.hasDict]
  | int _=>unfold pyD at e; cases e; simp [PyData.hasDict]
  | str _=>unfold pyD at e; cases e; simp [PyData.hasDict]
theorem bi_int:CallR X (.type "int") (rBi X.K .int1):=by
 intro pins s σ H xs us Q I r h
 obtain ⟨ads,M,ws,m,rw,h⟩:=h
 rcases ws with _ | ⟨w,_ | ⟨w2,ws⟩⟩
 ·exact h.elim
 ·obtain ⟨v,rfl,rv⟩:=rw.one
  cases w with
  | lv ds=>exact h.elim
  | d x =>
   cases x with
   | int i =>
    have e:=rw_int rv
    subst e
    exact call_int1 pins s σ H _ us Q I r (.inl ⟨i,rfl,OkW.plain h m (rd_int _)⟩)
   | bl i =>
    have e:=rw_bl rv
    subst e
    exact call_int1 pins s σ H _ us Q I r (.inr ⟨i,rfl,OkW.plain h m (rd_int _)⟩)
   | non=>exact h.elim
   | str _=>exact h.elim
   | tup _=>exact h.elim
   | adr _=>exact h.elim
   | ls _=>exact h.elim
 ·rcases w with ⟨_ | _ | _ | _ | _ | _⟩ | _ <;> exact h.elim
theorem bi_repr {k:Nat} (hr:Room k X.A):CallR X (.builtin "repr") (rBi X.K .repr1):=by
 intro pins s σ H xs us Q I r h
 obtain ⟨ads,M,ws,m,rw,h⟩:=h
 rcases ws with _ | ⟨w,_ | ⟨w2,ws⟩⟩
 ·exact h.elim
 ·obtain ⟨v,rfl,rv⟩:=rw.one
  unfold biW at h
  dsimp only at h
  split at h
  ·rename_i p q
   split at h
   ·rename_i hs
    obtain ⟨u,rfl,ru⟩:=vals1 r
    obtain ⟨as,ra⟩:=reads_w I m rv ru q
    have hun:=hr.un
    have fin:∀ (h':Heap) (t:Tok) (tk:Nat),(∀ b o,s.heap.get? b=some o→h'.get? b=some o)→EP X pins σ Q (.str p.shown t) { s with heap:=h',toks:=tk }:=fun h' t tk hk =>
     ⟨.str p.shown,H,I.kept hk,⟨t,rfl⟩,h.plain m (rd_str _)⟩
    have fin0:∀ (t:Tok) (tk:Nat),EP X pins σ Q (.str p.shown t) { s with toks:=tk }:=fun t tk=>fin s.heap t tk fun _ _ e=>e
    have nd:p.hasDict=false:=by
     cases w with
     | d x=>exact nodict_d 30 x p q
     | lv ds =>
      have e:(pyDs M 30 ds).map PyData.list=some p:=q
      cases q2:pyDs M 30 ds with
      | none=>rw [q2] at e; cases e
      | some ps=>rw [q2] at e; cases e; rw [PyData.hasDict]; exact nodict_all 30 (nodict_d 30) ds ps q2
    cases ra with
    | none=>exact PySem.P.repr_of_none (fin0 _ _)
    | bool b=>exact PySem.P.repr_of_bool (fin0 _ _)
    | int i t=>exact PySem.P.repr_of_int (of_decide_eq_true hs.1) (fin0 _ _)
    | str x t=>exact PySem.P.repr_of_str (fin0 _ _) hs.2.2
    | list h1 h2 h3 h4=>exact repr_of_reads' (.list h1 h2 h3 h4) hs.1 (PyData.noDict_hsm nd) hr.gd (by have:=hs.2.1; omega) (fun _ _ e=>e) (fun h' t tk hk=>fin h' t tk hk) hs.2.2
    | tuple h1 h2 h3 h4=>exact repr_of_reads' (.tuple h1 h2 h3 h4) hs.1 (PyData.noDict_hsm nd) hr.gd (by have:=hs.2.1; omega) (fun _ _ e=>e) (fun h' t tk hk=>fin h' t tk hk) hs.2.2
    | dict h1 h2 h3 h4 h5=>rw [PyData.hasDict] at nd; cases nd
   ·exact h.elim
  ·exact h.elim
 ·exact h.elim
def tyOf:Ty→String
 | .int => "int" | .bool => "bool" | .str => "str" | .tuple => "tuple" | .list => "list" | .dict => "dict" | .none => "NoneType"
theorem kit_isi (K:PySem.W.Frag):∀ g t:Ty,PySem.W.kitOne K (.type (tyOf g)) (.type (tyOf t))=some (decide (g=t) || (decide (g=.bool) && decide (t=.int))):=by
 intro g t
 cases g <;> cases t <;> kernel_rfl
theorem tag_ok {K:PySem.W.Frag} {ads:List Addr} {H:Hp} {M:Mem} {w:W} {v:V} {g:Ty} (m:MRel K ads H M) (r:RW K ads H w v) (e:tagW M w=some g):TyOf K H v (.type (tyOf g)):=by
 cases w with
 | lv ds=>cases e; obtain ⟨a,xs,rfl,h,_⟩:=r; exact .lst h
 | d x =>
  cases x with
  | non=>cases e; rw [rw_non r]; exact .non
  | bl b=>cases e; rw [rw_bl r]; exact .bl b
  | int b=>cases e; rw [rw_int r]; exact .int b
  | str b=>cases e; rw [rw_str r]; exact .str b
  | ls b=>cases e
  | tup b=>cases e; have r:RD K ads H (.tup b) v:=r; unfold RD at r; obtain ⟨a,xs,rfl,h,_⟩:=r; exact .tup h
  | adr n =>
   have r:RD K ads H (.adr n) v:=r
   unfold RD at r
   obtain ⟨a,rfl,ea⟩:=r
   simp only [tagW] at e
   cases q:M[n]? with
   | none=>rw [q] at e; cases e
   | some o =>
    rw [q] at e
    have ho:=m.obj n o a q ea
    cases o with
    | lst es=>cases e; obtain ⟨xs,h,_⟩:=ho; exact .lst h
    | scr es=>cases e; obtain ⟨o,xs,h,_⟩:=ho; exact .frz h
    | dK es=>cases e; obtain ⟨xs,h,_⟩:=ho; exact .dK h
    | dT es=>cases e; obtain ⟨xs,h,_⟩:=ho; exact .dT h
theorem bi_isi (t:Ty):CallR X (.builtin "isinstance") (fun vs H Q=>∃ v,vs=[v,.ty (tyOf t)]∧rBi X.K (.isi t) [v] H Q):=by
 intro pins s σ H xs us Q I r h
 obtain ⟨v,rfl,ads,M,ws,m,rw,h⟩:=h
 obtain ⟨u,u2,rfl,r1,r2⟩:=vals2 r
 rcases ws with _ | ⟨w,_ | ⟨w2,ws⟩⟩
 ·exact h.elim
 ·obtain ⟨v',e,rv⟩:=rw.one
  cases e
  unfold biW at h
  dsimp only at h
  split at h
  ·rename_i g q
   have e2:u2=Value.type (tyOf t):=r2
   subst e2
   exact isinst_ok I r1 (tag_ok m rv q) (kit_isi X.K g t) fun tk=>⟨.bl _,H,I.tok tk,rfl,h.plain m (rd_bl _)⟩
  ·exact h.elim
 ·obtain ⟨_,_,e,_,_,_,e2,_⟩:=rw
  cases e
  cases e2
end
end Ev
end
section
set_option Elab.async false
set_option linter.all false
set_option maxRecDepth 100000
set_option maxHeartbeats 4000000
namespace Ev
open L2
open PySem PySem.Spec PyProof.Rows
section
variable {X:Cx}
def rMe (K:PySem.W.Frag) (me:Me):V→List V→Hp→VK→Prop:=fun x vs H Q=>∃ ads M wx ds,MRel K ads H M∧RW K ads H wx x∧RDs K ads H ds vs∧OkW K ads H Q (meW me wx ds M)
theorem RDs.one' {K:PySem.W.Frag} {ads:List Addr} {H:Hp} {d:D} {vs:List V} (r:RDs K ads H [d] vs):∃ v,vs=[v]∧RD K ads H d v:=by
 unfold RDs at r
 obtain ⟨v,r',rfl,h,h2⟩:=r
 unfold RDs at h2
 subst h2
 exact ⟨v,rfl,h⟩
theorem OkW.wrote {K : PySem.W.Frag} {ads : List Addr} {H : Hp} {M : Mem} {n : Nat} {a : Addr} {ds es : List D} {ys : List V} {x : D} {Q : VK} {v : V} (h : OkW K ads H Q (.ok (.d x) (M.set n (.lst es)))) (m : MRel K ads H M) (q : M[n]? = some (.lst ds)) (ea : ads[n]? = some a)
    (ha : ∃ xs, H a = some (.lst xs)) (ry : RDs K ads H es ys) (rx : RD K ads (upd H a (.lst ys)) x v) : Q v (upd H a (.lst ys)) := by
  obtain ⟨xs, ha⟩ := ha
  have nf : ∀ o x, H a ≠ some (.frz o x) := fun o x z => by rw [ha] at z; cases z
  have g : Grow ads ads H (upd H a (.lst ys)) := by
    have hin : a ∈ ads := List.mem_of_getElem? ea
    exact ⟨⟨[], by simp⟩, fun b h n => absurd h n, fun b x nb h => by rw [upd_ne (by intro z; subst z; exact nb hin)]; exact h, fun b xs h => by
      rw [upd_ne (fun z => by subst z; rw [ha] at h; cases h)]; exact h, fun b o u h => by rw [upd_ne (fun z => by subst z; exact nf _ _ h)]; exact h⟩
  obtain ⟨g', m'⟩ := m.write (o := .lst es) (ho := .lst ys) q ea nf ⟨ys, upd_same, g.rds _ _ ry⟩
  exact h v _ ads g m' rx
theorem me_append:MtR X "list.append" (rMe X.K .append):=by
 intro pins s σ H x vs v us Q I rx rv h
 obtain ⟨ads,M,wx,ds,m,r1,r2,h⟩:=h
 rcases wx with ⟨_ | _ | _ | _ | _ | n⟩ | _ <;> first | exact h.elim | skip
 have r1:RD X.K ads H (.adr n) x:=r1
 unfold RD at r1
 obtain ⟨a,rfl,ea⟩:=r1
 simp only [meW] at h
 cases q:M[n]? with
 | none=>rw [q] at h; exact h.elim
 | some o =>
  rw [q] at h
  cases o with
  | lst es =>
   rcases ds with _ | ⟨d,_ | ⟨d2,ds⟩⟩
   ·exact h.elim
   ·dsimp only at h
    split at h
    ·rename_i hz
     obtain ⟨y,rfl,ry⟩:=r2.one'
     obtain ⟨xs,ha,rd⟩:=m.obj n _ a q ea
     exact mt_append pins s σ H _ _ v us Q I rx rv ⟨a,xs,y,rfl,rfl,ha,by rw [← rd.len]; exact hz,OkW.wrote h m q ea ⟨xs,ha⟩ (rd.app (.one ry)) rd_non⟩
    ·exact h.elim
   ·exact h.elim
  | scr _=>exact h.elim
  | dK _=>exact h.elim
  | dT _=>exact h.elim
def setW (o i:W) (d:D) (M:Mem):Out Unit :=
 match o with
 | .d (.adr n)=>match M[n]? with
  | some (.lst ds)=>match i with
   | .d (.int k)=>match ixN ds.length k with
    | some j=>.ok () (M.set n (.lst (ds.set j d)))
    | none=>.stuck
   | _=>.stuck
  | some (.dK kvs)=>match i with
   | .d (.str k)=>if kvs.length < sizeLine then .ok () (M.set n (.dK (putD kvs (Sum.inr k) d))) else .stuck
   | .d (.int k)=>if kvs.length < sizeLine then .ok () (M.set n (.dK (putD kvs (Sum.inl k) d))) else .stuck
   | _=>.stuck
  | _=>.stuck
 | _=>.stuck
def OkU (K:PySem.W.Frag) (ads:List Addr) (H:Hp) (Q:Hp→Prop):Out Unit→Prop
 | .ok _ M=>∀ H' ads',Grow ads ads' H H'→MRel K ads' H' M→Q H'
 | _=>False
def rSet (K:PySem.W.Frag):TSet:=fun o i v H Q=>∃ ads M wo wi d,MRel K ads H M∧RW K ads H wo o∧RW K ads H wi i∧RD K ads H d v∧OkU K ads H Q (setW wo wi d M)
theorem set_ok (hu:X.A.units+1 < cLine):PSet X (rSet X.K):=by
 intro pins s σ H o i v ov iv u Q I ro ri rv h
 obtain ⟨ads,M,wo,wi,d,m,r1,r2,r3,h⟩:=h
 rcases wo with ⟨_ | _ | _ | _ | _ | n⟩ | _ <;> first | exact h.elim | skip
 have r1:RD X.K ads H (.adr n) o:=r1
 unfold RD at r1
 obtain ⟨a,rfl,ea⟩:=r1
 simp only [setW] at h
 cases q:M[n]? with
 | none=>rw [q] at h; exact h.elim
 | some ob =>
  rw [q] at h
  have hin:a∈ads:=List.mem_of_getElem? ea
  cases ob with
  | lst ds =>
   rcases wi with ⟨_ | _ | k | _ | _ | _⟩ | _ <;> first | exact h.elim | skip
   have ei:=rw_int r2
   subst ei
   dsimp only at h
   cases q2:ixN ds.length k with
   | none=>rw [q2] at h; exact h.elim
   | some j =>
    rw [q2] at h
    obtain ⟨xs,ha,rd⟩:=m.obj n _ a q ea
    refine set_list pins s σ H _ _ v ov iv u Q I ro ri rv ⟨a,xs,k,j,rfl,rfl,ha,by rw [← rd.len]; exact q2,?_⟩
    have nf:∀ o x,H a≠some (.frz o x):=fun o x z=>by rw [ha] at z; cases z
    have hg:Grow ads ads H (upd H a (.lst (xs.set j v))):=⟨⟨[],by simp⟩,fun b h n=>absurd h n,fun b x nb h=>by rw [upd_ne (by intro z; subst z; exact nb hin)]; exact h,fun b xs h=>by
     rw [upd_ne (fun z=>by subst z; rw [ha] at h; cases h)]; exact h,fun b o u h=>by rw [upd_ne (fun z=>by subst z; exact nf _ _ h)]; exact h⟩
    obtain ⟨g',m'⟩:=m.write (o:=.lst (ds.set j d)) (ho:=.lst (xs.set j v)) q ea nf ⟨_,upd_same,hg.rds _ _ (rd.setAt j r3)⟩
    exact h _ ads hg m'
  | dK kvs =>
   obtain ⟨ks,ha,rk⟩:=m.obj n _ a q ea
   have nf:∀ o x,H a≠some (.frz o x):=fun o x z=>by rw [ha] at z; cases z
   have put:∀ (k:Key),i=kV k→kvs.length < sizeLine→OkU X.K ads H Q (.ok () (M.set n (.dK (putD kvs k d))))→wpAny (model X.prog X.w) X.A (setItem ov iv u) (fun _ s'=>∃ H',Inv X pins σ H' s'∧Q H') X.xe s:=by
    intro k ek hz h
    subst ek
    cases ro
    refine d_setItem hu I (DPut.k (k:=k) ha (by rw [← rk.len]; exact hz)) ri rv fun s' I'=>⟨_,I',?_⟩
    have hg:Grow ads ads H (upd H a (.dK (putK ks k v))):=⟨⟨[],by simp⟩,fun b h n=>absurd h n,fun b x nb h=>by rw [upd_ne (by intro z; subst z; exact nb hin)]; exact h,fun b xs h=>by
     rw [upd_ne (fun z=>by subst z; rw [ha] at h; cases h)]; exact h,fun b o u h=>by rw [upd_ne (fun z=>by subst z; exact nf _ _ h)]; exact h⟩
    obtain ⟨g',m'⟩:=m.write (o:=.dK (putD kvs k d)) (ho:=.dK (putK ks k v)) q ea nf ⟨_,upd_same,hg.rks _ _ (rk.put r3)⟩
    exact h _ ads hg m'
   rcases wi with ⟨_ | _ | k | k | _ | _⟩ | _ <;> first | exact h.elim | skip
   ·have ei:=rw_int r2
    subst ei
    dsimp only at h
    split at h
    ·rename_i hz
     exact put (Sum.inl k) rfl hz h
    ·exact h.elim
   ·have ei:=rw_str r2
    subst ei
    dsimp only at h
    split at h
    ·rename_i hz
     exact put (Sum.inr k) rfl hz h
    ·exact h.elim
  | scr _=>exact h.elim
  | dT _=>exact h.elim
end
end Ev
end
section
set_option Elab.async false
set_option linter.all false
set_option maxRecDepth 100000
set_option maxHeartbeats 4000000
namespace Ev
open L2
open PySem PySem.Spec PyProof.Rows
structure CC where
 N:List Str
 names:List (Str×NameKind)
 fs:List (Str×Nat)
def vis (cc:CC) (x:Str):Bool:=match cc.names.lookup x with
 | some .local=>true
 | some .cell=>true
 | some .free=>true
 | _=>false
def glob (cc:CC) (x:Str):Bool:=match cc.names.lookup x with
 | some .globalImplicit=>true
 | _=>false
def plainName (x:Str):Bool:=!(x == ("__debug__" : Str)) && !(x == ("__classdict__" : Str)) && !(x == ("__name__" : Str))
theorem on_idx {p:Prop} [d:Decidable p] {f:p→Bool} (h:(if h:p then f h else false)=true):p:=by
 cases d with
 | isTrue q=>exact q
 | isFalse q=>rw [dif_neg q] at h; exact absurd h Bool.false_ne_true
def onBoolOp (e:Expr) (f:BoolOp→List Expr→Pos→Bool):Bool:=if h:e.ctorIdx=0 then Expr.BoolOp.elim (motive_1:=fun _=>Bool) e h f else false
theorem onBoolOp_el {P:Expr→Prop} {e:Expr} {f:BoolOp→List Expr→Pos→Bool} (h:onBoolOp e f=true) (k:∀ a b c,f a b c=true→P (.BoolOp a b c)):P e :=
 Expr.BoolOp.elim (motive_1:=fun e=>onBoolOp e f=true→P e) e (on_idx h) (fun a b c h=>k a b c h) h
def onBinOp (e:Expr) (f:Expr→Operator→Expr→Pos→Bool):Bool:=if h:e.ctorIdx=2 then Expr.BinOp.elim (motive_1:=fun _=>Bool) e h f else false
theorem onBinOp_el {P:Expr→Prop} {e:Expr} {f:Expr→Operator→Expr→Pos→Bool} (h:onBinOp e f=true) (k:∀ a b c d,f a b c d=true→P (.BinOp a b c d)):P e :=
 Expr.BinOp.elim (motive_1:=fun e=>onBinOp e f=true→P e) e (on_idx h) (fun a b c d h=>k a b c d h) h
def onUnaryOp (e:Expr) (f:UnaryOp→Expr→Pos→Bool):Bool:=if h:e.ctorIdx=3 then Expr.UnaryOp.elim (motive_1:=fun _=>Bool) e h f else false
theorem onUnaryOp_el {P:Expr→Prop} {e:Expr} {f:UnaryOp→Expr→Pos→Bool} (h:onUnaryOp e f=true) (k:∀ a b c,f a b c=true→P (.UnaryOp a b c)):P e :=
 Expr.UnaryOp.elim (motive_1:=fun e=>onUnaryOp e f=true→P e) e (on_idx h) (fun a b c h=>k a b c h) h
def onListComp (e:Expr) (f:Expr→List Comprehension→Scope→Pos→Bool):Bool:=if h:e.ctorIdx=8 then Expr.ListComp.elim (motive_1:=fun _=>Bool) e h f else false
theorem onListComp_el {P:Expr→Prop} {e:Expr} {f:Expr→List Comprehension→Scope→Pos→Bool} (h:onListComp e f=true) (k:∀ a b c d,f a b c d=true→P (.ListComp a b c d)):P e :=
 Expr.ListComp.elim (motive_1:=fun e=>onListComp e f=true→P e) e (on_idx h) (fun a b c d h=>k a b c d h) h
def onCompare (e:Expr) (f:Expr→List CmpOp→List Expr→Pos→Bool):Bool:=if h:e.ctorIdx=15 then Expr.Compare.elim (motive_1:=fun _=>Bool) e h f else false
theorem onCompare_el {P:Expr→Prop} {e:Expr} {f:Expr→List CmpOp→List Expr→Pos→Bool} (h:onCompare e f=true) (k:∀ a b c d,f a b c d=true→P (.Compare a b c d)):P e :=
 Expr.Compare.elim (motive_1:=fun e=>onCompare e f=true→P e) e (on_idx h) (fun a b c d h=>k a b c d h) h
def onCall (e:Expr) (f:Expr→List Expr→List Keyword→Pos→Bool):Bool:=if h:e.ctorIdx=16 then Expr.Call.elim (motive_1:=fun _=>Bool) e h f else false
theorem onCall_el {P:Expr→Prop} {e:Expr} {f:Expr→List Expr→List Keyword→Pos→Bool} (h:onCall e f=true) (k:∀ a b c d,f a b c d=true→P (.Call a b c d)):P e :=
 Expr.Call.elim (motive_1:=fun e=>onCall e f=true→P e) e (on_idx h) (fun a b c d h=>k a b c d h) h
def onConstant (e:Expr) (f:Const→Nat→Pos→Bool):Bool:=if h:e.ctorIdx=19 then Expr.Constant.elim (motive_1:=fun _=>Bool) e h f else false
theorem onConstant_el {P:Expr→Prop} {e:Expr} {f:Const→Nat→Pos→Bool} (h:onConstant e f=true) (k:∀ a b c,f a b c=true→P (.Constant a b c)):P e :=
 Expr.Constant.elim (motive_1:=fun e=>onConstant e f=true→P e) e (on_idx h) (fun a b c h=>k a b c h) h
def onAttribute (e:Expr) (f:Expr→Str→Pos→Bool):Bool:=if h:e.ctorIdx=20 then Expr.Attribute.elim (motive_1:=fun _=>Bool) e h f else false
theorem onAttribute_el {P:Expr→Prop} {e:Expr} {f:Expr→Str→Pos→Bool} (h:onAttribute e f=true) (k:∀ a b c,f a b c=true→P (.Attribute a b c)):P e :=
 Expr.Attribute.elim (motive_1:=fun e=>onAttribute e f=true→P e) e (on_idx h) (fun a b c h=>k a b c h) h
def onSubscript (e:Expr) (f:Expr→Expr→Pos→Bool):Bool:=if h:e.ctorIdx=21 then Expr.Subscript.elim (motive_1:=fun _=>Bool) e h f else false
theorem onSubscript_el {P:Expr→Prop} {e:Expr} {f:Expr→Expr→Pos→Bool} (h:onSubscript e f=true) (k:∀ a b c,f a b c=true→P (.Subscript a b c)):P e :=
 Expr.Subscript.elim (motive_1:=fun e=>onSubscript e f=true→P e) e (on_idx h) (fun a b c h=>k a b c h) h
def onName (e:Expr) (f:Str→Pos→Bool):Bool:=if h:e.ctorIdx=23 then Expr.Name.elim (motive_1:=fun _=>Bool) e h f else false
theorem onName_el {P:Expr→Prop} {e:Expr} {f:Str→Pos→Bool} (h:onName e f=true) (k:∀ a b,f a b=true→P (.Name a b)):P e :=
 Expr.Name.elim (motive_1:=fun e=>onName e f=true→P e) e (on_idx h) (fun a b h=>k a b h) h
def onList (e:Expr) (f:List Expr→Pos→Bool):Bool:=if h:e.ctorIdx=24 then Expr.List.elim (motive_1:=fun _=>Bool) e h f else false
theorem onList_el {P:Expr→Prop} {e:Expr} {f:List Expr→Pos→Bool} (h:onList e f=true) (k:∀ a b,f a b=true→P (.List a b)):P e :=
 Expr.List.elim (motive_1:=fun e=>onList e f=true→P e) e (on_idx h) (fun a b h=>k a b h) h
def onTuple (e:Expr) (f:List Expr→Nat→Pos→Bool):Bool:=if h:e.ctorIdx=25 then Expr.Tuple.elim (motive_1:=fun _=>Bool) e h f else false
theorem onTuple_el {P:Expr→Prop} {e:Expr} {f:List Expr→Nat→Pos→Bool} (h:onTuple e f=true) (k:∀ a b c,f a b c=true→P (.Tuple a b c)):P e :=
 Expr.Tuple.elim (motive_1:=fun e=>onTuple e f=true→P e) e (on_idx h) (fun a b c h=>k a b c h) h
def onSlice (e:Expr) (f:Option Expr→Option Expr→Option Expr→Pos→Bool):Bool:=if h:e.ctorIdx=26 then Expr.Slice.elim (motive_1:=fun _=>Bool) e h f else false
theorem onSlice_el {P:Expr→Prop} {e:Expr} {f:Option Expr→Option Expr→Option Expr→Pos→Bool} (h:onSlice e f=true) (k:∀ a b c d,f a b c d=true→P (.Slice a b c d)):P e :=
 Expr.Slice.elim (motive_1:=fun e=>onSlice e f=true→P e) e (on_idx h) (fun a b c d h=>k a b c d h) h
def stReturn (e:Stmt) (f:Option Expr→Pos→Bool):Bool:=if h:e.ctorIdx=3 then Stmt.Return.elim (motive_2:=fun _=>Bool) e h f else false
theorem stReturn_el {P:Stmt→Prop} {e:Stmt} {f:Option Expr→Pos→Bool} (h:stReturn e f=true) (k:∀ a b,f a b=true→P (.Return a b)):P e :=
 Stmt.Return.elim (motive_2:=fun e=>stReturn e f=true→P e) e (on_idx h) (fun a b h=>k a b h) h
def stAssign (e:Stmt) (f:List Expr→Expr→Pos→Bool):Bool:=if h:e.ctorIdx=5 then Stmt.Assign.elim (motive_2:=fun _=>Bool) e h f else false
theorem stAssign_el {P:Stmt→Prop} {e:Stmt} {f:List Expr→Expr→Pos→Bool} (h:stAssign e f=true) (k:∀ a b c,f a b c=true→P (.Assign a b c)):P e :=
 Stmt.Assign.elim (motive_2:=fun e=>stAssign e f=true→P e) e (on_idx h) (fun a b c h=>k a b c h) h
def stFor (e:Stmt) (f:Expr→Expr→List Stmt→List Stmt→Pos→Bool):Bool:=if h:e.ctorIdx=9 then Stmt.For.elim (motive_2:=fun _=>Bool) e h f else false
theorem stFor_el {P:Stmt→Prop} {e:Stmt} {f:Expr→Expr→List Stmt→List Stmt→Pos→Bool} (h:stFor e f=true) (k:∀ a b c d e,f a b c d e=true→P (.For a b c d e)):P e :=
 Stmt.For.elim (motive_2:=fun e=>stFor e f=true→P e) e (on_idx h) (fun a b c d e h=>k a b c d e h) h
def stIf (e:Stmt) (f:Expr→List Stmt→List Stmt→Pos→Bool):Bool:=if h:e.ctorIdx=12 then Stmt.If.elim (motive_2:=fun _=>Bool) e h f else false
theorem stIf_el {P:Stmt→Prop} {e:Stmt} {f:Expr→List Stmt→List Stmt→Pos→Bool} (h:stIf e f=true) (k:∀ a b c d,f a b c d=true→P (.If a b c d)):P e :=
 Stmt.If.elim (motive_2:=fun e=>stIf e f=true→P e) e (on_idx h) (fun a b c d h=>k a b c d h) h
def stExpr (e:Stmt) (f:Expr→Pos→Bool):Bool:=if h:e.ctorIdx=24 then Stmt.Expr.elim (motive_2:=fun _=>Bool) e h f else false
theorem stExpr_el {P:Stmt→Prop} {e:Stmt} {f:Expr→Pos→Bool} (h:stExpr e f=true) (k:∀ a b,f a b=true→P (.Expr a b)):P e :=
 Stmt.Expr.elim (motive_2:=fun e=>stExpr e f=true→P e) e (on_idx h) (fun a b h=>k a b h) h
def stPass (e:Stmt) (f:Pos→Bool):Bool:=if h:e.ctorIdx=25 then Stmt.Pass.elim (motive_2:=fun _=>Bool) e h f else false
theorem stPass_el {P:Stmt→Prop} {e:Stmt} {f:Pos→Bool} (h:stPass e f=true) (k:∀ a,f a=true→P (.Pass a)):P e :=
 Stmt.Pass.elim (motive_2:=fun e=>stPass e f=true→P e) e (on_idx h) (fun a h=>k a h) h
def stBreak (e:Stmt) (f:Pos→Bool):Bool:=if h:e.ctorIdx=26 then Stmt.Break.elim (motive_2:=fun _=>Bool) e h f else false
theorem stBreak_el {P:Stmt→Prop} {e:Stmt} {f:Pos→Bool} (h:stBreak e f=true) (k:∀ a,f a=true→P (.Break a)):P e :=
 Stmt.Break.elim (motive_2:=fun e=>stBreak e f=true→P e) e (on_idx h) (fun a h=>k a h) h
def stContinue (e:Stmt) (f:Pos→Bool):Bool:=if h:e.ctorIdx=27 then Stmt.Continue.elim (motive_2:=fun _=>Bool) e h f else false
theorem stContinue_el {P:Stmt→Prop} {e:Stmt} {f:Pos→Bool} (h:stContinue e f=true) (k:∀ a,f a=true→P (.Continue a)):P e :=
 Stmt.Continue.elim (motive_2:=fun e=>stContinue e f=true→P e) e (on_idx h) (fun a h=>k a h) h
def isInt (k:Int):Const→Bool
 | .int j=>k == j
 | _=>false
def isNoneC:Const→Bool
 | .none=>true
 | _=>false
def isNone (e:Expr):Bool:=onConstant e fun c _ _=>isNoneC c
def isAnd:BoolOp→Bool
 | .And=>true
 | .Or=>false
def isUSub:UnaryOp→Bool
 | .USub=>true
 | _=>false
def isNot:UnaryOp→Bool
 | .Not=>true
 | _=>false
def noSlice (e:Expr):Bool:=!Nat.beq e.ctorIdx 26
def plainTest (e:Expr):Bool:=[23,16,21,24,25,19,2].contains e.ctorIdx
def notCall0 (e:Expr):Bool:=!(onCall e fun f as ks _=>Nat.beq f.ctorIdx 23 && as.isEmpty && ks.isEmpty)
def notStar (e:Expr):Bool:=!Nat.beq e.ctorIdx 22
def biName:Bi→Str
 | .len => "len" | .max2 => "max" | .min2 => "min" | .int1 => "int" | .list1 => "list" | .tuple1 => "tuple" | .repr1 => "repr" | .isi _ => "isinstance" | .all1 => "all" | .any1 => "any" | .dict1 => "dict" | .min1 => "min" | .max1 => "max"
def meName:Me→Str
 | .append => "append" | .insert => "insert" | .reverse => "reverse" | .extend => "extend"
def bltNames:List Str:=["len","max","min","int","list","tuple","repr","isinstance","all","any","bool","str","dict","range","enumerate","zip"]
def meOk:Me→Bool
 | .reverse=>false
 | .insert=>false
 | .extend=>false
 | _=>true
def biOk:Bi→Bool
 | .all1=>false
 | .any1=>false
 | .min1=>false
 | .max1=>false
 | .min2=>false
 | .max2=>false
 | .dict1=>false
 | .isi _=>false
 | _=>true
def isStr (k:Str):Const→Bool
 | .str s=>k == s
 | _=>false
def blockN (sc:Scope):List Str:=(sc.names.filter fun y=>y.2 == .local || y.2 == .free || y.2 == .cell).map (·.1)
def capOf (cc:CC) (sc:Scope):List (Option Nat):=(blockN sc).map fun x=>if sc.names.lookup x == some .free then cc.N.findIdx? (· == x) else none
def blk (cc:CC) (sc:Scope):CC:=⟨blockN sc,sc.names,cc.fs⟩
def scOk (cc:CC) (sc:Scope):Bool:=sc.kind == .function && sc.names.all (fun y=>y.2 != .cell || sc.names.lookup y.1 == some .cell) && sc.names.all (fun y=>y.2 != .local || sc.names.lookup y.1 == some .local) && decide (blockN sc).Nodup &&
 sc.names.all (fun y=>y.2 != .free || (sc.names.lookup y.1 == some .free && (cc.names.lookup y.1 == some .cell || cc.names.lookup y.1 == some .free)))
def chkNames (cc:CC):List Nat→List Expr→Bool
 | [],[]=>true
 | i::tg,e::es=>(onName e fun x _=>cc.N[i]? == some x && (cc.names.lookup x == some .local || cc.names.lookup x == some .cell)) && chkNames cc tg es
 | _,_=>false
def chkTg (cc:CC) (tg:List Nat) (e:Expr):Bool:=match tg with
 | []=>false
 | [i]=>chkNames cc [i] [e]
 | i::j::r=>onTuple e fun es _ _=>chkNames cc (i::j::r) es && decide ((i::j::r).length < 20)
def isTuple (e:Expr):Bool:=Nat.beq e.ctorIdx 25
def notSet (e:Expr):Bool:=!Nat.beq e.ctorIdx 7
def chkK:D→Const→Bool
 | .int i,.int j=>i == j
 | .bl i,.bool j=>i == j
 | .str i,.str j=>i == j
 | .non,.none=>true
 | _,_=>false
def chkNeg:D→Const→Bool
 | .int i,.int j=>i == -j
 | _,_=>false
def chkCst (d:D) (e:Expr):Bool:=(onConstant e fun c _ _=>chkK d c) || onUnaryOp e fun op x _=>isUSub op && onConstant x fun c _ _=>chkNeg d c
def isiTy:Bi→Option Ty
 | .isi t=>some t
 | _=>none
theorem isiTy_some {b:Bi} {t:Ty} (h:isiTy b=some t):b=.isi t:=by
 cases b <;> first | (cases h; rfl) | cases h
mutual
def chk (cc:CC):C→Expr→Bool
 | .var i,e=>onName e fun x _=>cc.N[i]? == some x && vis cc x && plainName x
 | .cst d,e=>chkCst d e
 | .bin op a b,e=>onBinOp e fun l o r _=>o == opOf op && chk cc a l && chk cc b r
 | .cmp op a b,e=>onCompare e fun l os rs _=>match os,rs with
  | [o],[r]=>o == cOf op && !behindInMarks o r && (if op=.isN∨op=.notN then isNone r else true) && chk cc a l && chk cc b r
  | _,_=>false
 | .chain o1 o2 a b c,e=>onCompare e fun l os rs _=>match os,rs with
  | [p,q],[m,r]=>p == cOf o1 && q == cOf o2 && !lastMarks [p,q] [m,r] && !(decide (o1=.isN) || decide (o1=.notN) || decide (o2=.isN) || decide (o2=.notN)) && chk cc a l && chk cc b m && chk cc c r
  | _,_=>false
 | .conj cs,e=>false
 | .disj cs,e=>false
 | .neg a,e=>onUnaryOp e fun op x _=>isNot op && chk cc a x
 | .ite t a b,e=>false
 | .tup cs,e=>onTuple e fun es _ _=>chks cc cs es
 | .lst cs,e=>onList e fun es _=>chks cc cs es
 | .sub a b,e=>onSubscript e fun e i _=>noSlice i && chk cc a e && chk cc b i
 | .slc a lo hi,e=>onSubscript e fun e i _=>onSlice i fun l h st _=>st.isNone && chk cc a e && chkO cc lo l && chkO cc hi h
 | .stp a k,e=>false
 | .sfind a b,e=>false
 | .call f cs,e=>onCall e fun fe args kws _=>onName fe fun x _=>match args,kws with
  | e::es,[]=>cc.fs[f]? == some (x,cs.length) && glob cc x && plainName x && chks cc cs (e::es)
  | _,_=>false
 | .bi b cs,e=>onCall e fun fe args kws _=>onName fe fun x _=>kws.isEmpty && x == biName b && glob cc x && match isiTy b,args with
  | some t,[e,f]=>(onName f fun y _=>y == Str.ofString (tyOf t) && glob cc y && decide (t≠.none)) && chks cc cs [e]
  | none,e::es=>biOk b && chks cc cs (e::es)
  | _,_=>false
 | .me m o cs,e=>onCall e fun fe es kws cp=>onAttribute fe fun e n ap=>kws.isEmpty && n == meName m && meOk m && ap.endLine == cp.line && notCall0 e && chk cc o e && chks cc cs es && decide (es.length < 20)
 | .dct ks cs,e=>false
 | .rng tp cs,e=>false
 | .usub a,e=>onUnaryOp e fun op x _=>isUSub op && chk cc a x
 | .minD a b,e=>onCall e fun fe args kws _=>onName fe fun x _=>match args,kws with
  | [a'],[⟨some k,v,_⟩]=>x == "min" && glob cc x && k == "default" && notStar a' && chk cc a a' && chk cc b v
  | _,_=>false
 | .comp k src tg cond elt cap,e=>onListComp e fun el gens sc _=>match gens with
  | [⟨t,iter,ifs,as⟩]=>as == 0 && scOk cc sc && decide (cap=capOf cc sc) && chkSrc cc k src t iter && chkTg (blk cc sc) tg t && chkC (blk cc sc) cond ifs && chk (blk cc sc) elt el
  | _=>false
def chkC (cc:CC):Option Tst→List Expr→Bool
 | none,[]=>true
 | some t,[e]=>chkT cc t e
 | _,_=>false
def chkSrc (cc:CC):SK→List C→Expr→Expr→Bool
 | .seq,[c],_,e=>notSet e && chk cc c e
 | .rng1,[c],_,e=>onCall e fun fe args kws _=>onName fe fun x _=>match args,kws with
  | [a],[]=>x == "range" && glob cc x && notStar a && chk cc c a
  | _,_=>false
 | .rngd,[c,d,m],_,e=>onCall e fun fe args kws _=>onName fe fun x _=>match args,kws with
  | [a,b,z],[]=>x == "range" && glob cc x && notStar a && notStar b && notStar z && chk cc c a && chk cc d b && chk cc m z
  | _,_=>false
 | .zip,[c,d],t,e=>onCall e fun fe args kws _=>onName fe fun x _=>match args,kws with
  | [a,b],[]=>x == "zip" && isTuple t && glob cc x && notStar a && notStar b && chk cc c a && chk cc d b
  | _,_=>false
 | _,_,_,_=>false
def chkT (cc:CC):Tst→Expr→Bool
 | .conj ts,e=>onBoolOp e fun op es _=>isAnd op && chkTs cc ts es && !es.isEmpty
 | .disj ts,e=>onBoolOp e fun op es _=>!isAnd op && chkTs cc ts es && !es.isEmpty
 | .neg a,e=>onUnaryOp e fun op x _=>isNot op && chkT cc a x
 | .val (.cmp op a b),e=>chk cc (.cmp op a b) e
 | .val (.chain o1 o2 a b c),e=>chk cc (.chain o1 o2 a b c) e
 | .val c,e=>plainTest e && chk cc c e
def chkTs (cc:CC):List Tst→List Expr→Bool
 | [],[]=>true
 | c::cs,e::es=>chkT cc c e && chkTs cc cs es
 | _,_=>false
def chks (cc:CC):List C→List Expr→Bool
 | [],[]=>true
 | c::cs,e::es=>notStar e && chk cc c e && chks cc cs es
 | _,_=>false
def chkO (cc:CC):Option C→Option Expr→Bool
 | none,none=>true
 | some c,some e=>chk cc c e
 | _,_=>false
end
end Ev
end
section
set_option Elab.async false
set_option linter.all false
set_option maxRecDepth 100000
set_option maxHeartbeats 4000000
namespace Ev
open L2
open PySem PySem.Spec PyProof.Rows
def KindOk (X:Cx) (x:Str):NameKind→Prop
 | .local=>X.env.kindOf x=some .local
 | .cell=>X.env.kindOf x=some .cell
 | .free=>X.env.kindOf x=some .cell∨X.env.kindOf x=some .free
 | .globalImplicit=>X.env.kindOf x=some .globalImplicit
 | _=>True
def spD (K:PySem.W.Frag) (n:Nat) (F:List D→Mem→Out W):Sp:=fun vs H Q _=>∃ ads M ds,MRel K ads H M∧RDs K ads H ds vs∧ds.length=n∧OkW K ads H Q (F ds M)
structure Good (kk:Nat) (X:Cx) (cc:CC) (G:Fns):Prop where
 calm:X.calm=true
 room:Room kk X.A
 N:X.N=cc.N
 nd:cc.N.Nodup
 kinds:∀ x k,cc.names.lookup x=some k→KindOk X x k
 fnc:∀ x,cc.names.lookup x=some .cell→X.fn x=true
 blt:∀ b∈bltNames,X.mg b=none
 fns:∀ (i:Nat) (x:Str) (n:Nat),cc.fs[i]?=some (x,n)→∃ f fd ps,FnOk X.prog X.w X.K X.mg X.base CX0 kk f fd ps (spD X.K n (G i))∧X.mg x=some (.ref f)∧PySem.W.keepIn X.K (.ref f)=true∧Binds X.K fd ps []
section
variable {kk:Nat} {X:Cx} {cc:CC} {G:Fns}
theorem Good.vis (g:Good kk X cc G) {x:Str} (h:vis cc x=true):Vis X.env.scope x:=by
 unfold Ev.vis at h
 split at h
 ·rename_i q; exact .inl (g.kinds x _ q)
 ·rename_i q; exact .inr (.inl (g.kinds x _ q))
 ·rename_i q
  rcases g.kinds x _ q with z | z
  ·exact .inr (.inl z)
  ·exact .inr (.inr z)
 ·cases h
theorem Good.gl (g:Good kk X cc G) {x:Str} (h:glob cc x=true):Gl X x:=by
 unfold glob at h
 split at h
 ·rename_i q; exact g.kinds x _ q
 ·cases h
theorem plain_dbg {x:Str} (h:plainName x=true):(x == ("__debug__" : Str))=false∧(x == ("__classdict__" : Str))=false∧x≠("__name__" : Str):=by
 unfold plainName at h
 simp only [Bool.and_eq_true,Bool.not_eq_true'] at h
 exact ⟨h.1.1,h.1.2,fun z=>by rw [z] at h; simp at h⟩
theorem peI {e:Expr} {t u:TE} (h:PE X e t) (f:∀ σ H Q,u σ H Q→t σ H Q):PE X e u:=fun pins s σ H Q I q=>h pins s σ H Q I (f σ H Q q)
theorem ptI {e:Expr} {t u:TT} (h:PT X e t) (f:∀ σ H Q,u σ H Q→t σ H Q):PT X e u:=fun pins s σ H Q I q=>h pins s σ H Q I (f σ H Q q)
theorem pwI {e:Expr} {t u:TT} (h:PW X e t) (f:∀ σ H Q,u σ H Q→t σ H Q):PW X e u:=fun wh pins s σ H Q I q=>h wh pins s σ H Q I (f σ H Q q)
theorem paI {e:List Expr} {t u:TA} (h:PA X e t) (f:∀ σ H Q,u σ H Q→t σ H Q):PA X e u:=fun p pins s σ H Q I q=>h p pins s σ H Q I (f σ H Q q)
theorem star_of {e:Expr} (h:notStar e=true) (es:List Expr) (env:Env):starEach (e::es) env=(false,eval e env)::starEach es env:=by
 cases e <;> first | rfl | exact absurd (show false=true from h) Bool.false_ne_true
theorem s_var {i:Nat} {e:Expr} (g:Good kk X cc G) (h:chk cc (.var i) e=true):PE X e (tE X.K (ev G (.var i))):=by
 refine onName_el (P:=fun e=>PE X e _) h fun x pos h=>?_
 have h:(cc.N[i]? == some x && vis cc x && plainName x)=true:=h
 simp only [Bool.and_eq_true,beq_iff_eq] at h
 obtain ⟨⟨h1,h2⟩,h3⟩:=h
 obtain ⟨d1,d2,_⟩:=plain_dbg h3
 refine peI (pe_var (i:=i) (by rw [g.N]; exact h1) (g.vis h2) d1 d2) fun σ H Q q=>?_
 obtain ⟨ads,M,ρ,s,q⟩:=q
 simp only [ev] at q
 split at q
 ·rename_i d e
  obtain ⟨v,ev',r⟩:=s.en i d e
  exact ⟨v,ev',q.plain s.mem r⟩
 ·exact q.elim
theorem tC_of {d:D} {v:V} (hd:∀ ads H,RD X.K ads H d v) (σ:L2.St) (H:Hp) (Q:VK) (h:tE X.K (ev G (.cst d)) σ H Q):tC v σ H Q:=by
 obtain ⟨ads,M,ρ,s,q⟩:=h
 exact OkW.plain q s.mem (hd _ _)
theorem s_cst {d:D} {e:Expr} (h:chk cc (.cst d) e=true):PE X e (tE X.K (ev G (.cst d))):=by
 replace h:chkCst d e=true:=h
 rcases (Bool.or_eq_true _ _).mp h with h | h
 case inr =>
  refine onUnaryOp_el (P:=fun e=>PE X e _) h fun op x pos h=>?_
  replace h:=(Bool.and_eq_true _ _).mp h
  have h0:=h.1
  replace h:=h.2
  cases op <;> first | exact absurd (show false=true from h0) Bool.false_ne_true | skip
  refine onConstant_el (P:=fun x=>PE X (.UnaryOp .USub x pos) _) h fun c j p h=>?_
  clear h0
  rcases d with _ | _ | i | _ | _ | _ | _ <;> first | exact absurd (show false=true from h) Bool.false_ne_true | skip
  rcases c with _ | _ | k | _ | _ | _ | _ | _ <;> first | exact absurd (show false=true from h) Bool.false_ne_true | skip
  have h:i=-k:=eq_of_beq h
  subst h
  exact peI (pe_un un_neg pe_int) fun σ H Q q=>⟨k,rfl,tC_of (fun _ _=>rd_int _) σ H Q q⟩
 refine onConstant_el (P:=fun e=>PE X e _) h fun c j pos h=>?_
 cases d with
 | int i =>
  cases c <;> first | exact absurd (show false=true from h) Bool.false_ne_true | skip
  have h:=eq_of_beq (show (i == _)=true from h)
  subst h
  exact peI pe_int (tC_of fun _ _=>rd_int _)
 | bl i =>
  cases c <;> first | exact absurd (show false=true from h) Bool.false_ne_true | skip
  have h:=eq_of_beq (show (i == _)=true from h)
  subst h
  exact peI pe_bl (tC_of fun _ _=>rd_bl _)
 | str i =>
  cases c <;> first | exact absurd (show false=true from h) Bool.false_ne_true | skip
  have h:=eq_of_beq (show (i == _)=true from h)
  subst h
  exact peI pe_str (tC_of fun _ _=>rd_str _)
 | non =>
  cases c <;> first | exact absurd (show false=true from h) Bool.false_ne_true | skip
  exact peI pe_non (tC_of fun _ _=>rd_non)
 | tup _=>cases h
 | adr _=>cases h
 | ls _=>cases h
theorem s_bin {op:BOp} {a b:C} {e:Expr} (iha:∀ e,chk cc a e=true→PE X e (tE X.K (ev G a))) (ihb:∀ e,chk cc b e=true→PE X e (tE X.K (ev G b))) (h:chk cc (.bin op a b) e=true):PE X e (tE X.K (ev G (.bin op a b))):=by
 refine onBinOp_el (P:=fun e=>PE X e _) h fun l o r pos h=>?_
 have h:(o == opOf op && chk cc a l && chk cc b r)=true:=h
 simp only [Bool.and_eq_true,beq_iff_eq] at h
 obtain ⟨⟨rfl,h1⟩,h2⟩:=h
 refine peI (pe_op (op_bin op) (iha l h1) (ihb r h2)) fun σ H Q q=>?_
 exact two (fun m r1 r2 h=>⟨_,_,_,_,m,r1,r2,h⟩) q
theorem okC_of {K:PySem.W.Frag} {ads:List Addr} {H:Hp} {Q:VK} {o:Out Bool} (h:OkW K ads H Q (o.bind fun r M=>.ok (.d (.bl r)) M)):OkC K ads H Q o:=by
 cases o with
 | ok b M=>exact fun H' ads' g m=>h (.bl b) H' ads' g m (show RD K ads' H' (.bl b) _ from rd_bl _)
 | err _ _=>exact h
 | stuck=>exact h
theorem isNone_v {b:C} {e:Expr} (hn:isNone e=true) (hb:chk cc b e=true):b=.cst .non:=by
 revert hb
 refine onConstant_el (P:=fun e=>chk cc b e=true→b=.cst .non) hn fun c j pos hn hb=>?_
 cases c <;> first | cases hn | skip
 cases b <;> first | exact absurd (show false=true from hb) Bool.false_ne_true | skip
 rename_i d
 cases d <;> first | rfl | exact absurd (show false=true from hb) Bool.false_ne_true
theorem s_cmp {op : COp} {a b : C} {e : Expr} (g : Good kk X cc G) (iha : ∀ e, chk cc a e = true → PE X e (tE X.K (ev G a))) (ihb : ∀ e, chk cc b e = true → PE X e (tE X.K (ev G b))) (h : chk cc (.cmp op a b) e = true) :
    PE X e (tE X.K (ev G (.cmp op a b))) ∧ PT X e (tTest (tE X.K (ev G (.cmp op a b)))) := by
  refine onCompare_el (P := fun e => PE X e (tE X.K (ev G (.cmp op a b))) ∧ PT X e (tTest (tE X.K (ev G (.cmp op a b))))) h fun l ops rs pos h => ?_
  rcases ops with _ | ⟨o, _ | ⟨o2, ops⟩⟩ <;> rcases rs with _ | ⟨r, _ | ⟨r2, rs⟩⟩ <;> first | exact absurd (show false = true from h) Bool.false_ne_true | skip
  have h : (o == cOf op && !behindInMarks o r && (if op = .isN ∨ op = .notN then isNone r else true) && chk cc a l && chk cc b r) = true := h
  simp only [Bool.and_eq_true, beq_iff_eq, Bool.not_eq_true'] at h
  obtain ⟨⟨⟨⟨rfl, hm⟩, hn⟩, h1⟩, h2⟩ := h
  have hun := g.room.un
  have key : ∀ σ H Q, tE X.K (ev G (.cmp op a b)) σ H Q → tOp (rCmp X.K op) (tE X.K (ev G a)) (tE X.K (ev G b)) σ H Q := by
    intro σ H Q q
    by_cases hop : op = .isN ∨ op = .notN
    · rw [if_pos hop] at hn
      have eb := isNone_v hn h2
      subst eb
      obtain ⟨ads, M, ρ, s, q⟩ := q
      refine tE_bind s q fun w M1 v H1 ads1 s1 rw1 q1 => ⟨ads1, M1, ρ, s1, ?_⟩
      intro vy H2 ads2 g2 m2 ry
      have ey := rw_non ry
      refine ⟨ads2, M1, w, .d .non, m2, g2.rw rw1, (show RD X.K ads2 H2 .non vy by rw [ey]; exact rd_non), fun _ => ey, ?_⟩
      have q1 : OkW X.K ads1 H1 Q ((cmpW op w (.d .non) M1).bind fun r M => .ok (.d (.bl r)) M) := q1
      exact okC_of (q1.shift g2 s1.mem m2)
    · exact two (fun m r1 r2 h => ⟨_, _, _, _, m, r1, r2, fun z => absurd z hop, okC_of h⟩) q
  exact ⟨peI (pe_cmpR (op_cmp (by omega) op) (iha l h1) (ihb r h2) hm) key, ptI (pt_cmpR (op_cmp (by omega) op) (iha l h1) (ihb r h2) hm) fun σ H Q q => key σ H _ q⟩
theorem s_neg {a:C} {e:Expr} (iha:∀ e,chk cc a e=true→PE X e (tE X.K (ev G a))) (h:chk cc (.neg a) e=true):PE X e (tE X.K (ev G (.neg a))):=by
 refine onUnaryOp_el (P:=fun e=>PE X e _) h fun op x pos h=>?_
 obtain ⟨h0,h⟩:=(Bool.and_eq_true _ _).mp h
 cases op <;> first | exact absurd (show false=true from h0) Bool.false_ne_true | skip
 refine peI (pe_not (iha x h)) fun σ H Q q=>?_
 obtain ⟨ads,M,ρ,s,q⟩:=q
 refine tE_bind s q fun w M1 v H1 ads1 s1 rw1 q1=>?_
 rcases w with ⟨_ | b | _ | _ | _ | _⟩ | _ <;> first | exact q1.elim | skip
 exact ⟨b,rw_bl rw1,OkW.plain q1 s1.mem (rd_bl _)⟩
theorem s_tup {cs:List C} {e:Expr} (ih:∀ es,chks cc cs es=true→PA X es (tDs X.K (evDs G cs))) (h:chk cc (.tup cs) e=true):PE X e (tE X.K (ev G (.tup cs))):=by
 refine onTuple_el (P:=fun e=>PE X e _) h fun es k pos h=>?_
 refine peI (pe_tup (ih es h)) fun σ H Q q=>?_
 obtain ⟨ads,M,ρ,s,q⟩:=q
 refine ⟨ads,M,ρ,s,?_⟩
 simp only [ev] at q
 cases hq:evDs G cs ρ M with
 | ok ds M1 =>
  rw [hq] at q
  have q:OkW X.K ads H Q (if ds.length≤sizeLine then .ok (.d (.tup ds)) M1 else .stuck):=q
  intro vs H1 ads1 g1 m1 r1
  split at q
  ·rename_i hz
   exact ⟨by rw [← r1.len]; exact hz,fun p hp=>(q.shift g1 s.mem m1).tuple m1 r1 hp⟩
  ·exact q.elim
 | err _ _=>rw [hq] at q; exact q
 | stuck=>rw [hq] at q; exact q
theorem s_lst {cs:List C} {e:Expr} (ih:∀ es,chks cc cs es=true→PA X es (tDs X.K (evDs G cs))) (h:chk cc (.lst cs) e=true):PE X e (tE X.K (ev G (.lst cs))):=by
 refine onList_el (P:=fun e=>PE X e _) h fun es pos h=>?_
 refine peI (pe_lst (ih es h)) fun σ H Q q=>?_
 obtain ⟨ads,M,ρ,s,q⟩:=q
 refine ⟨ads,M,ρ,s,?_⟩
 simp only [ev] at q
 cases hq:evDs G cs ρ M with
 | ok ds M1 =>
  rw [hq] at q
  have q:OkW X.K ads H Q (if ds.length≤sizeLine then .ok (.lv ds) M1 else .stuck):=q
  intro vs H1 ads1 g1 m1 r1
  split at q
  ·rename_i hz
   exact ⟨by rw [← r1.len]; exact hz,fun p hp=>(q.shift g1 s.mem m1).list m1 r1 hp⟩
  ·exact q.elim
 | err _ _=>rw [hq] at q; exact q
 | stuck=>rw [hq] at q; exact q
theorem own_ok {K : PySem.W.Frag} {ads ads' : List Addr} {H H' : Hp} {w : W} {v : V} {M1 : Mem} {d : D} {M2 : Mem} (m : MRel K ads H M) (g : Grow ads ads' H H') (m1 : MRel K ads' H' M1) (r : RWn K ads' H H' w v) (e : own w M1 = .ok d M2) :
    ∃ ads2, Grow ads ads2 H H' ∧ MRel K ads2 H' M2 ∧ RD K ads2 H' d v := by
  cases w with
  | d x => cases e; exact ⟨ads', g, m1, r⟩
  | lv ds =>
    cases e
    obtain ⟨a, xs, rfl, h0, h1, n, r⟩ := r
    refine ⟨ads' ++ [a], ⟨?_, fun b hb nb => ?_, g.kept, g.tups, g.frz⟩, m1.push n ⟨xs, h1, r⟩, ?_⟩
    · obtain ⟨t, e⟩ := g.pre
      exact ⟨t ++ [a], by rw [e, List.append_assoc]⟩
    · rcases List.mem_append.mp hb with z | z
      · exact g.new b z nb
      · have : b = a := by simpa using z
        subst this
        exact h0
    · unfold RD
      exact ⟨a, rfl, by rw [List.getElem?_append_right (by rw [m1.len]; exact Nat.le_refl _)]; simp [m1.len]⟩
theorem s_nil:PA X [] (tDs X.K (evDs G [])):=paI pa_nil fun σ H Q q=>by
 obtain ⟨ads,M,ρ,s,q⟩:=q
 exact q [] H ads (Grow.refl _ _) s.mem (by unfold RDs; rfl)
theorem s_cons {c:C} {cs:List C} {e:Expr} {es:List Expr} (hs:notStar e=true) (ha:PE X e (tE X.K (ev G c))) (hr:PA X es (tDs X.K (evDs G cs))):PA X (e::es) (tDs X.K (evDs G (c::cs))):=by
 refine paI (pa_cons ha hr (star_of hs es X.env)) fun σ H Q q=>?_
 obtain ⟨ads,M,ρ,s,q⟩:=q
 refine ⟨ads,M,ρ,s,?_⟩
 simp only [evDs] at q
 cases hq:ev G c ρ M with
 | ok w M1 =>
  rw [hq] at q
  intro v H1 ads1 g1 m1 r1
  cases ho:own w M1 with
  | ok d M2 =>
   have q:OkDs X.K ads H Q ((own w M1).bind fun d M=>(evDs G cs ρ M).bind fun ds M=>.ok (d::ds) M):=q
   rw [ho] at q
   obtain ⟨ads2,g2,m2,rd⟩:=own_ok s.mem g1 m1 r1 ho
   refine ⟨ads2,M2,ρ,s.grow g2 m2,?_⟩
   have q:OkDs X.K ads H Q ((evDs G cs ρ M2).bind fun ds M=>.ok (d::ds) M):=q
   cases hq3:evDs G cs ρ M2 with
   | ok ds M3 =>
    rw [hq3] at q
    intro vs H3 ads3 g3 m3 r3
    refine q (v::vs) H3 ads3 (g2.trans g3) m3 ?_
    unfold RDs
    exact ⟨v,vs,rfl,g3.rd _ _ rd,r3⟩
   | err _ _=>rw [hq3] at q; exact q
   | stuck=>rw [hq3] at q; exact q
  | err _ _=>cases w <;> cases ho
  | stuck=>cases w <;> cases ho
 | err _ _=>rw [hq] at q; exact q
 | stuck=>rw [hq] at q; exact q
end
end Ev
end
section
set_option Elab.async false
set_option linter.all false
set_option maxRecDepth 100000
set_option maxHeartbeats 4000000
namespace Ev
open L2
open PySem PySem.Spec PyProof.Rows
section
variable {kk:Nat} {X:Cx} {cc:CC} {G:Fns}
theorem s_chain {o1 o2 : COp} {a b c : C} {e : Expr} (g : Good kk X cc G) (iha : ∀ e, chk cc a e = true → PE X e (tE X.K (ev G a))) (ihb : ∀ e, chk cc b e = true → PE X e (tE X.K (ev G b))) (ihc : ∀ e, chk cc c e = true → PE X e (tE X.K (ev G c)))
    (h : chk cc (.chain o1 o2 a b c) e = true) : PE X e (tE X.K (ev G (.chain o1 o2 a b c))) ∧ PT X e (tTest (tE X.K (ev G (.chain o1 o2 a b c)))) := by
  refine onCompare_el (P := fun e => PE X e (tE X.K (ev G (.chain o1 o2 a b c))) ∧ PT X e (tTest (tE X.K (ev G (.chain o1 o2 a b c))))) h fun l ops rs pos h => ?_
  rcases ops with _ | ⟨p, _ | ⟨q, _ | ⟨_, ops⟩⟩⟩ <;> rcases rs with _ | ⟨m, _ | ⟨r, _ | ⟨_, rs⟩⟩⟩ <;> first | exact absurd (show false = true from h) Bool.false_ne_true | skip
  have h : (p == cOf o1 && q == cOf o2 && !lastMarks [p, q] [m, r] && !(decide (o1 = .isN) || decide (o1 = .notN) || decide (o2 = .isN) || decide (o2 = .notN)) && chk cc a l && chk cc b m && chk cc c r) = true := h
  simp only [Bool.and_eq_true, beq_iff_eq, Bool.not_eq_true', Bool.or_eq_false_iff, decide_eq_false_iff_not] at h
  obtain ⟨⟨⟨⟨⟨⟨rfl, rfl⟩, hm⟩, ⟨⟨⟨n1, n2⟩, n3⟩, n4⟩⟩, h1⟩, h2⟩, h3⟩ := h
  have hun := g.room.un
  have key : ∀ σ H Q, tE X.K (ev G (.chain o1 o2 a b c)) σ H Q → tChain (rCmp X.K o1) (rCmp X.K o2) (tE X.K (ev G a)) (tE X.K (ev G b)) (tE X.K (ev G c)) σ H Q := by
    intro σ H Q q
    obtain ⟨ads, M, ρ, s, q⟩ := q
    refine tE_bind s q fun x M1 v H1 ads1 s1 rx q1 => ?_
    refine ⟨ads1, M1, ρ, s1, ?_⟩
    cases hq : ev G b ρ M1 with
    | ok y M2 =>
      rw [hq] at q1
      intro vy H2 ads2 g2 m2 ry
      have q2 : OkW X.K ads1 H1 Q ((cmpW o1 x y M2).bind fun r M => if r then (ev G c ρ M).bind fun z M => (cmpW o2 y z M).bind fun r M => .ok (.d (.bl r)) M else .ok (.d (.bl false)) M) := q1
      have s2 := s1.grow g2 m2
      refine ⟨ads2, M2, x, y, m2, g2.rw rx, ry.rw, fun z => absurd z (by simp [n1, n2]), ?_⟩
      cases hc : cmpW o1 x y M2 with
      | ok k M3 =>
        rw [hc] at q2
        intro H3 ads3 g3 m3
        have s3 := s2.grow g3 m3
        have ry3 := g3.rw ry.rw
        refine ⟨k, rfl, ?_⟩
        have q3 : OkW X.K ads3 H3 Q (if k then (ev G c ρ M3).bind fun z M => (cmpW o2 y z M).bind fun r M => .ok (.d (.bl r)) M else .ok (.d (.bl false)) M3) := OkW.shift q2 (g2.trans g3) s1.mem m3
        cases k with
        | false => rw [if_neg (by simp)] at q3 ⊢; exact OkW.plain q3 m3 (rd_bl _)
        | true =>
          rw [if_pos rfl] at q3 ⊢
          refine ⟨ads3, M3, ρ, s3, ?_⟩
          cases hz : ev G c ρ M3 with
          | ok z M4 =>
            rw [hz] at q3
            intro vz H4 ads4 g4 m4 rz
            exact ⟨ads4, M4, y, z, m4, g4.rw ry3, rz.rw, fun w => absurd w (by simp [n3, n4]), okC_of (OkW.shift (o := (cmpW o2 y z M4).bind fun r M => .ok (.d (.bl r)) M) q3 g4 m3 m4)⟩
          | err _ _ => rw [hz] at q3; exact q3
          | stuck => rw [hz] at q3; exact q3
      | err _ _ => rw [hc] at q2; exact q2
      | stuck => rw [hc] at q2; exact q2
    | err _ _ => rw [hq] at q1; exact q1
    | stuck => rw [hq] at q1; exact q1
  exact ⟨peI (pe_chain (op_cmp (by omega) o1) (op_cmp (by omega) o2) (iha l h1) (ihb m h2) (ihc r h3) hm) key, ptI (pt_chain (op_cmp (by omega) o1) (op_cmp (by omega) o2) (iha l h1) (ihb m h2) (ihc r h3) hm) fun σ H Q q => key σ H _ q⟩
theorem tT_bind {K : PySem.W.Frag} {ads : List Addr} {H : Hp} {M : Mem} {ρ : En} {σ : L2.St} {o : En → Mem → Out Bool} {k : Bool → Mem → Out Bool} {Q : Bool → Hp → Prop} {R : Bool → Hp → Prop} (s : SR K ads M ρ σ H) (h : OkB K ads H Q ((o ρ M).bind k))
    (hk : ∀ w M1 H1 ads1, SR K ads1 M1 ρ σ H1 → OkB K ads1 H1 Q (k w M1) → R w H1) : tTs K o σ H R := by
  refine ⟨ads, M, ρ, s, ?_⟩
  cases q : o ρ M with
  | ok w M1 =>
    rw [q] at h
    have h : OkB K ads H Q (k w M1) := h
    exact fun H1 ads1 g1 m1 => hk w M1 H1 ads1 (s.grow g1 m1) (h.shift g1)
  | err _ _ => rw [q] at h; exact h
  | stuck => rw [q] at h; exact h
theorem t_val {c:C} {σ:L2.St} {H:Hp} {Q:Bool→Hp→Prop} (h:tTs X.K (evT G (.val c)) σ H Q):tE X.K (ev G c) σ H fun x H'=>∃ k,TruV X.K x H' k∧Q k H':=by
 obtain ⟨ads,M,ρ,s,q⟩:=h
 refine ⟨ads,M,ρ,s,?_⟩
 simp only [evT] at q
 cases hq:ev G c ρ M with
 | ok w M1 =>
  rw [hq] at q
  intro v H1 ads1 g1 m1 r1
  have q:OkB X.K ads H Q (match truW M1 w with | some r=>.ok r M1 | none=>.stuck):=q
  cases ht:truW M1 w with
  | none=>rw [ht] at q; exact q.elim
  | some k=>rw [ht] at q; exact ⟨k,tru_w m1 r1.rw ht,q H1 ads1 g1 m1⟩
 | err _ _=>rw [hq] at q; exact q
 | stuck=>rw [hq] at q; exact q
theorem test_of {e:Expr} (h:plainTest e=true) (env:Env):∀ whole,isTrue e env whole=(do let v ← whole; standAt e.pos; holding [v] (truthy v)):=by
 cases e <;> first | (intro _; rfl) | exact absurd (show false=true from h) Bool.false_ne_true
theorem t_plain {c:C} {e:Expr} (hp:plainTest e=true) (he:PE X e (tE X.K (ev G c))):PT X e (tTs X.K (evT G (.val c))) :=
 ptI (pt_truth he (test_of hp X.env)) fun σ H Q q=>t_val q
theorem t_test {c:C} {e:Expr} (hb:∀ ρ M w M',ev G c ρ M=.ok w M'→∃ k,w=.d (.bl k)) (he:PT X e (tTest (tE X.K (ev G c)))):PT X e (tTs X.K (evT G (.val c))):=by
 refine ptI he fun σ H Q q=>?_
 obtain ⟨ads,M,ρ,s,q⟩:=q
 refine ⟨ads,M,ρ,s,?_⟩
 simp only [evT] at q
 cases hq:ev G c ρ M with
 | ok w M1 =>
  rw [hq] at q
  obtain ⟨k,rfl⟩:=hb _ _ _ _ hq
  intro v H1 ads1 g1 m1 r1
  exact ⟨k,rw_bl r1,q H1 ads1 g1 m1⟩
 | err _ _=>rw [hq] at q; exact q
 | stuck=>rw [hq] at q; exact q
theorem bl_cmp {op:COp} {a b:C} (ρ:En) (M:Mem) (w:W) (M':Mem) (h:ev G (.cmp op a b) ρ M=.ok w M'):∃ k,w=.d (.bl k):=by
 simp only [ev] at h
 cases h1:ev G a ρ M with
 | ok x M1 =>
  rw [h1] at h
  simp only [Out.bind] at h
  cases h2:ev G b ρ M1 with
  | ok y M2 =>
   rw [h2] at h
   simp only at h
   cases h3:cmpW op x y M2 with
   | ok k M3=>rw [h3] at h; cases h; exact ⟨k,rfl⟩
   | err _ _=>rw [h3] at h; cases h
   | stuck=>rw [h3] at h; cases h
  | err _ _=>rw [h2] at h; cases h
  | stuck=>rw [h2] at h; cases h
 | err _ _=>rw [h1] at h; cases h
 | stuck=>rw [h1] at h; cases h
theorem bl_chain {o1 o2:COp} {a b c:C} (ρ:En) (M:Mem) (w:W) (M':Mem) (h:ev G (.chain o1 o2 a b c) ρ M=.ok w M'):∃ k,w=.d (.bl k):=by
 simp only [ev] at h
 cases h1:ev G a ρ M with
 | ok x M1 =>
  rw [h1] at h
  simp only [Out.bind] at h
  cases h2:ev G b ρ M1 with
  | ok y M2 =>
   rw [h2] at h
   simp only at h
   cases h3:cmpW o1 x y M2 with
   | ok k M3 =>
    rw [h3] at h
    simp only at h
    cases k with
    | false=>cases h; exact ⟨_,rfl⟩
    | true =>
     simp only [if_true] at h
     cases h4:ev G c ρ M3 with
     | ok z M4 =>
      rw [h4] at h
      simp only at h
      cases h5:cmpW o2 y z M4 with
      | ok k M5=>rw [h5] at h; cases h; exact ⟨k,rfl⟩
      | err _ _=>rw [h5] at h; cases h
      | stuck=>rw [h5] at h; cases h
     | err _ _=>rw [h4] at h; cases h
     | stuck=>rw [h4] at h; cases h
   | err _ _=>rw [h3] at h; cases h
   | stuck=>rw [h3] at h; cases h
  | err _ _=>rw [h2] at h; cases h
  | stuck=>rw [h2] at h; cases h
 | err _ _=>rw [h1] at h; cases h
 | stuck=>rw [h1] at h; cases h
theorem t_neg {t:Tst} {e:Expr} {pos:Pos} (ih:PT X e (tTs X.K (evT G t))):PT X (.UnaryOp .Not e pos) (tTs X.K (evT G (.neg t))):=by
 refine ptI (pt_not ih) fun σ H Q q=>?_
 obtain ⟨ads,M,ρ,s,q⟩:=q
 exact tT_bind s q fun w M1 H1 ads1 s1 q1=>q1 H1 ads1 (Grow.refl _ _) s1.mem
theorem t_all:∀ (ts:List Tst) (es:List Expr) (pos:Pos),(∀ t∈ts,∀ e,chkT cc t e=true→PT X e (tTs X.K (evT G t)))→chkTs cc ts es=true→es≠[]→PW X (.BoolOp .And es pos) (tTs X.K (evAll G ts))
 | [],[],_,_,_,h=>absurd rfl h
 | [],_::_,_,_,h,_=>by cases h
 | _::_,[],_,_,h,_=>by cases h
 | c::cs,e::es,pos,ih,h,_=>by
  have h':(chkT cc c e && chkTs cc cs es)=true:=h
  simp only [Bool.and_eq_true] at h'
  have he:=ih c List.mem_cons_self e h'.1
  cases es with
  | nil =>
   cases cs with
   | cons _ _=>cases h'.2
   | nil =>
    refine pwI (pw_and1 he) fun σ H Q q=>?_
    obtain ⟨ads,M,ρ,s,q⟩:=q
    refine ⟨ads,M,ρ,s,?_⟩
    simp only [evAll] at q
    cases hq:evT G c ρ M with
    | ok w M1=>rw [hq] at q; exact q
    | err _ _=>rw [hq] at q; exact q
    | stuck=>rw [hq] at q; exact q
  | cons e2 es =>
   cases cs with
   | nil=>cases h'.2
   | cons c2 cs =>
    have hr:=t_all (c2::cs) (e2::es) pos (fun c hc=>ih c (List.mem_cons_of_mem _ hc)) h'.2 (by simp)
    refine pwI (pw_and he hr) fun σ H Q q=>?_
    obtain ⟨ads,M,ρ,s,q⟩:=q
    have q:OkB X.K ads H Q ((evT G c ρ M).bind fun x M=>match c2::cs,x with
     | [],x=>.ok x M
     | _,true=>evAll G (c2::cs) ρ M
     | _,false=>.ok false M):=by unfold evAll at q; exact q
    refine tT_bind s q fun w M1 H1 ads1 s1 q1=>?_
    cases w with
    | false=>rw [if_neg (by simp)]; exact q1 H1 ads1 (Grow.refl _ _) s1.mem
    | true=>rw [if_pos rfl]; exact ⟨ads1,M1,ρ,s1,q1⟩
theorem t_any:∀ (ts:List Tst) (es:List Expr) (pos:Pos),(∀ t∈ts,∀ e,chkT cc t e=true→PT X e (tTs X.K (evT G t)))→chkTs cc ts es=true→es≠[]→PW X (.BoolOp .Or es pos) (tTs X.K (evAny G ts))
 | [],[],_,_,_,h=>absurd rfl h
 | [],_::_,_,_,h,_=>by cases h
 | _::_,[],_,_,h,_=>by cases h
 | c::cs,e::es,pos,ih,h,_=>by
  have h':(chkT cc c e && chkTs cc cs es)=true:=h
  simp only [Bool.and_eq_true] at h'
  have he:=ih c List.mem_cons_self e h'.1
  cases es with
  | nil =>
   cases cs with
   | cons _ _=>cases h'.2
   | nil =>
    refine pwI (pw_or1 he) fun σ H Q q=>?_
    obtain ⟨ads,M,ρ,s,q⟩:=q
    refine ⟨ads,M,ρ,s,?_⟩
    simp only [evAny] at q
    cases hq:evT G c ρ M with
    | ok w M1=>rw [hq] at q; exact q
    | err _ _=>rw [hq] at q; exact q
    | stuck=>rw [hq] at q; exact q
  | cons e2 es =>
   cases cs with
   | nil=>cases h'.2
   | cons c2 cs =>
    have hr:=t_any (c2::cs) (e2::es) pos (fun c hc=>ih c (List.mem_cons_of_mem _ hc)) h'.2 (by simp)
    refine pwI (pw_or he hr) fun σ H Q q=>?_
    obtain ⟨ads,M,ρ,s,q⟩:=q
    have q:OkB X.K ads H Q ((evT G c ρ M).bind fun x M=>match c2::cs,x with
     | [],x=>.ok x M
     | _,false=>evAny G (c2::cs) ρ M
     | _,true=>.ok true M):=by unfold evAny at q; exact q
    refine tT_bind s q fun w M1 H1 ads1 s1 q1=>?_
    cases w with
    | true=>rw [if_pos rfl]; exact q1 H1 ads1 (Grow.refl _ _) s1.mem
    | false=>rw [if_neg (by simp)]; exact ⟨ads1,M1,ρ,s1,q1⟩
end
end Ev
end
section
set_option Elab.async false
set_option linter.all false
set_option maxRecDepth 100000
set_option maxHeartbeats 4000000
namespace Ev
open L2
open PySem PySem.Spec PyProof.Rows
section
variable {kk:Nat} {X:Cx} {cc:CC} {G:Fns}
theorem plainIx_of {b:Expr} (h:noSlice b=true):PlainIx b:=by
 intro o i
 cases b <;> first | rfl | exact absurd (show false=true from h) Bool.false_ne_true
theorem s_sub {a b:C} {e i:Expr} {pos:Pos} (g:Good kk X cc G) (hs:noSlice i=true) (ha:PE X e (tE X.K (ev G a))) (hb:PE X i (tE X.K (ev G b))):PE X (.Subscript e i pos) (tE X.K (ev G (.sub a b))):=by
 have hun:=g.room.un
 refine peI (pe_ix (ix_sub (by omega)) ha hb (plainIx_of hs)) fun σ H Q q=>?_
 exact two (fun m r1 r2 h=>⟨_,_,_,_,m,r1,r2,h⟩) q
def OkO (K:PySem.W.Frag) (ads:List Addr) (H:Hp) (Q:Option Int→Hp→Prop):Out (Option Int)→Prop
 | .ok o M=>∀ H' ads',Grow ads ads' H H'→MRel K ads' H' M→Q o H'
 | _=>False
def tO (K:PySem.W.Frag) (o:En→Mem→Out (Option Int)):TO:=fun σ H Q=>∃ ads M ρ,SR K ads M ρ σ H∧OkO K ads H Q (o ρ M)
theorem s_optN:PO X none (tO X.K (evO G none)):=fun pins s σ H Q I q=>po_none pins s σ H Q I (by
 obtain ⟨ads,M,ρ,s,q⟩:=q
 exact q H ads (Grow.refl _ _) s.mem)
theorem s_optS {c:C} {e:Expr} (h:PE X e (tE X.K (ev G c))):PO X (some e) (tO X.K (evO G (some c))):=fun pins s σ H Q I q=>po_some h pins s σ H Q I (by
 obtain ⟨ads,M,ρ,s,q⟩:=q
 refine ⟨ads,M,ρ,s,?_⟩
 simp only [evO] at q
 cases hq:ev G c ρ M with
 | ok w M1 =>
  rw [hq] at q
  intro v H1 ads1 g1 m1 r1
  rcases w with ⟨_ | _ | i | _ | _ | _⟩ | _ <;> first | exact q.elim | skip
  exact ⟨i,rw_int r1,q H1 ads1 g1 m1⟩
 | err _ _=>rw [hq] at q; exact q
 | stuck=>rw [hq] at q; exact q)
theorem s_slc {a : C} {lo hi : Option C} {e : Expr} {l h : Option Expr} {pos p2 : Pos} (ha : PE X e (tE X.K (ev G a))) (hl : PO X l (tO X.K (evO G lo))) (hh : PO X h (tO X.K (evO G hi))) :
    PE X (.Subscript e (.Slice l h none p2) pos) (tE X.K (ev G (.slc a lo hi))) := by
  refine peI (pe_slice sl_slc ha hl hh) fun σ H Q q => ?_
  obtain ⟨ads, M, ρ, s, q⟩ := q
  refine tE_bind s q fun w M1 v H1 ads1 s1 rw1 q1 => ⟨ads1, M1, ρ, s1, ?_⟩
  cases hq : evO G lo ρ M1 with
  | ok o1 M2 =>
    rw [hq] at q1
    have q1 : OkW X.K ads1 H1 Q ((evO G hi ρ M2).bind fun h M => slcW w o1 h M) := q1
    intro H2 ads2 g2 m2
    have s2 := s1.grow g2 m2
    refine ⟨ads2, M2, ρ, s2, ?_⟩
    cases hq2 : evO G hi ρ M2 with
    | ok o2 M3 =>
      rw [hq2] at q1
      intro H3 ads3 g3 m3
      exact ⟨ads3, M3, w, m3, g3.rw (g2.rw rw1), OkW.shift (o := slcW w o1 o2 M3) q1 (g2.trans g3) s1.mem m3⟩
    | err _ _ => rw [hq2] at q1; exact q1
    | stuck => rw [hq2] at q1; exact q1
  | err _ _ => rw [hq] at q1; exact q1
  | stuck => rw [hq] at q1; exact q1
theorem evDs_len:∀ (cs:List C) (ρ:En) (M:Mem) (ds:List D) (M':Mem),evDs G cs ρ M=.ok ds M'→ds.length=cs.length
 | [],ρ,M,ds,M',h=>by cases h; rfl
 | c::cs,ρ,M,ds,M',h=>by
  simp only [evDs] at h
  cases h1:(ev G c ρ M).bind own with
  | ok d M1 =>
   rw [h1] at h
   simp only [Out.bind] at h
   cases h2:evDs G cs ρ M1 with
   | ok es M2=>rw [h2] at h; cases h; simp [evDs_len cs ρ M1 es _ h2]
   | err _ _=>rw [h2] at h; cases h
   | stuck=>rw [h2] at h; cases h
  | err _ _=>rw [h1] at h; cases h
  | stuck=>rw [h1] at h; cases h
theorem noStar_any {cs:List C} {es:List Expr} (h:chks cc cs es=true) (env:Env) (pos:Pos):(backTo pos (starEach es env)).any (·.1)=false:=by
 have:∀ (cs:List C) (es:List Expr),chks cc cs es=true→(starEach es env).any (·.1)=false:=by
  intro cs
  induction cs with
  | nil=>intro es h; cases es with
   | nil=>rfl
   | cons _ _=>cases h
  | cons c cs ih =>
   intro es h
   cases es with
   | nil=>cases h
   | cons e es =>
    have h':(notStar e && chk cc c e && chks cc cs es)=true:=h
    simp only [Bool.and_eq_true] at h'
    rw [star_of h'.1.1,List.any_cons,ih es h'.2]
    rfl
 have e:=this cs es h
 unfold backTo
 simp only [List.any_map]
 exact e
theorem s_call {f : Nat} {cs : List C} {x : Str} {e : Expr} {es : List Expr} {p pos : Pos} (g : Good kk X cc G) (hf : cc.fs[f]? = some (x, cs.length)) (hg : glob cc x = true) (hp : plainName x = true) (hc : chks cc cs (e :: es) = true)
    (ha : PA X (e :: es) (tDs X.K (evDs G cs))) : PE X (.Call (.Name x p) (e :: es) [] pos) (tE X.K (ev G (.call f cs))) := by
  obtain ⟨fa, fd, ps, F, hm, hk, hb⟩ := g.fns f x _ hf
  have hst : notStar e = true ∧ chks cc cs.tail es = true := by
    cases cs with
    | nil => cases hc
    | cons c cs =>
      have h' : (notStar e && chk cc c e && chks cc cs es) = true := hc
      simp only [Bool.and_eq_true] at h'
      exact ⟨h'.1.1, h'.2⟩
  refine peI (pe_call (pos := pos) (p := p) (E := E0) F g.room (g.gl hg) hm hk hb .nil pass0 ha (plain_dbg hp).1 (star_of hst.1 es X.env) (noStar_any hst.2 X.env pos)) fun σ H Q q => ?_
  obtain ⟨ads, M, ρ, s, q⟩ := q
  refine ⟨ads, M, ρ, s, ?_⟩
  simp only [ev] at q
  cases hq : evDs G cs ρ M with
  | ok ds M1 =>
    rw [hq] at q
    intro vs H1 ads1 g1 m1 r1
    refine ⟨ads1, M1, ds, m1, ?_, evDs_len cs ρ M ds M1 hq, OkW.shift (o := G f ds M1) q g1 s.mem m1⟩
    rw [List.append_nil]
    exact r1
  | err _ _ => rw [hq] at q; exact q
  | stuck => rw [hq] at q; exact q
def OkWs (K:PySem.W.Frag) (ads:List Addr) (H:Hp) (Q:List V→Hp→Prop):Out (List W)→Prop
 | .ok ws M=>∀ vs H' ads',Grow ads ads' H H'→MRel K ads' H' M→RWs K ads' H' ws vs→Q vs H'
 | _=>False
def tWs (K:PySem.W.Frag) (o:En→Mem→Out (List W)):TA:=fun σ H Q=>∃ ads M ρ,SR K ads M ρ σ H∧OkWs K ads H Q (o ρ M)
theorem w_nil:PA X [] (tWs X.K (evWs G [])):=paI pa_nil fun σ H Q q=>by
 obtain ⟨ads,M,ρ,s,q⟩:=q
 exact q [] H ads (Grow.refl _ _) s.mem rfl
theorem w_cons {c:C} {cs:List C} {e:Expr} {es:List Expr} (hs:notStar e=true) (ha:PE X e (tE X.K (ev G c))) (hr:PA X es (tWs X.K (evWs G cs))):PA X (e::es) (tWs X.K (evWs G (c::cs))):=by
 refine paI (pa_cons ha hr (star_of hs es X.env)) fun σ H Q q=>?_
 obtain ⟨ads,M,ρ,s,q⟩:=q
 refine ⟨ads,M,ρ,s,?_⟩
 simp only [evWs] at q
 cases hq:ev G c ρ M with
 | ok w M1 =>
  rw [hq] at q
  intro v H1 ads1 g1 m1 r1
  refine ⟨ads1,M1,ρ,s.grow g1 m1,?_⟩
  have q:OkWs X.K ads H Q ((evWs G cs ρ M1).bind fun ds M=>.ok (w::ds) M):=q
  cases hq3:evWs G cs ρ M1 with
  | ok ds M3 =>
   rw [hq3] at q
   intro vs H3 ads3 g3 m3 r3
   exact q (v::vs) H3 ads3 (g1.trans g3) m3 ⟨v,vs,rfl,g3.rw r1.rw,r3⟩
  | err _ _=>rw [hq3] at q; exact q
  | stuck=>rw [hq3] at q; exact q
 | err _ _=>rw [hq] at q; exact q
 | stuck=>rw [hq] at q; exact q
theorem bi_key {b:Bi} {cs:List C} {σ:L2.St} {H:Hp} {Q:VK} (q:tE X.K (ev G (.bi b cs)) σ H Q):tCB (rBi X.K b) (tWs X.K (evWs G cs)) σ H Q:=by
 obtain ⟨ads,M,ρ,s,q⟩:=q
 refine ⟨ads,M,ρ,s,?_⟩
 simp only [ev] at q
 cases hq:evWs G cs ρ M with
 | ok ws M1 =>
  rw [hq] at q
  intro vs H1 ads1 g1 m1 r1
  exact ⟨ads1,M1,ws,m1,r1,OkW.shift (o:=biW b ws M1) q g1 s.mem m1⟩
 | err _ _=>rw [hq] at q; exact q
 | stuck=>rw [hq] at q; exact q
theorem s_bi {b : Bi} {cs : List C} {x : Str} {e : Expr} {es : List Expr} {p pos : Pos} (g : Good kk X cc G) (hb : biOk b = true) (hx : x = biName b) (hg : glob cc x = true)
    (hs : notStar e = true) (hc : chks cc cs.tail es = true) (ha : PA X (e :: es) (tWs X.K (evWs G cs))) : PE X (.Call (.Name x p) (e :: es) [] pos) (tE X.K (ev G (.bi b cs))) := by
  have hgl := g.gl hg
  have hst := star_of hs es X.env
  have hpl := noStar_any hc X.env pos
  have hm : X.mg x = none := g.blt x (by subst hx; cases b <;> first | (show _ ∈ bltNames; decide +kernel) | (exact absurd hb (by simp [biOk])))
  subst hx
  cases b with
  | len => exact peI (pe_callB bi_len hgl hm boot_len ha (by decide +kernel) (by decide +kernel) hst hpl) fun σ H Q q => bi_key q
  | max2 => cases hb
  | min2 => cases hb
  | repr1 => exact peI (pe_callB (bi_repr g.room) hgl hm boot_repr ha (by decide +kernel) (by decide +kernel) hst hpl) fun σ H Q q => bi_key q
  | int1 => exact peI (pe_callTy bi_int hgl hm (by decide +kernel) ha (by decide +kernel) (by decide +kernel) hst hpl) fun σ H Q q => bi_key q
  | list1 => exact peI (pe_callTy bi_list hgl hm (by decide +kernel) ha (by decide +kernel) (by decide +kernel) hst hpl) fun σ H Q q => bi_key q
  | tuple1 => exact peI (pe_callTy bi_tuple hgl hm (by decide +kernel) ha (by decide +kernel) (by decide +kernel) hst hpl) fun σ H Q q => bi_key q
  | dict1 => cases hb
  | all1 => cases hb
  | any1 => cases hb
  | isi t => cases hb
  | min1 => cases hb
  | max1 => cases hb
theorem rds_rng {K:PySem.W.Frag} {ads:List Addr} {H:Hp} (i:Int) (n:Nat):RDs K ads H (rngD i n) (rngV i n):=by
 have:∀ l:List Nat,RDs K ads H (l.map fun k=>D.int (i+((k:Nat):Int))) (l.map fun k=>V.int (i+((k:Nat):Int))):=by
  intro l
  induction l with
  | nil=>unfold RDs; rfl
  | cons a l ih =>
   rw [List.map_cons,List.map_cons]
   unfold RDs
   exact ⟨_,_,rfl,rd_int _,ih⟩
 exact this _
theorem s_rng {tp : Bool} {cs : List C} {x y : Str} {e : Expr} {es : List Expr} {p pos p2 pos2 : Pos} (g : Good kk X cc G) (hx : x = if tp = true then ("tuple" : Str) else ("list" : Str)) (hy : y = "range") (hgx : glob cc x = true) (hgy : glob cc y = true) (hs : notStar e = true) (hc : chks cc cs.tail es = true)
    (ha : PA X (e :: es) (tWs X.K (evWs G cs))) : PE X (.Call (.Name x p2) [.Call (.Name y p) (e :: es) [] pos] [] pos2) (tE X.K (ev G (.rng tp cs))) := by
  have hglx := g.gl hgx
  have hgly := g.gl hgy
  have hmx : X.mg x = none := g.blt x (by subst hx; cases tp <;> (show _ ∈ bltNames; decide +kernel))
  have hmy : X.mg y = none := g.blt y (by subst hy; show _ ∈ bltNames; decide +kernel)
  subst hx hy
  refine peI (pe_rngs tp g.calm hgly hmy hglx hmx rfl ha (star_of hs es X.env) (noStar_any hc X.env pos)) fun σ H Q q => ?_
  obtain ⟨ads, M, ρ, s, q⟩ := q
  refine ⟨ads, M, ρ, s, ?_⟩
  simp only [ev] at q
  cases hq : evWs G cs ρ M with
  | ok ws M1 =>
    rw [hq] at q
    intro vs H1 ads1 g1 m1 r1
    have q : OkW X.K ads1 H1 Q (rngW tp ws M1) := OkW.shift (o := rngW tp ws M1) q g1 s.mem m1
    unfold rngW at q
    cases hr : rngArg ws with
    | none => rw [hr] at q; exact q.elim
    | some ij =>
      obtain ⟨i, j⟩ := ij
      rw [hr] at q
      dsimp only at q
      split at q
      · rename_i hb
        have hv : argR vs i j := by
          unfold rngArg at hr
          split at hr
          · cases hr
            obtain ⟨v1, v2, rfl, a1, a2⟩ := r1.two
            exact .inl (by rw [rw_int a1, rw_int a2])
          · cases hr
            obtain ⟨v1, rfl, a1⟩ := r1.one
            exact .inr ⟨rfl, by rw [rw_int a1]⟩
          · cases hr
        refine ⟨i, j, hv, hb.1, hb.2, fun p hp => ?_⟩
        cases tp with
        | true => exact OkW.tuple (ds := rngD i (j - i).toNat) q m1 (rds_rng _ _) hp
        | false => exact OkW.list (ds := rngD i (j - i).toNat) q m1 (rds_rng _ _) hp
      · exact q.elim
  | err _ _ => rw [hq] at q; exact q
  | stuck => rw [hq] at q; exact q
theorem w_ty {y:Str} {T:String} {pos:Pos} (hg:Gl X y) (hm:X.mg y=none) (hv:bootBuiltins y=some (.type T)) (hn:y ≠ "__name__") (hd:(y == ("__debug__" : Str))=false):PE X (.Name y pos) (tC (.ty T)) :=
 pe_bltn hg hm hv rfl hn hd
theorem s_isi {t : Ty} {c : C} {x y : Str} {e : Expr} {p py pos : Pos} (g : Good kk X cc G) (hx : x = "isinstance") (hgx : glob cc x = true) (hy : y = Str.ofString (tyOf t)) (hgy : glob cc y = true) (ht : t ≠ .none)
    (hs : notStar e = true) (ha : PE X e (tE X.K (ev G c))) : PE X (.Call (.Name x p) [e, .Name y py] [] pos) (tE X.K (ev G (.bi (.isi t) [c]))) := by
  have hmx : X.mg x = none := g.blt x (by subst hx; show _ ∈ bltNames; decide +kernel)
  have hmy : X.mg y = none := g.blt y (by subst hy; cases t <;> first | exact absurd rfl ht | (show _ ∈ bltNames; decide +kernel))
  have pty : PE X (.Name y py) (tC (.ty (tyOf t))) := by
    subst hy
    cases t <;> first | exact absurd rfl ht | exact w_ty (g.gl hgy) hmy (by decide +kernel) (by decide +kernel) (by decide +kernel)
  have hgl := g.gl hgx
  subst hx
  refine peI (pe_callB (bi_isi t) hgl hmx boot_isinstance (pa_cons ha (pa_cons pty pa_nil) (star_of hs _ X.env)) (by decide +kernel) (by decide +kernel) (star_of hs _ X.env) rfl) fun σ H Q q => ?_
  obtain ⟨ads, M, ρ, s, q⟩ := q
  refine ⟨ads, M, ρ, s, ?_⟩
  simp only [ev, evWs] at q
  cases hq : ev G c ρ M with
  | ok w M1 =>
    rw [hq] at q
    intro v H1 ads1 g1 m1 r1
    exact ⟨v, rfl, ads1, M1, [w], m1, ⟨v, [], rfl, r1.rw, rfl⟩, OkW.shift (o := biW (.isi t) [w] M1) q g1 s.mem m1⟩
  | err _ _ => rw [hq] at q; exact q
  | stuck => rw [hq] at q; exact q
theorem base_of {e:Expr} (h:notCall0 e=true) (n:Str) (env:Env) (wh:Sem Value):attributeBase e n env wh=wh:=by
 cases e <;> first | rfl | skip
 rename_i f args kws pos
 cases f <;> first | rfl | skip
 cases args <;> first | rfl | skip
 cases kws <;> first | rfl | exact absurd (show false=true from h) Bool.false_ne_true
theorem me_key {m:Me} {o:C} {cs:List C} {σ:L2.St} {H:Hp} {Q:VK} (q:tE X.K (ev G (.me m o cs)) σ H Q):tBM X.K "list" (rMe X.K m) (tE X.K (ev G o)) (tDs X.K (evDs G cs)) σ H Q:=by
 obtain ⟨ads,M,ρ,s,q⟩:=q
 have q:OkW X.K ads H Q ((ev G o ρ M).bind fun x M=>if (lstW M x).isSome then (evDs G cs ρ M).bind fun ds M=>meW m x ds M else .stuck):=by simp only [ev] at q; exact q
 refine tE_bind s q fun w M1 v H1 ads1 s1 rw1 q1=>?_
 split at q1
 ·rename_i hs
  obtain ⟨es,he⟩:=Option.isSome_iff_exists.mp hs
  obtain ⟨a,xs,rfl,rd,ha⟩:=lst_ok s1.mem rw1 he
  refine ⟨.inl ⟨rfl,xs,SqL.of ha⟩,ads1,M1,ρ,s1,?_⟩
  cases hq:evDs G cs ρ M1 with
  | ok ds M2 =>
   rw [hq] at q1
   intro vs H2 ads2 g2 m2 r2
   exact ⟨ads2,M2,w,ds,m2,g2.rw rw1,r2,OkW.shift (o:=meW m w ds M2) q1 g2 s1.mem m2⟩
  | err _ _=>rw [hq] at q1; exact q1
  | stuck=>rw [hq] at q1; exact q1
 ·exact q1.elim
theorem me_key0 {m:Me} {o:C} {σ:L2.St} {H:Hp} {Q:VK} (q:tE X.K (ev G (.me m o [])) σ H Q):tBM0 X.K "list" (rMe X.K m) (tE X.K (ev G o)) σ H Q:=by
 obtain ⟨ads,M,ρ,s,q⟩:=q
 have q:OkW X.K ads H Q ((ev G o ρ M).bind fun x M=>if (lstW M x).isSome then (evDs G [] ρ M).bind fun ds M=>meW m x ds M else .stuck):=by simp only [ev] at q; exact q
 refine tE_bind s q fun w M1 v H1 ads1 s1 rw1 q1=>?_
 split at q1
 ·rename_i hs
  obtain ⟨es,he⟩:=Option.isSome_iff_exists.mp hs
  obtain ⟨a,xs,rfl,rd,ha⟩:=lst_ok s1.mem rw1 he
  exact ⟨.inl ⟨rfl,xs,SqL.of ha⟩,ads1,M1,w,[],s1.mem,rw1,(by unfold RDs; rfl),q1⟩
 ·exact q1.elim
theorem few_of {cs : List C} {es : List Expr} (h : chks cc cs es = true) (hl : es.length < 20) (env : Env) (cpos : Pos) :
    ((backTo cpos (starEach es env)).all (fun x => !x.1) && (backToKw cpos (keywordEach [] env)).all (fun x => x.1.isSome) && decide (es.length + ([] : List Keyword).length + (if ([] : List Keyword).isEmpty then 0 else 1) < 30)) = true := by
  have h1 := noStar_any h env cpos
  have h2 : (backTo cpos (starEach es env)).all (fun x => !x.1) = true := by
    rw [List.all_eq_true]
    intro x hx
    rw [List.any_eq_false] at h1
    have := h1 x hx
    simpa using this
  rw [h2]
  simp [keywordEach, backToKw]
  omega
theorem s_me {m : Me} {o : C} {cs : List C} {e : Expr} {es : List Expr} {n : Str} {ap cp : Pos} (hn : n = meName m) (hm : meOk m = true) (hl : (ap.endLine == cp.line) = true) (h0 : notCall0 e = true) (hc : chks cc cs es = true) (hlen : es.length < 20)
    (ho : PE X e (tE X.K (ev G o))) (ha : PA X es (tDs X.K (evDs G cs))) : PE X (.Call (.Attribute e n ap) es [] cp) (tE X.K (ev G (.me m o cs))) := by
  have hb := base_of h0 n X.env (eval e X.env)
  subst hn
  cases es with
  | nil =>
    cases cs with
    | cons _ _ => cases hc
    | nil =>
      cases m with
      | append => exact peI (pe_bm0 F.plainAttrs_list F.slot_list_append F.type_list_append me_append ho hb hl) fun σ H Q q => me_key0 q
      | insert => cases hm
      | reverse => cases hm
      | extend => cases hm
  | cons e1 es =>
    have hst : notStar e1 = true ∧ chks cc cs.tail es = true := by
      cases cs with
      | nil => cases hc
      | cons c cs =>
        have h' : (notStar e1 && chk cc c e1 && chks cc cs es) = true := hc
        simp only [Bool.and_eq_true] at h'
        exact ⟨h'.1.1, h'.2⟩
    have hfew := few_of hc hlen X.env cp
    cases m with
    | append => exact peI (pe_bm F.plainAttrs_list F.slot_list_append F.type_list_append me_append ho ha hb hfew hl (star_of hst.1 es X.env) (noStar_any hst.2 X.env cp)) fun σ H Q q => me_key q
    | insert => cases hm
    | reverse => cases hm
    | extend => cases hm
theorem s_usub {a:C} {e:Expr} {pos:Pos} (ha:PE X e (tE X.K (ev G a))):PE X (.UnaryOp .USub e pos) (tE X.K (ev G (.usub a))):=by
 refine peI (pe_un un_neg ha) fun σ H Q q=>?_
 obtain ⟨ads,M,ρ,s,q⟩:=q
 refine tE_bind s q fun w M1 v H1 ads1 s1 rw1 q1=>?_
 rcases w with ⟨_ | _ | i | _ | _ | _ | _⟩ | _ <;> first | exact q1.elim | skip
 exact ⟨i,rw_int rw1,OkW.plain q1 s1.mem (rd_int _)⟩
def rMinD (K:PySem.W.Frag):R2:=fun x y H Q=>∃ ads M wx wy,MRel K ads H M∧RW K ads H wx x∧RW K ads H wy y∧OkW K ads H Q (minDW wx wy M)
theorem s_minD {a b : C} {x k : Str} {e v : Expr} {p kp pos : Pos} (g : Good kk X cc G) (hx : x = "min") (hg : glob cc x = true) (hk : k = "default") (hs : notStar e = true) (ha : PE X e (tE X.K (ev G a))) (hb : PE X v (tE X.K (ev G b))) :
    PE X (.Call (.Name x p) [e] [⟨some k, v, kp⟩] pos) (tE X.K (ev G (.minD a b))) := by
  have hgl := g.gl hg
  have hm : X.mg x = none := g.blt x (by subst hx; show _ ∈ bltNames; decide +kernel)
  subst hx hk
  have hst := star_of hs [] X.env
  intro pins s σ H Q I h
  have h1 : tOp (rMinD X.K) (tE X.K (ev G a)) (tE X.K (ev G b)) σ H Q := two (fun m r1 r2 h => ⟨_, _, _, _, m, r1, r2, h⟩) h
  have h2 : tCons (tE X.K (ev G a)) tNil σ H (fun vs H1 => tCons (tE X.K (ev G b)) tNil σ H1 fun zs H2 => ∃ x y, vs = [x] ∧ zs = [y] ∧ rMinD X.K x y H2 Q) := by
    obtain ⟨ads, M, ρ, sr, q⟩ := h1
    refine ⟨ads, M, ρ, sr, ?_⟩
    cases hq : ev G a ρ M with
    | ok w M1 =>
      rw [hq] at q
      intro vx H1 ads1 g1 m1 r1
      obtain ⟨ads2, M2, ρ2, s2, q2⟩ := q vx H1 ads1 g1 m1 r1
      refine ⟨ads2, M2, ρ2, s2, ?_⟩
      cases hq2 : ev G b ρ2 M2 with
      | ok w2 M3 =>
        rw [hq2] at q2
        intro vy H2 ads3 g2 m2 r2
        exact ⟨vx, vy, rfl, rfl, q2 vy H2 ads3 g2 m2 r2⟩
      | err _ _ => rw [hq2] at q2; exact q2
      | stuck => rw [hq2] at q2; exact q2
    | err _ _ => rw [hq] at q; exact q
    | stuck => rw [hq] at q; exact q
  refine wpAny_Call_Name_kw (ld_blt I hgl hm boot_min ?_ (by decide +kernel) (by decide +kernel))
  refine PyProof.Rows.callWith_kw (thn (pa_cons ha pa_nil hst pos pins s σ H _ I h2) fun us s1 ⟨vs, H1, I1, r1, q1⟩ => thn (pk_cons hb pk_nil pos pins s1 σ H1 _ I1 q1) fun ws s2 ⟨zs, H2, I2, rz, q2⟩ => ?_) (by rw [hst]; rfl) (by rw [hst]; rfl) rfl rfl
  obtain ⟨x, y, rfl, rfl, ads, M, wx, wy, m, rx, ry, q⟩ := q2
  obtain ⟨u, rfl, ru⟩ := vals1 r1
  obtain ⟨z, rfl, rzz⟩ := vals1 rz
  show wpAny (model X.prog X.w) X.A (call (.builtin "min") [u] [("default", z)]) _ _ s2
  unfold minDW at q
  split at q
  · rename_i l ds d qs
    split at q
    · rename_i is qb
      obtain ⟨ad, ys, rfl, rd, sq⟩ := seq_ok m rx qs
      cases ru
      have ey := rw_int ry
      subst ey
      refine call_min_def (iter_walk (A := X.A.in1) (I2.ok.hd g.calm) I2 (sq.elim (fun z => .inl z.2) fun z => .inr z.2) fun its J fp wr St s3 vs W st hfp inv => ?_)
      obtain ⟨e1, e2⟩ := ints_at qb rd vs
      refine ⟨J, fp, wr, its.length, _, St, _, rfl, W, st, hfp, CmpOf.ints_lt (fun i => is.getD i 0) e2, fun v h' tk hv hk => ⟨.int (mnD d is), H2, inv h' tk hk, ?_, q.plain m (rd_int _)⟩⟩
      cases is with
      | nil =>
        rcases hv with ⟨_, rfl⟩ | ⟨hn, _⟩
        · exact rzz
        · rw [e1] at hn; exact absurd hn (Nat.lt_irrefl _)
      | cons i0 is =>
        rcases hv with ⟨hn, _⟩ | ⟨_, hv⟩
        · rw [e1] at hn; exact absurd hn (Nat.succ_ne_zero _)
        · obtain ⟨t, rfl⟩ := e2 _ _ hv
          have e3 := best_fold (fun a b => decide (a < b)) i0 is (its.length - 1) (by rw [e1]; simp)
          rw [e1] at e3
          simp only [List.length_cons, Nat.add_sub_cancel, List.take_length, decide_eq_true_eq] at e3
          refine ⟨t, ?_⟩
          rw [e1]
          simp only [List.length_cons, Nat.add_sub_cancel]
          rw [e3]
          rfl
    · exact q.elim
  · exact q.elim
end
end Ev
end
section
set_option Elab.async false
set_option linter.all false
set_option maxRecDepth 100000
set_option maxHeartbeats 4000000
namespace Ev
open L2
open PySem PySem.Spec PyProof.Rows
section
variable {kk:Nat} {X:Cx} {cc:CC} {G:Fns}
structure TF (H H':Hp):Prop where
 tup:TupK H H'
 frz:∀ b o u,H b=some (.frz o u)→H' b=some (.frz o u)
theorem TF.scr {K:PySem.W.Frag} {H H':Hp} (t:TF H H') {a:Addr} {xs:List V} (h:ScrL K H a xs):ScrL K H' a xs:=by
 rcases h with ⟨o,h⟩ | h
 ·exact .inl ⟨o,t.frz _ _ _ h⟩
 ·exact .inr h
mutual
theorem RD.keep {K:PySem.W.Frag} {ads:List Addr} {H H':Hp} (t:TF H H'):∀ (d:D) (v:V),RD K ads H d v→RD K ads H' d v
 | .non,_,h=>by unfold RD at *; exact h
 | .bl _,_,h=>by unfold RD at *; exact h
 | .int _,_,h=>by unfold RD at *; exact h
 | .str _,_,h=>by unfold RD at *; exact h
 | .adr n,v,h=>by unfold RD at *; exact h
 | .tup ds,v,h=>by unfold RD at *; obtain ⟨a,xs,e,h,r⟩:=h; exact ⟨a,xs,e,t.tup _ _ h,RDs.keep t ds xs r⟩
 | .ls ds,v,h=>by unfold RD at *; obtain ⟨a,xs,e,h,r⟩:=h; exact ⟨a,xs,e,t.scr h,RDs.keep t ds xs r⟩
theorem RDs.keep {K:PySem.W.Frag} {ads:List Addr} {H H':Hp} (t:TF H H'):∀ (ds:List D) (vs:List V),RDs K ads H ds vs→RDs K ads H' ds vs
 | [],_,h=>by unfold RDs at *; exact h
 | d::ds,vs,h=>by unfold RDs at *; obtain ⟨x,r,e,h1,h2⟩:=h; exact ⟨x,r,e,RD.keep t d x h1,RDs.keep t ds r h2⟩
end
theorem RKs.keep {κ:Type} {K:PySem.W.Frag} {ads:List Addr} {H H':Hp} (t:TF H H'):∀ (ds:List (κ×D)) (vs:List (κ×V)),RKs K ads H ds vs→RKs K ads H' ds vs
 | [],_,h=>by unfold RKs at *; exact h
 | d::ds,vs,h=>by unfold RKs at *; obtain ⟨x,r,e,h0,h1,h2⟩:=h; exact ⟨x,r,e,h0,RD.keep t d.2 x.2 h1,RKs.keep t ds r h2⟩
theorem MRel.keep {K:PySem.W.Frag} {ads:List Addr} {H H':Hp} {M:Mem} (m:MRel K ads H M) (t:TF H H') (k:∀ a∈ads,H' a=H a):MRel K ads H' M:=⟨m.nd,m.len,fun n o a e1 e2=>by
 have h:=m.obj n o a e1 e2
 have ha:=k a (List.mem_of_getElem? e2)
 cases o with
 | lst ds=>obtain ⟨xs,h,r⟩:=h; exact ⟨xs,ha.trans h,RDs.keep t _ _ r⟩
 | scr ds=>obtain ⟨o,xs,h,r⟩:=h; exact ⟨o,xs,ha.trans h,RDs.keep t _ _ r⟩
 | dK ds=>obtain ⟨xs,h,r⟩:=h; exact ⟨xs,ha.trans h,RKs.keep t _ _ r⟩
 | dT ds=>obtain ⟨xs,h,r⟩:=h; exact ⟨xs,ha.trans h,RKs.keep t _ _ r⟩⟩
end
end Ev
end
section
set_option Elab.async false
set_option linter.all false
set_option maxRecDepth 100000
set_option maxHeartbeats 4000000
namespace Ev
open L2
open PySem PySem.Spec PyProof.Rows
def RIt (K:PySem.W.Frag) (ads:List Addr) (H:Hp) (it:Ev.It) (J:L2.It):Prop :=
 ∀ (i:Nat) (ads1:List Addr) (H1:Hp) (M1:Mem),Grow ads ads1 H H1→MRel K ads1 H1 M1 →
  (itemAt M1 i it=some none→J.stop i H1) ∧
  (∀ d,itemAt M1 i it=some (some d)→J.go i H1∧∀ x H2,J.yld i H1 x H2→Grow ads1 ads1 H1 H2∧MRel K ads1 H2 M1∧RD K ads1 H2 d x)
def OkIt (K:PySem.W.Frag) (ads:List Addr) (H:Hp) (R:L2.It→Hp→Prop):Out Ev.It→Prop
 | .ok it M=>∀ J H' ads',Grow ads ads' H H'→MRel K ads' H' M→RIt K ads' H' it J→R J H'
 | _=>False
def tI (K:PySem.W.Frag) (o:En→Mem→Out Ev.It):TI:=fun σ H R=>∃ ads M ρ,SR K ads M ρ σ H∧OkIt K ads H R (o ρ M)
def evSrc (G:Fns) (k:SK) (src:List C) (ρ:En) (M:Mem):Out Ev.It:=(evWs G src ρ M).bind fun ws M=>srcW k ws M
section
variable {K:PySem.W.Frag} {ads:List Addr} {H:Hp} {M:Mem}
theorem rit_rng (lo:Int) (n:Nat):RIt K ads H (.rng lo n) (Itr lo n):=by
 intro i ads1 H1 M1 g1 m1
 refine ⟨fun e=>?_,fun d e=>?_⟩
 ·by_cases h:i < n
  ·simp [itemAt,h] at e
  ·exact Nat.not_lt.mp h
 ·by_cases h:i < n
  ·simp only [itemAt,if_pos h,Option.some.injEq] at e
   subst e
   refine ⟨h,fun x H2 y=>?_⟩
   obtain ⟨rfl,rfl⟩:=y
   exact ⟨Grow.refl _ _,m1,rd_int _⟩
  ·simp [itemAt,h] at e
theorem rit_list {it:Ev.It} {a:Addr} (h:∀ (i:Nat) (ads1:List Addr) (H1:Hp) (M1:Mem),Grow ads ads1 H H1→MRel K ads1 H1 M1→∀ o,itemAt M1 i it=some o→∃ ds xs,o=ds[i]?∧RDs K ads1 H1 ds xs∧SqL K H1 a xs):RIt K ads H it (Itl K a):=by
 intro i ads1 H1 M1 g1 m1
 refine ⟨fun e=>?_,fun d e=>?_⟩
 ·obtain ⟨ds,xs,e2,rd,sq⟩:=h i ads1 H1 M1 g1 m1 _ e
  refine ⟨xs,sq,?_⟩
  rw [← rd.len]
  exact List.getElem?_eq_none_iff.mp e2.symm
 ·obtain ⟨ds,xs,e2,rd,sq⟩:=h i ads1 H1 M1 g1 m1 _ e
  obtain ⟨v,ev,rv⟩:=rd.get e2.symm
  refine ⟨⟨xs,v,sq,ev⟩,fun x H2 y=>?_⟩
  obtain ⟨rfl,y⟩:=y
  have:=y xs sq
  rw [ev] at this
  cases this
  exact ⟨Grow.refl _ _,m1,rv⟩
theorem rit_tup {ds:List D} {xs:List V} {a:Addr} (ha:H a=some (.tup xs)) (rd:RDs K ads H ds xs):RIt K ads H (.items ds) (Itt K a):=by
 intro i ads1 H1 M1 g1 m1
 have sq:SqT K H1 a xs:=SqT.of (g1.tups _ _ ha)
 have rd1:=g1.rds _ _ rd
 refine ⟨fun e=>?_,fun d e=>?_⟩
 ·refine ⟨xs,sq,?_⟩
  rw [← rd.len]
  exact List.getElem?_eq_none_iff.mp (Option.some.inj e)
 ·obtain ⟨v,ev,rv⟩:=rd1.get (Option.some.inj e)
  refine ⟨⟨xs,v,sq,ev⟩,fun x H2 y=>?_⟩
  obtain ⟨rfl,y⟩:=y
  have:=y xs sq
  rw [ev] at this
  cases this
  exact ⟨Grow.refl _ _,m1,rv⟩
end
theorem at_list {K:PySem.W.Frag} {ads:List Addr} {H:Hp} {M:Mem} {n:Nat} {v:V} {p:Bool×List D} (m:MRel K ads H M) (r:RD K ads H (.adr n) v) (hp:seqW M (.d (.adr n))=some p):∃ a,v=.ref a∧∃ xs,SqL K H a xs:=by
 obtain ⟨l,ds⟩:=p
 obtain ⟨a,xs,e,rd,sq⟩:=seq_ok (w:=.d (.adr n)) m r hp
 rcases sq with ⟨_,sq⟩ | ⟨hl,_⟩
 ·exact ⟨a,e,xs,sq⟩
 ·simp only [seqW] at hp
  split at hp
  ·cases hp; cases hl
  ·cases hp; cases hl
  ·cases hp
theorem at_items {K : PySem.W.Frag} {ads ads2 : List Addr} {H H2 : Hp} {M2 : Mem} {n i : Nat} {a : Addr} {o : Option D} (r : RD K ads H (.adr n) (.ref a)) (g2 : Grow ads ads2 H H2) (m2 : MRel K ads2 H2 M2) (e : itemAt M2 i (.at n) = some o) :
    ∃ ds xs, o = ds[i]? ∧ RDs K ads2 H2 ds xs ∧ SqL K H2 a xs := by
  unfold RD at r
  obtain ⟨b, eb, ea⟩ := r
  cases eb
  have ea2 := g2.get ea
  simp only [itemAt] at e
  split at e
  · rename_i ds q
    obtain ⟨xs, h, rd⟩ := m2.obj n _ a q ea2
    exact ⟨ds, xs, (Option.some.inj e).symm, rd, SqL.of h⟩
  · rename_i ds q
    obtain ⟨o, xs, h, rd⟩ := m2.obj n _ a q ea2
    exact ⟨ds, xs, (Option.some.inj e).symm, rd, .inl (.inr ⟨o, h⟩)⟩
  · cases e
section
variable {kk:Nat} {X:Cx} {cc:CC} {G:Fns} {tg:Expr} {K:PySem.W.Frag} {ads:List Addr} {H:Hp}
theorem piI {iter:Expr} {t u:TI} (h:PI X tg iter t) (f:∀ σ H R,u σ H R→t σ H R):PI X tg iter u:=fun pins s σ H R I q=>h pins s σ H R I (f σ H R q)
theorem src_seq {c:C} {iter:Expr} (he:PE X iter (tE X.K (ev G c))):PI X tg iter (tI X.K (evSrc G .seq [c])):=by
 intro pins s σ H R I q
 obtain ⟨ads,M,ρ,sr,q⟩:=q
 simp only [evSrc,evWs] at q
 cases hq:ev G c ρ M with
 | ok w M1 =>
  rw [hq] at q
  have q:OkIt X.K ads H R (srcW .seq [w] M1):=q
  cases w with
  | lv ds =>
   have q:OkIt X.K ads H R (.ok (.items ds) M1):=q
   refine pi_list he pins s σ H R I ⟨ads,M,ρ,sr,?_⟩
   rw [hq]
   intro v H1 ads1 g1 m1 r1
   obtain ⟨a,xs,rfl,h0,h1,n,rd⟩:=r1
   refine ⟨a,rfl,⟨xs,SqL.of h1⟩,q _ H1 ads1 g1 m1 (rit_list fun i ads2 H2 M2 g2 m2 o e=>?_)⟩
   exact ⟨ds,xs,(Option.some.inj e).symm,g2.rds _ _ rd,SqL.of (g2.kept a _ n h1)⟩
  | d x =>
   cases x with
   | tup ds =>
    have q:OkIt X.K ads H R (.ok (.items ds) M1):=q
    refine pi_tup he pins s σ H R I ⟨ads,M,ρ,sr,?_⟩
    rw [hq]
    intro v H1 ads1 g1 m1 r1
    have r1:RD X.K ads1 H1 (.tup ds) v:=r1
    unfold RD at r1
    obtain ⟨a,xs,rfl,h1,rd⟩:=r1
    exact ⟨a,rfl,⟨xs,SqT.of h1⟩,q _ H1 ads1 g1 m1 (rit_tup h1 rd)⟩
   | ls ds =>
    have q:OkIt X.K ads H R (.ok (.items ds) M1):=q
    refine pi_list he pins s σ H R I ⟨ads,M,ρ,sr,?_⟩
    rw [hq]
    intro v H1 ads1 g1 m1 r1
    have r1:RD X.K ads1 H1 (.ls ds) v:=r1
    unfold RD at r1
    obtain ⟨a,xs,rfl,h1,rd⟩:=r1
    refine ⟨a,rfl,⟨xs,h1.sq⟩,q _ H1 ads1 g1 m1 (rit_list fun i ads2 H2 M2 g2 m2 o e=>?_)⟩
    exact ⟨ds,xs,(Option.some.inj e).symm,g2.rds _ _ rd,(g2.scr h1).sq⟩
   | adr n =>
    have q:OkIt X.K ads H R (if (seqW M1 (.d (.adr n))).isSome then .ok (.at n) M1 else .stuck):=q
    split at q
    ·rename_i hs
     obtain ⟨p,hp⟩:=Option.isSome_iff_exists.mp hs
     refine pi_list he pins s σ H R I ⟨ads,M,ρ,sr,?_⟩
     rw [hq]
     intro v H1 ads1 g1 m1 r1
     obtain ⟨a,ea,sq⟩:=at_list m1 r1 hp
     subst ea
     exact ⟨a,rfl,sq,q _ H1 ads1 g1 m1 (rit_list fun i ads2 H2 M2 g2 m2 o e=>at_items r1 g2 m2 e)⟩
    ·exact q.elim
   | non=>exact q.elim
   | bl _=>exact q.elim
   | int _=>exact q.elim
   | str _=>exact q.elim
 | err _ _=>rw [hq] at q; exact q.elim
 | stuck=>rw [hq] at q; exact q.elim
theorem src_rng1 {c:C} {a:Expr} {x:Str} {p pos:Pos} (g:Good kk X cc G) (hx:x = "range") (hg:glob cc x=true) (hs:notStar a=true) (he:PE X a (tE X.K (ev G c))):PI X tg (.Call (.Name x p) [a] [] pos) (tI X.K (evSrc G .rng1 [c])):=by
 have hgl:=g.gl hg
 have hm:X.mg x=none:=g.blt x (by subst hx; show _∈bltNames; decide +kernel)
 subst hx
 refine piI (pi_range1 hgl hm (pa_cons he pa_nil (star_of hs [] X.env)) (star_of hs [] X.env)) fun σ H R q=>?_
 obtain ⟨ads,M,ρ,s,q⟩:=q
 simp only [evSrc,evWs] at q
 refine ⟨ads,M,ρ,s,?_⟩
 cases hq:ev G c ρ M with
 | ok w M1 =>
  rw [hq] at q
  have q:OkIt X.K ads H R (srcW .rng1 [w] M1):=q
  intro v H1 ads1 g1 m1 r1
  rcases w with ⟨_ | _ | j | _ | _ | _⟩ | _ <;> first | exact q.elim | skip
  have q:OkIt X.K ads H R (if -(2 ^ 62)≤j∧j < 2 ^ 62 then .ok (.rng 0 j.toNat) M1 else .stuck):=q
  split at q
  ·rename_i hj
   exact ⟨j,by rw [rw_int r1],hj.1,hj.2,q _ H1 ads1 g1 m1 (rit_rng _ _)⟩
  ·exact q.elim
 | err _ _=>rw [hq] at q; exact q.elim
 | stuck=>rw [hq] at q; exact q.elim
theorem rit_down (hi:Int) (n:Nat):RIt K ads H (.items (dwnD hi n)) (Itd hi n):=by
 intro i ads1 H1 M1 g1 m1
 have e0:itemAt M1 i (.items (dwnD hi n))=some (if i < n then some (.int (hi - i)) else none):=by
  show some ((List.range n).map _)[i]?=_
  rw [List.getElem?_map]
  by_cases h:i < n
  ·rw [List.getElem?_range h,if_pos h]; rfl
  ·rw [List.getElem?_eq_none (by simpa using h),if_neg h]; rfl
 rw [e0]
 refine ⟨fun e=>?_,fun d e=>?_⟩
 ·by_cases h:i < n
  ·rw [if_pos h] at e; cases e
  ·exact Nat.not_lt.mp h
 ·by_cases h:i < n
  ·rw [if_pos h] at e
   cases e
   refine ⟨h,fun x H2 y=>?_⟩
   obtain ⟨rfl,rfl⟩:=y
   exact ⟨Grow.refl _ _,m1,rd_int _⟩
  ·rw [if_neg h] at e; cases e
theorem src_rngd {c d m : C} {a b z : Expr} {x : Str} {p pos : Pos} (g : Good kk X cc G) (hx : x = "range") (hg : glob cc x = true) (hs : notStar a = true) (hs2 : notStar b = true) (hs3 : notStar z = true) (hc : PE X a (tE X.K (ev G c))) (hd : PE X b (tE X.K (ev G d))) (hz : PE X z (tE X.K (ev G m))) :
    PI X tg (.Call (.Name x p) [a, b, z] [] pos) (tI X.K (evSrc G .rngd [c, d, m])) := by
  have hgl := g.gl hg
  have hm : X.mg x = none := g.blt x (by subst hx; show _ ∈ bltNames; decide +kernel)
  subst hx
  have e3 := star_of hs3 [] X.env
  have e2 := star_of hs2 [z] X.env
  refine piI (pi_down hgl hm (w_cons hs hc (w_cons hs2 hd (w_cons hs3 hz w_nil))) (star_of hs [b, z] X.env) (by rw [e2, e3]; rfl)) fun σ H R q => ?_
  obtain ⟨ads, M, ρ, s, q⟩ := q
  refine ⟨ads, M, ρ, s, ?_⟩
  unfold evSrc at q
  cases hq : evWs G [c, d, m] ρ M with
  | ok ws M1 =>
    rw [hq] at q
    have q : OkIt X.K ads H R (srcW .rngd ws M1) := q
    intro vs H1 ads1 g1 m1 r1
    rcases ws with _ | ⟨w, _ | ⟨w2, _ | ⟨w3, _ | ⟨w4, ws⟩⟩⟩⟩ <;> first | exact q.elim | skip
    · rcases w with ⟨_ | _ | i | _ | _ | _ | _⟩ | _ <;> exact q.elim
    · rcases w with ⟨_ | _ | i | _ | _ | _ | _⟩ | _ <;> first | exact q.elim | skip
      rcases w2 with ⟨_ | _ | j | _ | _ | _ | _⟩ | _ <;> exact q.elim
    · rcases w with ⟨_ | _ | i | _ | _ | _ | _⟩ | _ <;> first | exact q.elim | skip
      rcases w2 with ⟨_ | _ | j | _ | _ | _ | _⟩ | _ <;> first | exact q.elim | skip
      rcases w3 with ⟨_ | _ | l | _ | _ | _ | _⟩ | _ <;> first | exact q.elim | skip
      have q : OkIt X.K ads H R (if l = -1 ∧ -(2 ^ 62) ≤ i ∧ i < 2 ^ 62 ∧ -(2 ^ 62) ≤ j ∧ j < 2 ^ 62 then .ok (.items (dwnD i (i - j).toNat)) M1 else .stuck) := q
      obtain ⟨v1, r, rfl, h1, r1⟩ := r1
      obtain ⟨v2, r, rfl, h2, r1⟩ := r1
      obtain ⟨v3, r, rfl, h3, r1⟩ := r1
      have r1 : r = [] := r1
      split at q
      · rename_i hj
        exact ⟨i, j, by rw [rw_int h1, rw_int h2, rw_int h3, hj.1, r1], hj.2, q _ H1 ads1 g1 m1 (rit_down _ _)⟩
      · exact q.elim
    · rcases w with ⟨_ | _ | i | _ | _ | _ | _⟩ | _ <;> first | exact q.elim | skip
      rcases w2 with ⟨_ | _ | j | _ | _ | _ | _⟩ | _ <;> first | exact q.elim | skip
      rcases w3 with ⟨_ | _ | l | _ | _ | _ | _⟩ | _ <;> exact q.elim
  | err _ _ => rw [hq] at q; exact q.elim
  | stuck => rw [hq] at q; exact q.elim
theorem z1_ok {K : PySem.W.Frag} {ads : List Addr} {H : Hp} {M : Mem} {w : W} {v : V} {z : Z1} (m : MRel K ads H M) (r : RW K ads H w v) (hz : z1W M w = some z) : ∃ (l : Bool) (a : Addr), v = .ref a ∧ (∃ xs, SqB K H l a xs) ∧
    ∀ ads2 H2 M2, Grow ads ads2 H H2 → MRel K ads2 H2 M2 → ∀ ds, seqZ M2 z = some ds → ∃ xs, RDs K ads2 H2 ds xs ∧ SqB K H2 l a xs := by
  rcases w with ⟨_ | _ | _ | _ | ds | n | ds⟩ | ds <;> first | cases hz | skip
  · have r : RD K ads H (.tup ds) v := r
    unfold RD at r
    obtain ⟨b, xs, rfl, h1, rd⟩ := r
    exact ⟨false, b, rfl, ⟨xs, SqT.of h1⟩, fun ads2 H2 M2 g2 m2 es e => by cases e; exact ⟨xs, g2.rds _ _ rd, SqT.of (g2.tups _ _ h1)⟩⟩
  · have hz : (if (seqW M (.d (.adr n))).isSome then some (Z1.at n) else none) = some z := hz
    split at hz
    · rename_i hs
      cases hz
      obtain ⟨p, hp⟩ := Option.isSome_iff_exists.mp hs
      obtain ⟨b, ea, sq⟩ := at_list m r hp
      subst ea
      refine ⟨true, b, rfl, sq, fun ads2 H2 M2 g2 m2 es e => ?_⟩
      have r : RD K ads H (.adr n) (.ref b) := r
      unfold RD at r
      obtain ⟨b', eb, ea⟩ := r
      cases eb
      have ea2 := g2.get ea
      simp only [seqZ] at e
      split at e
      · rename_i ds q
        cases e
        obtain ⟨xs, h, rd⟩ := m2.obj n _ b q ea2
        exact ⟨xs, rd, SqL.of h⟩
      · rename_i ds q
        cases e
        obtain ⟨o, xs, h, rd⟩ := m2.obj n _ b q ea2
        exact ⟨xs, rd, .inl (.inr ⟨o, h⟩)⟩
      · cases e
    · cases hz
  · have r : RD K ads H (.ls ds) v := r
    unfold RD at r
    obtain ⟨b, xs, rfl, h1, rd⟩ := r
    exact ⟨true, b, rfl, ⟨xs, h1.sq⟩, fun ads2 H2 M2 g2 m2 es e => by cases e; exact ⟨xs, g2.rds _ _ rd, (g2.scr h1).sq⟩⟩
  · obtain ⟨b, xs, rfl, h1, n, rd⟩ := r
    exact ⟨true, b, rfl, ⟨xs, SqL.of h1⟩, fun ads2 H2 M2 g2 m2 es e => by cases e; exact ⟨xs, g2.rds _ _ rd, SqL.of (g2.kept b _ n h1)⟩⟩
theorem rit_zip {K : PySem.W.Frag} {ads : List Addr} {H : Hp} {z y : Z1} {l m : Bool} {a b : Addr} (h1 : ∀ ads2 H2 M2, Grow ads ads2 H H2 → MRel K ads2 H2 M2 → ∀ ds, seqZ M2 z = some ds → ∃ xs, RDs K ads2 H2 ds xs ∧ SqB K H2 l a xs)
    (h2 : ∀ ads2 H2 M2, Grow ads ads2 H H2 → MRel K ads2 H2 M2 → ∀ ds, seqZ M2 y = some ds → ∃ xs, RDs K ads2 H2 ds xs ∧ SqB K H2 m b xs) : RIt K ads H (.zip z y) (Itz K l m a b) := by
  intro i ads1 H1 M1 g1 m1
  have key : ∀ o, itemAt M1 i (.zip z y) = some o → ∃ ds es xs ys, o = zipAt ds es i ∧ RDs K ads1 H1 ds xs ∧ SqB K H1 l a xs ∧ RDs K ads1 H1 es ys ∧ SqB K H1 m b ys := fun o e => by
    simp only [itemAt] at e
    split at e
    · rename_i ds es q1 q2
      obtain ⟨xs, r1, s1⟩ := h1 ads1 H1 M1 g1 m1 ds q1
      obtain ⟨ys, r2, s2⟩ := h2 ads1 H1 M1 g1 m1 es q2
      exact ⟨ds, es, xs, ys, (Option.some.inj e).symm, r1, s1, r2, s2⟩
    · cases e
  refine ⟨fun e => ?_, fun d e => ?_⟩
  · obtain ⟨ds, es, xs, ys, e2, r1, s1, r2, s2⟩ := key _ e
    refine ⟨xs, ys, s1, s2, ?_⟩
    rw [← r1.len, ← r2.len]
    unfold zipAt at e2
    cases q1 : ds[i]? with
    | none => exact .inl (List.getElem?_eq_none_iff.mp q1)
    | some d1 =>
      cases q2 : es[i]? with
      | none => exact .inr (List.getElem?_eq_none_iff.mp q2)
      | some d2 => rw [q1, q2] at e2; cases e2
  · obtain ⟨ds, es, xs, ys, e2, r1, s1, r2, s2⟩ := key _ e
    unfold zipAt at e2
    cases q1 : ds[i]? with
    | none => rw [q1] at e2; cases e2
    | some d1 =>
      cases q2 : es[i]? with
      | none => rw [q1, q2] at e2; cases e2
      | some d2 =>
        rw [q1, q2] at e2
        cases e2
        obtain ⟨v1, ev1, rv1⟩ := r1.get q1
        obtain ⟨v2, ev2, rv2⟩ := r2.get q2
        refine ⟨⟨xs, ys, v1, v2, s1, s2, ev1, ev2⟩, fun x H2 yy => ?_⟩
        obtain ⟨p, x1, x2, rfl, hp, rfl, a1, a2⟩ := yy
        have t1 := a1 xs s1
        have t2 := a2 ys s2
        rw [ev1] at t1
        rw [ev2] at t2
        cases t1
        cases t2
        have g2 := Grow.new1 (o := .tup [v1, v2]) m1 hp
        refine ⟨g2, m1.new1 hp, ?_⟩
        unfold RD
        refine ⟨p, _, rfl, upd_same, ?_⟩
        unfold RDs
        exact ⟨v1, [v2], rfl, g2.rd _ _ rv1, .one (g2.rd _ _ rv2)⟩
theorem src_zip {c d : C} {a b t : Expr} {x : Str} {p pos : Pos} (g : Good kk X cc G) (hx : x = "zip") (ht : isTuple t = true) (hg : glob cc x = true) (hs : notStar a = true) (hs2 : notStar b = true) (he : PE X a (tE X.K (ev G c))) (hd : PE X b (tE X.K (ev G d))) :
    PI X t (.Call (.Name x p) [a, b] [] pos) (tI X.K (evSrc G .zip [c, d])) := by
  have hgl := g.gl hg
  have hm : X.mg x = none := g.blt x (by subst hx; show _ ∈ bltNames; decide +kernel)
  subst hx
  cases t <;> first | cases ht | skip
  refine piI (pi_zip hgl hm (pa_cons he (pa_cons hd pa_nil (star_of hs2 [] X.env)) (star_of hs [b] X.env)) (star_of hs [b] X.env) (star_of hs2 [] X.env)) fun σ H R q => ?_
  obtain ⟨ads, M, ρ, s, q⟩ := q
  simp only [evSrc, evWs] at q
  refine ⟨ads, M, ρ, s, ?_⟩
  cases hq : ev G c ρ M with
  | ok w M1 =>
    rw [hq] at q
    intro v H1 ads1 g1 m1 r1
    have s1 := s.grow g1 m1
    refine ⟨ads1, M1, ρ, s1, ?_⟩
    simp only [Out.bind] at q
    cases hq2 : ev G d ρ M1 with
    | ok w2 M2 =>
      rw [hq2] at q
      have q : OkIt X.K ads H R (srcW .zip [w, w2] M2) := q
      intro v2 H2 ads2 g2 m2 r2
      have q : OkIt X.K ads H R (match z1W M2 w, z1W M2 w2 with
        | some a, some b => .ok (.zip a b) M2
        | _, _ => .stuck) := q
      cases q1 : z1W M2 w with
      | none => rw [q1] at q; exact q.elim
      | some z1 =>
        cases q2 : z1W M2 w2 with
        | none => rw [q1, q2] at q; exact q.elim
        | some z2 =>
          rw [q1, q2] at q
          obtain ⟨l, a1, rfl, sq1, k1⟩ := z1_ok m2 (g2.rw r1.rw) q1
          obtain ⟨m, b1, rfl, sq2, k2⟩ := z1_ok m2 r2.rw q2
          exact ⟨l, m, a1, b1, rfl, sq1, sq2, q _ H2 ads2 (g1.trans g2) m2 (rit_zip k1 k2)⟩
    | err _ _ => rw [hq2] at q; exact q.elim
    | stuck => rw [hq2] at q; exact q.elim
  | err _ _ => rw [hq] at q; exact q.elim
  | stuck => rw [hq] at q; exact q.elim
end
end Ev
end
section
set_option Elab.async false
set_option linter.all false
set_option maxRecDepth 100000
set_option maxHeartbeats 4000000
namespace Ev
open L2
open PySem PySem.Spec PyProof.Rows
def tG (K:PySem.W.Frag) (tg:List Nat):TG:=fun v σ H Q=>∃ ads M ρ d,SR K ads M ρ σ H∧RD K ads H d v∧∃ ρ',bindT tg d ρ=some ρ'∧∀ σ',SR K ads M ρ' σ' H→Q σ' H
theorem SR.set {K:PySem.W.Frag} {ads:List Addr} {M:Mem} {ρ:En} {σ:L2.St} {H:Hp} (s:SR K ads M ρ σ H) (i:Nat) {d:D} {v:V} (r:RD K ads H d v):SR K ads M (ρ.set i (some d)) (σ.set i (some v)) H :=
 ⟨s.mem,fun j d' e=>by
  by_cases h:i=j
  ·subst h
   have hl:i < ρ.length:=by
    have:=(List.getElem?_eq_some_iff.mp e).1
    simpa using this
   rw [List.getElem?_set_self hl] at e
   cases e
   exact ⟨v,by rw [List.getElem?_set_self (by rw [← s.ln]; exact hl)],r⟩
  ·rw [List.getElem?_set_ne h] at e ⊢
   exact s.en j d' e,by simp [s.ln]⟩
def gN:List Nat→TGs
 | []=>gNil
 | i::r=>gCons (gName i) (gN r)
section
variable {kk:Nat} {X:Cx} {cc:CC} {G:Fns}
theorem Good.nm (g:Good kk X cc G) {x:Str} (h:(cc.names.lookup x == some .local || cc.names.lookup x == some .cell)=true):Loc X.env.scope x∧(X.fn x=true∨X.env.scope.names.lookup x=some .local):=by
 rw [Bool.or_eq_true] at h
 rcases h with h | h
 ·have h:=eq_of_beq h
  exact ⟨.inl (g.kinds x _ h),.inr (g.kinds x _ h)⟩
 ·have h:=eq_of_beq h
  exact ⟨.inr (g.kinds x _ h),.inl (g.fnc x h)⟩
theorem g_names (g:Good kk X cc G):∀ (tg:List Nat) (es:List Expr),chkNames cc tg es=true→PGs X es (gN tg)∧es.length=tg.length∧(assignEach es X.env).length=tg.length∧(assignEach es X.env).findIdx? (·.1)=none
 | [],[],_=>⟨pgs_nil,rfl,rfl,rfl⟩
 | [],_::_,h=>by cases h
 | _::_,[],h=>by cases h
 | i::tg,e::es,h=>by
  obtain ⟨h,h3⟩:=(Bool.and_eq_true _ _).mp h
  obtain ⟨ih,l1,l2,l3⟩:=g_names g tg es h3
  refine onName_el (P:=fun e=>PGs X (e::es) (gN (i::tg))∧(e::es).length=(i::tg).length∧(assignEach (e::es) X.env).length=(i::tg).length∧(assignEach (e::es) X.env).findIdx? (·.1)=none) h fun x p h=>?_
  obtain ⟨h1,h2⟩:=(Bool.and_eq_true _ _).mp h
  obtain ⟨n1,n2⟩:=g.nm h2
  refine ⟨pgs_cons (pg_name (by rw [g.N]; exact g.nd) (by rw [g.N]; exact eq_of_beq h1) n1 n2) ih,by simp [l1],?_,?_⟩
  ·show (assignEach es X.env).length+1=_
   rw [l2]; rfl
  ·show List.findIdx? _ ((false,_)::assignEach es X.env)=none
   rw [List.findIdx?_cons]
   simp only [Bool.false_eq_true,if_false]
   rw [l3]; rfl
theorem gN_of {K:PySem.W.Frag} {ads:List Addr} {M:Mem} {H:Hp} {Q:L2.St→Hp→Prop} {ρ':En} (hQ:∀ σ',SR K ads M ρ' σ' H→Q σ' H):∀ (tg:List Nat) (ds:List D) (xs:List V) (ρ:En) (σ:L2.St),SR K ads M ρ σ H→RDs K ads H ds xs→setAll tg ds ρ=some ρ'→gN tg xs σ H Q
 | [],[],xs,ρ,σ,s,r,e=>by
  unfold RDs at r
  subst r
  cases e
  exact ⟨rfl,hQ σ s⟩
 | [],_::_,_,_,_,_,_,e=>by cases e
 | _::_,[],_,_,_,_,_,e=>by cases e
 | i::tg,d::ds,xs,ρ,σ,s,r,e=>by
  unfold RDs at r
  obtain ⟨x,r',rfl,h1,h2⟩:=r
  exact ⟨x,r',rfl,gN_of hQ tg ds r' _ _ (s.set i h1) h2 e⟩
theorem setAll_len:∀ (tg:List Nat) (ds:List D) (ρ ρ':En),setAll tg ds ρ=some ρ'→ds.length=tg.length
 | [],[],_,_,_=>rfl
 | [],_::_,_,_,e=>by cases e
 | _::_,[],_,_,e=>by cases e
 | i::tg,d::ds,ρ,ρ',e=>by simp [setAll_len tg ds _ ρ' e]
theorem g_target (g:Good kk X cc G) {tg:List Nat} {t:Expr} (h:chkTg cc tg t=true):PG X t (tG X.K tg):=by
 rcases tg with _ | ⟨i,_ | ⟨j,tl⟩⟩
 ·exact absurd h Bool.false_ne_true
 ·refine onName_el (P:=fun t=>PG X t _) ((Bool.and_eq_true _ _).mp h).1 fun x p h=>?_
  obtain ⟨h1,h2⟩:=(Bool.and_eq_true _ _).mp h
  obtain ⟨n1,n2⟩:=g.nm h2
  intro pins s σ H v u Q I r q
  refine pg_name (by rw [g.N]; exact g.nd) (by rw [g.N]; exact eq_of_beq h1) n1 n2 pins s σ H v u Q I r ?_
  obtain ⟨ads,M,ρ,d,sr,rd,ρ',e,hQ⟩:=q
  cases e
  exact hQ _ (sr.set i rd)
 ·refine onTuple_el (P:=fun t=>PG X t _) h fun es kq p h=>?_
  obtain ⟨a,l1,l2,l3⟩:=g_names g (i::j::tl) es ((Bool.and_eq_true _ _).mp h).1
  intro pins s σ H v u Q I r q
  refine pg_tup (pos:=p) (k:=kq) g.calm a l2 l3 pins s σ H v u Q I r ?_
  obtain ⟨ads,M,ρ,d,sr,rd,ρ',e,hQ⟩:=q
  have e':∃ ds,d=.tup ds∧setAll (i::j::tl) ds ρ=some ρ':=by
   cases d <;> first | cases e | exact ⟨_,rfl,e⟩
  obtain ⟨ds,rfl,e2⟩:=e'
  unfold RD at rd
  obtain ⟨b,xs,rfl,hb,rd⟩:=rd
  exact ⟨b,xs,rfl,SqT.of hb,by rw [← rd.len,setAll_len _ ds ρ ρ' e2],gN_of hQ _ ds xs ρ σ sr rd e2⟩
end
theorem closure_eq {env : Env} : ∀ (names : List (Str × NameKind)) (acc : List (Str × Addr)), (∀ y ∈ names, y.2 = .free → ∃ c, env.cells.lookup y.1 = some c) → (∀ x c, acc.lookup x = some c → env.cells.lookup x = some c) →
    ∃ cl, (forIn names acc fun (x : Str × NameKind) (r : List (Str × Addr)) => (match x with | (name, kind) => if (kind == NameKind.free) = true then do let a ← cellOf env name; pure (ForInStep.yield ((name, a) :: r)) else pure (ForInStep.yield r) : Sem (ForInStep (List (Str × Addr))))) = pure cl ∧
      (∀ x c, cl.lookup x = some c → env.cells.lookup x = some c) ∧ (∀ x, (acc.lookup x).isSome = true → (cl.lookup x).isSome = true) ∧ ∀ y ∈ names, y.2 = .free → (cl.lookup y.1).isSome = true
  | [], acc, _, h => ⟨acc, rfl, h, fun _ q => q, fun y hy => by cases hy⟩
  | (n, k) :: r, acc, hn, h => by
    by_cases hk : k = .free
    · subst hk
      obtain ⟨c, hc⟩ := hn (n, .free) List.mem_cons_self rfl
      have h2 : ∀ x c', ((n, c) :: acc).lookup x = some c' → env.cells.lookup x = some c' := fun x c' e => by
        rw [List.lookup_cons] at e
        by_cases hx : x = n
        · subst hx; simp at e; rw [← e]; exact hc
        · have : (x == n) = false := beq_eq_false_iff_ne.mpr hx
          rw [this] at e; exact h x c' e
      obtain ⟨cl, e1, e2, e3, e4⟩ := closure_eq r ((n, c) :: acc) (fun y hy => hn y (List.mem_cons_of_mem _ hy)) h2
      refine ⟨cl, ?_, e2, fun x q => e3 x ?_, fun y hy hf => ?_⟩
      · rw [List.forIn_cons]
        have : cellOf env n = pure c := by unfold cellOf; rw [hc]
        simp only [beq_self_eq_true, if_true, this]
        exact e1
      · rw [List.lookup_cons]
        by_cases hx : (x == n) = true
        · simp [hx]
        · simp only [hx]; exact q
      · rcases List.mem_cons.mp hy with z | z
        · subst z; exact e3 _ (by simp [List.lookup_cons])
        · exact e4 y z hf
    · obtain ⟨cl, e1, e2, e3, e4⟩ := closure_eq r acc (fun y hy => hn y (List.mem_cons_of_mem _ hy)) h
      refine ⟨cl, ?_, e2, e3, fun y hy hf => ?_⟩
      · rw [List.forIn_cons]
        have : (k == NameKind.free) = false := by simpa using hk
        simp only [this, Bool.false_eq_true, if_false]
        exact e1
      · rcases List.mem_cons.mp hy with z | z
        · subst z; exact absurd hf hk
        · exact e4 y z hf
theorem clos_of {X:Cx} {sc:Scope} (h:∀ y∈sc.names,y.2=.free→∃ c,X.env.cells.lookup y.1=some c):∃ cl,Clos X sc cl:=by
 obtain ⟨cl,e1,e2,e3,e4⟩:=closure_eq sc.names [] h (fun x c e=>by cases e)
 refine ⟨cl,?_,e2,fun x hx=>Option.isSome_iff_exists.mp (e4 (x,.free) (PySem.mem_of_lookup hx) rfl)⟩
 unfold closureFor
 exact congrArg (fun m=>m >>= fun cs=>pure cs) e1
section
variable {kk:Nat} {X:Cx} {cc:CC} {G:Fns}
theorem scOk_of {sc : Scope} (h : scOk cc sc = true) : sc.kind = .function ∧ (∀ y ∈ sc.names, y.2 = .cell → sc.names.lookup y.1 = some .cell) ∧ (∀ y ∈ sc.names, y.2 = .local → sc.names.lookup y.1 = some .local) ∧ (blockN sc).Nodup ∧
    ∀ y ∈ sc.names, y.2 = .free → sc.names.lookup y.1 = some .free ∧ (cc.names.lookup y.1 = some .cell ∨ cc.names.lookup y.1 = some .free) := by
  unfold scOk at h
  simp only [Bool.and_eq_true, beq_iff_eq, List.all_eq_true, bne_iff_ne, ne_eq, decide_eq_true_eq, Bool.or_eq_true] at h
  obtain ⟨⟨⟨⟨h1, h2⟩, h3⟩, h4⟩, h5⟩ := h
  refine ⟨h1, fun y hy hk => ?_, fun y hy hk => ?_, h4, fun y hy hk => ?_⟩
  · rcases h2 y hy with z | z
    · exact absurd hk z
    · exact z
  · rcases h3 y hy with z | z
    · exact absurd hk z
    · exact z
  · rcases h5 y hy with z | z
    · exact absurd hk z
    · exact z
theorem Good.block (g:Good kk X cc G) {sc:Scope} (h:scOk cc sc=true) {cl:List (Str×Addr)} (C:Addr) (s:Shared) (H:Hp) (fp:List Addr):Good kk (X.block sc cl C (blockN sc) s H fp []) (blk cc sc) G:=by
 obtain ⟨h1,h2,h3,h4,h5⟩:=scOk_of h
 refine ⟨g.calm,g.room,rfl,h4,fun x k e=>?_,fun x e=>?_,g.blt,g.fns⟩
 ·have e:sc.names.lookup x=some k:=e
  have r:=lookup_relabel (env:=X.env) e
  have kd:(X.block sc cl C (blockN sc) s H fp []).env.kindOf x=some (if (k == NameKind.free && X.env.scope.kind == .function && X.env.kindOf x == some .cell) then .cell else k):=r
  cases k with
  | «local»=>exact kd
  | cell=>exact kd
  | free =>
   show _∨_
   rw [kd]
   split
   ·exact .inl rfl
   ·exact .inr rfl
  | globalExplicit=>exact True.intro
  | globalImplicit=>exact kd
 ·have e:sc.names.lookup x=some .cell:=e
  show (sc.names.lookup x == some .cell)=true
  rw [e]
  rfl
theorem cap_ok (g:Good kk X cc G) {sc:Scope} (h:scOk cc sc=true):CapOk X sc (blockN sc) (capOf cc sc):=by
 obtain ⟨h1,h2,h3,h4,h5⟩:=scOk_of h
 refine ⟨by simp [capOf],fun i j x e1 e2=>?_⟩
 unfold capOf at e1
 rw [List.getElem?_map,e2] at e1
 simp only [Option.map_some,Option.some.injEq] at e1
 split at e1
 ·rename_i hf
  have hf:sc.names.lookup x=some .free:=by simpa using hf
  obtain ⟨_,ho⟩:=h5 (x,.free) (PySem.mem_of_lookup hf) rfl
  refine ⟨?_,hf,?_⟩
  ·rw [g.N]
   obtain ⟨hj,hx,_⟩:=List.findIdx?_eq_some_iff_getElem.mp e1
   rw [List.getElem?_eq_getElem hj]
   have:cc.N[j]=x:=by simpa using hx
   rw [this]
  ·rcases ho with ho | ho
   ·exact .inl (g.kinds x _ ho)
   ·exact g.kinds x _ ho
 ·cases e1
theorem capEn_sr {K:PySem.W.Frag} {ads:List Addr} {M:Mem} {ρ:En} {σ:L2.St} {H:Hp} (s:SR K ads M ρ σ H) (cap:List (Option Nat)):SR K ads M (capEn cap ρ) (capσ cap σ) H:=by
 refine ⟨s.mem,fun i d e=>?_,by simp [capEn,capσ]⟩
 unfold capEn at e
 unfold capσ
 rw [List.getElem?_map] at e ⊢
 cases q:cap[i]? with
 | none=>rw [q] at e; cases e
 | some o =>
  rw [q] at e
  cases o with
  | none=>cases e
  | some j =>
   have e:(ρ[j]?).join=some d:=Option.some.inj e
   have e2:ρ[j]?=some (some d):=by
    cases r:ρ[j]? with
    | none=>rw [r] at e; cases e
    | some z=>rw [r] at e; cases z with
     | none=>cases e
     | some y=>cases e; rfl
   obtain ⟨v,ev,rv⟩:=s.en j d e2
   exact ⟨v,by simp [ev],rv⟩
theorem Grow.upd_new {ads ads':List Addr} {H H':Hp} {D:Addr} {o:HO} (g:Grow ads ads' H H') (h:H D=none):Grow ads ads' H (upd H' D o) :=
 ⟨g.pre,g.new,fun b x n e=>by rw [upd_ne (fun z=>by subst z; rw [h] at e; cases e)]; exact g.kept b x n e,fun b x e=>by rw [upd_ne (fun z=>by subst z; rw [h] at e; cases e)]; exact g.tups b x e,
  fun b x u e=>by rw [upd_ne (fun z=>by subst z; rw [h] at e; cases e)]; exact g.frz b x u e⟩
theorem comp_key {K : PySem.W.Frag} {G : Fns} {it : Ev.It} {J : L2.It} {tg : List Nat} {cond : Option Tst} {elt : C} {cap : List (Option Nat)} {ads : List Addr} {M : Mem} {ρ : En} {σ : L2.St} {H : Hp} {Q : VK} {f : Nat}
    (s : SR K ads M ρ σ H) (hJ : RIt K ads H it J) (q : OkW K ads H Q (compGo (fun τ M => evCond G cond τ M) (fun τ M => (ev G elt τ M).bind own) it tg f 0 (capEn cap ρ) M [])) :
    tCompL cap (tG K tg) (cond.map fun t => tTs K (evT G t)) (tE K (ev G elt)) σ J H Q := by
  intro D hD
  have hDn := s.mem.fresh hD
  refine ⟨fun i m τ H' ys => ∃ ads' M' τρ acc, SR K ads' M' τρ τ H' ∧ Grow ads ads' H H' ∧ D ∉ ads' ∧ H' D = some (.lst ys) ∧ RDs K ads' H' acc ys ∧ OkW K ads H Q (compGo (fun τ M => evCond G cond τ M) (fun τ M => (ev G elt τ M).bind own) it tg m i τρ M' acc),
    ⟨f, ads, M, capEn cap ρ, [], ?_, (Grow.refl _ _).upd_new hD, hDn, upd_same, (by unfold RDs; rfl), q⟩, ?_⟩
  · have g0 : Grow ads ads H (upd H D (.lst [])) := Grow.new1 s.mem hD
    exact (capEn_sr s cap).grow g0 (s.mem.new1 hD)
  rintro i m τ H' ys ⟨ads', M', τρ, acc, s', g', dn, hl, ra, q'⟩
  refine ⟨hl, ?_⟩
  obtain ⟨r1, r2⟩ := hJ i ads' H' M' g' s'.mem
  have stop : itemAt M' i it = some none → OkW K ads H Q (.ok (.lv acc) M') → (J.stop i H' ∧ Q (.ref D) H') := fun hi q' =>
    ⟨r1 hi, q' (.ref D) H' ads' g' s'.mem ⟨D, ys, rfl, hD, hl, dn, ra⟩⟩
  cases m with
  | zero =>
    unfold compGo at q'
    split at q'
    · rename_i hi
      exact .inl (stop hi q')
    · exact q'.elim
  | succ m =>
    unfold compGo at q'
    split at q'
    · rename_i hi
      exact .inl (stop hi q')
    · rename_i d hi
      obtain ⟨go, yl⟩ := r2 d hi
      cases hb : bindT tg d τρ with
      | none => rw [hb] at q'; exact q'.elim
      | some τ1 =>
        rw [hb] at q'
        dsimp only at q'
        split at q'
        · rename_i hz
          refine .inr ⟨go, by rw [← ra.len]; exact hz, fun x H2 y => ?_⟩
          obtain ⟨g2, m2, rd⟩ := yl x H2 y
          have hl2 : H2 D = some (.lst ys) := g2.kept D _ dn hl
          refine ⟨ads', M', τρ, d, s'.grow g2 m2, rd, τ1, hb, fun τ2 s2 => ?_⟩
          have rest : ∀ b M3 H3 ads3, Grow ads' ads3 H2 H3 → MRel K ads3 H3 M3 → OkW K ads H Q (if b = true then ((ev G elt τ1 M3).bind own).bind fun x M => compGo (fun τ M => evCond G cond τ M) (fun τ M => (ev G elt τ M).bind own) it tg m (i + 1) τ1 M (acc ++ [x]) else compGo (fun τ M => evCond G cond τ M) (fun τ M => (ev G elt τ M).bind own) it tg m (i + 1) τ1 M3 acc) →
              (if b = true then tE K (ev G elt) τ2 H3 fun v H4 => H4 D = some (.lst ys) ∧ ∃ m', m' < m + 1 ∧ ∃ ads' M' τρ acc, SR K ads' M' τρ τ2 (upd H4 D (.lst (ys ++ [v]))) ∧ Grow ads ads' H (upd H4 D (.lst (ys ++ [v]))) ∧ D ∉ ads' ∧ (upd H4 D (.lst (ys ++ [v]))) D = some (.lst (ys ++ [v])) ∧ RDs K ads' (upd H4 D (.lst (ys ++ [v]))) acc (ys ++ [v]) ∧ OkW K ads H Q (compGo (fun τ M => evCond G cond τ M) (fun τ M => (ev G elt τ M).bind own) it tg m' (i + 1) τρ M' acc)
               else ∃ m', m' < m + 1 ∧ ∃ ads' M' τρ acc, SR K ads' M' τρ τ2 H3 ∧ Grow ads ads' H H3 ∧ D ∉ ads' ∧ H3 D = some (.lst ys) ∧ RDs K ads' H3 acc ys ∧ OkW K ads H Q (compGo (fun τ M => evCond G cond τ M) (fun τ M => (ev G elt τ M).bind own) it tg m' (i + 1) τρ M' acc)) := by
            intro b M3 H3 ads3 g3 m3 q3
            have dn3 : D ∉ ads3 := g3.notin dn hl2
            have hl3 : H3 D = some (.lst ys) := g3.kept D _ dn hl2
            have s3 := s2.grow g3 m3
            have gg := (g'.trans g2).trans g3
            have ra3 := (g2.trans g3).rds _ _ ra
            cases b with
            | false =>
              rw [if_neg (by simp)] at q3 ⊢
              exact ⟨m, Nat.lt_succ_self _, ads3, M3, τ1, acc, s3, gg, dn3, hl3, ra3, q3⟩
            | true =>
              rw [if_pos rfl] at q3 ⊢
              refine ⟨ads3, M3, τ1, s3, ?_⟩
              cases he : ev G elt τ1 M3 with
              | ok w M4 =>
                rw [he] at q3
                intro v H4 ads4 g4 m4 r4
                have q3 : OkW K ads H Q ((own w M4).bind fun x M => compGo (fun τ M => evCond G cond τ M) (fun τ M => (ev G elt τ M).bind own) it tg m (i + 1) τ1 M (acc ++ [x])) := q3
                have hl4 : H4 D = some (.lst ys) := g4.kept D _ dn3 hl3
                refine ⟨hl4, m, Nat.lt_succ_self _, ?_⟩
                cases ho : own w M4 with
                | ok dd M5 =>
                  rw [ho] at q3
                  obtain ⟨ads5, g5, m5, rd5⟩ := own_ok s3.mem g4 m4 r4 ho
                  have dn5 : D ∉ ads5 := g5.notin dn3 hl3
                  have tk : TF H4 (upd H4 D (.lst (ys ++ [v]))) := ⟨fun b xs e => by rw [upd_ne (fun z => by subst z; rw [hl4] at e; cases e)]; exact e, fun b o u e => by rw [upd_ne (fun z => by subst z; rw [hl4] at e; cases e)]; exact e⟩
                  have m6 : MRel K ads5 (upd H4 D (.lst (ys ++ [v]))) M5 := m5.keep tk fun a ha => upd_ne (fun z => by subst z; exact dn5 ha)
                  have en6 : REn K ads5 (upd H4 D (.lst (ys ++ [v]))) τ1 τ2 := fun j d e => by
                    obtain ⟨u, e1, r⟩ := g5.ren s3.en j d e
                    exact ⟨u, e1, RD.keep tk _ _ r⟩
                  exact ⟨ads5, M5, τ1, acc ++ [dd], ⟨m6, en6, s3.ln⟩, (gg.trans g5).upd_new hD, dn5, upd_same, RDs.keep tk _ _ ((g5.rds _ _ ra3).app (.one rd5)), q3⟩
                | err _ _ => cases w <;> cases ho
                | stuck => cases w <;> cases ho
              | err _ _ => rw [he] at q3; exact q3
              | stuck => rw [he] at q3; exact q3
          cases cond with
          | none =>
            exact rest true M' H2 ads' (Grow.refl _ _) m2 q'
          | some t =>
            show tTs K (evT G t) τ2 H2 _
            refine ⟨ads', M', τ1, s2, ?_⟩
            have q' : OkW K ads H Q ((evT G t τ1 M').bind fun b M => if b = true then ((ev G elt τ1 M).bind own).bind fun x M => compGo (fun τ M => evCond G (some t) τ M) (fun τ M => (ev G elt τ M).bind own) it tg m (i + 1) τ1 M (acc ++ [x]) else compGo (fun τ M => evCond G (some t) τ M) (fun τ M => (ev G elt τ M).bind own) it tg m (i + 1) τ1 M acc) := q'
            cases ht : evT G t τ1 M' with
            | ok b M3 =>
              rw [ht] at q'
              intro H3 ads3 g3 m3
              exact rest b M3 H3 ads3 g3 m3 q'
            | err _ _ => rw [ht] at q'; exact q'
            | stuck => rw [ht] at q'; exact q'
        · exact q'.elim
    · exact q'.elim
end
end Ev
end
section
set_option Elab.async false
set_option linter.all false
set_option maxRecDepth 100000
set_option maxHeartbeats 4000000
namespace Ev
open L2
open PySem PySem.Spec PyProof.Rows
section
variable {kk:Nat} {G:Fns}
theorem foldSet {e:Expr} (h:notSet e=true) (env:Env):∀ x,foldedSetIterable e env x=pure x:=by
 intro x
 cases e <;> first | rfl | exact absurd (show false=true from h) Bool.false_ne_true
theorem s_comp {X : Cx} {cc : CC} {k : SK} {src : List C} {tg : List Nat} {cond : Option Tst} {elt : C} {cap : List (Option Nat)} {el t iter : Expr} {ifs : List Expr} {sc : Scope} {pos : Pos} (g : Good kk X cc G) (hsc : scOk cc sc = true) (hcap : cap = capOf cc sc) (hns : notSet iter = true)
    (hsrc : PI X t iter (tI X.K (evSrc G k src))) (htg : chkTg (blk cc sc) tg t = true) (hcond : chkC (blk cc sc) cond ifs = true)
    (ihc : ∀ t, cond = some t → ∀ X' : Cx, X'.K = X.K → Good kk X' (blk cc sc) G → ∀ e, chkT (blk cc sc) t e = true → PT X' e (tTs X'.K (evT G t))) (ihe : ∀ X' : Cx, X'.K = X.K → Good kk X' (blk cc sc) G → PE X' el (tE X'.K (ev G elt))) :
    ∃ (wi : TI) (cl : (X : Cx) → Prop), True ∧ PE X (.ListComp el [⟨t, iter, ifs, 0⟩] sc pos) (tE X.K (ev G (.comp k src tg cond elt cap))) := by
  refine ⟨fun _ _ _ => True, fun _ => True, True.intro, ?_⟩
  intro pins s σ H Q I q
  obtain ⟨h1, h2, h3, h4, h5⟩ := scOk_of hsc
  obtain ⟨cl, hcl⟩ := clos_of (X := X) (sc := sc) fun y hy hf => by
    obtain ⟨_, ho⟩ := h5 y hy hf
    refine I.ok.has y.1 ?_
    rcases ho with ho | ho
    · exact .inl (g.kinds _ _ ho)
    · exact g.kinds _ _ ho
  have ck : CompOk X sc (blockN sc) cap cl t el ifs (tG X.K tg) (cond.map fun t => tTs X.K (evT G t)) (tE X.K (ev G elt)) := by
    refine ⟨h1, h2, h3, hcl, hcap ▸ cap_ok g hsc, fun C s H fp => g_target (g.block hsc C s H fp) htg, ?_, fun C s H fp => ihe _ rfl (g.block hsc C s H fp)⟩
    cases cond with
    | none =>
      cases ifs with
      | nil => rfl
      | cons _ _ => cases hcond
    | some tt =>
      cases ifs with
      | nil => cases hcond
      | cons e es =>
        cases es with
        | cons _ _ => cases hcond
        | nil => exact ⟨e, rfl, fun C s H fp => ihc tt rfl (X.block sc cl C (blockN sc) s H fp []) rfl (g.block hsc C s H fp) e hcond⟩
  refine pe_comp g.calm hsrc ck (foldSet hns X.env) pins s σ H Q I ?_
  obtain ⟨ads, M, ρ, sr, q⟩ := q
  refine ⟨ads, M, ρ, sr, ?_⟩
  have q : OkW X.K ads H Q ((evSrc G k src ρ M).bind fun it M => compGo (fun τ M => evCond G cond τ M) (fun τ M => (ev G elt τ M).bind own) it tg (itLen M it) 0 (capEn cap ρ) M []) := by
    simp only [ev] at q
    unfold evSrc
    cases hw : evWs G src ρ M with
    | ok ws M1 => rw [hw] at q; exact q
    | err _ _ => rw [hw] at q; exact q
    | stuck => rw [hw] at q; exact q
  cases hs : evSrc G k src ρ M with
  | ok it M1 =>
    rw [hs] at q
    intro J H1 ads1 g1 m1 rj
    exact comp_key (sr.grow g1 m1) rj (OkW.shift (o := compGo (fun τ M => evCond G cond τ M) (fun τ M => (ev G elt τ M).bind own) it tg (itLen M1 it) 0 (capEn cap ρ) M1 []) q g1 sr.mem m1)
  | err _ _ => rw [hs] at q; exact q
  | stuck => rw [hs] at q; exact q
end
mutual
theorem ok_e {kk:Nat} {G:Fns}:∀ (c:C) (cc:CC) (X:Cx) (e:Expr),Good kk X cc G→chk cc c e=true→PE X e (tE X.K (ev G c))
 | .var i,cc,X,e,g,h=>s_var g h
 | .cst d,cc,X,e,g,h=>s_cst h
 | .bin op a b,cc,X,e,g,h=>s_bin (fun e h=>ok_e a cc X e g h) (fun e h=>ok_e b cc X e g h) h
 | .cmp op a b,cc,X,e,g,h=>(s_cmp g (fun e h=>ok_e a cc X e g h) (fun e h=>ok_e b cc X e g h) h).1
 | .chain o1 o2 a b c,cc,X,e,g,h=>(s_chain g (fun e h=>ok_e a cc X e g h) (fun e h=>ok_e b cc X e g h) (fun e h=>ok_e c cc X e g h) h).1
 | .conj cs,_,_,_,_,h=>absurd (show false=true from h) Bool.false_ne_true
 | .disj cs,_,_,_,_,h=>absurd (show false=true from h) Bool.false_ne_true
 | .neg a,cc,X,e,g,h=>s_neg (fun e h=>ok_e a cc X e g h) h
 | .ite t a b,_,_,_,_,h=>absurd (show false=true from h) Bool.false_ne_true
 | .tup cs,cc,X,e,g,h=>s_tup (fun es h=>ok_ds cs cc X es g h) h
 | .lst cs,cc,X,e,g,h=>s_lst (fun es h=>ok_ds cs cc X es g h) h
 | .sub a b,cc,X,e,g,h=>onSubscript_el (P:=fun e=>PE X e _) h fun e i pos h=>by
  simp only [Bool.and_eq_true] at h
  exact s_sub g h.1.1 (ok_e a cc X e g h.1.2) (ok_e b cc X i g h.2)
 | .slc a lo hi,cc,X,e,g,h=>onSubscript_el (P:=fun e=>PE X e _) h fun e i pos h=>onSlice_el (P:=fun i=>PE X (.Subscript e i pos) _) h fun l u st p h=>by
  simp only [Bool.and_eq_true] at h
  cases st with
  | some _=>exact absurd h.1.1.1 Bool.false_ne_true
  | none=>exact s_slc (ok_e a cc X e g h.1.1.2) (ok_o lo cc X l g h.1.2) (ok_o hi cc X u g h.2)
 | .stp a k,_,_,_,_,h=>absurd (show false=true from h) Bool.false_ne_true
 | .sfind a b,_,_,_,_,h=>absurd (show false=true from h) Bool.false_ne_true
 | .call f cs,cc,X,e,g,h=>onCall_el (P:=fun e=>PE X e _) h fun fe args kws pos h=>onName_el (P:=fun fe=>PE X (.Call fe args kws pos) _) h fun x p h=>by
  rcases args with _ | ⟨e,es⟩ <;> first | exact absurd h Bool.false_ne_true | skip
  cases kws <;> first | exact absurd h Bool.false_ne_true | skip
  simp only [Bool.and_eq_true,beq_iff_eq] at h
  exact s_call g h.1.1.1 h.1.1.2 h.1.2 h.2 (ok_ds cs cc X (e::es) g h.2)
 | .bi b cs,cc,X,e,g,h=>onCall_el (P:=fun e=>PE X e _) h fun fe args kws pos h0=>onName_el (P:=fun fe=>PE X (.Call fe args kws pos) _) h0 fun x p h=>by
  clear h0
  replace h:=(Bool.and_eq_true _ _).mp h
  have h1:=h.1
  replace h:=h.2
  simp only [Bool.and_eq_true,List.isEmpty_iff] at h1
  obtain ⟨⟨rfl,hx⟩,hg⟩:=h1
  cases hb:isiTy b with
  | none =>
   rw [hb] at h
   rcases args with _ | ⟨e,es⟩ <;> first | exact absurd h Bool.false_ne_true | skip
   replace h:=(Bool.and_eq_true _ _).mp h
   have hst:notStar e=true∧chks cc cs.tail es=true:=by
    cases cs with
    | nil=>exact absurd h.2 Bool.false_ne_true
    | cons c cs =>
     have h':(notStar e && chk cc c e && chks cc cs es)=true:=h.2
     simp only [Bool.and_eq_true] at h'
     exact ⟨h'.1.1,h'.2⟩
   exact s_bi g h.1 (eq_of_beq hx) hg hst.1 hst.2 (ok_ws cs cc X (e::es) g h.2)
  | some t =>
   rw [hb] at h
   obtain rfl:=isiTy_some hb
   rcases args with _ | ⟨e,_ | ⟨f,_ | ⟨f2,fs⟩⟩⟩ <;> first | exact absurd h Bool.false_ne_true | skip
   replace h:=(Bool.and_eq_true _ _).mp h
   refine onName_el (P:=fun f=>PE X (.Call (.Name x p) [e,f] [] pos) _) h.1 fun y py hy=>?_
   simp only [Bool.and_eq_true,decide_eq_true_eq] at hy
   rcases cs with _ | ⟨c,_ | ⟨c2,cs⟩⟩
   ·exact absurd h.2 Bool.false_ne_true
   ·have h7:(notStar e && chk cc c e && true)=true:=h.2
    simp only [Bool.and_eq_true] at h7
    exact s_isi g (eq_of_beq hx) hg (eq_of_beq hy.1.1) hy.1.2 hy.2 h7.1.1 (ok_e c cc X e g h7.1.2)
   ·have h7:(notStar e && chk cc c e && chks cc (c2::cs) [])=true:=h.2
    simp only [Bool.and_eq_true] at h7
    exact absurd h7.2 Bool.false_ne_true
 | .me m o cs,cc,X,e,g,h=>onCall_el (P:=fun e=>PE X e _) h fun fe args kws pos h=>onAttribute_el (P:=fun fe=>PE X (.Call fe args kws pos) _) h fun e n ap h=>by
  simp only [Bool.and_eq_true,List.isEmpty_iff] at h
  obtain ⟨⟨⟨⟨⟨⟨⟨rfl,h1⟩,h2⟩,h3⟩,h4⟩,h5⟩,h6⟩,h7⟩:=h
  exact s_me (eq_of_beq h1) h2 h3 h4 h6 (of_decide_eq_true h7) (ok_e o cc X e g h5) (ok_ds cs cc X args g h6)
 | .dct ks cs,_,_,_,_,h=>absurd (show false=true from h) Bool.false_ne_true
 | .rng tp cs,_,_,_,_,h=>absurd (show false=true from h) Bool.false_ne_true
 | .usub a,cc,X,e,g,h=>onUnaryOp_el (P:=fun e=>PE X e _) h fun op x pos h=>by
  replace h:=(Bool.and_eq_true _ _).mp h
  cases op <;> first | exact absurd h.1 Bool.false_ne_true | skip
  exact s_usub (ok_e a cc X x g h.2)
 | .minD a b,cc,X,e,g,h=>onCall_el (P:=fun e=>PE X e _) h fun fe args kws pos h=>onName_el (P:=fun fe=>PE X (.Call fe args kws pos) _) h fun x p h=>by
  rcases args with _ | ⟨a',_ | ⟨a2,as⟩⟩ <;> first | exact absurd h Bool.false_ne_true | skip
  rcases kws with _ | ⟨⟨_ | k,v,kp⟩,_ | ⟨k2,ks⟩⟩ <;> first | exact absurd h Bool.false_ne_true | skip
  simp only [Bool.and_eq_true] at h
  obtain ⟨⟨⟨⟨⟨h1,h2⟩,h3⟩,h4⟩,h5⟩,h6⟩:=h
  exact s_minD g (eq_of_beq h1) h2 (eq_of_beq h3) h4 (ok_e a cc X a' g h5) (ok_e b cc X v g h6)
 | .comp k src tg cond elt cap,cc,X,e,g,h=>onListComp_el (P:=fun e=>PE X e _) h fun el gens sc pos h=>by
  rcases gens with _ | ⟨⟨t,iter,ifs,as⟩,_ | ⟨_,_⟩⟩ <;> first | exact absurd h Bool.false_ne_true | skip
  simp only [Bool.and_eq_true,beq_iff_eq,decide_eq_true_eq] at h
  obtain ⟨⟨⟨⟨⟨⟨rfl,h1⟩,h2⟩,h3⟩,h4⟩,h5⟩,h6⟩:=h
  obtain ⟨hsrc,hns⟩:=ok_src src k cc X t iter g h3
  obtain ⟨_,_,_,r⟩:=s_comp (pos:=pos) g h1 h2 hns hsrc h4 h5 (fun t ht X' _ g' e he=>ok_cond cond (blk cc sc) X' g' t ht e he) (fun X' _ g'=>ok_e elt (blk cc sc) X' el g' h6)
  exact r
theorem ok_t {kk:Nat} {G:Fns}:∀ (t:Tst) (cc:CC) (X:Cx) (e:Expr),Good kk X cc G→chkT cc t e=true→PT X e (tTs X.K (evT G t))
 | .val (.cmp op a b),cc,X,e,g,h=>t_test bl_cmp (s_cmp g (fun e h=>ok_e a cc X e g h) (fun e h=>ok_e b cc X e g h) h).2
 | .val (.chain o1 o2 a b c),cc,X,e,g,h=>t_test bl_chain (s_chain g (fun e h=>ok_e a cc X e g h) (fun e h=>ok_e b cc X e g h) (fun e h=>ok_e c cc X e g h) h).2
 | .val (.var i),cc,X,e,g,h=>by
  have h':(plainTest e && chk cc (.var i) e)=true:=h
  simp only [Bool.and_eq_true] at h'
  exact t_plain h'.1 (ok_e (.var i) cc X e g h'.2)
 | .val (.cst d),cc,X,e,g,h=>by
  have h':(plainTest e && chk cc (.cst d) e)=true:=h
  simp only [Bool.and_eq_true] at h'
  exact t_plain h'.1 (ok_e (.cst d) cc X e g h'.2)
 | .val (.bin op a b),cc,X,e,g,h=>by
  have h':(plainTest e && chk cc (.bin op a b) e)=true:=h
  simp only [Bool.and_eq_true] at h'
  exact t_plain h'.1 (ok_e (.bin op a b) cc X e g h'.2)
 | .val (.conj cs),cc,X,e,g,h=>by
  have h':(plainTest e && chk cc (.conj cs) e)=true:=h
  simp only [Bool.and_eq_true] at h'
  exact t_plain h'.1 (ok_e (.conj cs) cc X e g h'.2)
 | .val (.disj cs),cc,X,e,g,h=>by
  have h':(plainTest e && chk cc (.disj cs) e)=true:=h
  simp only [Bool.and_eq_true] at h'
  exact t_plain h'.1 (ok_e (.disj cs) cc X e g h'.2)
 | .val (.neg a),cc,X,e,g,h=>by
  have h':(plainTest e && chk cc (.neg a) e)=true:=h
  simp only [Bool.and_eq_true] at h'
  exact t_plain h'.1 (ok_e (.neg a) cc X e g h'.2)
 | .val (.ite t a b),cc,X,e,g,h=>by
  have h':(plainTest e && chk cc (.ite t a b) e)=true:=h
  simp only [Bool.and_eq_true] at h'
  exact t_plain h'.1 (ok_e (.ite t a b) cc X e g h'.2)
 | .val (.tup cs),cc,X,e,g,h=>by
  have h':(plainTest e && chk cc (.tup cs) e)=true:=h
  simp only [Bool.and_eq_true] at h'
  exact t_plain h'.1 (ok_e (.tup cs) cc X e g h'.2)
 | .val (.lst cs),cc,X,e,g,h=>by
  have h':(plainTest e && chk cc (.lst cs) e)=true:=h
  simp only [Bool.and_eq_true] at h'
  exact t_plain h'.1 (ok_e (.lst cs) cc X e g h'.2)
 | .val (.sub a b),cc,X,e,g,h=>by
  have h':(plainTest e && chk cc (.sub a b) e)=true:=h
  simp only [Bool.and_eq_true] at h'
  exact t_plain h'.1 (ok_e (.sub a b) cc X e g h'.2)
 | .val (.slc a lo hi),cc,X,e,g,h=>by
  have h':(plainTest e && chk cc (.slc a lo hi) e)=true:=h
  simp only [Bool.and_eq_true] at h'
  exact t_plain h'.1 (ok_e (.slc a lo hi) cc X e g h'.2)
 | .val (.stp a k),cc,X,e,g,h=>by
  have h':(plainTest e && chk cc (.stp a k) e)=true:=h
  simp only [Bool.and_eq_true] at h'
  exact t_plain h'.1 (ok_e (.stp a k) cc X e g h'.2)
 | .val (.sfind a b),cc,X,e,g,h=>by
  have h':(plainTest e && chk cc (.sfind a b) e)=true:=h
  simp only [Bool.and_eq_true] at h'
  exact t_plain h'.1 (ok_e (.sfind a b) cc X e g h'.2)
 | .val (.call f cs),cc,X,e,g,h=>by
  have h':(plainTest e && chk cc (.call f cs) e)=true:=h
  simp only [Bool.and_eq_true] at h'
  exact t_plain h'.1 (ok_e (.call f cs) cc X e g h'.2)
 | .val (.bi b cs),cc,X,e,g,h=>by
  have h':(plainTest e && chk cc (.bi b cs) e)=true:=h
  simp only [Bool.and_eq_true] at h'
  exact t_plain h'.1 (ok_e (.bi b cs) cc X e g h'.2)
 | .val (.me m o cs),cc,X,e,g,h=>by
  have h':(plainTest e && chk cc (.me m o cs) e)=true:=h
  simp only [Bool.and_eq_true] at h'
  exact t_plain h'.1 (ok_e (.me m o cs) cc X e g h'.2)
 | .val (.dct ks cs),cc,X,e,g,h=>by
  have h':(plainTest e && chk cc (.dct ks cs) e)=true:=h
  simp only [Bool.and_eq_true] at h'
  exact t_plain h'.1 (ok_e (.dct ks cs) cc X e g h'.2)
 | .val (.rng tp cs),cc,X,e,g,h=>by
  have h':(plainTest e && chk cc (.rng tp cs) e)=true:=h
  simp only [Bool.and_eq_true] at h'
  exact t_plain h'.1 (ok_e (.rng tp cs) cc X e g h'.2)
 | .val (.usub a),cc,X,e,g,h=>by
  have h':(plainTest e && chk cc (.usub a) e)=true:=h
  simp only [Bool.and_eq_true] at h'
  exact t_plain h'.1 (ok_e (.usub a) cc X e g h'.2)
 | .val (.minD a b),cc,X,e,g,h=>by
  have h':(plainTest e && chk cc (.minD a b) e)=true:=h
  simp only [Bool.and_eq_true] at h'
  exact t_plain h'.1 (ok_e (.minD a b) cc X e g h'.2)
 | .val (.comp k src tg cond elt cap),cc,X,e,g,h=>by
  have h':(plainTest e && chk cc (.comp k src tg cond elt cap) e)=true:=h
  simp only [Bool.and_eq_true] at h'
  exact t_plain h'.1 (ok_e (.comp k src tg cond elt cap) cc X e g h'.2)
 | .conj ts,cc,X,e,g,h=>by
  refine onBoolOp_el (P:=fun e=>PT X e _) h fun op es pos h=>?_
  simp only [Bool.and_eq_true,Bool.not_eq_true',List.isEmpty_eq_false_iff] at h
  cases op with
  | Or=>exact absurd h.1.1 Bool.false_ne_true
  | And=>exact ptI (t_all ts es pos (ok_ts ts cc X g) h.1.2 h.2).pt fun σ H Q q=>q
 | .disj ts,cc,X,e,g,h=>by
  refine onBoolOp_el (P:=fun e=>PT X e _) h fun op es pos h=>?_
  simp only [Bool.and_eq_true,Bool.not_eq_true',List.isEmpty_eq_false_iff] at h
  cases op with
  | And=>exact absurd h.1.1.symm Bool.false_ne_true
  | Or=>exact ptI (t_any ts es pos (ok_ts ts cc X g) h.1.2 h.2).pt fun σ H Q q=>q
 | .neg t,cc,X,e,g,h=>by
  refine onUnaryOp_el (P:=fun e=>PT X e _) h fun op x pos h=>?_
  replace h:=(Bool.and_eq_true _ _).mp h
  cases op <;> first | exact absurd h.1 Bool.false_ne_true | skip
  exact t_neg (ok_t t cc X x g h.2)
theorem ok_ds {kk:Nat} {G:Fns}:∀ (cs:List C) (cc:CC) (X:Cx) (es:List Expr),Good kk X cc G→chks cc cs es=true→PA X es (tDs X.K (evDs G cs))
 | [],cc,X,[],g,h=>s_nil
 | [],cc,X,_::_,g,h=>by cases h
 | _::_,cc,X,[],g,h=>by cases h
 | c::cs,cc,X,e::es,g,h=>by
  have h':(notStar e && chk cc c e && chks cc cs es)=true:=h
  simp only [Bool.and_eq_true] at h'
  exact s_cons h'.1.1 (ok_e c cc X e g h'.1.2) (ok_ds cs cc X es g h'.2)
theorem ok_ws {kk:Nat} {G:Fns}:∀ (cs:List C) (cc:CC) (X:Cx) (es:List Expr),Good kk X cc G→chks cc cs es=true→PA X es (tWs X.K (evWs G cs))
 | [],cc,X,[],g,h=>w_nil
 | [],cc,X,_::_,g,h=>by cases h
 | _::_,cc,X,[],g,h=>by cases h
 | c::cs,cc,X,e::es,g,h=>by
  have h':(notStar e && chk cc c e && chks cc cs es)=true:=h
  simp only [Bool.and_eq_true] at h'
  exact w_cons h'.1.1 (ok_e c cc X e g h'.1.2) (ok_ws cs cc X es g h'.2)
theorem ok_all {kk:Nat} {G:Fns}:∀ (cs:List C) (cc:CC) (X:Cx),Good kk X cc G→∀ c∈cs,∀ e,chk cc c e=true→PE X e (tE X.K (ev G c))
 | [],cc,X,g,c,hc,e,h=>by cases hc
 | c::cs,cc,X,g,c',hc,e,h=>by
  rcases List.mem_cons.mp hc with z | z
  ·rw [z] at h ⊢; exact ok_e c cc X e g h
  ·exact ok_all cs cc X g c' z e h
theorem ok_ts {kk:Nat} {G:Fns}:∀ (ts:List Tst) (cc:CC) (X:Cx),Good kk X cc G→∀ t∈ts,∀ e,chkT cc t e=true→PT X e (tTs X.K (evT G t))
 | [],cc,X,g,c,hc,e,h=>by cases hc
 | c::cs,cc,X,g,c',hc,e,h=>by
  rcases List.mem_cons.mp hc with z | z
  ·rw [z] at h ⊢; exact ok_t c cc X e g h
  ·exact ok_ts cs cc X g c' z e h
theorem ok_o {kk:Nat} {G:Fns}:∀ (o:Option C) (cc:CC) (X:Cx) (e:Option Expr),Good kk X cc G→chkO cc o e=true→PO X e (tO X.K (evO G o))
 | none,cc,X,none,g,h=>s_optN
 | none,cc,X,some _,g,h=>by cases h
 | some _,cc,X,none,g,h=>by cases h
 | some c,cc,X,some e,g,h=>s_optS (ok_e c cc X e g h)
theorem ok_cond {kk:Nat} {G:Fns}:∀ (o:Option Tst) (cc:CC) (X:Cx),Good kk X cc G→∀ t,o=some t→∀ e,chkT cc t e=true→PT X e (tTs X.K (evT G t))
 | none,cc,X,g,t,ht,e,h=>by cases ht
 | some c,cc,X,g,t,ht,e,h=>by cases ht; exact ok_t c cc X e g h
theorem ok_src {kk:Nat} {G:Fns}:∀ (src:List C) (k:SK) (cc:CC) (X:Cx) (t iter:Expr),Good kk X cc G→chkSrc cc k src t iter=true→PI X t iter (tI X.K (evSrc G k src))∧notSet iter=true
 | [],k,cc,X,t,iter,g,h=>by cases k <;> cases h
 | [c],.seq,cc,X,t,iter,g,h=>by
  have h':(notSet iter && chk cc c iter)=true:=h
  simp only [Bool.and_eq_true] at h'
  exact ⟨src_seq (ok_e c cc X iter g h'.2),h'.1⟩
 | [c],.rng1,cc,X,t,iter,g,h=>by
  refine onCall_el (P:=fun iter=>PI X t iter _∧notSet iter=true) h fun fe args kws pos h=>onName_el (P:=fun fe=>PI X t (.Call fe args kws pos) _∧notSet (.Call fe args kws pos)=true) h fun x p h=>?_
  rcases args with _ | ⟨a,_ | ⟨a2,as⟩⟩ <;> first | exact absurd h Bool.false_ne_true | skip
  cases kws <;> first | exact absurd h Bool.false_ne_true | skip
  simp only [Bool.and_eq_true] at h
  exact ⟨src_rng1 g (eq_of_beq h.1.1.1) h.1.1.2 h.1.2 (ok_e c cc X a g h.2),rfl⟩
 | [c],.enum,cc,X,t,iter,g,h=>by cases h
 | [c],.rng2,cc,X,t,iter,g,h=>by cases h
 | [c],.zip,cc,X,t,iter,g,h=>by cases h
 | [c],.rngd,cc,X,t,iter,g,h=>by cases h
 | [c,d],.rng2,cc,X,t,iter,g,h=>by cases h
 | [c,d],.seq,cc,X,t,iter,g,h=>by cases h
 | [c,d],.rngd,cc,X,t,iter,g,h=>by cases h
 | [c,d],.rng1,cc,X,t,iter,g,h=>by cases h
 | [c,d],.enum,cc,X,t,iter,g,h=>by cases h
 | [c,d],.zip,cc,X,t,iter,g,h=>by
  refine onCall_el (P:=fun iter=>PI X t iter _∧notSet iter=true) h fun fe args kws pos h=>onName_el (P:=fun fe=>PI X t (.Call fe args kws pos) _∧notSet (.Call fe args kws pos)=true) h fun x p h=>?_
  rcases args with _ | ⟨a,_ | ⟨b,_ | ⟨a2,as⟩⟩⟩ <;> first | exact absurd h Bool.false_ne_true | skip
  cases kws <;> first | exact absurd h Bool.false_ne_true | skip
  simp only [Bool.and_eq_true] at h
  exact ⟨src_zip g (eq_of_beq h.1.1.1.1.1.1) h.1.1.1.1.1.2 h.1.1.1.1.2 h.1.1.1.2 h.1.1.2 (ok_e c cc X a g h.1.2) (ok_e d cc X b g h.2),rfl⟩
 | [c,d,m],.rngd,cc,X,t,iter,g,h=>by
  refine onCall_el (P:=fun iter=>PI X t iter _∧notSet iter=true) h fun fe args kws pos h=>onName_el (P:=fun fe=>PI X t (.Call fe args kws pos) _∧notSet (.Call fe args kws pos)=true) h fun x p h=>?_
  rcases args with _ | ⟨a,_ | ⟨b,_ | ⟨z,_ | ⟨z2,zs⟩⟩⟩⟩ <;> first | exact absurd h Bool.false_ne_true | skip
  cases kws <;> first | exact absurd h Bool.false_ne_true | skip
  simp only [Bool.and_eq_true] at h
  obtain ⟨⟨⟨⟨⟨⟨⟨h1,h2⟩,h3⟩,h4⟩,h5⟩,h6⟩,h7⟩,h8⟩:=h
  exact ⟨src_rngd g (eq_of_beq h1) h2 h3 h4 h5 (ok_e c cc X a g h6) (ok_e d cc X b g h7) (ok_e m cc X z g h8),rfl⟩
 | [c,d,m],.seq,cc,X,t,iter,g,h=>by cases h
 | [c,d,m],.rng1,cc,X,t,iter,g,h=>by cases h
 | [c,d,m],.rng2,cc,X,t,iter,g,h=>by cases h
 | [c,d,m],.enum,cc,X,t,iter,g,h=>by cases h
 | [c,d,m],.zip,cc,X,t,iter,g,h=>by cases h
 | _::_::_::_::_,k,cc,X,t,iter,g,h=>by cases k <;> cases h
end
end Ev
end
section
set_option Elab.async false
set_option linter.all false
set_option maxRecDepth 100000
set_option maxHeartbeats 4000000
namespace Ev
open L2
open PySem PySem.Spec PyProof.Rows
inductive S where
 | asg (tg:List Nat) (c:C)
 | asgC (i:Nat) (c:C)
 | put (o i v:C)
 | par (i j:Nat) (a b:C)
 | expr (c:C)
 | ret (c:C)
 | retN
 | iff (t:Tst) (a b:List S)
 | forr (tg:List Nat) (k:SK) (src:List C) (b:List S)
 | never | pass | brk | cont
inductive OutS where
 | nx (ρ:En) (M:Mem) | rt (w:W) (M:Mem) | bk (ρ:En) (M:Mem) | ct (ρ:En) (M:Mem) | stuck
def OutS.ofE {α:Type} (o:Out α) (f:α→Mem→OutS):OutS:=match o with
 | .ok a M=>f a M
 | _=>.stuck
def OutS.seq (o:OutS) (f:En→Mem→OutS):OutS:=match o with
 | .nx ρ M=>f ρ M
 | o=>o
def forGo (body:En→Mem→OutS) (it:Ev.It) (tg:List Nat):Nat→Nat→En→Mem→OutS
 | 0,i,ρ,M=>match itemAt M i it with
  | some none=>.nx ρ M
  | _=>.stuck
 | f+1,i,ρ,M=>match itemAt M i it with
  | some none=>.nx ρ M
  | some (some d)=>match bindT tg d ρ with
   | none=>.stuck
   | some ρ=>match body ρ M with
    | .nx ρ M=>forGo body it tg f (i+1) ρ M
    | .ct ρ M=>forGo body it tg f (i+1) ρ M
    | .bk ρ M=>.nx ρ M
    | .rt w M=>.rt w M
    | .stuck=>.stuck
  | none=>.stuck
mutual
def evS (G:Fns):S→En→Mem→OutS
 | .asg tg c,ρ,M=>OutS.ofE ((ev G c ρ M).bind own) fun d M=>match bindT tg d ρ with
  | some ρ=>.nx ρ M
  | none=>.stuck
 | .asgC i c,ρ,M=>OutS.ofE ((ev G c ρ M).bind own) fun d M=>.nx (ρ.set i (some d)) M
 | .put o i v,ρ,M=>OutS.ofE ((ev G v ρ M).bind own) fun d M=>OutS.ofE (ev G o ρ M) fun x M=>OutS.ofE (ev G i ρ M) fun y M=>OutS.ofE (setW x y d M) fun _ M=>.nx ρ M
 | .par i j a b,ρ,M=>OutS.ofE (evDs G [a,b] ρ M) fun ds M=>match ds with
  | [x,y]=>.nx ((ρ.set i (some x)).set j (some y)) M
  | _=>.stuck
 | .expr c,ρ,M=>OutS.ofE (ev G c ρ M) fun _ M=>.nx ρ M
 | .ret c,ρ,M=>OutS.ofE (ev G c ρ M) fun w M=>.rt w M
 | .retN,_,M=>.rt (.d .non) M
 | .iff t a b,ρ,M=>OutS.ofE (evT G t ρ M) fun r M=>if r then evSs G a ρ M else evSs G b ρ M
 | .forr tg k src b,ρ,M=>OutS.ofE (evSrc G k src ρ M) fun it M=>forGo (fun ρ M=>evSs G b ρ M) it tg (itLen M it) 0 ρ M
 | .never,_,_=>.stuck
 | .pass,ρ,M=>.nx ρ M
 | .brk,ρ,M=>.bk ρ M
 | .cont,ρ,M=>.ct ρ M
def evSs (G:Fns):List S→En→Mem→OutS
 | [],ρ,M=>.nx ρ M
 | s::ss,ρ,M=>(evS G s ρ M).seq fun ρ M=>evSs G ss ρ M
end
def isComp (e:Expr):Bool:=Nat.beq e.ctorIdx 8 || (Nat.beq e.ctorIdx 9 || Nat.beq e.ctorIdx 10)
def okVal (cc:CC) (t v:Expr):Bool:=(!isComp v && !(isTuple t && isTuple v)) || onName t fun x _=>cc.names.lookup x == some .cell
mutual
def chkS (cc:CC):S→Stmt→Bool
 | .asg tg c,s=>stAssign s fun ts v _=>match ts with
  | [t]=>chkTg cc tg t && okVal cc t v && (!isComp v || Nat.beq v.ctorIdx 8) && chk cc c v
  | _=>false
 | .asgC i c,s=>stAssign s fun ts v _=>match ts with
  | [t]=>onName t fun x p=>onListComp v fun el gens sc q=>cc.N[i]? == some x && cc.names.lookup x == some .local && p.line == q.line && !(sc.names.any fun (n,k)=>n == x && (k == .local || k == .cell)) && chk cc c (.ListComp el gens sc q)
  | _=>false
 | .put o i v,s=>stAssign s fun ts w _=>match ts with
  | [t]=>onSubscript t fun e f _=>noSlice f && chk cc o e && chk cc i f && chk cc v w
  | _=>false
 | .par i j a b,s=>false
 | .expr c,s=>stExpr s fun e _=>!isComp e && chk cc c e
 | .ret c,s=>stReturn s fun o _=>match o with
  | some e=>chk cc c e
  | none=>false
 | .retN,s=>stReturn s fun o _=>o.isNone
 | .iff t a b,s=>stIf s fun c x y _=>chkT cc t c && chkSs cc a x && chkSs cc b y
 | .forr tg k src b,s=>stFor s fun t iter body els _=>els.isEmpty && chkSrc cc k src t iter && chkTg cc tg t && chkSs cc b body
 | .never,_=>true
 | .pass,s=>stPass s fun _=>true
 | .brk,s=>stBreak s fun _=>true
 | .cont,s=>stContinue s fun _=>true
def chkSs (cc:CC):List S→List Stmt→Bool
 | [],[]=>true
 | s::ss,t::ts=>chkS cc s t && chkSs cc ss ts
 | _,_=>false
end
def OkS (K:PySem.W.Frag) (ads:List Addr) (H:Hp) (D:Ends):OutS→Prop
 | .nx ρ M=>∀ σ' H' ads',Grow ads ads' H H'→SR K ads' M ρ σ' H'→D.nx σ' H'
 | .bk ρ M=>∀ σ' H' ads',Grow ads ads' H H'→SR K ads' M ρ σ' H'→D.bk σ' H'
 | .ct ρ M=>∀ σ' H' ads',Grow ads ads' H H'→SR K ads' M ρ σ' H'→D.ct σ' H'
 | .rt w M=>PostW K ads H w M D.rt
 | .stuck=>False
def tSt (K:PySem.W.Frag) (o:En→Mem→OutS):TS:=fun D σ H=>∃ ads M ρ,SR K ads M ρ σ H∧OkS K ads H D (o ρ M)
theorem OkS.shift {K:PySem.W.Frag} {ads ads':List Addr} {H H':Hp} {M M2:Mem} {D:Ends} {o:OutS} (p:OkS K ads H D o) (g:Grow ads ads' H H') (m:MRel K ads H M) (m':MRel K ads' H' M2):OkS K ads' H' D o:=by
 cases o with
 | nx ρ M=>exact fun σ H1 ads1 g1 s1=>p σ H1 ads1 (g.trans g1) s1
 | bk ρ M=>exact fun σ H1 ads1 g1 s1=>p σ H1 ads1 (g.trans g1) s1
 | ct ρ M=>exact fun σ H1 ads1 g1 s1=>p σ H1 ads1 (g.trans g1) s1
 | rt w M=>exact PostW.shift p g m m'
 | stuck=>exact p
theorem psI {X:Cx} {st:Stmt} {t u:TS} (h:PS X st t) (f:∀ D σ H,u D σ H→t D σ H):PS X st u:=fun pins s σ H D I q=>h pins s σ H D I (f D σ H q)
theorem pssI {X:Cx} {st:List Stmt} {t u:TS} (h:PSs X st t) (f:∀ D σ H,u D σ H→t D σ H):PSs X st u:=fun pins s σ H D I q=>h pins s σ H D I (f D σ H q)
section
variable {kk:Nat} {X:Cx} {cc:CC} {G:Fns}
theorem swap_no {e:Expr} (h:isComp e=false) (t:Option Expr) (l:Nat) (env:Env):swapsWith e t l env=pure false:=by
 cases e <;> first | rfl | exact absurd (show true=false from h).symm Bool.false_ne_true
theorem s_seq {K:PySem.W.Frag} {o:En→Mem→OutS} {k:En→Mem→OutS} {σ:L2.St} {H:Hp} {D:Ends} (h:tSt K (fun ρ M=>(o ρ M).seq k) D σ H):tSeq (tSt K o) (tSt K k) D σ H:=by
 obtain ⟨ads,M,ρ,s,q⟩:=h
 have q:OkS K ads H D ((o ρ M).seq k):=q
 refine ⟨ads,M,ρ,s,?_⟩
 cases hq:o ρ M with
 | nx ρ1 M1 =>
  rw [hq] at q
  intro σ1 H1 ads1 g1 s1
  exact ⟨ads1,M1,ρ1,s1,OkS.shift (o:=k ρ1 M1) q g1 s.mem s1.mem⟩
 | bk ρ M=>rw [hq] at q; exact q
 | ct ρ M=>rw [hq] at q; exact q
 | rt w M=>rw [hq] at q; exact q
 | stuck=>rw [hq] at q; exact q
theorem for_key {K : PySem.W.Frag} {body : En → Mem → OutS} {it : Ev.It} {J : L2.It} {tg : List Nat} {tb : TS} (hb : ∀ D σ H, tSt K body D σ H → tb D σ H) {ads : List Addr} {M : Mem} {ρ : En} {σ : L2.St} {H : Hp} {D : Ends} {f : Nat}
    (s : SR K ads M ρ σ H) (hJ : RIt K ads H it J) (q : OkS K ads H D (forGo body it tg f 0 ρ M)) :
    ∃ W : Nat → Nat → L2.St → Hp → Prop, (∃ m, W 0 m σ H) ∧ ∀ i m σ H, W i m σ H →
      (J.stop i H ∧ D.nx σ H) ∨ (J.go i H ∧ ∃ N : L2.St → Hp → Prop, (∀ σ' H', N σ' H' → ∃ m', m' < m ∧ W (i + 1) m' σ' H') ∧ ∀ x H', J.yld i H x H' → tG K tg x σ H' fun σ2 H2 => tb { D with nx := N, ct := N, bk := D.nx } σ2 H2) := by
  refine ⟨fun i m σ' H' => ∃ ads' M' ρ', SR K ads' M' ρ' σ' H' ∧ Grow ads ads' H H' ∧ OkS K ads H D (forGo body it tg m i ρ' M'), ⟨f, ads, M, ρ, s, Grow.refl _ _, q⟩, ?_⟩
  rintro i m σ' H' ⟨ads', M', ρ', s', g', q'⟩
  obtain ⟨r1, r2⟩ := hJ i ads' H' M' g' s'.mem
  cases m with
  | zero =>
    unfold forGo at q'
    split at q'
    · rename_i hi
      exact .inl ⟨r1 hi, q' σ' H' ads' g' s'⟩
    · exact q'.elim
  | succ m =>
    unfold forGo at q'
    split at q'
    · rename_i hi
      exact .inl ⟨r1 hi, q' σ' H' ads' g' s'⟩
    · rename_i d hi
      obtain ⟨go, yl⟩ := r2 d hi
      cases hbd : bindT tg d ρ' with
      | none => rw [hbd] at q'; exact q'.elim
      | some ρ1 =>
        rw [hbd] at q'
        dsimp only at q'
        refine .inr ⟨go, fun σ2 H2 => ∃ ads2 M2 ρ2, SR K ads2 M2 ρ2 σ2 H2 ∧ Grow ads ads2 H H2 ∧ OkS K ads H D (forGo body it tg m (i + 1) ρ2 M2), fun σ2 H2 h => ⟨m, Nat.lt_succ_self _, h⟩, fun x H2 y => ?_⟩
        obtain ⟨g2, m2, rd⟩ := yl x H2 y
        refine ⟨ads', M', ρ', d, s'.grow g2 m2, rd, ρ1, hbd, fun σ2 s2 => hb _ _ _ ⟨ads', M', ρ1, s2, ?_⟩⟩
        have gg := g'.trans g2
        cases hq : body ρ1 M' with
        | nx ρ3 M3 => rw [hq] at q'; exact fun σ3 H3 ads3 g3 s3 => ⟨ads3, M3, ρ3, s3, gg.trans g3, q'⟩
        | ct ρ3 M3 => rw [hq] at q'; exact fun σ3 H3 ads3 g3 s3 => ⟨ads3, M3, ρ3, s3, gg.trans g3, q'⟩
        | bk ρ3 M3 => rw [hq] at q'; exact fun σ3 H3 ads3 g3 s3 => q' σ3 H3 ads3 (gg.trans g3) s3
        | rt w M3 => rw [hq] at q'; exact PostW.shift (M := M) (M2 := M') q' gg s.mem s2.mem
        | stuck => rw [hq] at q'; exact q'.elim
    · exact q'.elim
theorem st_e {K : PySem.W.Frag} {ads : List Addr} {M : Mem} {ρ : En} {σ : L2.St} {H : Hp} {D : Ends} {o : En → Mem → Out W} {k : W → Mem → OutS} {R : V → Hp → Prop} (s : SR K ads M ρ σ H) (q : OkS K ads H D (OutS.ofE (o ρ M) k))
    (hk : ∀ w M1 v H1 ads1, SR K ads1 M1 ρ σ H1 → RW K ads1 H1 w v → OkS K ads1 H1 D (k w M1) → R v H1) : tE K o σ H R := by
  refine ⟨ads, M, ρ, s, ?_⟩
  cases hq : o ρ M with
  | ok w M1 =>
    rw [hq] at q
    intro v H1 ads1 g1 m1 r1
    exact hk w M1 v H1 ads1 (s.grow g1 m1) r1.rw (OkS.shift (o := k w M1) q g1 s.mem m1)
  | err _ _ => rw [hq] at q; exact q
  | stuck => rw [hq] at q; exact q
theorem st_d {K : PySem.W.Frag} {ads : List Addr} {M : Mem} {ρ : En} {σ : L2.St} {H : Hp} {D : Ends} {c : C} {k : Ev.D → Mem → OutS} {R : V → Hp → Prop} (s : SR K ads M ρ σ H) (q : OkS K ads H D (OutS.ofE ((ev G c ρ M).bind own) k))
    (hk : ∀ (d : Ev.D) M1 v H1 ads1, SR K ads1 M1 ρ σ H1 → RD K ads1 H1 d v → OkS K ads1 H1 D (k d M1) → R v H1) : tE K (ev G c) σ H R := by
  refine ⟨ads, M, ρ, s, ?_⟩
  cases hq : ev G c ρ M with
  | ok w M1 =>
    rw [hq] at q
    intro v H1 ads1 g1 m1 r1
    have q : OkS K ads H D (OutS.ofE (own w M1) k) := q
    cases ho : own w M1 with
    | ok d M2 =>
      rw [ho] at q
      obtain ⟨ads2, g2, m2, rd⟩ := own_ok s.mem g1 m1 r1 ho
      exact hk d M2 v H1 ads2 (s.grow g2 m2) rd (OkS.shift (o := k d M2) q g2 s.mem m2)
    | err _ _ => cases w <;> cases ho
    | stuck => cases w <;> cases ho
  | err _ _ => rw [hq] at q; exact q
  | stuck => rw [hq] at q; exact q
theorem tg_kind {tg:List Nat} {t:Expr} (h:chkTg cc tg t=true):(∃ x p,t=.Name x p)∨∃ es k p,t=.Tuple es k p:=by
 rcases tg with _ | ⟨i,_ | ⟨j,r⟩⟩
 ·exact absurd h Bool.false_ne_true
 ·exact .inl (onName_el (P:=fun t=>∃ x p,t=.Name x p) ((Bool.and_eq_true _ _).mp h).1 fun x p _=>⟨x,p,rfl⟩)
 ·exact .inr (onTuple_el (P:=fun t=>∃ es k p,t=.Tuple es k p) h fun es k p _=>⟨es,k,p,rfl⟩)
theorem swap_comp {el : Expr} {gens : List Comprehension} {sc : Scope} {q p : Pos} {x : Str} {l : Nat} {env : Env} : swapsWith (.ListComp el gens sc q) (some (.Name x p)) l env =
    pure (env.blockKind == .function && env.kindOf x == some .local && p.line == q.line && !(sc.names.any fun (n, k) => n == x && (k == .local || k == .cell))) := rfl
theorem s_asg {tg:List Nat} {c:C} {t v:Expr} {pos:Pos} (g:Good kk X cc G) (ht:chkTg cc tg t=true) (hv:okVal cc t v=true) (hlc:isComp v=true→∃ el gens sc q,v=.ListComp el gens sc q) (he:PE X v (tE X.K (ev G c))):PS X (.Assign [t] v pos) (tSt X.K (evS G (.asg tg c))):=by
 have hg:=g_target g ht
 have key:∀ D σ H,tSt X.K (evS G (.asg tg c)) D σ H→tAsg (tE X.K (ev G c)) (tG X.K tg) D σ H:=by
  intro D σ H q
  obtain ⟨ads,M,ρ,s,q⟩:=q
  refine st_d s (by simp only [evS] at q; exact q) fun d M1 v H1 ads1 s1 rd q1=>?_
  cases hb:bindT tg d ρ with
  | none=>simp only [hb] at q1; exact q1.elim
  | some ρ' =>
   simp only [hb] at q1
   exact ⟨ads1,M1,ρ,d,s1,rd,ρ',hb,fun σ' s'=>q1 σ' H1 ads1 (Grow.refl _ _) s'⟩
 rcases tg_kind ht with ⟨x,p,rfl⟩ | ⟨es,k,p,rfl⟩
 ·refine psI (ps_asg he hg ?_ (by unfold swappedStores; cases v <;> rfl) rfl) key
  show swapsWith v (some (.Name x p)) pos.line X.env=pure false
  cases hc:isComp v with
  | false=>exact swap_no hc _ _ _
  | true =>
   have hv:((!isComp v && !(false && isTuple v)) || (cc.names.lookup x == some .cell))=true:=hv
   rw [hc] at hv
   have hk:X.env.kindOf x=some .cell:=g.kinds x .cell (by simpa using hv)
   obtain ⟨el,gens,sc,q,rfl⟩:=hlc hc
   rw [swap_comp,hk,show ((some NameKind.cell:Option NameKind) == some NameKind.local)=false from rfl]
   simp
 ·have hv':((!isComp v && !(true && isTuple v)) || false)=true:=hv
  simp only [Bool.or_false,Bool.true_and,Bool.and_eq_true,Bool.not_eq_true'] at hv'
  refine psI (ps_asg he hg (show swapsWithSole [.Tuple es k p] v pos.line X.env=pure false from swap_no hv'.1 (some (.Tuple es k p)) pos.line X.env) ?_ rfl) key
  unfold swappedStores
  cases v <;> first | rfl | exact absurd (show true=false from hv'.2).symm Bool.false_ne_true
theorem s_asgC {i : Nat} {c : C} {x : Str} {p q pos : Pos} {el t iter : Expr} {ifs : List Expr} {sc : Scope} {N' : List Str} {cap : List (Option Nat)} {wi : TI} {gt : TG} {tc : Option TT} {te : TE} (g : Good kk X cc G) (hk : X.env.blockKind = .function)
    (hx : cc.N[i]? = some x) (hl : cc.names.lookup x = some .local) (hp : p.line = q.line) (hn : (sc.names.any fun (n, k) => n == x && (k == .local || k == .cell)) = false)
    (hw : ∀ (pins : List (Addr × Obj)) (s : Shared) (σ : L2.St) (H : Hp), Inv X pins σ H s → ∃ cl, PI X t iter wi ∧ CompOk X sc N' cap cl t el ifs gt tc te) (hfs : ∀ x, foldedSetIterable iter X.env x = pure x)
    (key : ∀ σ H Q, tE X.K (ev G c) σ H Q → tComp cap wi gt tc te σ H Q) : PS X (.Assign [.Name x p] (.ListComp el [⟨t, iter, ifs, 0⟩] sc q) pos) (tSt X.K (evS G (.asgC i c))) := by
  intro pins s σ H D I h
  obtain ⟨cl, hi, ck⟩ := hw pins s σ H I
  refine ps_comp (i := i) g.calm (by rw [g.N]; exact g.nd) (by rw [g.N]; exact hx) (g.kinds x _ hl) ?_ hi ck hfs pins s σ H D I ?_
  · rw [swap_comp, hk, show X.env.kindOf x = some .local from g.kinds x _ hl, hn, hp]
    simp
  · obtain ⟨ads, M, ρ, sr, h⟩ := h
    refine key σ H _ (st_d sr (by simp only [evS] at h; exact h) fun d M1 v H1 ads1 s1 rd q1 => ?_)
    exact q1 _ H1 ads1 (Grow.refl _ _) (s1.set i rd)
theorem s_put {o i v:C} {e f w:Expr} {sp pos:Pos} (g:Good kk X cc G) (hf:noSlice f=true) (ho:PE X e (tE X.K (ev G o))) (hi:PE X f (tE X.K (ev G i))) (hv:PE X w (tE X.K (ev G v))):PS X (.Assign [.Subscript e f sp] w pos) (tSt X.K (evS G (.put o i v))):=by
 have hun:=g.room.un
 refine psI (ps_asg hv (pg_sub ho hi (set_ok (by omega)) (by intro _; cases f <;> first | rfl | exact absurd (show false=true from hf) Bool.false_ne_true)) (show swapsWithSole [.Subscript e f sp] w pos.line X.env=pure false from (by cases w <;> rfl)) (by unfold swappedStores; cases w <;> rfl) rfl) fun D σ H q=>?_
 obtain ⟨ads,M,ρ,s,q⟩:=q
 refine st_d s (by simp only [evS] at q; exact q) fun d M1 v H1 ads1 s1 rd q1=>?_
 refine ⟨ads1,M1,ρ,s1,?_⟩
 cases h2:ev G o ρ M1 with
 | ok wo M2 =>
  rw [h2] at q1
  intro vo H2 ads2 g2 m2 ro
  have s2:=s1.grow g2 m2
  refine ⟨ads2,M2,ρ,s2,?_⟩
  have q2:OkS X.K ads1 H1 D (OutS.ofE (ev G i ρ M2) fun y M=>OutS.ofE (setW wo y d M) fun _ M=>.nx ρ M):=q1
  cases h3:ev G i ρ M2 with
  | ok wi M3 =>
   rw [h3] at q2
   intro vi H3 ads3 g3 m3 ri
   have s3:=s2.grow g3 m3
   have q3:OkS X.K ads1 H1 D (OutS.ofE (setW wo wi d M3) fun _ M=>.nx ρ M):=q2
   refine ⟨ads3,M3,wo,wi,d,m3,g3.rw ro.rw,ri.rw,(g2.trans g3).rd _ _ rd,?_⟩
   cases h4:setW wo wi d M3 with
   | ok u M4 =>
    rw [h4] at q3
    intro H4 ads4 g4 m4
    exact q3 σ H4 ads4 ((g2.trans g3).trans g4) (s3.grow g4 m4)
   | err _ _=>rw [h4] at q3; exact q3
   | stuck=>rw [h4] at q3; exact q3
  | err _ _=>rw [h3] at q2; exact q2
  | stuck=>rw [h3] at q2; exact q2
 | err _ _=>rw [h2] at q1; exact q1
 | stuck=>rw [h2] at q1; exact q1
theorem s_expr {c:C} {e:Expr} {pos:Pos} (hc:isComp e=false) (he:PE X e (tE X.K (ev G c))):PS X (.Expr e pos) (tSt X.K (evS G (.expr c))):=by
 refine psI (ps_expr he (swap_no hc _ _ _)) fun D σ H q=>?_
 obtain ⟨ads,M,ρ,s,q⟩:=q
 exact st_e (k:=fun _ M=>.nx ρ M) s (by simp only [evS] at q; exact q) fun w M1 v H1 ads1 s1 r1 q1=>q1 σ H1 ads1 (Grow.refl _ _) s1
theorem s_ret {c:C} {e:Expr} {pos:Pos} (he:PE X e (tE X.K (ev G c))):PS X (.Return (some e) pos) (tSt X.K (evS G (.ret c))):=by
 refine psI (ps_ret he) fun D σ H q=>?_
 obtain ⟨ads,M,ρ,s,q⟩:=q
 refine ⟨ads,M,ρ,s,?_⟩
 simp only [evS] at q
 cases hq:ev G c ρ M with
 | ok w M1=>rw [hq] at q; exact q
 | err _ _=>rw [hq] at q; exact q
 | stuck=>rw [hq] at q; exact q
theorem s_if {t:Tst} {a b:List S} {c:Expr} {x y:List Stmt} {pos:Pos} (ht:PT X c (tTs X.K (evT G t))) (ha:PSs X x (tSt X.K (evSs G a))) (hb:PSs X y (tSt X.K (evSs G b))):PS X (.If c x y pos) (tSt X.K (evS G (.iff t a b))):=by
 refine psI (ps_if ht ha hb) fun D σ H q=>?_
 obtain ⟨ads,M,ρ,s,q⟩:=q
 refine ⟨ads,M,ρ,s,?_⟩
 simp only [evS] at q
 cases hq:evT G t ρ M with
 | ok r M1 =>
  rw [hq] at q
  intro H1 ads1 g1 m1
  have q:OkS X.K ads H D (if r then evSs G a ρ M1 else evSs G b ρ M1):=q
  have q:=q.shift g1 s.mem m1
  cases r with
  | true=>rw [if_pos rfl] at q ⊢; exact ⟨ads1,M1,ρ,s.grow g1 m1,q⟩
  | false=>rw [if_neg (by simp)] at q ⊢; exact ⟨ads1,M1,ρ,s.grow g1 m1,q⟩
 | err _ _=>rw [hq] at q; exact q
 | stuck=>rw [hq] at q; exact q
theorem s_for {tg : List Nat} {k : SK} {src : List C} {b : List S} {t iter : Expr} {body : List Stmt} {pos : Pos} (g : Good kk X cc G) (hx : X.xe = fun _ _ => False) (hs : PI X t iter (tI X.K (evSrc G k src))) (hn : notSet iter = true) (ht : chkTg cc tg t = true) (hb : PSs X body (tSt X.K (evSs G b))) :
    PS X (.For t iter body [] pos) (tSt X.K (evS G (.forr tg k src b))) := by
  refine psI (ps_for (by rw [hx]; exact PassesOwn.never) g.calm hs (g_target g ht) hb (foldSet hn X.env)) fun D σ H q => ?_
  obtain ⟨ads, M, ρ, s, q⟩ := q
  refine ⟨ads, M, ρ, s, ?_⟩
  simp only [evS] at q
  cases hq : evSrc G k src ρ M with
  | ok it M1 =>
    rw [hq] at q
    intro J H1 ads1 g1 m1 rj
    exact for_key (fun D σ H h => h) (s.grow g1 m1) rj (OkS.shift (o := forGo (fun ρ M => evSs G b ρ M) it tg (itLen M1 it) 0 ρ M1) q g1 s.mem m1)
  | err _ _ => rw [hq] at q; exact q
  | stuck => rw [hq] at q; exact q
end
end Ev
end
section
set_option Elab.async false
set_option linter.all false
set_option maxRecDepth 100000
set_option maxHeartbeats 4000000
namespace Ev
open L2
open PySem PySem.Spec PyProof.Rows
section
variable {kk:Nat} {G:Fns} {X:Cx} {cc:CC}
theorem comp_ck {tg : List Nat} {cond : Option Tst} {elt : C} {cap : List (Option Nat)} {el t : Expr} {ifs : List Expr} {sc : Scope} (g : Good kk X cc G) (hsc : scOk cc sc = true) (hcap : cap = capOf cc sc)
    (htg : chkTg (blk cc sc) tg t = true) (hcond : chkC (blk cc sc) cond ifs = true) (helt : chk (blk cc sc) elt el = true) (pins : List (Addr × Obj)) (s : Shared) (σ : L2.St) (H : Hp) (I : Inv X pins σ H s) :
    ∃ cl, CompOk X sc (blockN sc) cap cl t el ifs (tG X.K tg) (cond.map fun t => tTs X.K (evT G t)) (tE X.K (ev G elt)) := by
  obtain ⟨h1, h2, h3, h4, h5⟩ := scOk_of hsc
  obtain ⟨cl, hcl⟩ := clos_of (X := X) (sc := sc) fun y hy hf => by
    obtain ⟨_, ho⟩ := h5 y hy hf
    refine I.ok.has y.1 ?_
    rcases ho with ho | ho
    · exact .inl (g.kinds _ _ ho)
    · exact g.kinds _ _ ho
  refine ⟨cl, h1, h2, h3, hcl, hcap ▸ cap_ok g hsc, fun C s H fp => g_target (g.block hsc C s H fp) htg, ?_, fun C s H fp => ok_e elt (blk cc sc) _ el (g.block hsc C s H fp) helt⟩
  cases cond with
  | none =>
    cases ifs with
    | nil => rfl
    | cons _ _ => cases hcond
  | some tt =>
    cases ifs with
    | nil => cases hcond
    | cons e es =>
      cases es with
      | cons _ _ => cases hcond
      | nil => exact ⟨e, rfl, fun C s H fp => ok_t tt (blk cc sc) (X.block sc cl C (blockN sc) s H fp []) e (g.block hsc C s H fp) hcond⟩
theorem comp_rd {k : SK} {src : List C} {tg : List Nat} {cond : Option Tst} {elt : C} {cap : List (Option Nat)} (σ : L2.St) (H : Hp) (Q : VK) (q : tE X.K (ev G (.comp k src tg cond elt cap)) σ H Q) :
    tComp cap (tI X.K (evSrc G k src)) (tG X.K tg) (cond.map fun t => tTs X.K (evT G t)) (tE X.K (ev G elt)) σ H Q := by
  obtain ⟨ads, M, ρ, sr, q⟩ := q
  refine ⟨ads, M, ρ, sr, ?_⟩
  have q : OkW X.K ads H Q ((evSrc G k src ρ M).bind fun it M => compGo (fun τ M => evCond G cond τ M) (fun τ M => (ev G elt τ M).bind own) it tg (itLen M it) 0 (capEn cap ρ) M []) := by
    simp only [ev] at q
    unfold evSrc
    cases hw : evWs G src ρ M with
    | ok ws M1 => rw [hw] at q; exact q
    | err _ _ => rw [hw] at q; exact q
    | stuck => rw [hw] at q; exact q
  cases hs : evSrc G k src ρ M with
  | ok it M1 =>
    rw [hs] at q
    intro J H1 ads1 g1 m1 rj
    exact comp_key (sr.grow g1 m1) rj (OkW.shift (o := compGo (fun τ M => evCond G cond τ M) (fun τ M => (ev G elt τ M).bind own) it tg (itLen M1 it) 0 (capEn cap ρ) M1 []) q g1 sr.mem m1)
  | err _ _ => rw [hs] at q; exact q
  | stuck => rw [hs] at q; exact q
structure GoodS (kk:Nat) (X:Cx) (cc:CC) (G:Fns):Prop where
 g:Good kk X cc G
 bk:X.env.blockKind=.function
 nx:X.xe=fun _ _=>False
theorem comp_list {v:Expr} (h:(!isComp v || Nat.beq v.ctorIdx 8)=true) (hc:isComp v=true):∃ el gens sc q,v=.ListComp el gens sc q:=by
 rw [hc] at h
 exact Expr.ListComp.elim (motive_1:=fun v=>∃ el gens sc q,v=.ListComp el gens sc q) v (Nat.eq_of_beq_eq_true h) fun el gens sc q=>⟨el,gens,sc,q,rfl⟩
theorem comp_c {c:C} {el:Expr} {gens:List Comprehension} {sc:Scope} {q:Pos} (h:chk cc c (.ListComp el gens sc q)=true):∃ k src tg cond elt cap,c=.comp k src tg cond elt cap:=by
 cases c <;> first | exact absurd (show false=true from h) Bool.false_ne_true | exact ⟨_,_,_,_,_,_,rfl⟩
end
mutual
theorem ok_s {kk:Nat} {G:Fns}:∀ (s:S) (cc:CC) (X:Cx) (st:Stmt),GoodS kk X cc G→chkS cc s st=true→PS X st (tSt X.K (evS G s))
 | .asg tg c,cc,X,st,g,h=>stAssign_el (P:=fun st=>PS X st _) h fun ts v pos h=>by
  rcases ts with _ | ⟨t,_ | ⟨_,_⟩⟩ <;> first | exact absurd h Bool.false_ne_true | skip
  simp only [Bool.and_eq_true] at h
  exact s_asg g.g h.1.1.1 h.1.1.2 (comp_list h.1.2) (ok_e c cc X v g.g h.2)
 | .asgC i c,cc,X,st,g,h=>stAssign_el (P:=fun st=>PS X st _) h fun ts v pos h=>by
  rcases ts with _ | ⟨t,_ | ⟨_,_⟩⟩ <;> first | exact absurd h Bool.false_ne_true | skip
  refine onName_el (P:=fun t=>PS X (.Assign [t] v pos) _) h fun x p h=>onListComp_el (P:=fun v=>PS X (.Assign [.Name x p] v pos) _) h fun el gens sc q h=>?_
  simp only [Bool.and_eq_true,Bool.not_eq_true'] at h
  obtain ⟨⟨⟨⟨h1,h2⟩,h3⟩,h4⟩,h5⟩:=h
  obtain ⟨k,src,tg,cond,elt,cap,rfl⟩:=comp_c h5
  rcases gens with _ | ⟨⟨t,iter,ifs,as⟩,_ | ⟨_,_⟩⟩ <;> first | exact absurd (show false=true from h5) Bool.false_ne_true | skip
  have h6:(as == 0 && scOk cc sc && decide (cap=capOf cc sc) && chkSrc cc k src t iter && chkTg (blk cc sc) tg t && chkC (blk cc sc) cond ifs && chk (blk cc sc) elt el)=true:=h5
  simp only [Bool.and_eq_true,beq_iff_eq,decide_eq_true_eq] at h6
  obtain ⟨⟨⟨⟨⟨⟨rfl,k1⟩,k2⟩,k3⟩,k4⟩,k5⟩,k6⟩:=h6
  obtain ⟨hsrc,hns⟩:=ok_src src k cc X t iter g.g k3
  exact s_asgC g.g g.bk (eq_of_beq h1) (eq_of_beq h2) (eq_of_beq h3) h4 (fun pins s σ H I=>by
   obtain ⟨cl,ck⟩:=comp_ck g.g k1 k2 k4 k5 k6 pins s σ H I
   exact ⟨cl,hsrc,ck⟩) (foldSet hns X.env) comp_rd
 | .par i j a b,_,_,_,_,h=>absurd (show false=true from h) Bool.false_ne_true
 | .put o i v,cc,X,st,g,h=>stAssign_el (P:=fun st=>PS X st _) h fun ts w pos h=>by
  rcases ts with _ | ⟨t,_ | ⟨_,_⟩⟩ <;> first | exact absurd h Bool.false_ne_true | skip
  refine onSubscript_el (P:=fun t=>PS X (.Assign [t] w pos) _) h fun e f sp h=>?_
  simp only [Bool.and_eq_true] at h
  obtain ⟨⟨⟨h1,h3⟩,h4⟩,h5⟩:=h
  exact s_put g.g h1 (ok_e o cc X e g.g h3) (ok_e i cc X f g.g h4) (ok_e v cc X w g.g h5)
 | .expr c,cc,X,st,g,h=>stExpr_el (P:=fun st=>PS X st _) h fun e pos h=>by
  simp only [Bool.and_eq_true,Bool.not_eq_true'] at h
  exact s_expr h.1 (ok_e c cc X e g.g h.2)
 | .ret c,cc,X,st,g,h=>stReturn_el (P:=fun st=>PS X st _) h fun v pos h=>by
  cases v with
  | none=>exact absurd h Bool.false_ne_true
  | some e=>exact s_ret (ok_e c cc X e g.g h)
 | .retN,cc,X,st,g,h=>stReturn_el (P:=fun st=>PS X st _) h fun v pos h=>by
  cases v with
  | some e=>exact absurd h Bool.false_ne_true
  | none =>
   refine psI ps_retN fun D σ H q=>?_
   obtain ⟨ads,M,ρ,s,q⟩:=q
   exact q .non H ads (Grow.refl _ _) s.mem (show RD X.K ads H .non .non from rd_non)
 | .iff t a b,cc,X,st,g,h=>stIf_el (P:=fun st=>PS X st _) h fun c x y pos h=>by
  simp only [Bool.and_eq_true] at h
  exact s_if (ok_t t cc X c g.g h.1.1) (ok_ss a cc X x g h.1.2) (ok_ss b cc X y g h.2)
 | .forr tg k src b,cc,X,st,g,h=>stFor_el (P:=fun st=>PS X st _) h fun t iter body els pos h=>by
  simp only [Bool.and_eq_true,List.isEmpty_iff] at h
  obtain ⟨⟨⟨rfl,h1⟩,h2⟩,h3⟩:=h
  obtain ⟨hs,hn⟩:=ok_src src k cc X t iter g.g h1
  exact s_for g.g g.nx hs hn h2 (ok_ss b cc X body g h3)
 | .never,cc,X,st,g,h=>psI ps_never fun D σ H q=>by
  obtain ⟨ads,M,ρ,s,q⟩:=q
  exact q
 | .pass,cc,X,st,g,h=>stPass_el (P:=fun st=>PS X st _) h fun pos h=>psI ps_pass fun D σ H q=>by
  obtain ⟨ads,M,ρ,s,q⟩:=q
  exact q σ H ads (Grow.refl _ _) s
 | .brk,cc,X,st,g,h=>stBreak_el (P:=fun st=>PS X st _) h fun pos h=>psI ps_break fun D σ H q=>by
  obtain ⟨ads,M,ρ,s,q⟩:=q
  exact q σ H ads (Grow.refl _ _) s
 | .cont,cc,X,st,g,h=>stContinue_el (P:=fun st=>PS X st _) h fun pos h=>psI ps_continue fun D σ H q=>by
  obtain ⟨ads,M,ρ,s,q⟩:=q
  exact q σ H ads (Grow.refl _ _) s
theorem ok_ss {kk:Nat} {G:Fns}:∀ (ss:List S) (cc:CC) (X:Cx) (st:List Stmt),GoodS kk X cc G→chkSs cc ss st=true→PSs X st (tSt X.K (evSs G ss))
 | [],cc,X,[],g,h=>pssI pss_nil fun D σ H q=>by
  obtain ⟨ads,M,ρ,s,q⟩:=q
  exact q σ H ads (Grow.refl _ _) s
 | [],cc,X,_::_,g,h=>by cases h
 | _::_,cc,X,[],g,h=>by cases h
 | s::ss,cc,X,t::ts,g,h=>by
  have h':(chkS cc s t && chkSs cc ss ts)=true:=h
  simp only [Bool.and_eq_true] at h'
  exact pssI (pss_cons (ok_s s cc X t g h'.1) (ok_ss ss cc X ts g h'.2)) fun D σ H q=>s_seq q
end
def startE (n:Nat) (ds:List D):En:=ds.map some++List.replicate (n - ds.length) none
def runDef (G:Fns) (n:Nat) (body:List S) (ds:List D) (M:Mem):Out W:=match evSs G body (startE n ds) M with
 | .rt w M=>.ok w M
 | .nx _ M=>.ok (.d .non) M
 | _=>.stuck
theorem start_en {K:PySem.W.Frag} {ads:List Addr} {H:Hp}:∀ {ds:List D} {vs:List V} (r:RDs K ads H ds vs) (k:Nat),REn K ads H (ds.map some++List.replicate k none) (vs.map some++List.replicate k none)
 | ds,vs,r,k=>by
  intro i d e
  by_cases hi:i < ds.length
  ·rw [List.getElem?_append_left (by simpa using hi),List.getElem?_map] at e
   cases q:ds[i]? with
   | none=>rw [q] at e; cases e
   | some d' =>
    rw [q] at e
    cases e
    obtain ⟨v,ev,rv⟩:=r.get q
    exact ⟨v,by rw [List.getElem?_append_left (by rw [List.length_map,← r.len]; exact hi),List.getElem?_map,ev]; rfl,rv⟩
  ·rw [List.getElem?_append_right (by simpa using hi),List.getElem?_replicate] at e
   split at e <;> cases e
theorem def_ok {P : Program} {w : World} {K : PySem.W.Frag} {mg : Str → Option Value} {base : Heap} {x qual : Str} {st : Stmt} {f : Addr} {fd : FuncData} {N ps : List Str} {k : Nat} {G : Fns} {fs : List (Str × Nat)} {body : List S} {n : Nat}
    (F : Fun K x qual st f fd) (Sc : FnScope N ps (defScope st)) (hn : ps.length = n) (hb : chkSs ⟨N, (defScope st).names, fs⟩ body (defBody st) = true) (hblt : ∀ b ∈ bltNames, mg b = none)
    (hfs : ∀ (i : Nat) (x : Str) (n : Nat), fs[i]? = some (x, n) → ∃ f fd ps, FnOk P w K mg base CX0 k f fd ps (spD K n (G i)) ∧ mg x = some (.ref f) ∧ PySem.W.keepIn K (.ref f) = true ∧ Binds K fd ps []) :
    FnOk P w K mg base CX0 (k + 1) f fd ps (spD K n (runDef G N.length body)) := by
  have hpl : ps.length ≤ N.length := by have := congrArg List.length Sc.pre; rw [List.length_take] at this; omega
  refine F.ok Sc (fun vs H Q E h => ?_) fun cdv A outer s H vs Q E hr hsp => ?_
  · obtain ⟨ads, M, ds, m, r, hl, _⟩ := h
    rw [← r.len, hl, hn]
  · have gs : GoodS k (cxOf CX0 P w K mg base N qual (defScope st) f cdv A outer s H E).nox ⟨N, (defScope st).names, fs⟩ G := by
      refine ⟨⟨rfl, hr, rfl, Sc.nd, fun x k e => ?_, fun _ _ => rfl, hblt, hfs⟩, ?_, rfl⟩
      · have e : (defScope st).names.lookup x = some k := e
        cases k with
        | «local» => exact e
        | cell => exact e
        | free => exact absurd rfl (Sc.nofree _ (PySem.mem_of_lookup e))
        | globalExplicit => exact True.intro
        | globalImplicit => exact e
      · show (if (defScope st).kind.isAnnotationScope then ScopeKind.function else (defScope st).kind) = _
        rw [Sc.kind]
        rfl
    refine ⟨_, ok_ss body _ _ (defBody st) gs hb, ?_⟩
    obtain ⟨ads, M, ds, m, r, hl, q⟩ := hsp
    have hlen : (startE N.length ds).length = N.length := by
      unfold startE
      rw [List.length_append, List.length_map, List.length_replicate]
      omega
    refine ⟨ads, M, startE N.length ds, ⟨m, ?_, ?_⟩, ?_⟩
    · unfold startE L2.start
      rw [← r.len]
      exact start_en r _
    · rw [hlen]
      unfold L2.start
      rw [List.length_append, List.length_map, List.length_replicate, ← r.len]
      omega
    · unfold runDef at q
      cases hq : evSs G body (startE N.length ds) M with
      | nx ρ M1 => rw [hq] at q; exact fun σ' H' ads' g s' => q .non H' ads' g s'.mem (show RD K ads' H' .non .non from rd_non)
      | rt w M1 => rw [hq] at q; exact q
      | bk _ _ => rw [hq] at q; exact q.elim
      | ct _ _ => rw [hq] at q; exact q.elim
      | stuck => rw [hq] at q; exact q.elim
end Ev
end
section
set_option Elab.async false
set_option linter.all false
set_option maxRecDepth 100000
set_option maxHeartbeats 4000000
namespace Ev
open L2
open PySem PySem.Spec PyProof.Rows
def tab (l:List (List D→Mem→Out W)):Fns:=fun i ds M=>match l[i]? with
 | some f=>f ds M
 | none=>.stuck
end Ev
end
section
set_option Elab.async false
set_option linter.all false
set_option maxRecDepth 100000
set_option maxHeartbeats 4000000
namespace Ev
open L2
open PySem PySem.Spec PyProof.Rows
@[irreducible] def Okp {α:Type} (o:Out α) (P:α→Mem→Prop):Prop:=match o with
 | .ok a M=>P a M
 | _=>False
theorem okp_ok {α:Type} {a:α} {M:Mem} {P:α→Mem→Prop}:Okp (.ok a M) P=P a M:=by unfold Okp; exact propext Iff.rfl
theorem okp_stuck {α:Type} {P:α→Mem→Prop}:Okp .stuck P=False:=by unfold Okp; exact propext Iff.rfl
theorem okp_err {α:Type} {P:α→Mem→Prop} {x:Exn} {M:Mem}:Okp (.err x M) P=False:=by unfold Okp; exact propext Iff.rfl
theorem okp_bind {α β:Type} {o:Out α} {f:α→Mem→Out β} {P:β→Mem→Prop}:Okp (o.bind f) P=Okp o fun a M=>Okp (f a M) P:=by
 cases o with
 | ok a M=>rw [okp_ok]; rfl
 | err _ _=>rw [okp_err]; exact okp_err
 | stuck=>rw [okp_stuck]; exact okp_stuck
theorem Okp.imp {α:Type} {o:Out α} {P Q:α→Mem→Prop} (h:Okp o P) (k:∀ a M,P a M→Q a M):Okp o Q:=by
 cases o with
 | ok a M=>rw [okp_ok] at h ⊢; exact k a M h
 | err _ _=>rw [okp_err] at h; exact h.elim
 | stuck=>rw [okp_stuck] at h; exact h.elim
theorem okp_guard {α:Type} {c:Prop} [Decidable c] {o:Out α} {P:α→Mem→Prop}:Okp (if c then o else .stuck) P=(c∧Okp o P):=by
 by_cases h:c
 ·rw [if_pos h]; exact propext ⟨fun q=>⟨h,q⟩,fun q=>q.2⟩
 ·rw [if_neg h,okp_stuck]; exact propext ⟨fun q=>q.elim,fun q=>absurd q.1 h⟩
theorem okp_eq {α:Type} {o:Out α} {P:α→Mem→Prop} (h:Okp o P):∃ a M,o=.ok a M∧P a M:=by
 cases o with
 | ok a M=>rw [okp_ok] at h; exact ⟨a,M,rfl,h⟩
 | err _ _=>rw [okp_err] at h; exact h.elim
 | stuck=>rw [okp_stuck] at h; exact h.elim
@[irreducible] def OkT (o:OutS) (nx:En→Mem→Prop) (rt:W→Mem→Prop) (bk ct:En→Mem→Prop):Prop:=match o with
 | .nx ρ M=>nx ρ M
 | .rt w M=>rt w M
 | .bk ρ M=>bk ρ M
 | .ct ρ M=>ct ρ M
 | .stuck=>False
section
variable {nx:En→Mem→Prop} {rt:W→Mem→Prop} {bk ct:En→Mem→Prop}
theorem okt_nx {ρ:En} {M:Mem}:OkT (.nx ρ M) nx rt bk ct=nx ρ M:=by unfold OkT; exact propext Iff.rfl
theorem okt_rt {w:W} {M:Mem}:OkT (.rt w M) nx rt bk ct=rt w M:=by unfold OkT; exact propext Iff.rfl
theorem okt_bk {ρ:En} {M:Mem}:OkT (.bk ρ M) nx rt bk ct=bk ρ M:=by unfold OkT; exact propext Iff.rfl
theorem okt_ct {ρ:En} {M:Mem}:OkT (.ct ρ M) nx rt bk ct=ct ρ M:=by unfold OkT; exact propext Iff.rfl
theorem okt_stuck:OkT .stuck nx rt bk ct=False:=by unfold OkT; exact propext Iff.rfl
theorem okt_ofE {α:Type} {o:Out α} {f:α→Mem→OutS}:OkT (OutS.ofE o f) nx rt bk ct=Okp o fun a M=>OkT (f a M) nx rt bk ct:=by
 cases o with
 | ok a M=>rw [okp_ok]; rfl
 | err _ _=>rw [okp_err]; exact okt_stuck
 | stuck=>rw [okp_stuck]; exact okt_stuck
theorem okt_seq {o:OutS} {f:En→Mem→OutS}:OkT (o.seq f) nx rt bk ct=OkT o (fun ρ M=>OkT (f ρ M) nx rt bk ct) rt bk ct:=by
 cases o with
 | nx ρ M=>rw [okt_nx]; rfl
 | rt ρ M=>rw [okt_rt]; exact okt_rt
 | bk ρ M=>rw [okt_bk]; exact okt_bk
 | ct ρ M=>rw [okt_ct]; exact okt_ct
 | stuck=>rw [okt_stuck]; exact okt_stuck
end
theorem okp_run {G:Fns} {n:Nat} {b:List S} {ds:List D} {M:Mem} {P:W→Mem→Prop}:Okp (runDef G n b ds M) P=OkT (evSs G b (startE n ds) M) (fun _ M=>P (.d .non) M) P (fun _ _=>False) (fun _ _=>False):=by
 unfold runDef
 cases evSs G b (startE n ds) M with
 | nx ρ M=>rw [okt_nx]; exact okp_ok
 | rt ρ M=>rw [okt_rt]; exact okp_ok
 | bk ρ M=>rw [okt_bk]; exact okp_stuck
 | ct ρ M=>rw [okt_ct]; exact okp_stuck
 | stuck=>rw [okt_stuck]; exact okp_stuck
section
variable {G:Fns} {ρ:En} {M:Mem} {P:W→Mem→Prop}
theorem k_cst {d:D}:Okp (ev G (.cst d) ρ M) P=P (.d d) M:=by simp only [ev,okp_ok]
theorem k_bin {op:BOp} {a b:C}:Okp (ev G (.bin op a b) ρ M) P=Okp (ev G a ρ M) fun x M=>Okp (ev G b ρ M) fun y M=>Okp (binW op x y M) P:=by simp only [ev,okp_bind]
theorem k_cmp {op:COp} {a b:C}:Okp (ev G (.cmp op a b) ρ M) P=Okp (ev G a ρ M) fun x M=>Okp (ev G b ρ M) fun y M=>Okp (cmpW op x y M) fun r M=>P (.d (.bl r)) M:=by simp only [ev,okp_bind,okp_ok]
theorem k_ite {c:Tst} {a b:C}:Okp (ev G (.ite c a b) ρ M) P=Okp (evT G c ρ M) fun r M=>if r then Okp (ev G a ρ M) P else Okp (ev G b ρ M) P:=by
 simp only [ev,okp_bind]
 congr 1; funext r M
 cases r <;> rfl
theorem k_tup {cs:List C}:Okp (ev G (.tup cs) ρ M) P=Okp (evDs G cs ρ M) fun ds M=>ds.length≤sizeLine∧P (.d (.tup ds)) M:=by
 simp only [ev,okp_bind,okp_guard,okp_ok]
theorem k_lst {cs:List C}:Okp (ev G (.lst cs) ρ M) P=Okp (evDs G cs ρ M) fun ds M=>ds.length≤sizeLine∧P (.lv ds) M:=by
 simp only [ev,okp_bind,okp_guard,okp_ok]
theorem k_sub {a b:C}:Okp (ev G (.sub a b) ρ M) P=Okp (ev G a ρ M) fun x M=>Okp (ev G b ρ M) fun y M=>Okp (subW x y M) P:=by simp only [ev,okp_bind]
theorem k_slc {a:C} {lo hi:Option C}:Okp (ev G (.slc a lo hi) ρ M) P=Okp (ev G a ρ M) fun x M=>Okp (evO G lo ρ M) fun l M=>Okp (evO G hi ρ M) fun h M=>Okp (slcW x l h M) P:=by simp only [ev,okp_bind]
theorem k_stp {a:C} {k:Int}:Okp (ev G (.stp a k) ρ M) P=Okp (ev G a ρ M) fun x M=>Okp (stpW x k M) P:=by simp only [ev,okp_bind]
theorem k_o0 {P:Option Int→Mem→Prop}:Okp (evO G none ρ M) P=P none M:=by simp only [evO,okp_ok]
theorem k_call {f:Nat} {cs:List C}:Okp (ev G (.call f cs) ρ M) P=Okp (evDs G cs ρ M) fun ds M=>Okp (G f ds M) P:=by simp only [ev,okp_bind]
theorem k_bi {b:Bi} {cs:List C}:Okp (ev G (.bi b cs) ρ M) P=Okp (evWs G cs ρ M) fun ws M=>Okp (biW b ws M) P:=by simp only [ev,okp_bind]
theorem k_me {m:Me} {o:C} {cs:List C}:Okp (ev G (.me m o cs) ρ M) P=Okp (ev G o ρ M) fun x M=>(lstW M x).isSome=true∧Okp (evDs G cs ρ M) fun ds M=>Okp (meW m x ds M) P:=by
 simp only [ev,okp_bind,okp_guard]
theorem k_dct {ks:List Str} {cs:List C}:Okp (ev G (.dct ks cs) ρ M) P=Okp (evDs G cs ρ M) fun ds M=>ks.length=ds.length∧P (.d (.adr M.length)) (M++[.dK ((ks.map Sum.inr).zip ds)]):=by
 simp only [ev,okp_bind,okp_guard,okp_ok]
theorem k_comp {k:SK} {src:List C} {tg:List Nat} {cond:Option Tst} {elt:C} {cap:List (Option Nat)}:Okp (ev G (.comp k src tg cond elt cap) ρ M) P=Okp (evWs G src ρ M) fun ws M=>Okp (srcW k ws M) fun it M=>Okp (compGo (fun τ M=>evCond G cond τ M) (fun τ M=>(ev G elt τ M).bind own) it tg (itLen M it) 0 (capEn cap ρ) M []) P:=by simp only [ev,okp_bind]
theorem k_d0 {P:List D→Mem→Prop}:Okp (evDs G [] ρ M) P=P [] M:=by simp only [evDs,okp_ok]
theorem k_d1 {c:C} {cs:List C} {P:List D→Mem→Prop}:Okp (evDs G (c::cs) ρ M) P=Okp (ev G c ρ M) fun w M=>Okp (own w M) fun d M=>Okp (evDs G cs ρ M) fun ds M=>P (d::ds) M:=by simp only [evDs,okp_bind,okp_ok]
theorem k_w0 {P:List W→Mem→Prop}:Okp (evWs G [] ρ M) P=P [] M:=by simp only [evWs,okp_ok]
theorem k_w1 {c:C} {cs:List C} {P:List W→Mem→Prop}:Okp (evWs G (c::cs) ρ M) P=Okp (ev G c ρ M) fun w M=>Okp (evWs G cs ρ M) fun ds M=>P (w::ds) M:=by simp only [evWs,okp_bind,okp_ok]
theorem k_val {c:C} {P:Bool→Mem→Prop}:Okp (evT G (.val c) ρ M) P=Okp (ev G c ρ M) fun w M=>∃ r,truW M w=some r∧P r M:=by
 simp only [evT,okp_bind]
 congr 1; funext w M
 cases h:truW M w with
 | none=>simp only [reduceCtorEq,false_and,exists_false,okp_stuck]
 | some r=>simp only [Option.some.injEq,exists_eq_left',okp_ok]
theorem k_neg {a:Tst} {P:Bool→Mem→Prop}:Okp (evT G (.neg a) ρ M) P=Okp (evT G a ρ M) fun r M=>P (!r) M:=by simp only [evT,okp_bind,okp_ok]
theorem k_all1 {a:Tst} {P:Bool→Mem→Prop}:Okp (evAll G [a] ρ M) P=Okp (evT G a ρ M) P:=by simp only [evAll,okp_bind,okp_ok]
theorem k_any1 {a:Tst} {P:Bool→Mem→Prop}:Okp (evAny G [a] ρ M) P=Okp (evT G a ρ M) P:=by simp only [evAny,okp_bind,okp_ok]
theorem k_all2 {a b:Tst} {cs:List Tst} {P:Bool→Mem→Prop}:Okp (evAll G (a::b::cs) ρ M) P=Okp (evT G a ρ M) fun r M=>if r then Okp (evAll G (b::cs) ρ M) P else P false M:=by
 rw [evAll]
 simp only [okp_bind]
 congr 1; funext r M
 cases r with
 | true=>rfl
 | false=>exact okp_ok
theorem k_any2 {a b:Tst} {cs:List Tst} {P:Bool→Mem→Prop}:Okp (evAny G (a::b::cs) ρ M) P=Okp (evT G a ρ M) fun r M=>if r then P true M else Okp (evAny G (b::cs) ρ M) P:=by
 rw [evAny]
 simp only [okp_bind]
 congr 1; funext r M
 cases r with
 | true=>exact okp_ok
 | false=>rfl
theorem k_conj {ts:List Tst} {P:Bool→Mem→Prop}:Okp (evT G (.conj ts) ρ M) P=Okp (evAll G ts ρ M) P:=by simp only [evT]
theorem k_disj {ts:List Tst} {P:Bool→Mem→Prop}:Okp (evT G (.disj ts) ρ M) P=Okp (evAny G ts ρ M) P:=by simp only [evT]
end
section
variable {G:Fns} {ρ:En} {M:Mem} {nx:En→Mem→Prop} {rt:W→Mem→Prop} {bk ct:En→Mem→Prop}
theorem t_asgC {i:Nat} {c:C}:OkT (evS G (.asgC i c) ρ M) nx rt bk ct=Okp (ev G c ρ M) fun w M=>Okp (own w M) fun d M=>nx (ρ.set i (some d)) M:=by simp only [evS,okt_ofE,okp_bind,okt_nx]
theorem t_put {o i v:C}:OkT (evS G (.put o i v) ρ M) nx rt bk ct=Okp (ev G v ρ M) fun w M=>Okp (own w M) fun d M=>Okp (ev G o ρ M) fun x M=>Okp (ev G i ρ M) fun y M=>Okp (setW x y d M) fun _ M=>nx ρ M:=by simp only [evS,okt_ofE,okp_bind,okt_nx]
theorem t_expr {c:C}:OkT (evS G (.expr c) ρ M) nx rt bk ct=Okp (ev G c ρ M) fun _ M=>nx ρ M:=by simp only [evS,okt_ofE,okt_nx]
theorem t_ret {c:C}:OkT (evS G (.ret c) ρ M) nx rt bk ct=Okp (ev G c ρ M) rt:=by simp only [evS,okt_ofE,okt_rt]
theorem t_if {t:Tst} {a b:List S}:OkT (evS G (.iff t a b) ρ M) nx rt bk ct=Okp (evT G t ρ M) fun r M=>if r then OkT (evSs G a ρ M) nx rt bk ct else OkT (evSs G b ρ M) nx rt bk ct:=by
 simp only [evS,okt_ofE]
 congr 1; funext r M
 cases r <;> rfl
theorem t_for {tg:List Nat} {k:SK} {src:List C} {b:List S}:OkT (evS G (.forr tg k src b) ρ M) nx rt bk ct=Okp (evWs G src ρ M) fun ws M=>Okp (srcW k ws M) fun it M=>OkT (forGo (fun ρ M=>evSs G b ρ M) it tg (itLen M it) 0 ρ M) nx rt bk ct:=by
 simp only [evS,okt_ofE,evSrc,okp_bind]
theorem t_nil:OkT (evSs G [] ρ M) nx rt bk ct=nx ρ M:=by simp only [evSs,okt_nx]
theorem t_cons {s:S} {ss:List S}:OkT (evSs G (s::ss) ρ M) nx rt bk ct=OkT (evS G s ρ M) (fun ρ M=>OkT (evSs G ss ρ M) nx rt bk ct) rt bk ct:=by simp only [evSs,okt_seq]
end
theorem for_ok {body : En → Mem → OutS} {it : It} {tg : List Nat} {ds : List D} {nx : En → Mem → Prop} {rt : W → Mem → Prop} {bk ct : En → Mem → Prop} (I : Nat → En → Mem → Prop) (hd : ∀ i ρ M, I i ρ M → i ≤ ds.length → itemAt M i it = some ds[i]?)
    (hs : ∀ i ρ M d, I i ρ M → ds[i]? = some d → ∃ ρ', bindT tg d ρ = some ρ' ∧ OkT (body ρ' M) (I (i + 1)) rt nx (I (i + 1))) (he : ∀ ρ M, I ds.length ρ M → nx ρ M) :
    ∀ (f i : Nat) (ρ : En) (M : Mem), I i ρ M → i + f = ds.length → OkT (forGo body it tg f i ρ M) nx rt bk ct
  | 0, i, ρ, M, h, e => by
    unfold forGo
    have : i = ds.length := by omega
    subst this
    rw [hd _ _ _ h (Nat.le_refl _), List.getElem?_eq_none (Nat.le_refl _)]
    dsimp only
    rw [okt_nx]
    exact he _ _ h
  | f + 1, i, ρ, M, h, e => by
    unfold forGo
    have hi : i < ds.length := by omega
    rw [hd _ _ _ h (Nat.le_of_lt hi), List.getElem?_eq_getElem hi]
    obtain ⟨ρ', e1, e2⟩ := hs i ρ M ds[i] h (List.getElem?_eq_getElem hi)
    dsimp only
    rw [e1]
    dsimp only
    cases q : body ρ' M with
    | nx ρ2 M2 => rw [q, okt_nx] at e2; exact for_ok I hd hs he f (i + 1) ρ2 M2 e2 (by omega)
    | ct ρ2 M2 => rw [q, okt_ct] at e2; exact for_ok I hd hs he f (i + 1) ρ2 M2 e2 (by omega)
    | bk ρ2 M2 => rw [q, okt_bk] at e2; dsimp only; rw [okt_nx]; exact e2
    | rt w M2 => rw [q, okt_rt] at e2; dsimp only; rw [okt_rt]; exact e2
    | stuck => rw [q, okt_stuck] at e2; exact e2.elim
theorem comp_ok {cond : En → Mem → Out Bool} {elt : En → Mem → Out D} {it : It} {tg : List Nat} {ds : List D} {P : W → Mem → Prop} (I : Nat → En → Mem → List D → Prop) (hd : ∀ i ρ M acc, I i ρ M acc → i ≤ ds.length → itemAt M i it = some ds[i]?)
    (hs : ∀ i ρ M acc d, I i ρ M acc → ds[i]? = some d → acc.length < sizeLine ∧ ∃ ρ', bindT tg d ρ = some ρ' ∧ Okp (cond ρ' M) fun b M => if b then Okp (elt ρ' M) fun x M => I (i + 1) ρ' M (acc ++ [x]) else I (i + 1) ρ' M acc) (he : ∀ ρ M acc, I ds.length ρ M acc → P (.lv acc) M) :
    ∀ (f i : Nat) (ρ : En) (M : Mem) (acc : List D), I i ρ M acc → i + f = ds.length → Okp (compGo cond elt it tg f i ρ M acc) P
  | 0, i, ρ, M, acc, h, e => by
    unfold compGo
    have : i = ds.length := by omega
    subst this
    rw [hd _ _ _ _ h (Nat.le_refl _), List.getElem?_eq_none (Nat.le_refl _)]
    dsimp only
    rw [okp_ok]
    exact he _ _ _ h
  | f + 1, i, ρ, M, acc, h, e => by
    unfold compGo
    have hi : i < ds.length := by omega
    rw [hd _ _ _ _ h (Nat.le_of_lt hi), List.getElem?_eq_getElem hi]
    obtain ⟨hl, ρ', e1, e2⟩ := hs i ρ M acc ds[i] h (List.getElem?_eq_getElem hi)
    dsimp only
    rw [e1]
    dsimp only
    rw [if_pos hl, okp_bind]
    refine e2.imp fun b M2 q => ?_
    cases b with
    | true =>
      rw [if_pos rfl] at q ⊢
      rw [okp_bind]
      exact q.imp fun x M3 q => comp_ok I hd hs he f (i + 1) ρ' M3 _ q (by omega)
    | false =>
      rw [if_neg (by simp)] at q ⊢
      exact comp_ok I hd hs he f (i + 1) ρ' M2 _ q (by omega)
end Ev
end
section
set_option Elab.async false
set_option linter.all false
set_option maxRecDepth 100000
set_option maxHeartbeats 4000000
namespace Ev
open L2
open PySem PySem.Spec PyProof.Rows
def Opk {α:Type} (o:Out α) (P:α→Mem→Prop):Prop:=match o with
 | .ok a M=>P a M
 | _=>False
theorem okp_opk {α:Type} {o:Out α} {P:α→Mem→Prop}:Okp o P=Opk o P:=by
 cases o with
 | ok a M=>rw [okp_ok]; rfl
 | err _ _=>rw [okp_err]; rfl
 | stuck=>rw [okp_stuck]; rfl
def andK (x:W) (A B:Prop):Prop:=match x with
 | .d (.bl true)=>A
 | .d (.bl false)=>B
 | _=>False
def bK (b:Bool) (A B:Prop):Prop:=match b with
 | true=>A
 | false=>B
theorem bK_if {b:Bool} {A B:Prop}:bK b A B=if b=true then A else B:=by cases b <;> simp [bK]
def truK (o:Option Bool) (P:Bool→Prop):Prop:=match o with
 | some r=>P r
 | none=>False
def varK (o:Option (Option D)) (P:D→Prop):Prop:=match o with
 | some (some d)=>P d
 | _=>False
def enK (o:Option En) (P:En→Prop):Prop:=match o with
 | some ρ=>P ρ
 | none=>False
def intK (w:W) (P:Int→Prop):Prop:=match w with
 | .d (.int i)=>P i
 | _=>False
def strK (w:W) (P:Str→Prop):Prop:=match w with
 | .d (.str i)=>P i
 | _=>False
def isNon:D→Bool
 | .non=>true
 | _=>false
theorem sh_int {i:Int}:SeqAt.shaped (.int i)=true:=by unfold SeqAt.shaped; rw [PyData.canLay0.eq_3,PyData.depth.eq_6]; rfl
theorem c_eqI {M:Mem} {i j:Int}:cmpW .eq (.d (.int i)) (.d (.int j)) M=.ok (i == j) M:=by
 unfold cmpW
 have h1:∀ i,pyW M (.d (.int i))=some (.int i):=fun i=>by show pyD M 30 (.int i)=_; unfold pyD; rfl
 simp only [h1,sh_int,and_self,if_true,PyData.eqv.eq_5]
theorem c_neI {M:Mem} {i j:Int}:cmpW .ne (.d (.int i)) (.d (.int j)) M=.ok (!(i == j)) M:=by
 unfold cmpW
 have h1:∀ i,pyW M (.d (.int i))=some (.int i):=fun i=>by show pyD M 30 (.int i)=_; unfold pyD; rfl
 simp only [h1,sh_int,and_self,if_true,PyData.eqv.eq_5]
def wBin (op:BOp) (x y:W) (M:Mem) (P:W→Mem→Prop):Prop:=match op,x,y with
 | .add,.d (.int i),.d (.int j)=>P (.d (.int (i+j))) M
 | .sub,.d (.int i),.d (.int j)=>P (.d (.int (i - j))) M
 | .mul,.d (.int i),.d (.int j)=>((-(2 ^ 64) < i∧i < 2 ^ 64)∨(-(2 ^ 64) < j∧j < 2 ^ 64))∧P (.d (.int (i * j))) M
 | .fdiv,.d (.int i),.d (.int j)=>(0 < j∧j < 1073741824)∧P (.d (.int (i / j))) M
 | .mod,.d (.int i),.d (.int j)=>0 < j∧P (.d (.int (i % j))) M
 | .add,.d (.tup xs),.d (.tup ys)=>xs.length+ys.length≤sizeLine∧P (.d (.tup (xs++ys))) M
 | .add,.lv xs,.lv ys=>xs.length+ys.length≤sizeLine∧P (.lv (xs++ys)) M
 | op,x,y=>Opk (binW op x y M) P
theorem opk_if {α:Type} {c:Prop} [Decidable c] {a:α} {M:Mem} {P:α→Mem→Prop}:Opk (if c then .ok a M else .stuck) P=(c∧P a M):=by
 by_cases h:c
 ·rw [if_pos h]; exact propext ⟨fun q=>⟨h,q⟩,fun q=>q.2⟩
 ·rw [if_neg h]; exact propext ⟨fun q=>q.elim,fun q=>absurd q.1 h⟩
theorem opk_bin {op:BOp} {x y:W} {M:Mem} {P:W→Mem→Prop}:Opk (binW op x y M) P=wBin op x y M P:=by
 unfold wBin
 split <;> first | rfl | exact opk_if
def wCmp (op:COp) (x y:W) (M:Mem) (P:Bool→Mem→Prop):Prop:=match op,x,y with
 | .eq,.d (.int i),.d (.int j)=>P (i == j) M
 | .ne,.d (.int i),.d (.int j)=>P (!(i == j)) M
 | .isN,.d d,_=>P (isNon d) M
 | .notN,.d d,_=>P (!isNon d) M
 | op,x,y=>Opk (cmpW op x y M) P
theorem opk_cmp {op:COp} {x y:W} {M:Mem} {P:Bool→Mem→Prop}:Opk (cmpW op x y M) P=wCmp op x y M P:=by
 unfold wCmp
 split
 ·rw [c_eqI]; rfl
 ·rw [c_neI]; rfl
 ·rename_i d; cases d <;> rfl
 ·rename_i d; cases d <;> rfl
 ·rfl
def wSrc (k:SK) (ws:List W) (M:Mem) (P:It→Mem→Prop):Prop:=match k,ws with
 | .rng1,[.d (.int j)]=>(-(2 ^ 62)≤j∧j < 2 ^ 62)∧P (.rng 0 j.toNat) M
 | .rng2,[.d (.int i),.d (.int j)]=>(-(2 ^ 62)≤i∧i < 2 ^ 62∧-(2 ^ 62)≤j∧j < 2 ^ 62)∧P (.rng i (j - i).toNat) M
 | k,ws=>Opk (srcW k ws M) P
theorem opk_src {k:SK} {ws:List W} {M:Mem} {P:It→Mem→Prop}:Opk (srcW k ws M) P=wSrc k ws M P:=by
 unfold wSrc
 split <;> first | rfl | exact opk_if
def wRng (tp:Bool) (ws:List W) (M:Mem) (P:W→Mem→Prop):Prop:=match rngArg ws with
 | some (i,j)=>((-(2 ^ 62)≤i∧i < 2 ^ 62∧-(2 ^ 62)≤j∧j < 2 ^ 62)∧(j - i).toNat≤2 ^ 24)∧P (rngOut tp (rngD i (j - i).toNat)) M
 | none=>False
theorem opk_rng {tp:Bool} {ws:List W} {M:Mem} {P:W→Mem→Prop}:Opk (rngW tp ws M) P=wRng tp ws M P:=by
 unfold rngW wRng
 cases rngArg ws with
 | none=>rfl
 | some ij=>exact opk_if
mutual
def wE (G : Fns) : C → En → Mem → (W → Mem → Prop) → Prop
  | .var i, ρ, M, P => varK ρ[i]? fun d => P (.d d) M
  | .cst d, _, M, P => P (.d d) M
  | .bin op a b, ρ, M, P => wE G a ρ M fun x M => wE G b ρ M fun y M => wBin op x y M P
  | .cmp op a b, ρ, M, P => wE G a ρ M fun x M => wE G b ρ M fun y M => wCmp op x y M fun r M => P (.d (.bl r)) M
  | .chain o1 o2 a b c, ρ, M, P => wE G a ρ M fun x M => wE G b ρ M fun y M => wCmp o1 x y M fun r M =>
      bK r (wE G c ρ M fun z M => wCmp o2 y z M fun r M => P (.d (.bl r)) M) (P (.d (.bl false)) M)
  | .conj cs, ρ, M, P => wAnd G cs ρ M P
  | .disj cs, ρ, M, P => wOr G cs ρ M P
  | .neg a, ρ, M, P => wE G a ρ M fun x M => andK x (P (.d (.bl false)) M) (P (.d (.bl true)) M)
  | .ite c a b, ρ, M, P => wT G c ρ M fun r M => bK r (wE G a ρ M P) (wE G b ρ M P)
  | .tup cs, ρ, M, P => wDs G cs ρ M fun ds M => ds.length ≤ sizeLine ∧ P (.d (.tup ds)) M
  | .lst cs, ρ, M, P => wDs G cs ρ M fun ds M => ds.length ≤ sizeLine ∧ P (.lv ds) M
  | .sub a b, ρ, M, P => wE G a ρ M fun x M => wE G b ρ M fun y M => Opk (subW x y M) P
  | .slc a lo hi, ρ, M, P => wE G a ρ M fun x M => wO G lo ρ M fun l M => wO G hi ρ M fun h M => Opk (slcW x l h M) P
  | .stp a k, ρ, M, P => wE G a ρ M fun x M => Opk (stpW x k M) P
  | .sfind a b, ρ, M, P => wE G a ρ M fun x M => strK x fun z => wE G b ρ M fun y M => Opk (findW (.d (.str z)) y M) P
  | .call f cs, ρ, M, P => wDs G cs ρ M fun ds M => Okp (G f ds M) P
  | .bi b cs, ρ, M, P => wWs G cs ρ M fun ws M => Opk (biW b ws M) P
  | .me m o cs, ρ, M, P => wE G o ρ M fun x M => (lstW M x).isSome = true ∧ wDs G cs ρ M fun ds M => Opk (meW m x ds M) P
  | .dct ks cs, ρ, M, P => wDs G cs ρ M fun ds M => ks.length = ds.length ∧ P (.d (.adr M.length)) (M ++ [.dK ((ks.map Sum.inr).zip ds)])
  | .rng tp cs, ρ, M, P => wWs G cs ρ M fun ws M => wRng tp ws M P
  | .usub a, ρ, M, P => wE G a ρ M fun x M => Opk (negW x M) P
  | .minD a b, ρ, M, P => wE G a ρ M fun x M => wE G b ρ M fun y M => Opk (minDW x y M) P
  | .comp k src tg cond elt cap, ρ, M, P => wWs G src ρ M fun ws M => wSrc k ws M fun it M => Okp (compGo (fun τ M => evCond G cond τ M) (fun τ M => (ev G elt τ M).bind own) it tg (itLen M it) 0 (capEn cap ρ) M []) P
def wT (G:Fns):Tst→En→Mem→(Bool→Mem→Prop)→Prop
 | .conj ts,ρ,M,P=>wAll G ts ρ M P
 | .disj ts,ρ,M,P=>wAny G ts ρ M P
 | .neg a,ρ,M,P=>wT G a ρ M fun r M=>P (!r) M
 | .val c,ρ,M,P=>wE G c ρ M fun w M=>truK (truW M w) fun r=>P r M
def wAnd (G:Fns):List C→En→Mem→(W→Mem→Prop)→Prop
 | [],_,_,_=>False
 | c::cs,ρ,M,P=>match cs with
  | []=>wE G c ρ M P
  | _::_=>wE G c ρ M fun x M=>andK x (wAnd G cs ρ M P) (P (.d (.bl false)) M)
def wOr (G:Fns):List C→En→Mem→(W→Mem→Prop)→Prop
 | [],_,_,_=>False
 | c::cs,ρ,M,P=>match cs with
  | []=>wE G c ρ M P
  | _::_=>wE G c ρ M fun x M=>andK x (P (.d (.bl true)) M) (wOr G cs ρ M P)
def wAll (G:Fns):List Tst→En→Mem→(Bool→Mem→Prop)→Prop
 | [],_,_,_=>False
 | c::cs,ρ,M,P=>match cs with
  | []=>wT G c ρ M P
  | _::_=>wT G c ρ M fun r M=>bK r (wAll G cs ρ M P) (P false M)
def wAny (G:Fns):List Tst→En→Mem→(Bool→Mem→Prop)→Prop
 | [],_,_,_=>False
 | c::cs,ρ,M,P=>match cs with
  | []=>wT G c ρ M P
  | _::_=>wT G c ρ M fun r M=>bK r (P true M) (wAny G cs ρ M P)
def wDs (G:Fns):List C→En→Mem→(List D→Mem→Prop)→Prop
 | [],_,M,P=>P [] M
 | c::cs,ρ,M,P=>wE G c ρ M fun w M=>Opk (own w M) fun d M=>wDs G cs ρ M fun ds M=>P (d::ds) M
def wWs (G:Fns):List C→En→Mem→(List W→Mem→Prop)→Prop
 | [],_,M,P=>P [] M
 | c::cs,ρ,M,P=>wE G c ρ M fun w M=>wWs G cs ρ M fun ws M=>P (w::ws) M
def wO (G:Fns):Option C→En→Mem→(Option Int→Mem→Prop)→Prop
 | none,_,M,P=>P none M
 | some c,ρ,M,P=>wE G c ρ M fun w M=>intK w fun i=>P (some i) M
end
def wCond (G:Fns) (o:Option Tst) (ρ:En) (M:Mem) (P:Bool→Mem→Prop):Prop:=match o with
 | none=>P true M
 | some t=>wT G t ρ M P
mutual
theorem w_e {G:Fns}:∀ (c:C) (ρ:En) (M:Mem) (P:W→Mem→Prop),Okp (ev G c ρ M) P=wE G c ρ M P
 | .var i,ρ,M,P=>by
  simp only [ev,wE]
  rcases ρ[i]? with _ | _ | d
  ·exact okp_stuck
  ·exact okp_stuck
  ·exact okp_ok
 | .cst d,ρ,M,P=>by rw [k_cst]; rfl
 | .bin op a b,ρ,M,P=>by rw [k_bin,w_e a]; simp only [w_e b,okp_opk,wE,opk_bin]
 | .cmp op a b,ρ,M,P=>by rw [k_cmp,w_e a]; simp only [w_e b,okp_opk,wE,opk_cmp]
 | .chain o1 o2 a b c,ρ,M,P=>by
  simp only [ev,okp_bind,wE]
  rw [w_e a]
  congr 1; funext x M
  rw [w_e b]
  congr 1; funext y M
  rw [okp_opk,opk_cmp]
  congr 1; funext r M
  cases r with
  | true=>simp only [okp_bind,okp_ok,if_true,w_e c]; simp only [okp_opk,opk_cmp]; rfl
  | false=>simp [okp_ok,bK]
 | .conj cs,ρ,M,P=>by rw [ev,w_and cs]; rfl
 | .disj cs,ρ,M,P=>by rw [ev,w_or cs]; rfl
 | .neg a,ρ,M,P=>by
  simp only [ev,okp_bind,wE]
  rw [w_e a]
  congr 1; funext x M
  rcases x with ⟨_ | b | _ | _ | _ | _ | _⟩ | _
  ·exact okp_stuck
  ·cases b <;> exact okp_ok
  all_goals exact okp_stuck
 | .ite c a b,ρ,M,P=>by rw [k_ite,w_t c]; simp only [w_e a,w_e b,wE,bK_if]
 | .tup cs,ρ,M,P=>by rw [k_tup,w_ds cs]; rfl
 | .lst cs,ρ,M,P=>by rw [k_lst,w_ds cs]; rfl
 | .sub a b,ρ,M,P=>by rw [k_sub,w_e a]; simp only [w_e b,okp_opk,wE]
 | .slc a lo hi,ρ,M,P=>by rw [k_slc,w_e a]; simp only [w_o lo,w_o hi,okp_opk,wE]
 | .stp a k,ρ,M,P=>by rw [k_stp,w_e a]; simp only [okp_opk,wE]
 | .sfind a b,ρ,M,P=>by
  simp only [ev,okp_bind,wE]
  rw [w_e a]
  congr 1; funext x M
  rcases x with ⟨_ | _ | _ | z | _ | _ | _⟩ | _
  ·exact okp_stuck
  ·exact okp_stuck
  ·exact okp_stuck
  ·simp only [okp_bind,w_e b]; simp only [okp_opk]; rfl
  all_goals exact okp_stuck
 | .call f cs,ρ,M,P=>by rw [k_call,w_ds cs]; rfl
 | .bi b cs,ρ,M,P=>by rw [k_bi,w_ws cs]; simp only [okp_opk,wE]
 | .me m o cs,ρ,M,P=>by rw [k_me,w_e o]; simp only [w_ds cs,okp_opk,wE]
 | .dct ks cs,ρ,M,P=>by rw [k_dct,w_ds cs]; rfl
 | .rng tp cs,ρ,M,P=>by simp only [ev,okp_bind,wE]; rw [w_ws cs]; simp only [okp_opk,opk_rng]
 | .usub a,ρ,M,P=>by simp only [ev,okp_bind,wE]; rw [w_e a]; simp only [okp_opk]
 | .minD a b,ρ,M,P=>by simp only [ev,okp_bind,wE]; rw [w_e a]; simp only [w_e b,okp_opk]
 | .comp k src tg cond elt cap,ρ,M,P=>by rw [k_comp,w_ws src]; simp only [okp_opk,wE,opk_src]
theorem w_t {G:Fns}:∀ (c:Tst) (ρ:En) (M:Mem) (P:Bool→Mem→Prop),Okp (evT G c ρ M) P=wT G c ρ M P
 | .conj cs,ρ,M,P=>by rw [k_conj,w_all cs]; rfl
 | .disj cs,ρ,M,P=>by rw [k_disj,w_any cs]; rfl
 | .neg a,ρ,M,P=>by rw [k_neg,w_t a]; rfl
 | .val c,ρ,M,P=>by
  rw [k_val,w_e c]
  simp only [wT]
  congr 1; funext w M
  cases truW M w with
  | none=>simp [truK]
  | some r=>simp [truK]
theorem w_and {G:Fns}:∀ (cs:List C) (ρ:En) (M:Mem) (P:W→Mem→Prop),Okp (evAnd G cs ρ M) P=wAnd G cs ρ M P
 | [],ρ,M,P=>by rw [evAnd]; exact okp_stuck
 | [c],ρ,M,P=>by simp only [evAnd,wAnd,okp_bind,okp_ok,w_e c]
 | c::b::cs,ρ,M,P=>by
  rw [evAnd,wAnd,okp_bind,w_e c]
  congr 1; funext x M
  rw [← w_and (b::cs)]
  rcases x with ⟨_ | b | _ | _ | _ | _ | _⟩ | _
  ·exact okp_stuck
  ·cases b with
   | true=>rfl
   | false=>exact okp_ok
  all_goals exact okp_stuck
theorem w_or {G:Fns}:∀ (cs:List C) (ρ:En) (M:Mem) (P:W→Mem→Prop),Okp (evOr G cs ρ M) P=wOr G cs ρ M P
 | [],ρ,M,P=>by rw [evOr]; exact okp_stuck
 | [c],ρ,M,P=>by simp only [evOr,wOr,okp_bind,okp_ok,w_e c]
 | c::b::cs,ρ,M,P=>by
  rw [evOr,wOr,okp_bind,w_e c]
  congr 1; funext x M
  rw [← w_or (b::cs)]
  rcases x with ⟨_ | b | _ | _ | _ | _ | _⟩ | _
  ·exact okp_stuck
  ·cases b with
   | true=>exact okp_ok
   | false=>rfl
  all_goals exact okp_stuck
theorem w_all {G:Fns}:∀ (cs:List Tst) (ρ:En) (M:Mem) (P:Bool→Mem→Prop),Okp (evAll G cs ρ M) P=wAll G cs ρ M P
 | [],ρ,M,P=>by rw [evAll]; exact okp_stuck
 | [c],ρ,M,P=>by rw [k_all1,w_t c]; rfl
 | c::b::cs,ρ,M,P=>by rw [k_all2,w_t c]; simp only [w_all (b::cs),← bK_if]; rfl
theorem w_any {G:Fns}:∀ (cs:List Tst) (ρ:En) (M:Mem) (P:Bool→Mem→Prop),Okp (evAny G cs ρ M) P=wAny G cs ρ M P
 | [],ρ,M,P=>by rw [evAny]; exact okp_stuck
 | [c],ρ,M,P=>by rw [k_any1,w_t c]; rfl
 | c::b::cs,ρ,M,P=>by rw [k_any2,w_t c]; simp only [w_any (b::cs),← bK_if]; rfl
theorem w_ds {G:Fns}:∀ (cs:List C) (ρ:En) (M:Mem) (P:List D→Mem→Prop),Okp (evDs G cs ρ M) P=wDs G cs ρ M P
 | [],ρ,M,P=>by rw [k_d0]; rfl
 | c::cs,ρ,M,P=>by rw [k_d1,w_e c]; simp only [w_ds cs,okp_opk,wDs]
theorem w_ws {G:Fns}:∀ (cs:List C) (ρ:En) (M:Mem) (P:List W→Mem→Prop),Okp (evWs G cs ρ M) P=wWs G cs ρ M P
 | [],ρ,M,P=>by rw [k_w0]; rfl
 | c::cs,ρ,M,P=>by rw [k_w1,w_e c]; simp only [w_ws cs,okp_opk,wWs]
theorem w_o {G:Fns}:∀ (o:Option C) (ρ:En) (M:Mem) (P:Option Int→Mem→Prop),Okp (evO G o ρ M) P=wO G o ρ M P
 | none,ρ,M,P=>by rw [k_o0]; rfl
 | some c,ρ,M,P=>by
  simp only [evO,okp_bind,wO]
  rw [w_e c]
  congr 1; funext x M
  rcases x with ⟨_ | _ | z | _ | _ | _ | _⟩ | _
  ·exact okp_stuck
  ·exact okp_stuck
  ·exact okp_ok
  all_goals exact okp_stuck
end
theorem w_cond {G:Fns} {o:Option Tst} {ρ:En} {M:Mem} {P:Bool→Mem→Prop}:Okp (evCond G o ρ M) P=wCond G o ρ M P:=by
 cases o with
 | none=>exact okp_ok
 | some t=>exact w_t t ρ M P
theorem w_own {G:Fns} {c:C} {ρ:En} {M:Mem} {P:D→Mem→Prop}:Okp ((ev G c ρ M).bind own) P=wE G c ρ M fun w M=>Opk (own w M) P:=by
 rw [okp_bind,w_e]
 simp only [okp_opk]
mutual
def wS (G:Fns):S→En→Mem→(En→Mem→Prop)→(W→Mem→Prop)→(En→Mem→Prop)→(En→Mem→Prop)→Prop
 | .asg tg c,ρ,M,nx,_,_,_=>wE G c ρ M fun w M=>Opk (own w M) fun d M=>enK (bindT tg d ρ) fun ρ=>nx ρ M
 | .asgC i c,ρ,M,nx,_,_,_=>wE G c ρ M fun w M=>Opk (own w M) fun d M=>nx (ρ.set i (some d)) M
 | .put o i v,ρ,M,nx,_,_,_=>wE G v ρ M fun w M=>Opk (own w M) fun d M=>wE G o ρ M fun x M=>wE G i ρ M fun y M=>Opk (setW x y d M) fun _ M=>nx ρ M
 | .par i j a b,ρ,M,nx,_,_,_=>wE G a ρ M fun w M=>Opk (own w M) fun x M=>wE G b ρ M fun w M=>Opk (own w M) fun y M=>nx ((ρ.set i (some x)).set j (some y)) M
 | .expr c,ρ,M,nx,_,_,_=>wE G c ρ M fun _ M=>nx ρ M
 | .ret c,ρ,M,_,rt,_,_=>wE G c ρ M rt
 | .retN,_,M,_,rt,_,_=>rt (.d .non) M
 | .iff t a b,ρ,M,nx,rt,bk,ct=>wT G t ρ M fun r M=>bK r (wSs G a ρ M nx rt bk ct) (wSs G b ρ M nx rt bk ct)
 | .forr tg k src b,ρ,M,nx,rt,bk,ct=>wWs G src ρ M fun ws M=>wSrc k ws M fun it M=>OkT (forGo (fun ρ M=>evSs G b ρ M) it tg (itLen M it) 0 ρ M) nx rt bk ct
 | .never,_,_,_,_,_,_=>False
 | .pass,ρ,M,nx,_,_,_=>nx ρ M
 | .brk,ρ,M,_,_,bk,_=>bk ρ M
 | .cont,ρ,M,_,_,_,ct=>ct ρ M
def wSs (G:Fns):List S→En→Mem→(En→Mem→Prop)→(W→Mem→Prop)→(En→Mem→Prop)→(En→Mem→Prop)→Prop
 | [],ρ,M,nx,_,_,_=>nx ρ M
 | s::ss,ρ,M,nx,rt,bk,ct=>wS G s ρ M (fun ρ M=>wSs G ss ρ M nx rt bk ct) rt bk ct
end
mutual
theorem w_s {G:Fns}:∀ (s:S) (ρ:En) (M:Mem) (nx:En→Mem→Prop) (rt:W→Mem→Prop) (bk ct:En→Mem→Prop),OkT (evS G s ρ M) nx rt bk ct=wS G s ρ M nx rt bk ct
 | .asg tg c,ρ,M,nx,rt,bk,ct=>by
  simp only [evS,okt_ofE,wS]
  rw [w_own]
  congr 1; funext w M
  congr 1; funext d M
  cases bindT tg d ρ with
  | none=>exact okt_stuck
  | some ρ=>exact okt_nx
 | .asgC i c,ρ,M,nx,rt,bk,ct=>by rw [t_asgC,w_e c]; simp only [okp_opk,wS]
 | .put o i v,ρ,M,nx,rt,bk,ct=>by rw [t_put,w_e v]; simp only [w_e o,w_e i,okp_opk,wS]
 | .par i j a b,ρ,M,nx,rt,bk,ct=>by
  simp only [evS,okt_ofE]
  rw [w_ds]
  show wE G a ρ M (fun w M=>Opk (own w M) fun x M=>wE G b ρ M fun w M=>Opk (own w M) fun y M=>OkT (.nx ((ρ.set i (some x)).set j (some y)) M) nx rt bk ct)=_
  simp only [okt_nx,wS]
 | .expr c,ρ,M,nx,rt,bk,ct=>by rw [t_expr,w_e c]; rfl
 | .ret c,ρ,M,nx,rt,bk,ct=>by rw [t_ret,w_e c]; rfl
 | .retN,ρ,M,nx,rt,bk,ct=>okt_rt
 | .iff t a b,ρ,M,nx,rt,bk,ct=>by rw [t_if,w_t t]; simp only [w_ss a,w_ss b,wS,bK_if]
 | .forr tg k src b,ρ,M,nx,rt,bk,ct=>by rw [t_for,w_ws src]; simp only [okp_opk,wS,opk_src]
 | .never,ρ,M,nx,rt,bk,ct=>okt_stuck
 | .pass,ρ,M,nx,rt,bk,ct=>okt_nx
 | .brk,ρ,M,nx,rt,bk,ct=>okt_bk
 | .cont,ρ,M,nx,rt,bk,ct=>okt_ct
theorem w_ss {G:Fns}:∀ (ss:List S) (ρ:En) (M:Mem) (nx:En→Mem→Prop) (rt:W→Mem→Prop) (bk ct:En→Mem→Prop),OkT (evSs G ss ρ M) nx rt bk ct=wSs G ss ρ M nx rt bk ct
 | [],ρ,M,nx,rt,bk,ct=>t_nil
 | s::ss,ρ,M,nx,rt,bk,ct=>by rw [t_cons,w_s s]; simp only [w_ss ss]; rfl
end
theorem w_run {G:Fns} {n:Nat} {b:List S} {ds:List D} {M:Mem} {P:W→Mem→Prop}:Okp (runDef G n b ds M) P=wSs G b (startE n ds) M (fun _ M=>P (.d .non) M) P (fun _ _=>False) (fun _ _=>False):=by
 rw [okp_run,w_ss]
end Ev
end
section
set_option Elab.async false
set_option linter.all false
set_option maxRecDepth 100000
set_option maxHeartbeats 4000000
namespace Ev
open L2
open PySem PySem.Spec PyProof.Rows
abbrev Fn:=List D→Mem→Out W
def Fr (w:Nat) (M M':Mem):Prop:=M.length≤M'.length∧∀ n,n < M.length→n≠w→M'[n]?=M[n]?
abbrev Ex (M M':Mem):Prop:=Fr M.length M M'
theorem lt_of_get {M:Mem} {n:Nat} {o:MO} (h:M[n]?=some o):n < M.length:=(List.getElem?_eq_some_iff.mp h).1
theorem app_get {M X:Mem} {n:Nat} {o:MO} (h:M[n]?=some o):(M++X)[n]?=some o:=by rw [List.getElem?_append_left (lt_of_get h)]; exact h
theorem app_last {M:Mem} {o:MO}:(M++[o])[M.length]?=some o:=by simp
theorem set_get {M:Mem} {n m:Nat} {o u:MO} (h:M[n]?=some o) (hn:n≠m):(M.set m u)[n]?=some o:=by rw [List.getElem?_set_ne (Ne.symm hn)]; exact h
theorem set_same {M:Mem} {n:Nat} {o u:MO} (h:M[n]?=some o):(M.set n u)[n]?=some u:=List.getElem?_set_self (lt_of_get h)
theorem Fr.refl (w:Nat) (M:Mem):Fr w M M:=⟨Nat.le_refl _,fun _ _ _=>rfl⟩
theorem Fr.app {w:Nat} {M M1 X:Mem} (a:Fr w M M1):Fr w M (M1++X):=⟨by have:=a.1; simp only [List.length_append]; omega,fun n h k=>by rw [List.getElem?_append_left (Nat.lt_of_lt_of_le h a.1)]; exact a.2 n h k⟩
theorem Fr.set {w n:Nat} {M M1:Mem} {o:MO} (a:Fr w M M1) (h:M.length≤n):Fr w M (M1.set n o):=⟨by rw [List.length_set]; exact a.1,fun m hm k=>by rw [List.getElem?_set_ne (by omega)]; exact a.2 m hm k⟩
theorem Fr.setw {w:Nat} {M M1:Mem} {o:MO} (a:Fr w M M1):Fr w M (M1.set w o):=⟨by rw [List.length_set]; exact a.1,fun m hm k=>by rw [List.getElem?_set_ne (Ne.symm k)]; exact a.2 m hm k⟩
theorem Fr.get {w n:Nat} {M M1:Mem} {o:MO} (a:Fr w M M1) (h:M[n]?=some o) (k:n≠w):M1[n]?=some o:=(a.2 n (lt_of_get h) k).trans h
theorem Fr.back {w v:Nat} {M M1 M2:Mem} (a:Fr w M M1) (b:Fr v M1 M2) (h:M.length≤v∨v=w):Fr w M M2:=⟨Nat.le_trans a.1 b.1,fun n hn k=>(b.2 n (Nat.lt_of_lt_of_le hn a.1) (by omega)).trans (a.2 n hn k)⟩
theorem Ex.refl (M:Mem):Ex M M:=Fr.refl _ M
theorem Ex.get {n:Nat} {M M1:Mem} {o:MO} (a:Ex M M1) (h:M[n]?=some o):M1[n]?=some o:=Fr.get a h (Nat.ne_of_lt (lt_of_get h))
theorem Ex.trans {M M1 M2:Mem} (a:Ex M M1) (b:Ex M1 M2):Ex M M2:=Fr.back a b (.inl a.1)
section
variable {M:Mem} {n:Nat} {ds:List D} {i:Int} {x:D}
theorem ix_at (hi:0≤i) (h:ds[i.toNat]?=some x):ixD ds i=some x:=by
 have hl:=(List.getElem?_eq_some_iff.mp h).1
 unfold ixD atI ixN
 rw [if_pos hi,if_pos (by omega)]
 exact h
theorem sub_lst (hM:M[n]?=some (.lst ds)) (hi:0≤i) (h:ds[i.toNat]?=some x):subW (.d (.adr n)) (.d (.int i)) M=.ok (.d x) M:=by
 unfold subW seqW; simp only [hM,ix_at hi h]
theorem sub_tup (hi:0≤i) (h:ds[i.toNat]?=some x):subW (.d (.tup ds)) (.d (.int i)) M=.ok (.d x) M:=by
 unfold subW seqW; simp only [ix_at hi h]
theorem sub_tupN {m:Nat} (h:ds[m]?=some x):subW (.d (.tup ds)) (.d (.int m)) M=.ok (.d x) M:=sub_tup (Int.natCast_nonneg m) (by rw [Int.toNat_natCast]; exact h)
theorem m_append (hM:M[n]?=some (.lst ds)) (hl:ds.length < sizeLine):meW .append (.d (.adr n)) [x] M=.ok (.d .non) (M.set n (.lst (ds++[x]))):=by
 unfold meW; simp only [hM,if_pos hl]
theorem lst_some (hM:M[n]?=some (.lst ds)):(lstW M (.d (.adr n))).isSome=true:=by unfold lstW; simp only [hM]; rfl
theorem len_lst (hM:M[n]?=some (.lst ds)):biW .len [.d (.adr n)] M=.ok (.d (.int ds.length)) M:=by unfold biW seqW; simp only [hM]
theorem tuple_lst (hM:M[n]?=some (.lst ds)):biW .tuple1 [.d (.adr n)] M=.ok (.d (.tup ds)) M:=by unfold biW seqW; simp only [hM]
end
theorem small_le {n:Nat} (h:n≤1000):n≤sizeLine:=Nat.le_trans h (by decide)
theorem small_lt {n:Nat} (h:n≤1000):n < sizeLine:=Nat.lt_of_le_of_lt h (by decide)
theorem take_next {α:Type} {l:List α} {k:Nat} {x:α} (h:l[k]?=some x):l.take (k+1)=l.take k++[x]:=by
 rw [List.take_add_one,h]; rfl
theorem sh_str {x:Str} (h:PyData.strOk x=true):SeqAt.shaped (.str x)=true:=by
 unfold SeqAt.shaped
 rw [PyData.canLay0.eq_4,h,PyData.depth.eq_7]; rfl
theorem eqv_str {x y:Str}:PyData.eqv (.str x) (.str y)=(x == y):=PyData.eqv.eq_6 x y
theorem py_str {M:Mem} {x:Str}:pyW M (.d (.str x))=some (.str x):=by show pyD M 30 (.str x)=_; unfold pyD; rfl
theorem c_neS {M:Mem} {x y:Str} (hx:PyData.strOk x=true) (hy:PyData.strOk y=true):cmpW .ne (.d (.str x)) (.d (.str y)) M=.ok (!(x == y)) M:=by
 unfold cmpW; simp only [py_str,sh_str hx,sh_str hy,and_self,if_true,eqv_str]
section
variable {G:Fns} {b:List S} {tg:List Nat} {ρ:En} {M:Mem} {nx:En→Mem→Prop} {rt:W→Mem→Prop} {bk ct:En→Mem→Prop}
theorem f_rng {lo : Int} {n : Nat} (I : Nat → En → Mem → Prop) (h0 : I 0 ρ M)
    (hs : ∀ i ρ M, i < n → I i ρ M → enK (bindT tg (.int (lo + i)) ρ) fun ρ => wSs G b ρ M (I (i + 1)) rt nx (I (i + 1))) (he : ∀ ρ M, I n ρ M → nx ρ M) : OkT (forGo (fun ρ M => evSs G b ρ M) (.rng lo n) tg n 0 ρ M) nx rt bk ct := by
  have hlen : ((List.range n).map fun i => D.int (lo + (i : Nat))).length = n := by simp
  refine for_ok (ds := (List.range n).map fun i => D.int (lo + (i : Nat))) I (fun i ρ M _ hi => ?_) (fun i ρ M d h e => ?_) (fun ρ M h => he ρ M (by rw [hlen] at h; exact h)) n 0 ρ M h0 (by rw [hlen]; omega)
  · rw [hlen] at hi
    show some (if i < n then some (D.int (lo + i)) else none) = _
    by_cases q : i < n
    · rw [if_pos q]; simp [q]
    · rw [if_neg q, List.getElem?_eq_none (by rw [hlen]; omega)]
  · have hi : i < n := by have := (List.getElem?_eq_some_iff.mp e).1; rw [hlen] at this; exact this
    have : d = .int (lo + i) := by rw [List.getElem?_map, List.getElem?_range hi] at e; exact (Option.some.inj e).symm
    subst this
    have q := hs i ρ M hi h
    cases e2 : bindT tg (.int (lo + i)) ρ with
    | none => rw [e2] at q; exact q.elim
    | some ρ' => rw [e2] at q; exact ⟨ρ', rfl, by rw [w_ss]; exact q⟩
theorem f_items {ds : List D} (I : Nat → En → Mem → Prop) (h0 : I 0 ρ M)
    (hs : ∀ i ρ M d, ds[i]? = some d → I i ρ M → enK (bindT tg d ρ) fun ρ => wSs G b ρ M (I (i + 1)) rt nx (I (i + 1))) (he : ∀ ρ M, I ds.length ρ M → nx ρ M) : OkT (forGo (fun ρ M => evSs G b ρ M) (.items ds) tg ds.length 0 ρ M) nx rt bk ct :=
  for_ok (ds := ds) I (fun i ρ M _ _ => rfl) (fun i ρ M d h e => by
    have q := hs i ρ M d e h
    cases e2 : bindT tg d ρ with
    | none => rw [e2] at q; exact q.elim
    | some ρ' => rw [e2] at q; exact ⟨ρ', rfl, by rw [w_ss]; exact q⟩) he ds.length 0 ρ M h0 (by omega)
end
theorem setAll_set:∀ (tg:List Nat) (ds:List D) (ρ:En) (i:Nat) (o:Option D),i∉tg→setAll tg ds (ρ.set i o)=(setAll tg ds ρ).map (·.set i o)
 | [],[],_,_,_,_=>rfl
 | [],_::_,_,_,_,_=>rfl
 | _::_,[],_,_,_,_=>rfl
 | j::tg,d::ds,ρ,i,o,h=>by
  have h1:i≠j:=fun z=>h (by rw [z]; exact List.mem_cons_self)
  show setAll tg ds ((ρ.set i o).set j (some d))=_
  rw [List.set_comm _ _ h1,setAll_set tg ds _ i o fun z=>h (List.mem_cons_of_mem _ z)]
  rfl
theorem setAll_twice:∀ (tg:List Nat) (ds es:List D) (ρ ρ':En),tg.Nodup→setAll tg ds ρ=some ρ'→setAll tg es ρ'=setAll tg es ρ
 | [],[],[],_,_,_,e=>by cases e; rfl
 | [],[],_::_,_,_,_,e=>by cases e; rfl
 | [],_::_,_,_,_,_,e=>by cases e
 | _::_,[],_,_,_,_,e=>by cases e
 | j::tg,d::ds,[],ρ,ρ',n,e=>rfl
 | j::tg,d::ds,f::es,ρ,ρ',n,e=>by
  have n1:=List.nodup_cons.mp n
  have e:setAll tg ds (ρ.set j (some d))=some ρ':=e
  show setAll tg es (ρ'.set j (some f))=setAll tg es (ρ.set j (some f))
  have e2:=setAll_set tg ds (ρ.set j (some d)) j (some f) n1.1
  rw [e,List.set_set] at e2
  exact setAll_twice tg ds es _ _ n1.2 e2
theorem bindT_twice {tg:List Nat} {d e:D} {ρ ρ':En} (n:tg.Nodup) (h:bindT tg d ρ=some ρ'):bindT tg e ρ'=bindT tg e ρ:=by
 match tg,n,h with
 | [i],_,h =>
  have h:some (ρ.set i (some d))=some ρ':=h
  cases h
  show some ((ρ.set i (some d)).set i (some e))=some (ρ.set i (some e))
  rw [List.set_set]
 | [],_,h =>
  cases d <;> first | cases h | skip
  cases e <;> first | rfl | skip
  exact setAll_twice [] _ _ _ _ List.nodup_nil h
 | i::j::tg,n,h =>
  cases d <;> first | cases h | skip
  cases e <;> first | rfl | skip
  exact setAll_twice (i::j::tg) _ _ _ _ n h
section
variable {G:Fns} {cond:Option Tst} {elt:C} {tg:List Nat} {ρ:En} {M:Mem} {P:W→Mem→Prop}
theorem c_gen {it : It} {ds : List D} (I : Nat → Mem → List D → Prop) (n : tg.Nodup) (hit : ∀ i M acc, I i M acc → i ≤ ds.length → itemAt M i it = some ds[i]?) (h0 : I 0 M [])
    (hs : ∀ i M acc d, ds[i]? = some d → I i M acc → acc.length < sizeLine ∧ enK (bindT tg d ρ) fun τ => wCond G cond τ M fun r M => if r = true then wE G elt τ M fun w M => Opk (own w M) fun x M => I (i + 1) M (acc ++ [x]) else I (i + 1) M acc)
    (he : ∀ M acc, I ds.length M acc → P (.lv acc) M) {k : Nat} (hk : k = ds.length) : Okp (compGo (fun τ M => evCond G cond τ M) (fun τ M => (ev G elt τ M).bind own) it tg k 0 ρ M []) P := by
  subst hk
  refine comp_ok (ds := ds) (fun i τ M acc => I i M acc ∧ (τ = ρ ∨ ∃ d, bindT tg d ρ = some τ)) (fun i τ M acc h hi => hit i M acc h.1 hi) (fun i τ M acc d h e => ?_) (fun τ M acc h => he M acc h.1) ds.length 0 ρ M [] ⟨h0, .inl rfl⟩ (by omega)
  obtain ⟨q1, q2⟩ := hs i M acc d e h.1
  have hb : bindT tg d τ = bindT tg d ρ := by
    rcases h.2 with z | ⟨d', z⟩
    · rw [z]
    · exact bindT_twice n z
  refine ⟨q1, ?_⟩
  cases e2 : bindT tg d ρ with
  | none => rw [e2] at q2; exact q2.elim
  | some τ' =>
    rw [e2] at q2
    refine ⟨τ', by rw [hb, e2], ?_⟩
    have q2 : wCond G cond τ' M (fun r M => if r = true then wE G elt τ' M fun w M => Opk (own w M) fun x M => I (i + 1) M (acc ++ [x]) else I (i + 1) M acc) := q2
    rw [← w_cond] at q2
    refine q2.imp fun r M1 q3 => ?_
    cases r with
    | true =>
      rw [if_pos rfl] at q3 ⊢
      rw [w_own]
      rw [← w_own] at q3 ⊢
      exact q3.imp fun x M2 q4 => ⟨q4, .inr ⟨d, e2⟩⟩
    | false =>
      rw [if_neg (by simp)] at q3 ⊢
      exact ⟨q3, .inr ⟨d, e2⟩⟩
theorem c_map {it : It} {ds : List D} (f : D → Option D) (n : tg.Nodup) (hit : ∀ M', Ex M M' → ∀ i, i ≤ ds.length → itemAt M' i it = some ds[i]?) (hl : ds.length ≤ sizeLine)
    (hs : ∀ (i : Nat) M' d, ds[i]? = some d → Ex M M' → enK (bindT tg d ρ) fun τ => wCond G cond τ M' fun r M1 => if r = true then wE G elt τ M1 fun w M1 => Opk (own w M1) fun x M1 => f d = some x ∧ Ex M M1 else f d = none ∧ Ex M M1)
    (he : ∀ M', Ex M M' → P (.lv (ds.filterMap f)) M') {k : Nat} (hk : k = ds.length) : Okp (compGo (fun τ M => evCond G cond τ M) (fun τ M => (ev G elt τ M).bind own) it tg k 0 ρ M []) P := by
  refine c_gen (ds := ds) (fun i M' acc => Ex M M' ∧ acc = (ds.take i).filterMap f) n (fun i M' acc h hi => hit M' h.1 i hi) ⟨Ex.refl M, rfl⟩ ?_ (fun M' acc h => ?_) hk
  · rintro i M' acc d hd ⟨h1, rfl⟩
    have hi := (List.getElem?_eq_some_iff.mp hd).1
    refine ⟨?_, ?_⟩
    · have := List.length_filterMap_le f (ds.take i)
      rw [List.length_take] at this
      omega
    · have q := hs i M' d hd h1
      have e : ∀ o, f d = o → (ds.take (i + 1)).filterMap f = (ds.take i).filterMap f ++ o.toList := fun o ho => by
        rw [take_next hd, List.filterMap_append]
        cases o <;> simp [List.filterMap_cons, ho]
      cases e2 : bindT tg d ρ with
      | none => rw [e2] at q; exact q.elim
      | some τ' =>
        rw [e2] at q
        have q : wCond G cond τ' M' (fun r M1 => if r = true then wE G elt τ' M1 fun w M1 => Opk (own w M1) fun x M1 => f d = some x ∧ Ex M M1 else f d = none ∧ Ex M M1) := q
        show wCond G cond τ' M' (fun r M1 => if r = true then wE G elt τ' M1 fun w M1 => Opk (own w M1) fun x M1 => Ex M M1 ∧ (ds.take i).filterMap f ++ [x] = (ds.take (i + 1)).filterMap f else Ex M M1 ∧ (ds.take i).filterMap f = (ds.take (i + 1)).filterMap f)
        rw [← w_cond] at q ⊢
        refine q.imp fun r M1 q3 => ?_
        cases r with
        | true =>
          rw [if_pos rfl] at q3 ⊢
          rw [← w_own] at q3 ⊢
          exact q3.imp fun x M2 q4 => ⟨q4.2, by rw [e _ q4.1]; rfl⟩
        | false =>
          rw [if_neg (by simp)] at q3 ⊢
          exact ⟨q3.2, by rw [e _ q3.1]; simp⟩
  · obtain ⟨h1, rfl⟩ := h
    rw [List.take_length]
    exact he M' h1
theorem it_zip {M:Mem} {xs ys:List D}:∀ M',Ex M M'→∀ i,i≤(List.zipWith (fun a b=>D.tup [a,b]) xs ys).length→itemAt M' i (.zip (.items xs) (.items ys))=some (List.zipWith (fun a b=>D.tup [a,b]) xs ys)[i]?:=fun M' _ i _=>by
 show some (zipAt xs ys i)=_
 unfold zipAt
 rw [List.getElem?_zipWith]
 cases xs[i]? <;> cases ys[i]? <;> rfl
end
end Ev
end
section
set_option Elab.async false
set_option linter.all false
set_option maxRecDepth 100000
set_option maxHeartbeats 4000000
namespace Ev
open L2
open PySem PySem.Spec PyProof.Rows
theorem opk_ok {α:Type} {a:α} {M:Mem} {P:α→Mem→Prop}:Opk (.ok a M) P=P a M:=rfl
section
variable {G:Fns} {ρ:En} {M:Mem} {P:W→Mem→Prop} {B:Bool→Mem→Prop}
theorem x_var {i:Nat}:wE G (.var i) ρ M P=varK ρ[i]? fun d=>P (.d d) M:=rfl
theorem x_vk {d:D} {P:D→Prop}:varK (some (some d)) P=P d:=rfl
theorem x_cst {d:D}:wE G (.cst d) ρ M P=P (.d d) M:=rfl
theorem x_bin {op:BOp} {a b:C}:wE G (.bin op a b) ρ M P=wE G a ρ M fun x M=>wE G b ρ M fun y M=>wBin op x y M P:=rfl
theorem x_cmp {op:COp} {a b:C}:wE G (.cmp op a b) ρ M P=wE G a ρ M fun x M=>wE G b ρ M fun y M=>wCmp op x y M fun r M=>P (.d (.bl r)) M:=rfl
theorem x_chain {o1 o2 : COp} {a b c : C} : wE G (.chain o1 o2 a b c) ρ M P = wE G a ρ M fun x M => wE G b ρ M fun y M => wCmp o1 x y M fun r M =>
      bK r (wE G c ρ M fun z M => wCmp o2 y z M fun r M => P (.d (.bl r)) M) (P (.d (.bl false)) M) := rfl
theorem x_conj {cs:List C}:wE G (.conj cs) ρ M P=wAnd G cs ρ M P:=rfl
theorem x_disj {cs:List C}:wE G (.disj cs) ρ M P=wOr G cs ρ M P:=rfl
theorem x_and1 {c:C}:wAnd G [c] ρ M P=wE G c ρ M P:=rfl
theorem x_and2 {c b:C} {cs:List C}:wAnd G (c::b::cs) ρ M P=wE G c ρ M fun x M=>andK x (wAnd G (b::cs) ρ M P) (P (.d (.bl false)) M):=rfl
theorem x_or1 {c:C}:wOr G [c] ρ M P=wE G c ρ M P:=rfl
theorem x_or2 {c b:C} {cs:List C}:wOr G (c::b::cs) ρ M P=wE G c ρ M fun x M=>andK x (P (.d (.bl true)) M) (wOr G (b::cs) ρ M P):=rfl
theorem x_neg {a:C}:wE G (.neg a) ρ M P=wE G a ρ M fun x M=>andK x (P (.d (.bl false)) M) (P (.d (.bl true)) M):=rfl
theorem x_ite {c:Tst} {a b:C}:wE G (.ite c a b) ρ M P=wT G c ρ M fun r M=>bK r (wE G a ρ M P) (wE G b ρ M P):=rfl
theorem x_tup {cs:List C}:wE G (.tup cs) ρ M P=wDs G cs ρ M fun ds M=>ds.length≤sizeLine∧P (.d (.tup ds)) M:=rfl
theorem x_lst {cs:List C}:wE G (.lst cs) ρ M P=wDs G cs ρ M fun ds M=>ds.length≤sizeLine∧P (.lv ds) M:=rfl
theorem x_sub {a b:C}:wE G (.sub a b) ρ M P=wE G a ρ M fun x M=>wE G b ρ M fun y M=>Opk (subW x y M) P:=rfl
theorem x_slc {a:C} {lo hi:Option C}:wE G (.slc a lo hi) ρ M P=wE G a ρ M fun x M=>wO G lo ρ M fun l M=>wO G hi ρ M fun h M=>Opk (slcW x l h M) P:=rfl
theorem x_stp {a:C} {k:Int}:wE G (.stp a k) ρ M P=wE G a ρ M fun x M=>Opk (stpW x k M) P:=rfl
theorem x_sfind {a b:C}:wE G (.sfind a b) ρ M P=wE G a ρ M fun x M=>strK x fun z=>wE G b ρ M fun y M=>Opk (findW (.d (.str z)) y M) P:=rfl
theorem x_sk {s:Str} {Q:Str→Prop}:strK (.d (.str s)) Q=Q s:=rfl
theorem x_o0 {Q:Option Int→Mem→Prop}:wO G none ρ M Q=Q none M:=rfl
theorem x_o1 {c:C} {Q:Option Int→Mem→Prop}:wO G (some c) ρ M Q=wE G c ρ M fun w M=>intK w fun i=>Q (some i) M:=rfl
theorem x_ik {i:Int} {Q:Int→Prop}:intK (.d (.int i)) Q=Q i:=rfl
theorem x_call {f:Nat} {cs:List C}:wE G (.call f cs) ρ M P=wDs G cs ρ M fun ds M=>Okp (G f ds M) P:=rfl
theorem x_bi {b:Bi} {cs:List C}:wE G (.bi b cs) ρ M P=wWs G cs ρ M fun ws M=>Opk (biW b ws M) P:=rfl
theorem x_me {m:Me} {o:C} {cs:List C}:wE G (.me m o cs) ρ M P=wE G o ρ M fun x M=>(lstW M x).isSome=true∧wDs G cs ρ M fun ds M=>Opk (meW m x ds M) P:=rfl
theorem x_dct {ks:List Str} {cs:List C}:wE G (.dct ks cs) ρ M P=wDs G cs ρ M fun ds M=>ks.length=ds.length∧P (.d (.adr M.length)) (M++[.dK ((ks.map Sum.inr).zip ds)]):=rfl
theorem x_comp {k:SK} {src:List C} {tg:List Nat} {cond:Option Tst} {elt:C} {cap:List (Option Nat)}:wE G (.comp k src tg cond elt cap) ρ M P=wWs G src ρ M fun ws M=>wSrc k ws M fun it M=>Okp (compGo (fun τ M=>evCond G cond τ M) (fun τ M=>(ev G elt τ M).bind own) it tg (itLen M it) 0 (capEn cap ρ) M []) P:=rfl
theorem x_d0 {Q:List D→Mem→Prop}:wDs G [] ρ M Q=Q [] M:=rfl
theorem x_d1 {c:C} {cs:List C} {Q:List D→Mem→Prop}:wDs G (c::cs) ρ M Q=wE G c ρ M fun w M=>Opk (own w M) fun d M=>wDs G cs ρ M fun ds M=>Q (d::ds) M:=rfl
theorem x_w0 {Q:List W→Mem→Prop}:wWs G [] ρ M Q=Q [] M:=rfl
theorem x_w1 {c:C} {cs:List C} {Q:List W→Mem→Prop}:wWs G (c::cs) ρ M Q=wE G c ρ M fun w M=>wWs G cs ρ M fun ws M=>Q (w::ws) M:=rfl
theorem x_own {d:D} {Q:D→Mem→Prop}:Opk (own (.d d) M) Q=Q d M:=rfl
theorem x_ownL {ds:List D} {Q:D→Mem→Prop}:Opk (own (.lv ds) M) Q=Q (.adr M.length) (M++[.lst ds]):=rfl
theorem x_val {c:C}:wT G (.val c) ρ M B=wE G c ρ M fun w M=>truK (truW M w) fun r=>B r M:=rfl
theorem x_tr {b:Bool} {Q:Bool→Prop}:truK (truW M (.d (.bl b))) Q=Q b:=rfl
theorem x_trS {b:Bool} {Q:Bool→Prop}:truK (some b) Q=Q b:=rfl
theorem x_tneg {a:Tst}:wT G (.neg a) ρ M B=wT G a ρ M fun r M=>B (!r) M:=rfl
theorem x_tconj {ts:List Tst}:wT G (.conj ts) ρ M B=wAll G ts ρ M B:=rfl
theorem x_tdisj {ts:List Tst}:wT G (.disj ts) ρ M B=wAny G ts ρ M B:=rfl
theorem x_all1 {a:Tst}:wAll G [a] ρ M B=wT G a ρ M B:=rfl
theorem x_all2 {a b:Tst} {cs:List Tst}:wAll G (a::b::cs) ρ M B=wT G a ρ M fun r M=>bK r (wAll G (b::cs) ρ M B) (B false M):=rfl
theorem x_any1 {a:Tst}:wAny G [a] ρ M B=wT G a ρ M B:=rfl
theorem x_any2 {a b:Tst} {cs:List Tst}:wAny G (a::b::cs) ρ M B=wT G a ρ M fun r M=>bK r (B true M) (wAny G (b::cs) ρ M B):=rfl
theorem x_bt {A B:Prop}:bK true A B=A:=rfl
theorem x_bf {A B:Prop}:bK false A B=B:=rfl
theorem x_c0:wCond G none ρ M B=B true M:=rfl
theorem x_c1 {t:Tst}:wCond G (some t) ρ M B=wT G t ρ M B:=rfl
end
section
variable {G:Fns} {ρ:En} {M:Mem} {nx:En→Mem→Prop} {rt:W→Mem→Prop} {bk ct:En→Mem→Prop}
theorem y_asg {tg:List Nat} {c:C}:wS G (.asg tg c) ρ M nx rt bk ct=wE G c ρ M fun w M=>Opk (own w M) fun d M=>enK (bindT tg d ρ) fun ρ=>nx ρ M:=rfl
theorem y_asgC {i:Nat} {c:C}:wS G (.asgC i c) ρ M nx rt bk ct=wE G c ρ M fun w M=>Opk (own w M) fun d M=>nx (ρ.set i (some d)) M:=rfl
theorem y_put {o i v:C}:wS G (.put o i v) ρ M nx rt bk ct=wE G v ρ M fun w M=>Opk (own w M) fun d M=>wE G o ρ M fun x M=>wE G i ρ M fun y M=>Opk (setW x y d M) fun _ M=>nx ρ M:=rfl
theorem y_expr {c:C}:wS G (.expr c) ρ M nx rt bk ct=wE G c ρ M fun _ M=>nx ρ M:=rfl
theorem y_ret {c:C}:wS G (.ret c) ρ M nx rt bk ct=wE G c ρ M rt:=rfl
theorem y_retN:wS G .retN ρ M nx rt bk ct=rt (.d .non) M:=rfl
theorem y_if {t:Tst} {a b:List S}:wS G (.iff t a b) ρ M nx rt bk ct=wT G t ρ M fun r M=>bK r (wSs G a ρ M nx rt bk ct) (wSs G b ρ M nx rt bk ct):=rfl
theorem y_for {tg:List Nat} {k:SK} {src:List C} {b:List S}:wS G (.forr tg k src b) ρ M nx rt bk ct=wWs G src ρ M fun ws M=>wSrc k ws M fun it M=>OkT (forGo (fun ρ M=>evSs G b ρ M) it tg (itLen M it) 0 ρ M) nx rt bk ct:=rfl
theorem y_pass:wS G .pass ρ M nx rt bk ct=nx ρ M:=rfl
theorem y_brk:wS G .brk ρ M nx rt bk ct=bk ρ M:=rfl
theorem y_cont:wS G .cont ρ M nx rt bk ct=ct ρ M:=rfl
theorem y_nil:wSs G [] ρ M nx rt bk ct=nx ρ M:=rfl
theorem y_cons {s:S} {ss:List S}:wSs G (s::ss) ρ M nx rt bk ct=wS G s ρ M (fun ρ M=>wSs G ss ρ M nx rt bk ct) rt bk ct:=rfl
theorem y_b1 {i:Nat} {d:D}:bindT [i] d ρ=some (ρ.set i (some d)):=rfl
theorem y_b2 {i j:Nat} {tg:List Nat} {ds:List D}:bindT (i::j::tg) (.tup ds) ρ=setAll (i::j::tg) ds ρ:=rfl
theorem y_s0:setAll [] [] ρ=some ρ:=rfl
theorem y_s1 {i:Nat} {tg:List Nat} {d:D} {ds:List D}:setAll (i::tg) (d::ds) ρ=setAll tg ds (ρ.set i (some d)):=rfl
theorem y_en {ρ':En} {Q:En→Prop}:enK (some ρ') Q=Q ρ':=rfl
end
section
variable {M:Mem} {P:W→Mem→Prop} {B:Bool→Mem→Prop} {i j:Int} {b:Bool} {ds:List D}
theorem z_add:wBin .add (.d (.int i)) (.d (.int j)) M P=P (.d (.int (i+j))) M:=rfl
theorem z_sub:wBin .sub (.d (.int i)) (.d (.int j)) M P=P (.d (.int (i - j))) M:=rfl
theorem z_mul:wBin .mul (.d (.int i)) (.d (.int j)) M P=(((-(2 ^ 64) < i∧i < 2 ^ 64)∨(-(2 ^ 64) < j∧j < 2 ^ 64))∧P (.d (.int (i * j))) M):=rfl
theorem z_fdiv:wBin .fdiv (.d (.int i)) (.d (.int j)) M P=((0 < j∧j < 1073741824)∧P (.d (.int (i / j))) M):=rfl
theorem z_mod:wBin .mod (.d (.int i)) (.d (.int j)) M P=(0 < j∧P (.d (.int (i % j))) M):=rfl
theorem z_addL {xs ys:List D}:wBin .add (.lv xs) (.lv ys) M P=(xs.length+ys.length≤sizeLine∧P (.lv (xs++ys)) M):=rfl
theorem z_addA {n:Nat} {y:W}:wBin .add (.d (.adr n)) y M P=Opk (binW .add (.d (.adr n)) y M) P:=by rw [opk_bin]
theorem z_addT2 {xs ys:List D}:wBin .add (.d (.tup xs)) (.d (.tup ys)) M P=Opk (binW .add (.d (.tup xs)) (.d (.tup ys)) M) P:=by rw [opk_bin]
theorem z_addA2 {n:Nat} {xs:List D}:wBin .add (.lv xs) (.d (.adr n)) M P=Opk (binW .add (.lv xs) (.d (.adr n)) M) P:=rfl
theorem z_mulL {xs:List D} {y:W}:wBin .mul (.lv xs) y M P=Opk (binW .mul (.lv xs) y M) P:=rfl
theorem z_pow {x y:W}:wBin .pow x y M P=Opk (binW .pow x y M) P:=rfl
theorem z_eqI:wCmp .eq (.d (.int i)) (.d (.int j)) M B=B (i == j) M:=rfl
theorem z_neI:wCmp .ne (.d (.int i)) (.d (.int j)) M B=B (!(i == j)) M:=rfl
theorem z_isN {d:D} {y:W}:wCmp .isN (.d d) y M B=B (isNon d) M:=rfl
theorem z_notN {d:D} {y:W}:wCmp .notN (.d d) y M B=B (!isNon d) M:=rfl
theorem z_lt:wCmp .lt (.d (.int i)) (.d (.int j)) M B=B (decide (i < j)) M:=rfl
theorem z_le:wCmp .le (.d (.int i)) (.d (.int j)) M B=B (decide (i≤j)) M:=rfl
theorem z_gt:wCmp .gt (.d (.int i)) (.d (.int j)) M B=B (decide (j < i)) M:=rfl
theorem z_ge:wCmp .ge (.d (.int i)) (.d (.int j)) M B=B (decide (j≤i)) M:=rfl
theorem z_in {x y:W}:wCmp .isin x y M B=Opk (cmpW .isin x y M) B:=rfl
theorem z_ni {x y:W}:wCmp .notin x y M B=Opk (cmpW .notin x y M) B:=rfl
theorem z_eqS {x:W} {s:Str}:wCmp .eq x (.d (.str s)) M B=Opk (cmpW .eq x (.d (.str s)) M) B:=by rw [opk_cmp]
theorem z_neS {x:W} {s:Str}:wCmp .ne x (.d (.str s)) M B=Opk (cmpW .ne x (.d (.str s)) M) B:=by rw [opk_cmp]
theorem z_eqT {x:W} {s:List D}:wCmp .eq x (.d (.tup s)) M B=Opk (cmpW .eq x (.d (.tup s)) M) B:=by rw [opk_cmp]
theorem z_neT {x:W} {s:List D}:wCmp .ne x (.d (.tup s)) M B=Opk (cmpW .ne x (.d (.tup s)) M) B:=by rw [opk_cmp]
theorem z_eqL {x:W} {s:List D}:wCmp .eq x (.lv s) M B=Opk (cmpW .eq x (.lv s) M) B:=by rw [opk_cmp]
theorem z_neL {x:W} {s:List D}:wCmp .ne x (.lv s) M B=Opk (cmpW .ne x (.lv s) M) B:=by rw [opk_cmp]
theorem z_eqA {x:W} {n:Nat}:wCmp .eq x (.d (.adr n)) M B=Opk (cmpW .eq x (.d (.adr n)) M) B:=by rw [opk_cmp]
theorem z_neA {x:W} {n:Nat}:wCmp .ne x (.d (.adr n)) M B=Opk (cmpW .ne x (.d (.adr n)) M) B:=by rw [opk_cmp]
theorem z_eqB {b:Bool} {y:W}:wCmp .eq (.d (.bl b)) y M B=Opk (cmpW .eq (.d (.bl b)) y M) B:=by rw [opk_cmp]
theorem z_neB {b:Bool} {y:W}:wCmp .ne (.d (.bl b)) y M B=Opk (cmpW .ne (.d (.bl b)) y M) B:=by rw [opk_cmp]
theorem z_eqN {y:W}:wCmp .eq (.d .non) y M B=Opk (cmpW .eq (.d .non) y M) B:=by rw [opk_cmp]
theorem z_neN {y:W}:wCmp .ne (.d .non) y M B=Opk (cmpW .ne (.d .non) y M) B:=by rw [opk_cmp]
theorem z_leS {s t:Str}:wCmp .le (.d (.str s)) (.d (.str t)) M B=B (!decide (t.cps.toList < s.cps.toList)) M:=rfl
theorem z_rng1 {Q:It→Mem→Prop}:wSrc .rng1 [.d (.int j)] M Q=((-(2 ^ 62)≤j∧j < 2 ^ 62)∧Q (.rng 0 j.toNat) M):=rfl
theorem z_rng2 {Q:It→Mem→Prop}:wSrc .rng2 [.d (.int i),.d (.int j)] M Q=((-(2 ^ 62)≤i∧i < 2 ^ 62∧-(2 ^ 62)≤j∧j < 2 ^ 62)∧Q (.rng i (j - i).toNat) M):=rfl
theorem z_seqT {Q:It→Mem→Prop}:wSrc .seq [.d (.tup ds)] M Q=Q (.items ds) M:=rfl
theorem z_seqL {Q:It→Mem→Prop}:wSrc .seq [.lv ds] M Q=Q (.items ds) M:=rfl
theorem z_seqA {n:Nat} {Q:It→Mem→Prop}:wSrc .seq [.d (.adr n)] M Q=Opk (srcW .seq [.d (.adr n)] M) Q:=rfl
theorem z_enT {Q:It→Mem→Prop}:wSrc .enum [.d (.tup ds)] M Q=Q (.enumIt ds) M:=rfl
theorem z_enL {Q:It→Mem→Prop}:wSrc .enum [.lv ds] M Q=Q (.enumIt ds) M:=rfl
theorem z_enA {n:Nat} {Q:It→Mem→Prop}:wSrc .enum [.d (.adr n)] M Q=Opk (srcW .enum [.d (.adr n)] M) Q:=rfl
theorem z_lenT:Opk (biW .len [.d (.tup ds)] M) P=P (.d (.int ds.length)) M:=rfl
theorem z_lenS:Opk (biW .len [.d (.ls ds)] M) P=P (.d (.int ds.length)) M:=rfl
theorem z_lenL:Opk (biW .len [.lv ds] M) P=P (.d (.int ds.length)) M:=rfl
theorem z_tupL:Opk (biW .tuple1 [.lv ds] M) P=P (.d (.tup ds)) M:=rfl
theorem z_tupT:Opk (biW .tuple1 [.d (.tup ds)] M) P=P (.d (.tup ds)) M:=rfl
theorem z_lisT:Opk (biW .list1 [.d (.tup ds)] M) P=P (.lv ds) M:=rfl
theorem z_lisL:Opk (biW .list1 [.lv ds] M) P=P (.lv ds) M:=rfl
theorem z_int:Opk (biW .int1 [.d (.bl b)] M) P=P (.d (.int (if b=true then 1 else 0))) M:=rfl
theorem z_max:Opk (biW .max2 [.d (.int i),.d (.int j)] M) P=P (.d (.int (if j > i then j else i))) M:=rfl
theorem z_min:Opk (biW .min2 [.d (.int i),.d (.int j)] M) P=P (.d (.int (if j < i then j else i))) M:=rfl
theorem l_rng {a:Int} {k:Nat}:itLen M (.rng a k)=k:=rfl
theorem l_items:itLen M (.items ds)=ds.length:=rfl
theorem l_enum:itLen M (.enumIt ds)=ds.length:=rfl
theorem capE {ρ:En} {cap:List (Option Nat)}:capEn cap ρ=cap.map fun o=>o.bind fun j=>(ρ[j]?).join:=rfl
variable {a a1 a2 a3 a4:D} {r:List D}
theorem z_t0:Opk (subW (.d (.tup (a::r))) (.d (.int 0)) M) P=P (.d a) M:=by rw [sub_tup (x:=a) (by decide) rfl]; rfl
theorem z_t1:Opk (subW (.d (.tup (a::a1::r))) (.d (.int 1)) M) P=P (.d a1) M:=by rw [sub_tup (x:=a1) (by decide) rfl]; rfl
theorem z_t2:Opk (subW (.d (.tup (a::a1::a2::r))) (.d (.int 2)) M) P=P (.d a2) M:=by rw [sub_tup (x:=a2) (by decide) rfl]; rfl
theorem z_t3:Opk (subW (.d (.tup (a::a1::a2::a3::r))) (.d (.int 3)) M) P=P (.d a3) M:=by rw [sub_tup (x:=a3) (by decide) rfl]; rfl
theorem z_t4:Opk (subW (.d (.tup (a::a1::a2::a3::a4::r))) (.d (.int 4)) M) P=P (.d a4) M:=by rw [sub_tup (x:=a4) (by decide) rfl]; rfl
theorem andK_bl {A B:Prop}:andK (.d (.bl b)) A B=if b=true then A else B:=by cases b <;> simp [andK]
end
end Ev
end
local macro_rules
  | `(tactic| simp!) => `(tactic| ((try dsimp only [Ev.opk_ok, Ev.x_var, Ev.x_vk, Ev.x_cst, Ev.x_bin, Ev.x_cmp, Ev.x_chain, Ev.x_conj, Ev.x_disj, Ev.x_and1, Ev.x_and2, Ev.x_or1, Ev.x_or2, Ev.x_neg, Ev.x_ite, Ev.x_tup, Ev.x_lst, Ev.x_sub, Ev.x_slc, Ev.x_stp, Ev.x_sfind, Ev.x_sk, Ev.x_o0, Ev.x_o1, Ev.x_ik, Ev.x_call, Ev.x_bi, Ev.x_me, Ev.x_dct, Ev.x_comp, Ev.x_d0, Ev.x_d1, Ev.x_w0, Ev.x_w1, Ev.x_own, Ev.x_ownL, Ev.x_val, Ev.x_tr, Ev.x_trS, Ev.x_tneg, Ev.x_tconj, Ev.x_tdisj, Ev.x_all1, Ev.x_all2, Ev.x_any1, Ev.x_any2, Ev.x_bt, Ev.x_bf, Ev.x_c0, Ev.x_c1, Ev.y_asg, Ev.y_b1, Ev.y_b2, Ev.y_s0, Ev.y_s1, Ev.y_asgC, Ev.y_put, Ev.y_expr, Ev.y_ret, Ev.y_retN, Ev.y_if, Ev.y_for, Ev.y_pass, Ev.y_brk, Ev.y_cont, Ev.y_nil, Ev.y_cons, Ev.y_en, Ev.z_add, Ev.z_sub, Ev.z_mul, Ev.z_fdiv, Ev.z_mod, Ev.z_addL, Ev.z_addA2, Ev.z_mulL, Ev.z_pow, Ev.z_eqI, Ev.z_neI, Ev.z_isN, Ev.z_notN, Ev.z_lt, Ev.z_le, Ev.z_gt, Ev.z_ge, Ev.z_in, Ev.z_ni, Ev.z_leS, Ev.z_rng1, Ev.z_rng2, Ev.z_seqT, Ev.z_seqL, Ev.z_seqA, Ev.z_enT, Ev.z_enL, Ev.z_enA, Ev.z_lenT, Ev.z_lenS, Ev.z_lenL, Ev.z_tupL, Ev.z_tupT, Ev.z_lisT, Ev.z_lisL, Ev.z_int, Ev.z_max, Ev.z_min, Ev.l_rng, Ev.l_items, Ev.l_enum, Ev.capE, List.getElem?_cons_zero, List.getElem?_cons_succ, List.set_cons_zero, List.set_cons_succ, List.length_cons, List.length_nil]); (try simp only [Ev.opk_ok, Ev.x_var, Ev.x_vk, Ev.x_cst, Ev.x_bin, Ev.x_cmp, Ev.x_chain, Ev.x_conj, Ev.x_disj, Ev.x_and1, Ev.x_and2, Ev.x_or1, Ev.x_or2, Ev.x_neg, Ev.x_ite, Ev.x_tup, Ev.x_lst, Ev.x_sub, Ev.x_slc, Ev.x_stp, Ev.x_sfind, Ev.x_sk, Ev.x_o0, Ev.x_o1, Ev.x_ik, Ev.x_call, Ev.x_bi, Ev.x_me, Ev.x_dct, Ev.x_comp, Ev.x_d0, Ev.x_d1, Ev.x_w0, Ev.x_w1, Ev.x_own, Ev.x_ownL, Ev.x_val, Ev.x_tr, Ev.x_trS, Ev.x_tneg, Ev.x_tconj, Ev.x_tdisj, Ev.x_all1, Ev.x_all2, Ev.x_any1, Ev.x_any2, Ev.x_bt, Ev.x_bf, Ev.x_c0, Ev.x_c1, Ev.y_asg, Ev.y_b1, Ev.y_b2, Ev.y_s0, Ev.y_s1, Ev.y_asgC, Ev.y_put, Ev.y_expr, Ev.y_ret, Ev.y_retN, Ev.y_if, Ev.y_for, Ev.y_pass, Ev.y_brk, Ev.y_cont, Ev.y_nil, Ev.y_cons, Ev.y_en, Ev.z_add, Ev.z_sub, Ev.z_mul, Ev.z_fdiv, Ev.z_mod, Ev.z_addL, Ev.z_addA2, Ev.z_mulL, Ev.z_pow, Ev.z_eqI, Ev.z_neI, Ev.z_isN, Ev.z_notN, Ev.z_lt, Ev.z_le, Ev.z_gt, Ev.z_ge, Ev.z_in, Ev.z_ni, Ev.z_leS, Ev.z_rng1, Ev.z_rng2, Ev.z_seqT, Ev.z_seqL, Ev.z_seqA, Ev.z_enT, Ev.z_enL, Ev.z_enA, Ev.z_lenT, Ev.z_lenS, Ev.z_lenL, Ev.z_tupL, Ev.z_tupT, Ev.z_lisT, Ev.z_lisL, Ev.z_int, Ev.z_max, Ev.z_min, Ev.l_rng, Ev.l_items, Ev.l_enum, Ev.capE, List.getElem?_cons_zero, List.getElem?_cons_succ, List.set_cons_zero, List.set_cons_succ, List.length_cons, List.length_nil, Ev.bK_if, Ev.z_addA, Ev.z_addT2, Ev.z_eqB, Ev.z_neB, Ev.z_eqN, Ev.z_neN, Ev.z_eqS, Ev.z_neS, Ev.z_eqT, Ev.z_neT, Ev.z_eqL, Ev.z_neL, Ev.z_eqA, Ev.z_neA, Ev.z_t0, Ev.z_t1, Ev.z_t2, Ev.z_t3, Ev.z_t4, Ev.andK_bl])))
  | `(tactic| simp! [$xs,*]) => `(tactic| ((try dsimp only [Ev.opk_ok, Ev.x_var, Ev.x_vk, Ev.x_cst, Ev.x_bin, Ev.x_cmp, Ev.x_chain, Ev.x_conj, Ev.x_disj, Ev.x_and1, Ev.x_and2, Ev.x_or1, Ev.x_or2, Ev.x_neg, Ev.x_ite, Ev.x_tup, Ev.x_lst, Ev.x_sub, Ev.x_slc, Ev.x_stp, Ev.x_sfind, Ev.x_sk, Ev.x_o0, Ev.x_o1, Ev.x_ik, Ev.x_call, Ev.x_bi, Ev.x_me, Ev.x_dct, Ev.x_comp, Ev.x_d0, Ev.x_d1, Ev.x_w0, Ev.x_w1, Ev.x_own, Ev.x_ownL, Ev.x_val, Ev.x_tr, Ev.x_trS, Ev.x_tneg, Ev.x_tconj, Ev.x_tdisj, Ev.x_all1, Ev.x_all2, Ev.x_any1, Ev.x_any2, Ev.x_bt, Ev.x_bf, Ev.x_c0, Ev.x_c1, Ev.y_asg, Ev.y_b1, Ev.y_b2, Ev.y_s0, Ev.y_s1, Ev.y_asgC, Ev.y_put, Ev.y_expr, Ev.y_ret, Ev.y_retN, Ev.y_if, Ev.y_for, Ev.y_pass, Ev.y_brk, Ev.y_cont, Ev.y_nil, Ev.y_cons, Ev.y_en, Ev.z_add, Ev.z_sub, Ev.z_mul, Ev.z_fdiv, Ev.z_mod, Ev.z_addL, Ev.z_addA2, Ev.z_mulL, Ev.z_pow, Ev.z_eqI, Ev.z_neI, Ev.z_isN, Ev.z_notN, Ev.z_lt, Ev.z_le, Ev.z_gt, Ev.z_ge, Ev.z_in, Ev.z_ni, Ev.z_leS, Ev.z_rng1, Ev.z_rng2, Ev.z_seqT, Ev.z_seqL, Ev.z_seqA, Ev.z_enT, Ev.z_enL, Ev.z_enA, Ev.z_lenT, Ev.z_lenS, Ev.z_lenL, Ev.z_tupL, Ev.z_tupT, Ev.z_lisT, Ev.z_lisL, Ev.z_int, Ev.z_max, Ev.z_min, Ev.l_rng, Ev.l_items, Ev.l_enum, Ev.capE, List.getElem?_cons_zero, List.getElem?_cons_succ, List.set_cons_zero, List.set_cons_succ, List.length_cons, List.length_nil]); (try simp only [Ev.opk_ok, Ev.x_var, Ev.x_vk, Ev.x_cst, Ev.x_bin, Ev.x_cmp, Ev.x_chain, Ev.x_conj, Ev.x_disj, Ev.x_and1, Ev.x_and2, Ev.x_or1, Ev.x_or2, Ev.x_neg, Ev.x_ite, Ev.x_tup, Ev.x_lst, Ev.x_sub, Ev.x_slc, Ev.x_stp, Ev.x_sfind, Ev.x_sk, Ev.x_o0, Ev.x_o1, Ev.x_ik, Ev.x_call, Ev.x_bi, Ev.x_me, Ev.x_dct, Ev.x_comp, Ev.x_d0, Ev.x_d1, Ev.x_w0, Ev.x_w1, Ev.x_own, Ev.x_ownL, Ev.x_val, Ev.x_tr, Ev.x_trS, Ev.x_tneg, Ev.x_tconj, Ev.x_tdisj, Ev.x_all1, Ev.x_all2, Ev.x_any1, Ev.x_any2, Ev.x_bt, Ev.x_bf, Ev.x_c0, Ev.x_c1, Ev.y_asg, Ev.y_b1, Ev.y_b2, Ev.y_s0, Ev.y_s1, Ev.y_asgC, Ev.y_put, Ev.y_expr, Ev.y_ret, Ev.y_retN, Ev.y_if, Ev.y_for, Ev.y_pass, Ev.y_brk, Ev.y_cont, Ev.y_nil, Ev.y_cons, Ev.y_en, Ev.z_add, Ev.z_sub, Ev.z_mul, Ev.z_fdiv, Ev.z_mod, Ev.z_addL, Ev.z_addA2, Ev.z_mulL, Ev.z_pow, Ev.z_eqI, Ev.z_neI, Ev.z_isN, Ev.z_notN, Ev.z_lt, Ev.z_le, Ev.z_gt, Ev.z_ge, Ev.z_in, Ev.z_ni, Ev.z_leS, Ev.z_rng1, Ev.z_rng2, Ev.z_seqT, Ev.z_seqL, Ev.z_seqA, Ev.z_enT, Ev.z_enL, Ev.z_enA, Ev.z_lenT, Ev.z_lenS, Ev.z_lenL, Ev.z_tupL, Ev.z_tupT, Ev.z_lisT, Ev.z_lisL, Ev.z_int, Ev.z_max, Ev.z_min, Ev.l_rng, Ev.l_items, Ev.l_enum, Ev.capE, List.getElem?_cons_zero, List.getElem?_cons_succ, List.set_cons_zero, List.set_cons_succ, List.length_cons, List.length_nil, Ev.bK_if, Ev.z_addA, Ev.z_addT2, Ev.z_eqB, Ev.z_neB, Ev.z_eqN, Ev.z_neN, Ev.z_eqS, Ev.z_neS, Ev.z_eqT, Ev.z_neT, Ev.z_eqL, Ev.z_neL, Ev.z_eqA, Ev.z_neA, Ev.z_t0, Ev.z_t1, Ev.z_t2, Ev.z_t3, Ev.z_t4, Ev.andK_bl, $xs,*])))
  | `(tactic| nofun) => `(tactic| conv => whnf)
section
set_option Elab.async false
set_option linter.all false
set_option maxRecDepth 100000
set_option maxHeartbeats 4000000
namespace Ev
open L2
open PySem PySem.Spec PyProof.Rows
end Ev
end
section
set_option Elab.async false
set_option linter.all false
set_option maxRecDepth 100000
set_option maxHeartbeats 4000000
namespace Ev
open L2
open PySem PySem.Spec PyProof.Rows
end Ev
end
section
set_option Elab.async false
set_option linter.all false
set_option maxRecDepth 100000
set_option maxHeartbeats 4000000
namespace Ev
open L2
open PySem PySem.Spec PyProof.Rows
end Ev
end
section
set_option Elab.async false
set_option linter.all false
set_option maxRecDepth 100000
set_option maxHeartbeats 4000000
namespace Ev
open L2
open PySem PySem.Spec PyProof.Rows
end Ev
end
section
set_option Elab.async false
set_option linter.all false
set_option maxRecDepth 100000
set_option maxHeartbeats 4000000
namespace Ev
open L2
open PySem PySem.Spec PyProof.Rows
end Ev
end
section
set_option Elab.async false
set_option linter.all false
set_option maxRecDepth 100000
set_option maxHeartbeats 4000000
namespace Ev
open L2
open PySem PySem.Spec PyProof.Rows
end Ev
end
section
set_option Elab.async false
set_option linter.all false
set_option maxRecDepth 100000
set_option maxHeartbeats 4000000
namespace Ev
open L2
open PySem PySem.Spec PyProof.Rows
end Ev
end
section
set_option Elab.async false
set_option linter.all false
set_option maxRecDepth 100000
set_option maxHeartbeats 4000000
namespace Ev
open L2
open PySem PySem.Spec PyProof.Rows
end Ev
end
section
set_option Elab.async false
set_option linter.all false
set_option maxRecDepth 100000
set_option maxHeartbeats 4000000
namespace Ev
open L2
open PySem PySem.Spec PyProof.Rows
theorem ok_app (a b:Str):PyData.strOk (a++b)=(PyData.strOk a && PyData.strOk b):=by
 show (a.cps++b.cps).all _=_
 rw [Array.all_append]
 rfl
def Tx (b:Nat) (x:Str):Prop:=x.length≤b∧PyData.strOk x=true
theorem Tx.app {a b:Nat} {x y:Str} (h:Tx a x) (k:Tx b y):Tx (a+b) (x++y):=⟨by rw [strLen_append]; have:=h.1; have:=k.1; omega,by rw [ok_app,h.2,k.2]; rfl⟩
theorem Tx.mono {a b:Nat} {x:Str} (h:Tx a x) (k:a≤b):Tx b x:=⟨Nat.le_trans h.1 k,h.2⟩
theorem tx_join {b:Nat}:∀ {l:List Str},(∀ x∈l,Tx b x)→Tx (l.length * (b+2)) ((Str.ofString ", ").join l)
 | [],_=>by rw [Str.join.eq_1]; exact ⟨Nat.zero_le _,by decide +kernel⟩
 | [x],h=>by rw [Str.join.eq_2]; exact (h x (List.mem_cons_self ..)).mono (by simp)
 | x::y::r,h=>by
  rw [Str.join.eq_3 _ _ _ (fun q=>by cases q)]
  have h1:=h x (List.mem_cons_self ..)
  have h2:=tx_join (l:=y::r) fun z hz=>h z (List.mem_cons_of_mem _ hz)
  have h3:Tx 2 (Str.ofString ", "):=⟨by decide +kernel,by decide +kernel⟩
  refine ((h1.app h3).app h2).mono ?_
  rw [List.length_cons (a:=x),Nat.add_mul]
  omega
theorem tx_tuple {b:Nat} {l:List Str} (h:∀ x∈l,Tx b x):Tx (l.length * (b+2)+3) (tupleText l):=by
 unfold tupleText
 have h1:Tx 1 (Str.ofString "("):=⟨by decide +kernel,by decide +kernel⟩
 have h2:Tx 2 (Str.ofString (if (l.length == 1)=true then ",)" else ")")):=by
  split <;> exact ⟨by decide +kernel,by decide +kernel⟩
 exact ((h1.app (tx_join h)).app h2).mono (by omega)
def SmP (b h:Nat) (p:PyData):Prop:=p.canLay0=true∧p.showable=true∧p.depth≤h∧Tx b p.shown
def Sm (b h:Nat) (d:D):Prop:=∃ p:PyData,(∀ M n,h≤n→pyD M n d=some p)∧SmP b h p
theorem ints_small:∀ i:Fin 100,(Str.ofString (toString ((i.val:Nat):Int))).length≤2∧PyData.strOk (Str.ofString (toString ((i.val:Nat):Int)))=true∧(PyData.int ((i.val:Nat):Int)).showable=true:=by decide +kernel
theorem Sm.int {i:Int} (h0:0≤i) (h1:i < 100):Sm 2 0 (.int i):=by
 have q:=ints_small ⟨i.toNat,by omega⟩
 have e:((i.toNat:Nat):Int)=i:=by omega
 simp only [e] at q
 exact ⟨.int i,fun M n _=>by cases n <;> (unfold pyD; rfl),PyData.canLay0.eq_3 i,q.2.2,Nat.le_of_eq (PyData.depth.eq_6 i),by rw [PyData.shown.eq_3]; exact ⟨q.1,q.2.1⟩⟩
theorem SmP.all {b h:Nat}:∀ {ps:List PyData},(∀ p∈ps,SmP b h p)→PyData.canLayAll0 ps=true∧PyData.showableAll ps=true∧PyData.depthAll ps≤h∧(∀ x∈PyData.shownAll ps,Tx b x)∧(PyData.shownAll ps).length=ps.length
 | [],_=>⟨PyData.canLayAll0.eq_1,PyData.showableAll.eq_1,by rw [PyData.depthAll.eq_1]; omega,by rw [PyData.shownAll.eq_1]; intro x h; (cases h),by rw [PyData.shownAll.eq_1]; rfl⟩
 | p::ps,q=>by
  obtain ⟨a1,a2,a3,a4,a5⟩:=SmP.all (ps:=ps) fun p hp=>q p (List.mem_cons_of_mem _ hp)
  obtain ⟨b1,b2,b3,b4⟩:=q p (List.mem_cons_self ..)
  refine ⟨by rw [PyData.canLayAll0.eq_2,a1,b1]; rfl,by rw [PyData.showableAll.eq_2,a2,b2]; rfl,by rw [PyData.depthAll.eq_2]; omega,?_,by rw [PyData.shownAll.eq_2,List.length_cons,a5,List.length_cons]⟩
  rw [PyData.shownAll.eq_2]
  intro x hx
  rcases List.mem_cons.mp hx with rfl | hx
  ·exact b4
  ·exact a4 x hx
theorem SmP.tup {b h k:Nat} {ps:List PyData} (q:∀ p∈ps,SmP b h p) (hk:ps.length≤k):SmP (k * (b+2)+3) (h+1) (.tuple ps):=by
 obtain ⟨a1,a2,a3,a4,a5⟩:=SmP.all q
 refine ⟨(PyData.canLay0.eq_6 ps).trans a1,(PyData.showable.eq_6 ps).trans a2,by rw [PyData.depth.eq_2]; omega,?_⟩
 rw [PyData.shown.eq_6]
 refine (tx_tuple a4).mono ?_
 rw [a5]
 exact Nat.add_le_add_right (Nat.mul_le_mul_right _ hk) _
theorem Sm.ds {b h:Nat}:∀ {ds:List D},(∀ d∈ds,Sm b h d)→∃ ps,(∀ M n,h≤n→pyDs M n ds=some ps)∧(∀ p∈ps,SmP b h p)∧ps.length=ds.length
 | [],_=>⟨[],fun M n _=>by unfold pyDs; rfl,(by intro p h; cases h),rfl⟩
 | d::ds,q=>by
  obtain ⟨ps,e,a,l⟩:=Sm.ds (ds:=ds) fun d hd=>q d (List.mem_cons_of_mem _ hd)
  obtain ⟨p,ep,ap⟩:=q d (List.mem_cons_self ..)
  refine ⟨p::ps,fun M n hn=>by unfold pyDs; rw [ep M n hn,e M n hn],?_,by simp [l]⟩
  intro x hx
  rcases List.mem_cons.mp hx with rfl | hx
  ·exact ap
  ·exact a x hx
theorem Sm.tup {b h k:Nat} {ds:List D} (q:∀ d∈ds,Sm b h d) (hk:ds.length≤k):Sm (k * (b+2)+3) (h+1) (.tup ds):=by
 obtain ⟨ps,e,a,l⟩:=Sm.ds q
 refine ⟨.tuple ps,fun M n hn=>?_,SmP.tup a (by omega)⟩
 obtain ⟨n,rfl⟩:∃ m,n=m+1:=⟨n - 1,by omega⟩
 unfold pyD
 rw [e M n (by omega)]
 rfl
theorem repr_sm {b h:Nat} {d:D} (q:Sm b h d) (hb:b≤1000000) (hh:h≤30):∃ x,PyData.strOk x=true∧∀ M,biW .repr1 [.d d] M=.ok (.d (.str x)) M:=by
 obtain ⟨p,e,q1,q2,q3,q4,q5⟩:=q
 refine ⟨p.shown,q5,fun M=>?_⟩
 unfold biW
 have:pyW M (.d d)=some p:=e M 30 hh
 try simp only [this]
 rw [if_pos ⟨q2,by omega,Nat.le_trans (Nat.le_trans q4 hb) (by decide)⟩]
end Ev
end
section
set_option Elab.async false
set_option linter.all false
set_option maxRecDepth 100000
set_option maxHeartbeats 4000000
namespace Ev
open L2
open PySem PySem.Spec PyProof.Rows
end Ev
end
section
set_option Elab.async false
set_option linter.all false
set_option maxRecDepth 100000
set_option maxHeartbeats 4000000
namespace Ev
open L2
open PySem PySem.Spec PyProof.Rows
section
variable {M:Mem} {n:Nat} {ds:List D} {i:Int} {x:D}
theorem lv_mul {xs:List D} {k:Int} (h0:0≤k) (h1:k < 1000) (h:xs.length * k.toNat≤sizeLine):binW .mul (.lv xs) (.d (.int k)) M=.ok (.lv (List.replicate k.toNat xs).flatten) M:=by
 unfold binW; simp only [lstW]; rw [if_pos ⟨by omega,by omega,h⟩]
abbrev iD (ks:List Int):List D:=ks.map D.int
theorem py_ints {k:Nat}:∀ (ks:List Int),pyDs M k (iD ks)=some (ks.map PyData.int)
 | []=>by show pyDs M k []=_; unfold pyDs; rfl
 | i::ks=>by
  show pyDs M k (.int i::iD ks)=_
  unfold pyDs
  have:pyD M k (.int i)=some (.int i):=by cases k <;> (unfold pyD; rfl)
  rw [this,py_ints ks]
  rfl
end
def feedO (c:Nat) (a l t:Int):MO:=.lst [.adr c,.int a,.int l,.int t]
def FA (M:Mem) (w:Nat) (T:Int):Prop:=∃ (c:Nat) (a l t:Int) (ns:List Int),M[w]?=some (feedO c a l t)∧M[c]?=some (.lst (iD ns))∧c < w∧0 < ns.length∧0≤a∧0≤l∧0≤t∧t≤T
theorem FA.app {M X:Mem} {w:Nat} {T:Int} (h:FA M w T):FA (M++X) w T:=by obtain ⟨c,a,l,t,ns,h,k,q⟩:=h; exact ⟨c,a,l,t,ns,app_get h,app_get k,q⟩
theorem FA.mono {M:Mem} {w:Nat} {T T2:Int} (h:FA M w T) (k:T≤T2):FA M w T2:=by obtain ⟨c,a,l,t,ns,h1,h2,h3,h4,h5,h6,h7,h8⟩:=h; exact ⟨c,a,l,t,ns,h1,h2,h3,h4,h5,h6,h7,Int.le_trans h8 k⟩
theorem FA.fr {M M1:Mem} {w v:Nat} {T:Int} (h:FA M w T) (f:Fr v M M1) (k:w < v):FA M1 w T:=by obtain ⟨c,a,l,t,ns,h1,h2,h3,q⟩:=h; exact ⟨c,a,l,t,ns,f.get h1 (by omega),f.get h2 (by omega),h3,q⟩
theorem FA.set {M:Mem} {w v:Nat} {T:Int} {o:MO} (h:FA M w T) (k:w < v):FA (M.set v o) w T:=by obtain ⟨c,a,l,t,ns,h1,h2,h3,q⟩:=h; exact ⟨c,a,l,t,ns,set_get h1 (by omega),set_get h2 (by omega),h3,q⟩
def bFeed:List S:=[.ret (.lst [(.bin .add (.slc (.var 0) none (some (.cst (.int 63)))) (.bin .mul (.lst [(.cst (.int 0))]) (.bi .int1 [(.cmp .eq (.var 0) (.lst []))]))),(.cst (.int 0)),(.cst (.int 0)),(.cst (.int 0))])]
def bDrawF:List S:=[.put (.var 0) (.cst (.int 3)) (.bin .add (.sub (.var 0) (.cst (.int 3))) (.cst (.int 1))),.iff (.val (.cmp .gt (.sub (.var 0) (.cst (.int 2))) (.cst (.int 0)))) [.asg [2] (.bin .mod (.sub (.var 0) (.cst (.int 2))) (.var 1)),.put (.var 0) (.cst (.int 2)) (.bin .fdiv (.sub (.var 0) (.cst (.int 2))) (.var 1)),.ret (.var 2)] [],.asg [3] (.sub (.sub (.var 0) (.cst (.int 0))) (.bin .mod (.sub (.var 0) (.cst (.int 1))) (.bi .len [(.sub (.var 0) (.cst (.int 0)))]))),.put (.var 0) (.cst (.int 1)) (.bin .add (.sub (.var 0) (.cst (.int 1))) (.cst (.int 1))),.iff (.val (.cmp .ge (.var 3) (.bin .pow (.cst (.int 10)) (.cst (.int 18))))) [.put (.var 0) (.cst (.int 2)) (.bin .fdiv (.var 3) (.var 1)),.ret (.bin .mod (.var 3) (.var 1))] [],.asg [4] (.bin .add (.bin .add (.bin .mul (.bin .mul (.cst (.int 31)) (.sub (.var 0) (.cst (.int 3)))) (.sub (.var 0) (.cst (.int 3)))) (.bin .mul (.cst (.int 7919)) (.sub (.var 0) (.cst (.int 3))))) (.cst (.int 1))),.asg [5] (.bin .mod (.bin .mul (.bin .add (.bin .mod (.var 3) (.cst (.int 2147483629))) (.cst (.int 1))) (.var 4)) (.cst (.int 2147483647))),.asg [5] (.bin .add (.bin .mul (.var 5) (.bin .add (.bin .mod (.var 5) (.cst (.int 65521))) (.cst (.int 48271)))) (.sub (.var 0) (.cst (.int 3)))),.ret (.bin .mod (.bin .fdiv (.bin .mod (.var 5) (.cst (.int 2147483629))) (.cst (.int 7))) (.var 1))]
section
variable {M:Mem} {w c:Nat} {a l t:Int}
theorem fd0 (h:M[w]?=some (feedO c a l t)):subW (.d (.adr w)) (.d (.int 0)) M=.ok (.d (.adr c)) M:=sub_lst (ds:=[.adr c,.int a,.int l,.int t]) h (by decide) rfl
theorem fd1 (h:M[w]?=some (feedO c a l t)):subW (.d (.adr w)) (.d (.int 1)) M=.ok (.d (.int a)) M:=sub_lst (ds:=[.adr c,.int a,.int l,.int t]) h (by decide) rfl
theorem fd2 (h:M[w]?=some (feedO c a l t)):subW (.d (.adr w)) (.d (.int 2)) M=.ok (.d (.int l)) M:=sub_lst (ds:=[.adr c,.int a,.int l,.int t]) h (by decide) rfl
theorem fd3 (h:M[w]?=some (feedO c a l t)):subW (.d (.adr w)) (.d (.int 3)) M=.ok (.d (.int t)) M:=sub_lst (ds:=[.adr c,.int a,.int l,.int t]) h (by decide) rfl
theorem pt1 (h:M[w]?=some (feedO c a l t)) (i:Int):setW (.d (.adr w)) (.d (.int 1)) (.int i) M=.ok () (M.set w (feedO c i l t)):=by unfold setW; simp only [h,feedO]; rfl
theorem pt2 (h:M[w]?=some (feedO c a l t)) (i:Int):setW (.d (.adr w)) (.d (.int 2)) (.int i) M=.ok () (M.set w (feedO c a i t)):=by unfold setW; simp only [h,feedO]; rfl
theorem pt3 (h:M[w]?=some (feedO c a l t)) (i:Int):setW (.d (.adr w)) (.d (.int 3)) (.int i) M=.ok () (M.set w (feedO c a l i)):=by unfold setW; simp only [h,feedO]; rfl
end
def DrawF (F:Fn):Prop:=∀ (M:Mem) (w:Nat) (T many:Int),FA M w T→T < 2 ^ 40→0 < many→many < 1073741824→Okp (F [.adr w,.int many] M) fun r M'=>∃ i,r=.d (.int i)∧0≤i∧i < many∧FA M' w (T+1)∧Fr w M M'
theorem drawF {G:Fns}:DrawF (runDef G 6 bDrawF):=by
 intro M w T many ⟨c,a,l,t,ns,hw,hc,hcw,hn,ha,hl,ht0,htT⟩ hT hm hm2
 have hpw:∀ M:Mem,binW BOp.pow (W.d (D.int 10)) (W.d (D.int 18)) M=.ok (.d (.int (10 ^ 18))) M:=fun M=>rfl
 rw [w_run]
 show wSs G bDrawF [some (.adr w),some (.int many),none,none,none,none] M _ _ _ _
 unfold bDrawF
 simp! [fd3 hw,pt3 hw]
 have h1:(M.set w (feedO c a l (t+1)))[w]?=some (feedO c a l (t+1)):=set_same hw
 have c1:(M.set w (feedO c a l (t+1)))[c]?=some (.lst (iD ns)):=set_get hc (by omega)
 simp! [fd2 h1]
 by_cases hp:0 < l
 ·try simp only [decide_eq_true hp,if_true]
  simp! [fd2 h1]
  refine ⟨hm,?_⟩
  simp! [fd2 h1]
  refine ⟨⟨hm,hm2⟩,?_⟩
  simp! [pt2 h1]
  rw [List.set_set]
  exact ⟨_,rfl,Int.emod_nonneg _ (by omega),Int.emod_lt_of_pos _ hm,⟨c,a,l / many,t+1,ns,set_same hw,set_get hc (by omega),hcw,hn,ha,Int.ediv_nonneg hl (by omega),by omega,by omega⟩,(Fr.refl w M).setw⟩
 ·try simp only [decide_eq_false hp]
  have hln:(iD ns).length=ns.length:=List.length_map _
  have hlp:(0:Int) < ((iD ns).length:Int):=by rw [hln]; omega
  have hr0:0≤a % ((iD ns).length:Int):=Int.emod_nonneg _ (by omega)
  have hr1:a % ((iD ns).length:Int) < ((iD ns).length:Int):=Int.emod_lt_of_pos _ hlp
  have hlt:(a % ((iD ns).length:Int)).toNat < ns.length:=by omega
  have hg:(iD ns)[(a % ((iD ns).length:Int)).toNat]?=some (.int ns[(a % ((iD ns).length:Int)).toNat]):=by
   rw [List.getElem?_map,List.getElem?_eq_getElem hlt]; rfl
  simp! [fd0 h1,fd1 h1,len_lst c1]
  refine ⟨hlp,?_⟩
  simp! [sub_lst c1 hr0 hg,fd1 h1,pt1 h1]
  generalize ns[(a % ((iD ns).length:Int)).toNat]=cell
  rw [List.set_set]
  have h2:(M.set w (feedO c (a+1) l (t+1)))[w]?=some (feedO c (a+1) l (t+1)):=set_same hw
  simp! [hpw]
  by_cases hq:(10 ^ 18:Int)≤cell
  ·try simp only [decide_eq_true hq,if_true]
   refine ⟨⟨hm,hm2⟩,?_⟩
   simp! [pt2 h2]
   rw [List.set_set]
   exact ⟨hm,_,rfl,Int.emod_nonneg _ (by omega),Int.emod_lt_of_pos _ hm,⟨c,a+1,cell / many,t+1,ns,set_same hw,set_get hc (by omega),hcw,hn,by omega,Int.ediv_nonneg (by omega) (by omega),by omega,by omega⟩,(Fr.refl w M).setw⟩
  ·try simp only [decide_eq_false hq]
   simp! [fd3 h2]
   refine ⟨by omega,?_⟩
   simp! [fd3 h2]
   refine ⟨by omega,?_⟩
   simp! [fd3 h2]
   refine ⟨by omega,?_⟩
   simp! [fd3 h2]
   refine ⟨by omega,?_⟩
   simp! [fd3 h2]
   refine ⟨by omega,by omega,by omega,?_⟩
   simp! [fd3 h2]
   refine ⟨by omega,by omega,by omega,hm,_,rfl,Int.emod_nonneg _ (by omega),Int.emod_lt_of_pos _ hm,⟨c,a+1,l,t+1,ns,set_same hw,set_get hc (by omega),hcw,hn,by omega,hl,by omega,by omega⟩,(Fr.refl w M).setw⟩
def FeedF (F:Fn):Prop:=∀ (M:Mem) (ns:List Int),ns.length≤63→Okp (F [.ls (iD ns)] M) fun r M'=>∃ ms:List Int,r=.lv [.adr M.length,.int 0,.int 0,.int 0]∧M'=M++[.lst (iD ms)]∧0 < ms.length
theorem cut63 {ds:List D} (h:ds.length≤63):cutD ds none (some 63)=ds:=by
 unfold cutD
 have e1:HT.sIx ds.length 0 none=0:=rfl
 have e2:HT.sIx ds.length ds.length (some 63)=ds.length:=by
  show (if (63:Int) < 0 then ((63:Int)+(ds.length:Int)).toNat else min (63:Int).toNat ds.length)=ds.length
  rw [if_neg (by decide)]
  have:(63:Int).toNat=63:=rfl
  omega
 rw [e1,e2]
 simp
theorem slc63 {M:Mem} {ds:List D} (h:ds.length≤63):slcW (.d (.ls ds)) none (some 63) M=.ok (.lv ds) M:=by
 unfold slcW; simp only [seqW,cut63 h]
theorem eq_nil {M:Mem} (ns:List Int):∃ b,cmpW .eq (.d (.ls (iD ns))) (.lv []) M=.ok b M∧(ns=[]→b=true):=by
 have h1:pyW M (.d (.ls (iD ns)))=some (.list (ns.map PyData.int)):=by
  show pyD M 30 (.ls (iD ns))=_
  unfold pyD
  rw [py_ints]
  rfl
 have h2:pyW M (.lv [])=some (.list ([].map PyData.int)):=by
  show (pyDs M 30 []).map PyData.list=_
  unfold pyDs
  rfl
 refine ⟨PyData.eqv (.list (ns.map PyData.int)) (.list ([].map PyData.int)),?_,?_⟩
 ·unfold cmpW; simp only [h1,h2,PySem.W.shaped_ints ns,PySem.W.shaped_ints [],and_self,if_true]
 ·rintro rfl
  decide +kernel
theorem feedF {G:Fns}:FeedF (runDef G 1 bFeed):=by
 intro M ns hns
 rw [w_run]
 show wSs G bFeed [some (.ls (iD ns))] M _ _ _ _
 unfold bFeed
 have hl:(iD ns).length≤63:=by rw [List.length_map]; exact hns
 simp!
 try simp only [slc63 hl]
 simp!
 obtain ⟨b,hb,hb2⟩:=eq_nil (M:=M) ns
 refine ⟨(show (1:Nat)≤sizeLine by decide),(show (0:Nat)≤sizeLine by decide),?_⟩
 try simp only [hb]
 simp!
 have hk0:(0:Int)≤(if b=true then 1 else 0):=by split <;> decide
 have hk1:(if b=true then (1:Int) else 0) < 1000:=by split <;> decide
 have hk2:(if b=true then (1:Int) else 0).toNat≤1:=by split <;> decide
 have hk3:[D.int 0].length * (if b=true then (1:Int) else 0).toNat≤sizeLine:=by
  rw [List.length_cons,List.length_nil]
  exact Nat.le_trans (show _≤1 by omega) (show (1:Nat)≤sizeLine by decide)
 have hm1:=lv_mul (M:=M) (xs:=[D.int 0]) hk0 hk1 hk3
 simp! [hm1]
 have hfl:∃ zs:List Int,(List.replicate (if b=true then (1:Int) else 0).toNat [D.int 0]).flatten=iD zs∧zs.length≤1∧(b=true→0 < zs.length):=by
  cases b with
  | true=>exact ⟨[0],rfl,by simp,fun _=>by simp⟩
  | false=>exact ⟨[],rfl,by simp,fun z=>by cases z⟩
 obtain ⟨zs,ez,hz1,hz2⟩:=hfl
 rw [ez]
 simp!
 refine ⟨small_le (by simp only [List.length_map]; omega),(show (4:Nat)≤sizeLine by decide),ns++zs,trivial,by simp [iD],?_⟩
 rw [List.length_append]
 cases ns with
 | nil=>have:=hz2 (hb2 rfl); omega
 | cons _ _=>simp; omega
end Ev
end
section
set_option Elab.async false
set_option linter.all false
set_option maxRecDepth 100000
set_option maxHeartbeats 4000000
namespace Qk51
open Ev PySem
def n0:List Str:=["choices","numbers","number","line","own","bars","reached"]
def b0:List S:=[.asg [3] (.lst []),.forr [4,5] .zip [(.var 0),(.var 1)] [.asgC 6 (.comp .zip [(.var 4),(.var 5)] [1,2] (some (.val (.cmp .ge (.var 2) (.var 3)))) (.var 1) [none,none,none,some 2]),.expr (.me .append (.var 3) [(.minD (.var 6) (.sub (.var 4) (.cst (.int (-1)))))])],.ret (.bi .tuple1 [(.var 3)])]
def f0:List D→Mem→Out W:=runDef (tab []) 7 b0
def n1:List Str:=["_law_script"]
def b1:List S:=[.ret (.lst [(.bin .add (.slc (.var 0) none (some (.cst (.int 63)))) (.bin .mul (.lst [(.cst (.int 0))]) (.bi .int1 [(.cmp .eq (.var 0) (.lst []))]))),(.cst (.int 0)),(.cst (.int 0)),(.cst (.int 0))])]
def f1:List D→Mem→Out W:=runDef (tab [f0]) 1 b1
def n2:List Str:=["_law_feed_here","_law_many","_law_found","_law_cell","_law_turn","_law_mixed"]
def b2:List S:=[.put (.var 0) (.cst (.int 3)) (.bin .add (.sub (.var 0) (.cst (.int 3))) (.cst (.int 1))),.iff (.val (.cmp .gt (.sub (.var 0) (.cst (.int 2))) (.cst (.int 0)))) [.asg [2] (.bin .mod (.sub (.var 0) (.cst (.int 2))) (.var 1)),.put (.var 0) (.cst (.int 2)) (.bin .fdiv (.sub (.var 0) (.cst (.int 2))) (.var 1)),.ret (.var 2)] [],.asg [3] (.sub (.sub (.var 0) (.cst (.int 0))) (.bin .mod (.sub (.var 0) (.cst (.int 1))) (.bi .len [(.sub (.var 0) (.cst (.int 0)))]))),.put (.var 0) (.cst (.int 1)) (.bin .add (.sub (.var 0) (.cst (.int 1))) (.cst (.int 1))),.iff (.val (.cmp .ge (.var 3) (.bin .pow (.cst (.int 10)) (.cst (.int 18))))) [.put (.var 0) (.cst (.int 2)) (.bin .fdiv (.var 3) (.var 1)),.ret (.bin .mod (.var 3) (.var 1))] [],.asg [4] (.bin .add (.bin .add (.bin .mul (.bin .mul (.cst (.int 31)) (.sub (.var 0) (.cst (.int 3)))) (.sub (.var 0) (.cst (.int 3)))) (.bin .mul (.cst (.int 7919)) (.sub (.var 0) (.cst (.int 3))))) (.cst (.int 1))),.asg [5] (.bin .mod (.bin .mul (.bin .add (.bin .mod (.var 3) (.cst (.int 2147483629))) (.cst (.int 1))) (.var 4)) (.cst (.int 2147483647))),.asg [5] (.bin .add (.bin .mul (.var 5) (.bin .add (.bin .mod (.var 5) (.cst (.int 65521))) (.cst (.int 48271)))) (.sub (.var 0) (.cst (.int 3)))),.ret (.bin .mod (.bin .fdiv (.bin .mod (.var 5) (.cst (.int 2147483629))) (.cst (.int 7))) (.var 1))]
def f2:List D→Mem→Out W:=runDef (tab [f0,f1]) 6 b2
def n3:List Str:=["_law_script","_law_feed_here","_law_choices","_law_numbers","_law_m","_law_row","_law_own","_law_k","_law_number","_law_due","_law_place"]
def b3:List S:=[.asg [1] (.call 1 [(.var 0)]),.asg [2] (.lst []),.asg [3] (.lst []),.forr [4] .rng1 [(.bin .add (.cst (.int 1)) (.call 2 [(.var 1),(.cst (.int 4))]))] [.asg [5] (.lst [(.cst (.int 0))]),.asg [6] (.lst [(.call 2 [(.var 1),(.cst (.int 5))])]),.forr [7] .rng1 [(.call 2 [(.var 1),(.cst (.int 8))])] [.expr (.me .append (.var 5) [(.bin .add (.bin .add (.sub (.var 5) (.cst (.int (-1)))) (.cst (.int 1))) (.call 2 [(.var 1),(.cst (.int 4))]))]),.expr (.me .append (.var 6) [(.bin .add (.bin .add (.sub (.var 6) (.cst (.int (-1)))) (.cst (.int 1))) (.call 2 [(.var 1),(.cst (.int 5))]))])],.expr (.me .append (.var 2) [(.bi .tuple1 [(.var 5)])]),.expr (.me .append (.var 3) [(.bi .tuple1 [(.var 6)])])],.forr [8] .seq [(.lst [(.bin .sub (.call 2 [(.var 1),(.cst (.int 33))]) (.cst (.int 2))),(.bin .sub (.call 2 [(.var 1),(.cst (.int 33))]) (.cst (.int 2))),(.bin .sub (.bin .pow (.cst (.int 10)) (.cst (.int 60))) (.cst (.int 1))),(.usub (.bin .pow (.cst (.int 10)) (.cst (.int 59)))),(.sub (.sub (.var 3) (.cst (.int 0))) (.cst (.int (-1))))])] [.asg [9] (.lst []),.forr [5,6] .zip [(.var 2),(.var 3)] [.asg [10] (.sub (.var 5) (.cst (.int (-1)))),.forr [7] .rngd [(.bin .sub (.bi .len [(.var 5)]) (.cst (.int 1))),(.cst (.int (-1))),(.cst (.int (-1)))] [.iff (.val (.cmp .ge (.sub (.var 6) (.var 7)) (.var 8))) [.asg [10] (.sub (.var 5) (.var 7))] []],.expr (.me .append (.var 9) [(.var 10)])],.iff (.val (.cmp .ne (.bi .repr1 [(.call 0 [(.bi .tuple1 [(.var 2)]),(.bi .tuple1 [(.var 3)]),(.var 8)])]) (.bi .repr1 [(.bi .tuple1 [(.var 9)])]))) [.ret (.cst (.bl false))] []],.ret (.cst (.bl true))]
def f3:List D→Mem→Out W:=runDef (tab [f0,f1,f2]) 11 b3
def fs:List (Str×Nat):=[(("line_by" : Str),3),(("_law_feed" : Str),1),(("_law_draw" : Str),2),(("law" : Str),1)]
end Qk51
end
section
set_option Elab.async false
set_option linter.all false
set_option maxRecDepth 100000
set_option maxHeartbeats 1000000
namespace Qk51
open L2 Ev
open PySem PySem.Spec PyProof.Rows
abbrev Rw:=List (Int×Int)
def chs (r:Rw):List D:=r.map fun p=>D.int p.1
def nus (r:Rw):List D:=r.map fun p=>D.int p.2
def pk (n d:Int):Rw→Int
 | []=>d
 | p::r=>if n≤p.2 then p.1 else pk n d r
def sel (n:Int) (r:Rw):List Int:=(r.filter fun p=>decide (n≤p.2)).map (·.1)
def lastC (r:Rw):Int:=((r.getLast?).map (·.1)).getD 0
structure RwOk (r:Rw):Prop where
 up:r.Pairwise fun p q=>p.1≤q.1
 bd:∀ p∈r,0≤p.1∧p.1 < 100
 ne:r≠[]
 ln:r.length≤8
theorem fold_min (c:Int):∀ is:List Int,(∀ i∈is,c≤i)→is.foldl (fun a b=>if b < a then b else a) c=c
 | [],_=>rfl
 | i::is,h=>by
  have h1:=h i (List.mem_cons_self ..)
  rw [List.foldl_cons,if_neg (by omega)]
  exact fold_min c is fun j hj=>h j (List.mem_cons_of_mem _ hj)
theorem mn_sel (n d:Int):∀ r:Rw,(r.Pairwise fun p q=>p.1≤q.1)→mnD d (sel n r)=pk n d r
 | [],_=>rfl
 | p::r,h=>by
  rw [List.pairwise_cons] at h
  unfold sel pk
  by_cases q:n≤p.2
  ·rw [List.filter_cons_of_pos (by simpa using q),if_pos q]
   refine fold_min p.1 _ fun i hi=>?_
   obtain ⟨x,hx,rfl⟩:=List.mem_map.mp hi
   exact h.1 x (List.mem_filter.mp hx).1
  ·rw [List.filter_cons_of_neg (by simpa using q),if_neg q]
   exact mn_sel n d r h.2
theorem ints_iD:∀ l:List Int,intsD (l.map D.int)=some l
 | []=>rfl
 | i::l=>by
  show (intsD (l.map D.int)).map (i::·)=_
  rw [ints_iD l]; rfl
theorem ix_last {l:List D} {x:D}:ixD (l++[x]) (-1)=some x:=by
 unfold ixD atI ixN
 rw [if_neg (by decide),if_pos (by rw [List.length_append]; simp only [List.length_cons,List.length_nil]; omega)]
 have e:((-1:Int)+((l++[x]).length:Int)).toNat=l.length:=by rw [List.length_append]; simp only [List.length_cons,List.length_nil]; omega
 show (l++[x])[_]?=_
 rw [e]; simp
theorem sub_tl {M:Mem} {l:List D} {x:D}:subW (.d (.tup (l++[x]))) (.d (.int (-1))) M=.ok (.d x) M:=by
 unfold subW seqW; simp only [ix_last]
theorem sub_ll {M:Mem} {a:Nat} {l:List D} {x:D} (h:M[a]?=some (.lst (l++[x]))):subW (.d (.adr a)) (.d (.int (-1))) M=.ok (.d x) M:=by
 unfold subW seqW; simp only [h,ix_last]
theorem last_of {r:Rw} (h:r≠[]):∃ r0 p,r=r0++[p]∧lastC r=p.1:=by
 obtain ⟨r0,p,rfl⟩:∃ r0 p,r=r0++[p]:=⟨r.dropLast,r.getLast h,(List.dropLast_concat_getLast h).symm⟩
 exact ⟨r0,p,rfl,by unfold lastC; simp⟩
theorem sub_ch {M:Mem} {r:Rw} (h:r≠[]):subW (.d (.tup (chs r))) (.d (.int (-1))) M=.ok (.d (.int (lastC r))) M:=by
 obtain ⟨r0,p,rfl,e⟩:=last_of h
 rw [e]
 unfold chs
 rw [List.map_append]
 exact sub_tl
theorem min_at {M:Mem} {a:Nat} {l:List Int} {d:Int} (h:M[a]?=some (.lst (l.map D.int))):minDW (.d (.adr a)) (.d (.int d)) M=.ok (.d (.int (mnD d l))) M:=by
 unfold minDW seqW; simp only [h,ints_iD]
section
variable {G:Fns} {b:List S} {tg:List Nat} {ρ:En} {M:Mem} {nx:En→Mem→Prop} {rt:W→Mem→Prop} {bk ct:En→Mem→Prop}
theorem f_zip {z1 z2 : Z1} {xs ys : List D} (I : Nat → En → Mem → Prop) (hM : ∀ i ρ M, I i ρ M → seqZ M z1 = some xs ∧ seqZ M z2 = some ys) (hl : xs.length = ys.length) (h0 : I 0 ρ M)
    (hs : ∀ i ρ M x y, xs[i]? = some x → ys[i]? = some y → I i ρ M → enK (bindT tg (.tup [x, y]) ρ) fun ρ => wSs G b ρ M (I (i + 1)) rt nx (I (i + 1))) (he : ∀ ρ M, I xs.length ρ M → nx ρ M) : OkT (forGo (fun ρ M => evSs G b ρ M) (.zip z1 z2) tg (itLen M (.zip z1 z2)) 0 ρ M) nx rt bk ct := by
  have hlen : (List.zipWith (fun a b => D.tup [a, b]) xs ys).length = xs.length := by rw [List.length_zipWith]; omega
  have e0 : itLen M (.zip z1 z2) = xs.length := by
    obtain ⟨q1, q2⟩ := hM 0 ρ M h0
    unfold itLen; simp only [q1, q2]; omega
  rw [e0]
  refine for_ok (ds := List.zipWith (fun a b => D.tup [a, b]) xs ys) I (fun i ρ M h _ => ?_) (fun i ρ M d h e => ?_) (fun ρ M h => he ρ M (by rw [hlen] at h; exact h)) xs.length 0 ρ M h0 (by rw [hlen]; omega)
  · obtain ⟨q1, q2⟩ := hM i ρ M h
    unfold Ev.itemAt; simp only [q1, q2]
    unfold zipAt
    rw [List.getElem?_zipWith]
    cases xs[i]? <;> cases ys[i]? <;> rfl
  · rw [List.getElem?_zipWith] at e
    cases e1 : xs[i]? with
    | none => rw [e1] at e; cases e
    | some x =>
      cases e2 : ys[i]? with
      | none => rw [e1, e2] at e; cases e
      | some y =>
        rw [e1, e2] at e
        cases e
        have q := hs i ρ M x y e1 e2 h
        cases e3 : bindT tg (.tup [x, y]) ρ with
        | none => rw [e3] at q; exact q.elim
        | some ρ' => rw [e3] at q; exact ⟨ρ', rfl, by rw [w_ss]; exact q⟩
end
def pick1 (n:Int):D→Option D
 | .tup [.int a,.int b]=>if n≤b then some (.int a) else none
 | _=>none
theorem pick_sel (n:Int):∀ r:Rw,(List.zipWith (fun a b=>D.tup [a,b]) (chs r) (nus r)).filterMap (pick1 n)=(sel n r).map D.int
 | []=>rfl
 | p::r=>by
  have ih:=pick_sel n r
  show (D.tup [.int p.1,.int p.2]::List.zipWith (fun a b=>D.tup [a,b]) (chs r) (nus r)).filterMap (pick1 n)=_
  rw [List.filterMap_cons,ih]
  unfold sel
  by_cases q:n≤p.2
  ·rw [List.filter_cons_of_pos (by simpa using q),show pick1 n (.tup [.int p.1,.int p.2])=some (.int p.1) from if_pos q]; rfl
  ·rw [List.filter_cons_of_neg (by simpa using q),show pick1 n (.tup [.int p.1,.int p.2])=none from if_neg q]
def due (n:Int) (rs:List Rw):List D:=rs.map fun r=>D.int (pk n (lastC r) r)
def LineF (F:Fn):Prop:=∀ (M:Mem) (rs:List Rw) (n:Int),(∀ r∈rs,RwOk r)→rs.length≤4→Okp (F [.tup (rs.map fun r=>.tup (chs r)),.tup (rs.map fun r=>.tup (nus r)),.int n] M) fun o M'=>o=.d (.tup (due n rs))∧Ex M M'
theorem lineF {G:Fns}:LineF (runDef G 7 b0):=by
 intro M rs n hr hl
 rw [w_run]
 show wSs G b0 [some (.tup (rs.map fun r=>.tup (chs r))),some (.tup (rs.map fun r=>.tup (nus r))),some (.int n),none,none,none,none] M _ _ _ _
 nofun
 refine ⟨(show (0:Nat)≤sizeLine by decide),?_⟩
 nofun
 refine f_zip (z1:=.items _) (z2:=.items _) (xs:=rs.map fun r=>.tup (chs r)) (ys:=rs.map fun r=>.tup (nus r)) (fun i ρ M'=>∃ o4 o5 o6,ρ=[some (.tup (rs.map fun r=>.tup (chs r))),some (.tup (rs.map fun r=>.tup (nus r))),some (.int n),some (.adr M.length),o4,o5,o6]∧M'[M.length]?=some (.lst (due n (rs.take i)))∧Ex M M') (fun _ _ _ _=>⟨rfl,rfl⟩) (by simp) ⟨_,_,_,rfl,app_last,(Ex.refl M).app⟩ ?_ ?_
 ·rintro i ρ M1 x y hx hy ⟨o4,o5,o6,rfl,h1,f1⟩
  rw [List.getElem?_map] at hx hy
  cases e:rs[i]? with
  | none=>rw [e] at hx; cases hx
  | some r =>
   rw [e] at hx hy
   cases hx
   cases hy
   have hi:=(List.getElem?_eq_some_iff.mp e).1
   have ok:RwOk r:=hr r (List.mem_of_getElem? e)
   have hzl:(List.zipWith (fun a b=>D.tup [a,b]) (chs r) (nus r)).length=r.length:=by rw [List.length_zipWith]; unfold chs nus; simp
   have l1:=lt_of_get h1
   nofun
   refine c_map (ds:=List.zipWith (fun a b=>D.tup [a,b]) (chs r) (nus r)) (pick1 n) (by decide) it_zip (small_le (by rw [hzl]; have:=ok.ln; omega)) ?_ ?_ (by rw [List.length_zipWith]; rfl)
   ·intro j M2 d hd f2
    rw [List.getElem?_zipWith] at hd
    cases e2:r[j]? with
    | none =>
     unfold chs nus at hd
     rw [List.getElem?_map,e2] at hd
     cases hd
    | some p =>
     unfold chs nus at hd
     rw [List.getElem?_map,List.getElem?_map,e2] at hd
     cases hd
     nofun
     by_cases q:n≤p.2
     ·rw [decide_eq_true q]
      nofun
      exact ⟨if_pos q,f2⟩
     ·rw [decide_eq_false q]
      nofun
      exact ⟨if_neg q,f2⟩
   ·intro M2 f2
    rw [pick_sel]
    nofun
    have h2:=app_get (X:=[MO.lst ((sel n r).map D.int)]) (Ex.get f2 h1)
    refine ⟨lst_some h2,?_⟩
    nofun
    rw [sub_ch ok.ne]
    nofun
    rw [min_at app_last]
    nofun
    rw [m_append h2 (small_lt (by unfold due; rw [List.length_map,List.length_take]; omega))]
    nofun
    refine ⟨_,_,_,rfl,?_,Fr.set ((Ex.trans f1 f2).app) (Nat.le_refl _)⟩
    rw [set_same h2,mn_sel n _ r ok.up]
    unfold due
    rw [take_next e,List.map_append]
    rfl
 ·rintro ρ M1 ⟨o4,o5,o6,rfl,h1,f1⟩
  nofun
  rw [tuple_lst h1]
  refine ⟨?_,f1⟩
  rw [List.length_map,List.take_length]
end Qk51
end
section
set_option Elab.async false
set_option linter.all false
set_option maxRecDepth 100000
set_option maxHeartbeats 1000000
namespace Qk51
open L2 Ev
open PySem PySem.Spec PyProof.Rows
theorem one_s:(1:Nat)≤sizeLine:=by decide
theorem nil_s:(0:Nat)≤sizeLine:=by decide
theorem up_app {r:Rw} {p:Int×Int} (h:r.Pairwise fun p q=>p.1≤q.1) (k:∀ q∈r,q.1≤p.1):(r++[p]).Pairwise fun p q=>p.1≤q.1:=by
 rw [List.pairwise_append]
 exact ⟨h,List.pairwise_singleton _ _,fun a ha b hb=>by rw [List.mem_singleton.mp hb]; exact k a ha⟩
structure Gr (k:Nat) (r0:Rw) (c:Int):Prop where
 up:r0.Pairwise fun p q=>p.1≤q.1
 le:∀ q∈r0,0≤q.1∧q.1≤c
 c0:0≤c
 ck:c≤4 * (k:Int)
 ln:r0.length=k
theorem Gr.more {k:Nat} {r0:Rw} {c n d:Int} (g:Gr k r0 c) (h0:0≤d) (h1:d < 4):Gr (k+1) (r0++[(c,n)]) (c+1+d):=by
 refine ⟨up_app g.up fun q hq=>(g.le q hq).2,fun q hq=>?_,by have:=g.c0; omega,by have:=g.ck; omega,by simp [g.ln]⟩
 rcases List.mem_append.mp hq with z | z
 ·have:=g.le q z; have:=g.c0; omega
 ·rw [List.mem_singleton.mp z]
  have:=g.c0
  show 0≤c∧c≤c+1+d
  omega
theorem Gr.ok {k:Nat} {r0:Rw} {c n:Int} (g:Gr k r0 c) (hk:k≤7):RwOk (r0++[(c,n)]):=by
 refine ⟨up_app g.up fun q hq=>(g.le q hq).2,fun q hq=>?_,by simp,by rw [List.length_append,g.ln]; simp; omega⟩
 have h1:=g.ck
 have h2:=g.c0
 rcases List.mem_append.mp hq with z | z
 ·have:=g.le q z; omega
 ·rw [List.mem_singleton.mp z]
  show 0≤c∧c < 100
  omega
theorem sr_down {M:Mem} {i:Int} (h1:-(2 ^ 62)≤i) (h2:i < 2 ^ 62):srcW .rngd [.d (.int i),.d (.int (-1)),.d (.int (-1))] M=.ok (.items (dwnD i (i - -1).toNat)) M:=if_pos ⟨rfl,h1,h2,by decide,by decide⟩
theorem sr_zip {M:Mem} {x y:W} {a b:Z1} (h1:z1W M x=some a) (h2:z1W M y=some b):srcW .zip [x,y] M=.ok (.zip a b) M:=by
 show (match z1W M x,z1W M y with | some a,some b=>Out.ok (It.zip a b) M | _,_=>.stuck)=_
 rw [h1,h2]
theorem pk_drop {n d:Int} {r:Rw} {j:Nat} {p:Int×Int} (h:r[j]?=some p):pk n d (r.drop j)=if n≤p.2 then p.1 else pk n d (r.drop (j+1)):=by
 have hl:=(List.getElem?_eq_some_iff.mp h).1
 have e:r.drop j=p::r.drop (j+1):=by
  rw [List.drop_eq_getElem_cons hl]
  rw [(List.getElem?_eq_some_iff.mp h).2]
 rw [e]; rfl
theorem pk_mem {n d:Int}:∀ r:Rw,pk n d r=d∨∃ p∈r,pk n d r=p.1
 | []=>.inl rfl
 | p::r=>by
  unfold pk
  by_cases q:n≤p.2
  ·rw [if_pos q]; exact .inr ⟨p,List.mem_cons_self ..,rfl⟩
  ·rw [if_neg q]
   rcases pk_mem (n:=n) (d:=d) r with z | ⟨x,hx,e⟩
   ·exact .inl z
   ·exact .inr ⟨x,List.mem_cons_of_mem _ hx,e⟩
theorem pk_bd {n:Int} {r:Rw} (ok:RwOk r):0≤pk n (lastC r) r∧pk n (lastC r) r < 100:=by
 rcases pk_mem (n:=n) (d:=lastC r) r with e | ⟨p,hp,e⟩
 ·rw [e]
  obtain ⟨r0,p,rfl,e⟩:=last_of ok.ne
  rw [e]
  exact ok.bd p (by simp)
 ·rw [e]; exact ok.bd p hp
def bDown:List S:=[.iff (.val (.cmp .ge (.sub (.var 6) (.var 7)) (.var 8))) [.asg [10] (.sub (.var 5) (.var 7))] []]
def bOwn:List S:=[.asg [10] (.sub (.var 5) (.cst (.int (-1)))),.forr [7] .rngd [(.bin .sub (.bi .len [(.var 5)]) (.cst (.int 1))),(.cst (.int (-1))),(.cst (.int (-1)))] bDown,.expr (.me .append (.var 9) [(.var 10)])]
def bNum:List S:=[.asg [9] (.lst []),.forr [5,6] .zip [(.var 2),(.var 3)] bOwn,.iff (.val (.cmp .ne (.bi .repr1 [(.call 0 [(.bi .tuple1 [(.var 2)]),(.bi .tuple1 [(.var 3)]),(.var 8)])]) (.bi .repr1 [(.bi .tuple1 [(.var 9)])]))) [.ret (.cst (.bl false))] []]
def bRow:List S:=[.expr (.me .append (.var 5) [(.bin .add (.bin .add (.sub (.var 5) (.cst (.int (-1)))) (.cst (.int 1))) (.call 2 [(.var 1),(.cst (.int 4))]))]),.expr (.me .append (.var 6) [(.bin .add (.bin .add (.sub (.var 6) (.cst (.int (-1)))) (.cst (.int 1))) (.call 2 [(.var 1),(.cst (.int 5))]))])]
section
variable {G:Fns} {nx:En→Mem→Prop} {rt:W→Mem→Prop} {bk ct:En→Mem→Prop}
theorem own_ok {M : Mem} {o0 o1 o2 o3 o4 o7 o10 : Option D} {r : Rw} {n : Int} {a : Nat} {ds : List D} (ok : RwOk r) (ha : M[a]? = some (.lst ds)) (hl : ds.length ≤ 4)
    (k : ∀ o7 o10, nx [o0, o1, o2, o3, o4, some (.tup (chs r)), some (.tup (nus r)), o7, some (.int n), some (.adr a), o10] (M.set a (.lst (ds ++ [.int (pk n (lastC r) r)])))) :
    wSs G bOwn [o0, o1, o2, o3, o4, some (.tup (chs r)), some (.tup (nus r)), o7, some (.int n), some (.adr a), o10] M nx rt bk ct := by
  have hc : (chs r).length = r.length := List.length_map _
  have hn := ok.ln
  have hp : 0 < r.length := List.length_pos_iff.mpr ok.ne
  nofun
  rw [sub_ch ok.ne]
  nofun
  rw [sr_down (by omega) (by omega)]
  nofun
  have hlen : (dwnD (((chs r).length : Int) - 1) ((((chs r).length : Int) - 1 - -1).toNat)).length = r.length := by
    unfold dwnD; rw [List.length_map, List.length_range]; omega
  refine f_items (ds := dwnD (((chs r).length : Int) - 1) ((((chs r).length : Int) - 1 - -1).toNat)) (fun i ρ M' => ∃ o7, M' = M ∧ ρ = [o0, o1, o2, o3, o4, some (.tup (chs r)), some (.tup (nus r)), o7, some (.int n), some (.adr a), some (.int (pk n (lastC r) (r.drop (r.length - i))))]) ⟨_, rfl, by rw [Nat.sub_zero, List.drop_length]; rfl⟩ ?_ ?_
  · rintro i ρ M' d hd ⟨o7, rfl, rfl⟩
    have hi : i < r.length := by rw [← hlen]; exact (List.getElem?_eq_some_iff.mp hd).1
    obtain ⟨j, hj⟩ : ∃ j, r.length - i = j + 1 := ⟨r.length - i - 1, by omega⟩
    have hd : d = .int j := by
      unfold dwnD at hd
      rw [List.getElem?_map, List.getElem?_range (by omega)] at hd
      cases hd
      rw [hc]
      refine congrArg D.int ?_
      omega
    subst hd
    have hjr : j < r.length := by omega
    have hp : r[j]? = some r[j] := List.getElem?_eq_getElem hjr
    have e1 : (nus r)[j]? = some (.int r[j].2) := by unfold nus; rw [List.getElem?_map, hp]; rfl
    have e2 : (chs r)[j]? = some (.int r[j].1) := by unfold chs; rw [List.getElem?_map, hp]; rfl
    rw [hj]
    nofun
    rw [sub_tupN e1]
    nofun
    have e3 : r.length - (i + 1) = j := by omega
    by_cases q : n ≤ r[j].2
    · rw [decide_eq_true q]
      nofun
      rw [sub_tupN e2]
      nofun
      refine ⟨some (.int j), rfl, ?_⟩
      rw [e3, pk_drop hp, if_pos q]
      rfl
    · rw [decide_eq_false q]
      nofun
      refine ⟨some (.int j), rfl, ?_⟩
      rw [e3, pk_drop hp, if_neg q]
      rfl
  · rintro ρ M' ⟨o7, rfl, rfl⟩
    rw [hlen, Nat.sub_self, List.drop_zero]
    nofun
    refine ⟨lst_some ha, ?_⟩
    nofun
    rw [m_append ha (small_lt (by omega))]
    exact k _ _
theorem num_ok {M : Mem} {o0 o1 o4 o5 o6 o7 o9 o10 : Option D} {rs : List Rw} {n : Int} {c u : Nat} (hL : LineF (G 0)) (ok : ∀ r ∈ rs, RwOk r) (hl : rs.length ≤ 4) (hc : M[c]? = some (.lst (rs.map fun r => .tup (chs r)))) (hu : M[u]? = some (.lst (rs.map fun r => .tup (nus r))))
    (k : ∀ o5 o6 o7 o9 o10 M', Ex M M' → nx [o0, o1, some (.adr c), some (.adr u), o4, o5, o6, o7, some (.int n), o9, o10] M') :
    wSs G bNum [o0, o1, some (.adr c), some (.adr u), o4, o5, o6, o7, some (.int n), o9, o10] M nx rt bk ct := by
  have lc := lt_of_get hc
  have lu := lt_of_get hu
  nofun
  refine ⟨nil_s, ?_⟩
  nofun
  have z1 : z1W (M ++ [MO.lst []]) (.d (.adr c)) = some (.at c) := by unfold z1W seqW; simp only [app_get hc]; rfl
  have z2 : z1W (M ++ [MO.lst []]) (.d (.adr u)) = some (.at u) := by unfold z1W seqW; simp only [app_get hu]; rfl
  rw [sr_zip z1 z2]
  nofun
  refine f_zip (z1 := .at c) (z2 := .at u) (xs := rs.map fun r => .tup (chs r)) (ys := rs.map fun r => .tup (nus r)) (fun i ρ M' => ∃ o5 o6 o7 o10, ρ = [o0, o1, some (.adr c), some (.adr u), o4, o5, o6, o7, some (.int n), some (.adr M.length), o10] ∧ M'[M.length]? = some (.lst (due n (rs.take i))) ∧ Ex M M') (fun i ρ M' ⟨_, _, _, _, _, _, f⟩ => ⟨by unfold seqZ; simp only [Ex.get f hc], by unfold seqZ; simp only [Ex.get f hu]⟩) (by simp) ⟨_, _, _, _, rfl, app_last, (Ex.refl M).app⟩ ?_ ?_
  · rintro i ρ M1 x y hx hy ⟨o5, o6, o7, o10, rfl, h1, f1⟩
    rw [List.getElem?_map] at hx hy
    cases e : rs[i]? with
    | none => rw [e] at hx; cases hx
    | some r =>
      rw [e] at hx hy
      cases hx
      cases hy
      refine own_ok (ok r (List.mem_of_getElem? e)) h1 (by unfold due; rw [List.length_map, List.length_take]; omega) fun o7 o10 => ⟨_, _, _, _, rfl, ?_, Fr.set f1 (Nat.le_refl _)⟩
      rw [set_same h1]
      unfold due
      rw [take_next e, List.map_append]
      rfl
  · rintro ρ M1 ⟨o5, o6, o7, o10, rfl, h1, f1⟩
    rw [List.length_map, List.take_length] at h1
    nofun
    rw [tuple_lst (Ex.get f1 hc)]
    nofun
    rw [tuple_lst (Ex.get f1 hu)]
    nofun
    refine (hL M1 rs n ok hl).imp fun o M2 ⟨e, f2⟩ => ?_
    subst e
    have sm : Sm (4 * (2 + 2) + 3) (0 + 1) (.tup (due n rs)) := Sm.tup (fun d hd => by
      obtain ⟨r, hr, rfl⟩ := List.mem_map.mp hd
      have h := pk_bd (n := n) (ok r hr)
      exact Sm.int h.1 h.2) (by unfold due; rw [List.length_map]; exact hl)
    obtain ⟨y, hy, ey⟩ := repr_sm sm (by decide) (by decide)
    nofun
    rw [ey]
    nofun
    rw [tuple_lst (Ex.get f2 h1)]
    nofun
    rw [ey]
    nofun
    rw [c_neS hy hy]
    nofun
    rw [beq_self_eq_true]
    exact k _ _ _ _ _ _ (Ex.trans f1 f2)
end
def rowAt (M:Mem) (a b i:Nat):Prop:=∃ r0 c n,Gr i r0 c∧M[a]?=some (.lst (chs (r0++[(c,n)])))∧M[b]?=some (.lst (nus (r0++[(c,n)])))
theorem chs_app {r:Rw} {p:Int×Int}:chs (r++[p])=chs r++[.int p.1]:=by unfold chs; rw [List.map_append]; rfl
theorem nus_app {r:Rw} {p:Int×Int}:nus (r++[p])=nus r++[.int p.2]:=by unfold nus; rw [List.map_append]; rfl
theorem chs_len {r:Rw}:(chs r).length=r.length:=List.length_map _
theorem nus_len {r:Rw}:(nus r).length=r.length:=List.length_map _
section
variable {G:Fns} {nx:En→Mem→Prop} {rt:W→Mem→Prop} {bk ct:En→Mem→Prop}
theorem row_ok {M : Mem} {o0 o2 o3 o4 o7 o8 o9 o10 : Option D} {T : Int} {i a b : Nat} (hD : DrawF (G 2)) (hf : FA M 1 T) (hT : T < 2 ^ 39) (hi : i ≤ 7) (h : rowAt M a b i) (a1 : 1 < a) (ab : a < b)
    (q : ∀ M', FA M' 1 (T + 2) → rowAt M' a b (i + 1) → (∀ (z : Nat) o, z ≠ 1 → z ≠ a → z ≠ b → M[z]? = some o → M'[z]? = some o) → nx [o0, some (.adr 1), o2, o3, o4, some (.adr a), some (.adr b), o7, o8, o9, o10] M') :
    wSs G bRow [o0, some (.adr 1), o2, o3, o4, some (.adr a), some (.adr b), o7, o8, o9, o10] M nx rt bk ct := by
  obtain ⟨r0, c, n, g, ha, hb⟩ := h
  rw [chs_app] at ha
  rw [nus_app] at hb
  have gl := g.ln
  nofun
  refine ⟨lst_some ha, ?_⟩
  nofun
  rw [sub_ll ha]
  nofun
  refine (hD M 1 T 4 hf (by omega) (by decide) (by decide)).imp fun r M1 ⟨d, e, d0, d1, hf1, f1⟩ => ?_
  subst e
  have ha1 := f1.get ha (by omega)
  have hb1 := f1.get hb (by omega)
  nofun
  rw [m_append ha1 (small_lt (by rw [List.length_append, chs_len]; simp only [List.length_cons, List.length_nil]; omega))]
  nofun
  have hb2 := set_get (m := a) (u := MO.lst (chs r0 ++ [.int c] ++ [.int (c + 1 + d)])) hb1 (by omega)
  refine ⟨lst_some hb2, ?_⟩
  nofun
  rw [sub_ll hb2]
  nofun
  refine (hD _ 1 _ 5 (hf1.set (by omega)) (by omega) (by decide) (by decide)).imp fun r M2 ⟨d2, e, d20, d21, hf2, f2⟩ => ?_
  subst e
  have hb3 := f2.get hb2 (by omega)
  have ha3 := f2.get (set_same ha1 (u := MO.lst (chs r0 ++ [.int c] ++ [.int (c + 1 + d)]))) (by omega)
  nofun
  rw [m_append hb3 (small_lt (by rw [List.length_append, nus_len]; simp only [List.length_cons, List.length_nil]; omega))]
  refine q _ (by have := hf2.set (v := b) (o := MO.lst (nus r0 ++ [.int n] ++ [.int (n + 1 + d2)])) (by omega); rw [show T + 2 = T + 1 + 1 by omega]; exact this) ⟨r0 ++ [(c, n)], c + 1 + d, n + 1 + d2, g.more d0 d1, ?_, ?_⟩ fun z o z1 za zb hz => ?_
  · rw [chs_app, chs_app]
    exact set_get ha3 (by omega)
  · rw [nus_app, nus_app]
    exact set_same hb3
  · exact set_get (f2.get (set_get (f1.get hz z1) za) z1) zb
end
def tops (rs:List Rw) (M:Mem):Prop:=M[2]?=some (.lst (rs.map fun r=>.tup (chs r)))∧M[3]?=some (.lst (rs.map fun r=>.tup (nus r)))
theorem law_ok {G:Fns} (hL:LineF (G 0)) (hF:FeedF (G 1)) (hD:DrawF (G 2)) (ns:List Int) (hns:ns.length≤63):Okp (runDef G 11 b3 [.ls (ns.map D.int)] []) fun r _=>r=.d (.bl true):=by
 rw [w_run]
 show wSs G b3 [some (.ls (ns.map D.int)),none,none,none,none,none,none,none,none,none,none] [] _ _ _ _
 nofun
 refine (hF [] ns hns).imp fun r M0 ⟨ms,e,eM,hms⟩=>?_
 subst e eM
 nofun
 refine ⟨nil_s,?_⟩
 nofun
 refine ⟨nil_s,?_⟩
 nofun
 have fa0:FA ([MO.lst (iD ms),feedO 0 0 0 0,MO.lst [],MO.lst []]:Mem) 1 0:=⟨0,0,0,0,ms,rfl,rfl,by decide,hms,by decide,by decide,by decide,by decide⟩
 refine (hD [MO.lst (iD ms),feedO 0 0 0 0,MO.lst [],MO.lst []] 1 0 4 fa0 (by decide) (by decide) (by decide)).imp fun r M1 ⟨mm,e,m0,m1,hf1,f1⟩=>?_
 subst e
 have l1:4≤M1.length:=f1.1
 have t1:tops [] M1:=⟨f1.get rfl (by decide),f1.get rfl (by decide)⟩
 nofun
 refine ⟨⟨by omega,by omega⟩,?_⟩
 refine f_rng (n:=(1+mm).toNat) (fun i ρ M=>∃ o4 o5 o6 o7,∃ rs:List Rw,ρ=[some (.ls (ns.map D.int)),some (.adr 1),some (.adr 2),some (.adr 3),o4,o5,o6,o7,none,none,none]∧FA M 1 (1+20 * (i:Int))∧tops rs M∧rs.length=i∧(∀ r∈rs,RwOk r)∧4≤M.length) ⟨_,_,_,_,[],rfl,(by rw [show 1+20 * ((0:Nat):Int)=0+1 by omega]; exact hf1),t1,rfl,(by intro r h; cases h),l1⟩ ?_ ?_
 ·rintro i ρ M hi ⟨o4,o5,o6,o7,rs,rfl,hf,⟨h2,h3⟩,hrl,hok,hl⟩
  nofun
  refine ⟨one_s,?_⟩
  nofun
  refine (hD _ 1 _ 5 hf.app (by omega) (by decide) (by decide)).imp fun r M2 ⟨n0,e,n00,n01,hf2,f2⟩=>?_
  subst e
  have l2:=f2.1
  rw [List.length_append,List.length_singleton] at l2
  have hA2:M2[M.length]?=some (.lst [.int 0]):=f2.get app_last (by omega)
  nofun
  refine ⟨one_s,?_⟩
  nofun
  refine (hD _ 1 _ 8 hf2.app (by omega) (by decide) (by decide)).imp fun r M3 ⟨kk,e,k0,k1,hf3,f3⟩=>?_
  subst e
  have l3:=f3.1
  rw [List.length_append,List.length_singleton] at l3
  have hA3:M3[M.length]?=some (.lst [.int 0]):=f3.get (app_get hA2) (by omega)
  have hB3:M3[M2.length]?=some (.lst [.int n0]):=f3.get app_last (by omega)
  have h23:=f3.get (app_get (f2.get (app_get h2) (by decide))) (by decide)
  have h33:=f3.get (app_get (f2.get (app_get h3) (by decide))) (by decide)
  nofun
  refine ⟨⟨by omega,by omega⟩,?_⟩
  refine f_rng (n:=kk.toNat) (fun j ρ M'=>∃ o7,ρ=[some (.ls (ns.map D.int)),some (.adr 1),some (.adr 2),some (.adr 3),some (.int (0+(i:Int))),some (.adr M.length),some (.adr M2.length),o7,none,none,none]∧FA M' 1 (1+20 * (i:Int)+2+2 * (j:Int))∧rowAt M' M.length M2.length j∧tops rs M'∧4≤M'.length) ⟨_,rfl,(by rw [show 1+20 * (i:Int)+2+2 * ((0:Nat):Int)=1+20 * (i:Int)+1+1 by omega]; exact hf3),⟨[],0,n0,⟨List.Pairwise.nil,(by intro q h; cases h),by decide,by decide,rfl⟩,hA3,hB3⟩,⟨h23,h33⟩,by omega⟩ ?_ ?_
  ·rintro j ρ M' hj ⟨o7,rfl,hf',hr',⟨q2,q3⟩,l'⟩
   refine row_ok hD hf' (by omega) (by omega) hr' (by omega) (by omega) fun M4 hf4 hr4 keep=>⟨_,rfl,?_,hr4,⟨keep 2 _ (by decide) (by omega) (by omega) q2,keep 3 _ (by decide) (by omega) (by omega) q3⟩,?_⟩
   ·rw [show 1+20 * (i:Int)+2+2 * ((j+1:Nat):Int)=1+20 * (i:Int)+2+2 * (j:Int)+2 by omega]
    exact hf4
   ·have:=lt_of_get (keep 3 _ (by decide) (by omega) (by omega) q3); omega
  ·rintro ρ M' ⟨o7,rfl,hf',⟨r0,c,n,g,qa,qb⟩,⟨q2,q3⟩,l'⟩
   nofun
   refine ⟨lst_some q2,?_⟩
   nofun
   rw [tuple_lst qa]
   nofun
   rw [m_append q2 (small_lt (by rw [List.length_map]; omega))]
   have q3':=set_get (m:=2) (u:=MO.lst ((rs.map fun r=>D.tup (chs r))++[.tup (chs (r0++[(c,n)]))])) q3 (by decide)
   have qb':=set_get (m:=2) (u:=MO.lst ((rs.map fun r=>D.tup (chs r))++[.tup (chs (r0++[(c,n)]))])) qb (by omega)
   nofun
   refine ⟨lst_some q3',?_⟩
   nofun
   rw [tuple_lst qb']
   nofun
   rw [m_append q3' (small_lt (by rw [List.length_map]; omega))]
   refine ⟨_,_,_,_,rs++[r0++[(c,n)]],rfl,?_,⟨?_,?_⟩,by simp [hrl],fun r hr=>?_,by rw [List.length_set,List.length_set]; exact l'⟩
   ·exact ((hf'.set (by decide)).set (by decide)).mono (by omega)
   ·rw [List.map_append]
    exact set_get (set_same q2) (by decide)
   ·rw [List.map_append]
    exact set_same q3'
   ·rcases List.mem_append.mp hr with z | z
    ·exact hok r z
    ·rw [List.mem_singleton.mp z]
     exact g.ok (by omega)
 ·rintro ρ M ⟨o4,o5,o6,o7,rs,rfl,hf,⟨h2,h3⟩,hrl,hok,hl⟩
  have hr4:rs.length≤4:=by omega
  nofun
  refine (hD _ 1 _ 33 hf (by omega) (by decide) (by decide)).imp fun r M2 ⟨a,e,a0,a1,hf2,f2⟩=>?_
  subst e
  nofun
  refine (hD _ 1 _ 33 hf2 (by omega) (by decide) (by decide)).imp fun r M3 ⟨b,e,b0,b1,hf3,f3⟩=>?_
  subst e
  have h23:=f3.get (f2.get h2 (by decide)) (by decide)
  have h33:=f3.get (f2.get h3 (by decide)) (by decide)
  have hp:0 < rs.length:=by omega
  obtain ⟨r,rs',rfl⟩:∃ r rs',rs=r::rs':=by cases rs with
   | nil=>cases hp
   | cons r rs'=>exact ⟨r,rs',rfl⟩
  have okr:=hok r (List.mem_cons_self ..)
  nofun
  rw [sub_lst h33 (i:=0) (by decide) (x:=.tup (nus r)) rfl]
  nofun
  obtain ⟨x,ex⟩:∃ x,∀ M,subW (.d (.tup (nus r))) (.d (.int (-1))) M=.ok (.d (.int x)) M:=by
   obtain ⟨r0,p,rfl,e⟩:=last_of okr.ne
   rw [nus_app]
   exact ⟨_,fun M=>sub_tl⟩
  rw [ex]
  nofun
  refine ⟨(show (5:Nat)≤sizeLine by decide),?_⟩
  nofun
  refine f_items (fun i ρ M'=>∃ o5 o6 o7 o8 o9 o10,ρ=[some (.ls (ns.map D.int)),some (.adr 1),some (.adr 2),some (.adr 3),o4,o5,o6,o7,o8,o9,o10]∧tops (r::rs') M') ⟨_,_,_,_,_,_,rfl,h23,h33⟩ ?_ ?_
  ·rintro i ρ M' d hd ⟨o5,o6,o7,o8,o9,o10,rfl,q2,q3⟩
   obtain ⟨n,rfl⟩:∃ n,d=.int n:=by
    have hm:=List.mem_of_getElem? hd
    simp only [List.mem_cons,List.mem_nil_iff,or_false] at hm
    rcases hm with rfl | rfl | rfl | rfl | rfl <;> exact ⟨_,rfl⟩
   exact num_ok hL hok hr4 q2 q3 fun o5 o6 o7 o9 o10 M5 f5=>⟨_,_,_,_,_,_,rfl,Ex.get f5 q2,Ex.get f5 q3⟩
  ·rintro ρ M' ⟨o5,o6,o7,o8,o9,o10,rfl,q2,q3⟩
   nofun
theorem law_true:∀ ns:List Int,ns.length≤63→∃ M,f3 [.ls (ns.map D.int)] []=.ok (.d (.bl true)) M:=by
 intro ns hns
 obtain ⟨r,M,e,q⟩:=okp_eq (law_ok (G:=tab (f0::f1::f2::[])) lineF feedF drawF ns hns)
 subst q
 exact ⟨M,e⟩
end Qk51
end
section
set_option Elab.async false
set_option linter.all false
set_option maxRecDepth 100000
set_option maxHeartbeats 4000000
namespace Qk51
open L2 Ev PySem PySem.Spec PyProof.Rows
def top (i:Nat):Stmt:=PySem.Challenge.pw_cutstand_k51_the_cut_of_a_number.main.body.getD i (.Pass ⟨0,0,0,0⟩)
abbrev s0:Stmt:=top 1
theorem sc0:FnScope n0 ["choices","numbers","number"] (defScope s0):=⟨rfl,rfl,rfl,by decide +kernel,rfl,by decide +kernel,by decide +kernel⟩
theorem ch0:chkSs ⟨n0,(defScope s0).names,fs.take 0⟩ b0 (defBody s0)=true:=by decide +kernel
abbrev s1:Stmt:=top 3
theorem sc1:FnScope n1 ["_law_script"] (defScope s1):=⟨rfl,rfl,rfl,by decide +kernel,rfl,by decide +kernel,by decide +kernel⟩
theorem ch1:chkSs ⟨n1,(defScope s1).names,fs.take 1⟩ b1 (defBody s1)=true:=by decide +kernel
abbrev s2:Stmt:=top 4
theorem sc2:FnScope n2 ["_law_feed_here","_law_many"] (defScope s2):=⟨rfl,rfl,rfl,by decide +kernel,rfl,by decide +kernel,by decide +kernel⟩
theorem ch2:chkSs ⟨n2,(defScope s2).names,fs.take 2⟩ b2 (defBody s2)=true:=by decide +kernel
abbrev s3:Stmt:=top 5
theorem sc3:FnScope n3 ["_law_script"] (defScope s3):=⟨rfl,rfl,rfl,by decide +kernel,rfl,by decide +kernel,by decide +kernel⟩
theorem ch3:chkSs ⟨n3,(defScope s3).names,fs.take 3⟩ b3 (defBody s3)=true:=by decide +kernel
section
variable {P:Program} {w:World} {K:PySem.W.Frag} {mg:Str→Option Value} {base:Heap}
structure Is (P:Program) (w:World) (K:PySem.W.Frag) (mg:Str→Option Value) (base:Heap) (k:Nat) (x:Str) (n:Nat) (F:List D→Mem→Out W):Prop where
 is:∃ f fd ps,FnOk P w K mg base CX0 k f fd ps (spD K n F)∧mg x=some (.ref f)∧PySem.W.keepIn K (.ref f)=true∧Binds K fd ps []
theorem Is.mono {k k2:Nat} {x:Str} {n:Nat} {F:List D→Mem→Out W} (h:Is P w K mg base k x n F) (hk:k≤k2):Is P w K mg base k2 x n F:=by
 obtain ⟨f,fd,ps,a,b⟩:=h.is
 exact ⟨f,fd,ps,a.mono hk,b⟩
def All (P:Program) (w:World) (K:PySem.W.Frag) (mg:Str→Option Value) (base:Heap) (k:Nat) (fs:List (Str×Nat)) (Fs:List (List D→Mem→Out W)):Prop:=∀ (i:Nat) (x:Str) (n:Nat),fs[i]?=some (x,n)→∃ F,Fs[i]?=some F∧Is P w K mg base k x n F
theorem All.mono {k k2:Nat} {fs:List (Str×Nat)} {Fs:List (List D→Mem→Out W)} (h:All P w K mg base k fs Fs) (hk:k≤k2):All P w K mg base k2 fs Fs:=fun i x n e=>by
 obtain ⟨F,a,b⟩:=h i x n e
 exact ⟨F,a,b.mono hk⟩
theorem All.nil {k:Nat}:All P w K mg base k [] []:=fun i x n e=>by simp at e
theorem All.snoc {k:Nat} {fs:List (Str×Nat)} {Fs:List (List D→Mem→Out W)} {x:Str} {n:Nat} {F:List D→Mem→Out W} (h:All P w K mg base k fs Fs) (hl:fs.length=Fs.length) (g:Is P w K mg base k x n F):All P w K mg base k (fs++[(x,n)]) (Fs++[F]):=fun i y m e=>by
 by_cases hi:i < fs.length
 ·rw [List.getElem?_append_left hi] at e
  obtain ⟨F,a,b⟩:=h i y m e
  exact ⟨F,by rw [List.getElem?_append_left (by omega)]; exact a,b⟩
 ·have:i=fs.length:=by
   have:=(List.getElem?_eq_some_iff.mp e).1
   simp at this; omega
  subst this
  simp at e
  obtain ⟨rfl,rfl⟩:=e
  exact ⟨F,by rw [hl]; simp,g⟩
theorem def_is {x : Str} {st : Stmt} {f : Addr} {fd : FuncData} {N ps : List Str} {k : Nat} {fs : List (Str × Nat)} {Fs : List (List D → Mem → Out W)} {body : List S} {n : Nat} (F : Fun K x x st f fd) (Sc : FnScope N ps (defScope st)) (hn : ps.length = n)
    (hb : chkSs ⟨N, (defScope st).names, fs⟩ body (defBody st) = true) (hblt : ∀ b ∈ bltNames, mg b = none) (hx : mg x = some (.ref f)) (bd : Binds K fd ps []) (A : All P w K mg base k fs Fs) : Is P w K mg base (k + 1) x n (runDef (tab Fs) N.length body) :=
  ⟨f, fd, ps, def_ok F Sc hn hb hblt fun i y m e => by
    obtain ⟨F, a, b⟩ := A i y m e
    obtain ⟨f, fd, ps, c⟩ := b.is
    have : tab Fs i = F := by funext ds M; unfold tab; rw [a]
    rw [this]
    exact ⟨f, fd, ps, c⟩, hx, F.kp, bd⟩
abbrev fd0:FuncData:=PySem.W.fnOf "line_by" "line_by" (defArgs s0) (defBody s0) (defScope s0) .none .none .none (.str "cutstand.numbering" 187) none (.ref 18) .none
def o0:Obj:=⟨(.type "function"),none,.func fd0,#[]⟩
abbrev fd1:FuncData:=PySem.W.fnOf "_law_feed" "_law_feed" (defArgs s1) (defBody s1) (defScope s1) .none .none .none (.str "law_cutstand_k51_the_cut_of_a_number" 195) none (.ref 25) .none
def o1:Obj:=⟨(.type "function"),none,.func fd1,#[]⟩
abbrev fd2:FuncData:=PySem.W.fnOf "_law_draw" "_law_draw" (defArgs s2) (defBody s2) (defScope s2) .none .none .none (.str "law_cutstand_k51_the_cut_of_a_number" 195) none (.ref 32) .none
def o2:Obj:=⟨(.type "function"),none,.func fd2,#[]⟩
abbrev fd3:FuncData:=PySem.W.fnOf "law" "law" (defArgs s3) (defBody s3) (defScope s3) .none .none .none (.str "law_cutstand_k51_the_cut_of_a_number" 195) none (.ref 39) .none
def o3:Obj:=⟨(.type "function"),none,.func fd3,#[]⟩
def en (P:Params) (k:Str) (t:Nat) (v:Value):DictEntry:=⟨PyData.keyHash P k,.str k t,v⟩
def Kf (P:Params):PySem.W.Frag:=[(3,⟨(.type "dict"),none,.dict #[en P "__name__" 165 (.str "law_cutstand_k51_the_cut_of_a_number" 195),en P "__doc__" 166 .none,en P "__package__" 167 .none,en P "__loader__" 168 (.builtin "__main__.__loader__#opaque"),en P "__spec__" 169 .none,en P "__annotations__" 170 (.ref 6),en P "__builtins__" 171 (.ref 4),en P "__file__" 173 (.str "/claim/cut.py" 172),en P "__cached__" 174 .none,en P "line_by" 194 (.ref 19),en P "_law_feed" 203 (.ref 26),en P "_law_draw" 215 (.ref 33),en P "law" 232 (.ref 40)] 13,#[]⟩),(18,⟨(.type "code"),none,.fields #[(.str "line_by" 189),(.str "line_by" 190),(.str "/claim/cut.py" 191),(.int 2 0),(.int 3 0),(.int 0 0),(.int 0 0),(.int 3 0),(.ref 15),(.bool true),(.int 181 0),(.ref 16),.none,.none,.none,(.ref 17),(.int 192 0),(.int 2 0),(.str "/claim/cut.py" 193)],#[]⟩),(19,o0),(25,⟨(.type "code"),none,.fields #[(.str "_law_feed" 197),(.str "_law_feed" 198),(.str "/claim/cut.py" 199),(.int 9 0),(.int 1 0),(.int 0 0),(.int 0 0),(.int 3 0),(.ref 20),(.bool true),(.int 181 0),(.ref 21),.none,(.ref 22),(.ref 23),(.ref 24),(.int 201 0),(.int 9 0),(.str "/claim/cut.py" 202)],#[]⟩),(26,o1),(32,⟨(.type "code"),none,.fields #[(.str "_law_draw" 204),(.str "_law_draw" 205),(.str "/claim/cut.py" 206),(.int 11 0),(.int 2 0),(.int 0 0),(.int 0 0),(.int 3 0),(.ref 27),(.bool true),(.int 181 0),(.ref 28),.none,(.ref 29),(.ref 30),(.ref 31),(.int 213 0),(.int 11 0),(.str "/claim/cut.py" 214)],#[]⟩),(33,o2),(39,⟨(.type "code"),none,.fields #[(.str "law" 216),(.str "law" 217),(.str "/claim/cut.py" 218),(.int 26 0),(.int 1 0),(.int 0 0),(.int 0 0),(.int 3 0),(.ref 34),(.bool true),(.int 181 0),(.ref 35),.none,(.ref 36),(.ref 37),(.ref 38),(.int 230 0),(.int 26 0),(.str "/claim/cut.py" 231)],#[]⟩),(40,o3)]
def ads:List Addr:=[3,18,19,25,26,32,33,39,40]
theorem a0 (P:Params):PySem.W.nsIn (Kf P) mainGlobals "line_by" = some (some (.ref 19)):=by kernel_rfl
theorem F0 (P:Params):Fun (Kf P) "line_by" "line_by" s0 19 fd0:=fun_mk (st:=s0) (show (Kf P).lookup 19=some o0 by kernel_rfl) (show PySem.W.codeIn (Kf P) (.ref 18) "line_by" = true by kernel_rfl) (show PySem.W.keepIn (Kf P) (.ref 19)=true by kernel_rfl)
theorem a1 (P:Params):PySem.W.nsIn (Kf P) mainGlobals "_law_feed" = some (some (.ref 26)):=by kernel_rfl
theorem F1 (P:Params):Fun (Kf P) "_law_feed" "_law_feed" s1 26 fd1:=fun_mk (st:=s1) (show (Kf P).lookup 26=some o1 by kernel_rfl) (show PySem.W.codeIn (Kf P) (.ref 25) "_law_feed" = true by kernel_rfl) (show PySem.W.keepIn (Kf P) (.ref 26)=true by kernel_rfl)
theorem a2 (P:Params):PySem.W.nsIn (Kf P) mainGlobals "_law_draw" = some (some (.ref 33)):=by kernel_rfl
theorem F2 (P:Params):Fun (Kf P) "_law_draw" "_law_draw" s2 33 fd2:=fun_mk (st:=s2) (show (Kf P).lookup 33=some o2 by kernel_rfl) (show PySem.W.codeIn (Kf P) (.ref 32) "_law_draw" = true by kernel_rfl) (show PySem.W.keepIn (Kf P) (.ref 33)=true by kernel_rfl)
theorem a3 (P:Params):PySem.W.nsIn (Kf P) mainGlobals "law" = some (some (.ref 40)):=by kernel_rfl
theorem F3 (P:Params):Fun (Kf P) "law" "law" s3 40 fd3:=fun_mk (st:=s3) (show (Kf P).lookup 40=some o3 by kernel_rfl) (show PySem.W.codeIn (Kf P) (.ref 39) "law" = true by kernel_rfl) (show PySem.W.keepIn (Kf P) (.ref 40)=true by kernel_rfl)
theorem nob {P:Params} {h:Heap} {mg:Str→Option Value} (X:(Kf P).In h) (G:h.Ns mainGlobals mg):∀ b∈bltNames,mg b=none:=by
 have z:bltNames.all (fun b=>match PySem.W.nsIn (Kf P) mainGlobals b with | some none=>true | _=>false)=true:=by kernel_rfl
 intro b hb
 have q:=List.all_eq_true.mp z b hb
 split at q
 ·rename_i e; exact PySem.W.mg_none_of X G e
 ·cases q
theorem all_mk {l : PySem.W.OpenLaw} {w : World} {h : Heap} {mg : Str → Option Value} {fa : Addr} (X : (Kf w.params).In h) (G : h.Ns mainGlobals mg) (hfa : mg "law" = some (.ref fa))
    : ∃ fd : FuncData, (∀ (s : Shared) (v : Value), BindsTo s fd ⟨[v], []⟩ [("_law_script", v)]) ∧ ∀ base : Heap, (Kf w.params).In base → base.Ns mainGlobals mg → FnOk l.prog w (Kf w.params) mg base CX0 4 fa fd ["_law_script"] (spD (Kf w.params) 1 f3) := by
  have e := hfa.symm.trans (PySem.W.mg_of X G (a3 w.params))
  cases e
  have hblt := nob X G
  refine ⟨fd3, fun s v => .of_eq rfl, fun base _ _ => ?_⟩
  have A0 : All l.prog w (Kf w.params) mg base 0 (fs.take 0) [] := All.nil
  have A1 : All l.prog w (Kf w.params) mg base 1 (fs.take 1) [f0] := (A0.mono (Nat.le_succ _)).snoc rfl (def_is (F0 w.params) sc0 rfl ch0 hblt (PySem.W.mg_of X G (a0 w.params)) ((F0 w.params).binds (ps := ["choices", "numbers", "number"]) fun _ _ _ _ _ _ us hl => match us, hl with | [_, _, _], _ => rfl) A0)
  have A2 : All l.prog w (Kf w.params) mg base 2 (fs.take 2) [f0, f1] := (A1.mono (Nat.le_succ _)).snoc rfl (def_is (F1 w.params) sc1 rfl ch1 hblt (PySem.W.mg_of X G (a1 w.params)) ((F1 w.params).binds (ps := ["_law_script"]) fun _ _ _ _ _ _ us hl => match us, hl with | [_], _ => rfl) A1)
  have A3 : All l.prog w (Kf w.params) mg base 3 (fs.take 3) [f0, f1, f2] := (A2.mono (Nat.le_succ _)).snoc rfl (def_is (F2 w.params) sc2 rfl ch2 hblt (PySem.W.mg_of X G (a2 w.params)) ((F2 w.params).binds (ps := ["_law_feed_here", "_law_many"]) fun _ _ _ _ _ _ us hl => match us, hl with | [_, _], _ => rfl) A2)
  exact def_ok (F3 w.params) sc3 rfl ch3 hblt fun i y m e => by
    obtain ⟨F, a, b⟩ := A3 i y m e
    obtain ⟨f, fd, ps, c⟩ := b.is
    have : tab [f0, f1, f2] i = F := by funext ds M; unfold tab; rw [a]
    rw [this]
    exact ⟨f, fd, ps, c⟩
end
theorem scr_ls {K:PySem.W.Frag} {H:Hp} {a:Addr} {xs:List V} (hO:Only H) (h:SqL K H a xs):ScrL K H a xs:=by
 rcases h with (h | ⟨o,h⟩) | h
 ·rcases hO a with q | ⟨o,ys,q⟩
  ·rw [q] at h; cases h
  ·rw [q] at h; cases h
 ·exact .inl ⟨o,h⟩
 ·exact .inr h
theorem ints_rds {K:PySem.W.Frag} {H:Hp} {ads:List Addr}:∀ (ns:List Int),RDs K ads H (ns.map D.int) (ns.map V.int)
 | []=>by unfold RDs; rfl
 | i::ns=>by
  show RDs K ads H (D.int i::ns.map D.int) (V.int i::ns.map V.int)
  unfold RDs
  exact ⟨_,_,rfl,by unfold RD; rfl,ints_rds ns⟩
theorem walk {l : PySem.W.OpenLaw} {q : Program} {loose : List Str} {XP : (Str → Option Value) → Heap → Prop} {YP : World → Heap → Prop} {d : DefRec} {K : Params → PySem.W.Frag} (hlaw : ∀ ns : List Int, ns.length ≤ 63 → ∃ M, f3 [.ls (ns.map D.int)] [] = .ok (.d (.bl true)) M) (hn : l.most = some 63) (hdf : d.params.defaults = [])
    (hY : ∀ (w : World) (h : Heap), YP w h → (K w.params).In h)
    (F : ∀ (w : World) (mg : Str → Option Value) (fa : Addr) (h : Heap), (K w.params).In h → h.Ns mainGlobals mg → mg d.name = some (.ref fa) →
      ∃ fd : FuncData, (∀ (s : Shared) (u : Value), BindsTo s fd ⟨[u], []⟩ [("_law_script", u)]) ∧ ∀ base : Heap, (K w.params).In base → base.Ns mainGlobals mg → FnOk l.prog w (K w.params) mg base CX0 4 fa fd ["_law_script"] (spD (K w.params) 1 f3)) :
    PySem.W.WalkO q loose XP YP l.row.toRowW d [] (fun f vs => PySem.call f vs) :=
  L2.walk_of (n := 63) (k := 4) (x := "_law_script") (CX := fun _ => CX0) (sp := fun w => spD (K w.params) 1 f3) hn (by decide) hdf ⟨rfl, by decide, by decide, rfl⟩ hY F (fun w H a ns hl hO hS => by
    obtain ⟨M, hM⟩ := hlaw ns hl
    refine ⟨[], [], [.ls (ns.map D.int)], ⟨List.nodup_nil, rfl, fun n o a e _ => by simp at e⟩, .one ?_, rfl, ?_⟩
    · unfold RD
      exact ⟨a, _, rfl, scr_ls hO hS, ints_rds ns⟩
    · rw [hM]
      intro v H' ads' _ _ r
      have r : RD (K w.params) ads' H' (.bl true) v := r
      unfold RD at r
      exact r) fun _ _ _ _ _ z => z
def vw:Program:={ PySem.Challenge.pw_cutstand_k51_the_cut_of_a_number with main:={ PySem.Challenge.pw_cutstand_k51_the_cut_of_a_number.main with body:=[top 1,top 3,top 4,top 5] } }
def hk:PySem.W.Hook:=PySem.W.kHook Kf ads (fun _=>by kernel_rfl)
theorem lft:PySem.W.LeftO PySem.Challenge.pw_cutstand_k51_the_cut_of_a_number vw [] (fun s=>PySem.W.xlAt vw [] s && PySem.W.recOk [] s) (PySem.W.Hook.obs hk) (PySem.W.Hook.val hk) 880:=by
 intro w
 kernel_rfl
theorem said:PySem.W.OpenLaw.wellSaid PySem.Challenge.rw_cutstand_k51_the_cut_of_a_number=true:=by kernel_rfl
end Qk51
end
open PySem PySem.W PyProof.Rows
set_option maxRecDepth 100000 in
set_option maxHeartbeats 0 in
theorem PySem.Challenge.cw_cutstand_k51_the_cut_of_a_number_holds : PySem.Challenge.rw_cutstand_k51_the_cut_of_a_number.Holds := by
 refine holds_law Qk51.said fun said=>?_
 refine holds_open (q:=Qk51.vw) (loose:=[]) (Xt:=fun s=>xlAt Qk51.vw [] s && recOk [] s) (XP:=XL Qk51.vw []) (Yf:=Hook.obs Qk51.hk) (Ya:=Hook.val Qk51.hk) (YP:=Hook.says Qk51.hk) (N:=880) Qk51.lft (Hook.of Qk51.hk) (Hook.keeps Qk51.hk) (fun s e=>xl_of s (Bool.and_eq_true_iff.mp e).1) XL.keeps (by rfl) (by rfl) (by rfl) (fun s e=>recFacts_of (Bool.and_eq_true_iff.mp e).2) (by rfl) said (by decide +kernel) ⟨rfl,rfl,rfl,rfl,rfl,by decide +kernel⟩ ?hw ?hc
 case hw=>w_witness2
 case hc=>exact Qk51.walk (l:=PySem.Challenge.rw_cutstand_k51_the_cut_of_a_number) (K:=Qk51.Kf) Qk51.law_true rfl rfl (fun w h Y=>kIn_of Y) fun w mg fa h KX G hmg=>Qk51.all_mk KX G hmg
#print axioms PySem.Challenge.cw_cutstand_k51_the_cut_of_a_number_holds
