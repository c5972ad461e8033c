import PyProof.Rows.All
import Wide.All
import OpenK.AllK
import Wide.FinOn
import Lean
import PyProof.EqAt
import PyProof.EqKinds
import PyProof.TupleCall
import PySem.Challenge.RW_textkinds_k24_compared
set_option Elab.async false
set_option linter.all false
set_option maxRecDepth 100000
set_option maxHeartbeats 0
noncomputable abbrev Fg9 := PySem.W.Frag
noncomputable abbrev Pn9 := List (PySem.Addr × PySem.Obj)
noncomputable abbrev VS9 := PySem.Value -> PySem.Shared -> Prop
section
namespace L2
open PySem PySem.Spec PyProof.Rows
noncomputable abbrev B0:=Sum Int Str
noncomputable def Q2u : B0 -> Value -> Bool
 | .inl k,v=>Value.isInt k v
 | .inr x,v=>Value.isStrOf x v
noncomputable def keyH (w : World) : B0 -> Int
 | .inl k=>hashInt k
 | .inr x=>hashStr w x
theorem Q0g : ∀ {k : B0} {v : Value},Q2u k v = true -> (∃ i t,k = Sum.inl i /\ v = Value.int i t) \/ (∃ x t,k = Sum.inr x /\ v = Value.str x t)
 | .inl i,v,h=>by
  obtain ⟨t,e⟩:=Value.isInt_shape (k:=i) (v:=v) h
  exact .inl ⟨i,t,rfl,e⟩
 | .inr x,v,h=>by
  obtain ⟨t,e⟩:=Value.isStrOf_shape (x:=x) (v:=v) h
  exact .inr ⟨x,t,rfl,e⟩
theorem W4d (i : Int) (t : Tok) : Q2u (.inl i) (.int i t) = true:=by simp [Q2u,Value.isInt]
theorem Y3z (x : Str) (t : Tok) : Q2u (.inr x) (.str x t) = true:=by simp [Q2u,Value.isStrOf]
theorem Y2z (a b : Int) : decide ((Sum.inl a : B0) = Sum.inl b) = (a == b):=by
 by_cases e : a = b
 ·subst e; simp
 ·have h : ¬ (Sum.inl a : B0) = Sum.inl b:=fun q=>e (Sum.inl.inj q)
  rw [decide_eq_false h]
  exact (beq_eq_false_iff_ne.mpr e).symm
theorem W1m (a b : Str) : decide ((Sum.inr a : B0) = Sum.inr b) = decide (a = b):=by
 by_cases e : a = b
 ·subst e; simp
 ·have h : ¬ (Sum.inr a : B0) = Sum.inr b:=fun q=>e (Sum.inr.inj q)
  rw [decide_eq_false h,decide_eq_false e]
theorem W5d (a : Int) (b : Str) : decide ((Sum.inl a : B0) = Sum.inr b) = false:=decide_eq_false (fun q=>nomatch q)
theorem W3f (a : Str) (b : Int) : decide ((Sum.inr a : B0) = Sum.inl b) = false:=decide_eq_false (fun q=>nomatch q)
noncomputable def J2 (prog : Program) (w : World) : PySem.KeyKind prog w B0 where
 is:=Q2u
 hash:=keyH w
 inj:=fun v a b ha hb=>by
  rcases Q0g ha with ⟨i,t,rfl,rfl⟩ | ⟨x,t,rfl,rfl⟩
  ·rcases Q0g hb with ⟨j,u,rfl,e⟩ | ⟨y,u,rfl,e⟩
   ·injection e with e1 _; rw [e1]
   ·exact nomatch e
  ·rcases Q0g hb with ⟨j,u,rfl,e⟩ | ⟨y,u,rfl,e⟩
   ·exact nomatch e
   ·injection e with e1 _; rw [e1]
 byValue:=fun k v h=>by
  rcases Q0g h with ⟨i,t,rfl,rfl⟩ | ⟨x,t,rfl,rfl⟩ <;> rfl
 pyHash:=fun hv h=>by
  rcases Q0g hv with ⟨i,t,rfl,rfl⟩ | ⟨x,t,rfl,rfl⟩
  ·exact wpAny_pyHash_int h
  ·exact wpAny_pyHash_str h
 eqBool:=fun hu hv h=>by
  rcases Q0g hu with ⟨i,t,rfl,rfl⟩ | ⟨x,t,rfl,rfl⟩
  ·rcases Q0g hv with ⟨j,u,rfl,rfl⟩ | ⟨y,u,rfl,rfl⟩
   ·rw [Y2z] at h; exact wpAny_eqBool_int h
   ·rw [W5d] at h; exact SeqAt.EqAt.int_str i t y u _ _ _ _ h
  ·rcases Q0g hv with ⟨j,u,rfl,rfl⟩ | ⟨y,u,rfl,rfl⟩
   ·rw [W3f] at h; exact SeqAt.EqAt.str_int x t j u _ _ _ _ h
   ·rw [W1m] at h; exact wpAny_eqBool_str h
 «strs»:=fun k x t v h=>by
  rcases Q0g h with ⟨i,u,rfl,e⟩ | ⟨y,u,rfl,e⟩
  ·exact nomatch e
  ·injection e with e1 _
   subst e1
   cases v <;> rfl
theorem Y8c (prog : Program) (w : World) (i : Int) (t : Tok) : (J2 prog w).is (.inl i) (.int i t) = true:=W4d i t
theorem W4u (prog : Program) (w : World) (x : Str) (t : Tok) : (J2 prog w).is (.inr x) (.str x t) = true:=Y3z x t
end L2
namespace L2
open PySem PySem.Spec PyProof.Rows
inductive V where
 | non | bl (b : Bool) | int (i : Int) | str (x : Str) | byt (b : Array UInt8) | flt (b : UInt64) | ref (a : Addr) | ty (n : String)
 deriving DecidableEq
noncomputable def B4 : V -> Value -> Prop
 | .non,u=>u = Value.none
 | .bl b,u=>u = Value.bool b
 | .int i,u=>∃ t,u = Value.int i t
 | .str x,u=>∃ t,u = Value.str x t
 | .byt b,u=>∃ t,u = Value.bytes b t
 | .flt b,u=>∃ t,u = Value.float b t
 | .ref a,u=>u = Value.ref a
 | .ty n,u=>u = Value.type n
noncomputable abbrev C4 : List V -> List Value -> Prop:=Paired B4
theorem C4.length {xs : List V} {us : List Value} (r : C4 xs us) : xs.length = us.length:=Paired.length r
theorem C4.get : ∀ {xs : List V} {us : List Value} {i : Nat} {x : V},C4 xs us -> xs[i]? = some x -> ∃ u,us[i]? = some u /\ B4 x u
 | _,_,_,_,.nil,e=>by simp at e
 | _,_,0,_,.cons r _,e=>by simp at e; subst e; exact ⟨_,rfl,r⟩
 | _,_,i + 1,x,.cons _ t,e=>by
  obtain ⟨u,h1,h2⟩:=C4.get (i:=i) (x:=x) t (by simpa using e)
  exact ⟨u,by simpa using h1,h2⟩
theorem C4.append : ∀ {xs ys : List V} {us ws : List Value},C4 xs us -> C4 ys ws -> C4 (xs ++ ys) (us ++ ws)
 | _,_,_,_,.nil,s=>s
 | _,_,_,_,.cons r t,s=>.cons r (C4.append t s)
noncomputable def W8 : Option V -> Option Value -> Prop
 | some v,some u=>B4 v u
 | none,none=>True
 | _,_=>False
noncomputable def KV {κ : Type} : List (κ × V) -> List (κ × Value) -> Prop:=Paired fun (p : κ × V) (q : κ × Value)=>p.1 = q.1 /\ B4 p.2 q.2
noncomputable def kV : B0 -> V
 | .inl i=>.int i
 | .inr x=>.str x
inductive HO where
 | lst (xs : List V)
 | tup (xs : List V)
 | dK (kvs : List (B0 × V)) | dT (kvs : List (List B0 × V))
 | set (S : Int -> Bool) (n : Nat)
 | ins (C dx : Addr) (fs : List (Str × V))
 | own (x : Addr)
 | xd (fs : List (Str × V))
 | met (f x : Addr)
 | rng (lo hi : Int)
 | frz (o : Obj) (u : HO)
 | tab
 | tbl (ps : Array Value)
 | ext (φ : Heap -> Prop)
noncomputable abbrev Hp:=Addr -> Option HO
noncomputable def upd (H : Hp) (a : Addr) (o : HO) : Hp:=fun b=>if b = a then some o else H b
theorem upd_same {H : Hp} {a : Addr} {o : HO} : upd H a o a = some o:=by unfold upd; rw [if_pos rfl]
theorem A9 {H : Hp} {a b : Addr} {o : HO} (h : b ≠ a) : upd H a o b = H b:=by unfold upd; rw [if_neg h]
theorem W9 {H : Hp} {a b : Addr} {o u : HO} (h : H a = some o) (h' : H b = some u) (d : o ≠ u) : a ≠ b:=by
 intro e; subst e; rw [h] at h'; exact d (Option.some.inj h')
theorem T2 {H : Hp} {a b : Addr} {o : HO} (h : H a = some o) (h' : H b = none) : a ≠ b:=by
 intro e; subst e; rw [h] at h'; cases h'
def Q4l (o : Obj) : Prop:=∃ vs q t,o.data = .fields vs /\ vs[1]? = some (Value.str q t)
def Q7v (a : Addr) (u : HO) : Prop:=u = .own a \/ ∃ o,u = .frz o (.own a)
section
variable (P : Program) (w : World)
noncomputable def F6 (H : Hp) (h : Heap) (a : Addr) : HO -> Prop
 | .lst xs=>xs.length <= sizeLine /\ ∃ (its : List Value) (n : Nat),C4 xs its /\ h.get? a = some { cls:=.type "list",data:=.seq its.toArray n }
 | .tup xs=>xs.length <= sizeLine /\ ∃ its : List Value,C4 xs its /\ IsTup h a its.toArray
 | .dK kvs=>kvs.length <= sizeLine /\ (a == sysModules) = false /\ ∃ vs,KV kvs vs /\ h.DictOf (J2 P w) a vs
 | .dT kvs=>kvs.length <= sizeLine /\ (a == sysModules) = false /\ ∃ xs : List (List B0 × Addr × Value),
   Paired (fun (p : List B0 × V) (q : List B0 × Addr × Value)=>p.1 = q.1 /\ H q.2.1 = some (.tup (p.1.map kV)) /\ B4 p.2 q.2.2) kvs xs /\
   ∃ o es ep,h.get? a = some o /\ o.ExactDict /\ o.data = .dict es ep /\ es.toList = xs.map (entryOfKey (tupleKind (J2 P w))) /\ (xs.map (·.1)).Nodup
 | .set S n=>h.SetOf (intKind P w) a S n
 | .ins C dx fs=>H dx = some (.own a) /\ fs.length <= 1000 /\ dx ≠ a /\ h.get? a = some (PySem.W.instObj C dx) /\
   ∃ mA,h.Ns1 dx mA /\ (∀ f,W8 (fs.lookup f) (mA f)) /\ PySem.Within mA (fs.map (·.1))
 | .own _=>∃ o,h.get? a = some o
 | .xd fs=>∃ mA,h.Ns1 a mA /\ ∀ f,W8 (fs.lookup f) (mA f)
 | .rng lo hi=>∃ t u v,h.get? a = some { cls:=.type "range",data:=.fields #[.int lo t,.int hi u,.int 1 v] }
 | .frz o u=>h.get? a = some o /\ F6 H h a u
 | .tab=>∃ ps,h.get? a = some (PySem.W.tabObj ps) /\ TriplesOk ps.toList /\ ∀ pos cv,codeAmong pos ps.toList = some cv -> ∃ c' oc,cv = .ref c' /\ H c' = some (.frz oc (.own a)) /\ Q4l oc
 | .tbl ps=>h.get? a = some { cls:=.none,data:=.fields ps }
 | .met f x=>h.get? a = some (PySem.W.methodObj (.ref f) (.ref x))
 | .ext φ=>φ h /\ (∃ o,h.get? a = some o) /\ ∀ h1 h2 : Heap,φ h1 -> (∀ o,h1.get? a = some o -> h2.get? a = some o) -> φ h2
def F1 (H : Hp) (h : Heap) : Prop:=∀ a o,H a = some o -> F6 P w H h a o
end
section
variable {P : Program} {w : World} {H H' : Hp} {h h' : Heap} {a : Addr} {o : HO}
theorem F6.lt (x : F6 P w H h a o) : a < h.objs.size:=by
 cases o with
 | lst xs=>obtain ⟨_,_,_,_,e⟩:=x; exact Heap.lt_size e
 | tup xs=>obtain ⟨_,_,_,p⟩:=x; exact p.lt
 | dK kvs=>obtain ⟨_,_,_,_,o,_,_,e,_⟩:=x; exact Heap.lt_size e
 | dT kvs=>obtain ⟨_,_,_,_,o,_,_,e,_⟩:=x; exact Heap.lt_size e
 | set S n=>obtain ⟨o,_,_,_,e,_⟩:=x; exact Heap.lt_size e
 | ins C dx fs=>obtain ⟨_,_,_,e,_⟩:=x; exact Heap.lt_size e
 | own y=>obtain ⟨_,e⟩:=x; exact Heap.lt_size e
 | xd fs=>obtain ⟨_,⟨_,_,_,e,_⟩,_⟩:=x; exact Heap.lt_size e
 | rng lo hi=>obtain ⟨_,_,_,e⟩:=x; exact Heap.lt_size e
 | frz ob u=>obtain ⟨e,_⟩:=x; exact Heap.lt_size e
 | tab=>obtain ⟨_,e,_⟩:=x; exact Heap.lt_size e
 | tbl ps=>exact Heap.lt_size (show h.get? a = some _ from x)
 | met f y=>exact Heap.lt_size (show h.get? a = some _ from x)
 | ext φ=>obtain ⟨_,⟨_,e⟩,_⟩:=x; exact Heap.lt_size e
theorem Paired.mapP {α β : Type} {F G : α -> β -> Prop} : ∀ {l₁ : List α} {l₂ : List β},Paired F l₁ l₂ -> (∀ a b,F a b -> G a b) -> Paired G l₁ l₂
 | _,_,.nil,_=>.nil
 | _,_,.cons r t,f=>.cons (f _ _ r) (Paired.mapP t f)
theorem F6.stay (x : F6 P w H h a o) (k : ∀ b u,(b = a \/ H b = some (.own a)) -> h.get? b = some u -> h'.get? b = some u)
  (ho : ∀ b u,Q7v a u -> H b = some u -> H' b = some u) (ht : ∀ b xs,H b = some (.tup xs) -> H' b = some (.tup xs)) : F6 P w H' h' a o:=by
 induction o with
 | lst xs=>obtain ⟨z,its,n,r,e⟩:=x; exact ⟨z,its,n,r,k _ _ (.inl rfl) e⟩
 | tup xs=>obtain ⟨z,its,r,ob,e,c⟩:=x; exact ⟨z,its,r,ob,k _ _ (.inl rfl) e,c⟩
 | dK kvs=>obtain ⟨z,y,vs,r,ob,es,ep,e,c⟩:=x; exact ⟨z,y,vs,r,ob,es,ep,k _ _ (.inl rfl) e,c⟩
 | dT kvs =>
  obtain ⟨z,y,xs,r,ob,es,ep,e,c⟩:=x
  exact ⟨z,y,xs,Paired.mapP r fun p q z=>⟨z.1,ht _ _ z.2.1,z.2.2⟩,ob,es,ep,k _ _ (.inl rfl) e,c⟩
 | set S n=>obtain ⟨ob,es,ep,t,e,c⟩:=x; exact ⟨ob,es,ep,t,k _ _ (.inl rfl) e,c⟩
 | ins C dx fs =>
  obtain ⟨d,z,ne,e,mA,⟨od,es,ep,e2,c⟩,r⟩:=x
  exact ⟨ho _ _ (.inl rfl) d,z,ne,k _ _ (.inl rfl) e,mA,⟨od,es,ep,k _ _ (.inr d) e2,c⟩,r⟩
 | own y=>obtain ⟨ob,e⟩:=x; exact ⟨ob,k _ _ (.inl rfl) e⟩
 | xd fs=>obtain ⟨mA,⟨od,es,ep,e,c⟩,r⟩:=x; exact ⟨mA,⟨od,es,ep,k _ _ (.inl rfl) e,c⟩,r⟩
 | rng lo hi=>obtain ⟨t,u,v,e⟩:=x; exact ⟨t,u,v,k _ _ (.inl rfl) e⟩
 | frz ob u ih=>obtain ⟨e,q⟩:=x; exact ⟨k _ _ (.inl rfl) e,ih q⟩
 | tab =>
  obtain ⟨ps,e,t,en⟩:=x
  exact ⟨ps,k _ _ (.inl rfl) e,t,fun pos cv q=>let ⟨c',oc,e1,e2,e3⟩:=en pos cv q; ⟨c',oc,e1,ho _ _ (.inr ⟨_,rfl⟩) e2,e3⟩⟩
 | tbl ps =>
  have e : h.get? a = some { cls:=.none,data:=.fields ps }:=x
  show h'.get? a = some { cls:=.none,data:=.fields ps }
  exact k a _ (.inl rfl) e
 | met f y =>
  have e : h.get? a = some (PySem.W.methodObj (.ref f) (.ref y)):=x
  show h'.get? a = some (PySem.W.methodObj (.ref f) (.ref y))
  exact k a _ (.inl rfl) e
 | ext φ=>obtain ⟨p,⟨o,e⟩,st⟩:=x; exact ⟨st _ _ p fun o q=>k _ _ (.inl rfl) q,⟨o,k _ _ (.inl rfl) e⟩,st⟩
theorem F1.lt (x : F1 P w H h) (e : H a = some o) : a < h.objs.size:=(x a o e).lt
theorem F1.fresh (x : F1 P w H h) (e : h.objs.size <= a) : H a = none:=by
 cases q : H a with
 | none=>rfl
 | some u=>exact absurd (Nat.lt_of_lt_of_le (x.lt q) e) (Nat.lt_irrefl _)
theorem F1.kept (x : F1 P w H h) (k : ∀ b u,h.get? b = some u -> h'.get? b = some u) : F1 P w H h':=fun a o e =>
 (x a o e).stay (fun b u _ q=>k b u q) (fun _ _ _ q=>q) fun _ _ q=>q
theorem F1.laid (x : F1 P w H h) (k : ∀ b u,h.get? b = some u -> h'.get? b = some u) (hp : h.objs.size <= a) (new : F6 P w (upd H a o) h' a o) : F1 P w (upd H a o) h':=fun b u e=>by
 have hn:=x.fresh hp
 by_cases hb : b = a
 ·subst hb; rw [upd_same] at e; cases e; exact new
 ·rw [A9 hb] at e
  exact (x b u e).stay (fun c v _ q=>k c v q) (fun c u _ q=>by rw [A9 (T2 q hn)]; exact q) fun c xs q=>by rw [A9 (T2 q hn)]; exact q
end
def Rd (H : Hp) (a : Addr) (u : HO) : Prop:=H a = some u \/ ∃ o,H a = some (.frz o u)
theorem Rd.ok {P : Program} {w : World} {H : Hp} {h : Heap} {a : Addr} {u : HO} (r : Rd H a u) (x : F1 P w H h) : F6 P w H h a u:=by
 rcases r with r | ⟨o,r⟩
 ·exact x a u r
 ·obtain ⟨_,q⟩:=x a _ r
  exact q
noncomputable def Mut : Option HO -> Prop
 | some (.lst _)=>True
 | some (.dK _)=>True
 | some (.dT _)=>True
 | some (.set _ _)=>True
 | some (.ins _ _ _)=>True
 | some (.ext _)=>True
 | some .tab=>True
 | _=>False
section
variable {P : Program} {w : World} {H : Hp} {h h' : Heap} {x e : Addr} {o' : HO}
theorem F1.write (ok : F1 P w H h) (mu : Mut (H x)) (he : e = x \/ H e = some (.own x)) (k : ∀ b u,b ≠ e -> h.get? b = some u -> h'.get? b = some u) (heo : ∃ u,h'.get? e = some u)
  (new : F6 P w (upd H x o') h' x o') : F1 P w (upd H x o') h':=fun b u q=>by
 have nown : ∀ c y,H c = some (.own y) -> c ≠ x:=fun c y r z=>by subst z; rw [r] at mu; exact mu
 have nown2 : ∀ c u y,Q7v y u -> H c = some u -> c ≠ x:=fun c u y ow r z=>by
  subst z
  rw [r] at mu
  rcases ow with rfl | ⟨o,rfl⟩
  ·exact mu
  ·exact mu
 have ntup : ∀ c xs,H c = some (.tup xs) -> c ≠ x:=fun c xs r z=>by subst z; rw [r] at mu; exact mu
 by_cases hb : b = x
 ·subst hb; rw [upd_same] at q; cases q; exact new
 ·rw [A9 hb] at q
  by_cases hbe : b = e
  ·have q' : H b = some (.own x):=by
    rcases he with z | z
    ·exact absurd (hbe.trans z) hb
    ·rw [hbe]; exact z
   rw [q] at q'; cases q'
   obtain ⟨v,hv⟩:=heo
   exact ⟨v,by rw [hbe]; exact hv⟩
  ·refine (ok b u q).stay (fun c v hc r=>k c v ?_ r) (fun c u ow r=>by rw [A9 (nown2 c u b ow r)]; exact r) fun c xs r=>by rw [A9 (ntup c xs r)]; exact r
   rcases hc with rfl | hc
   ·exact hbe
   ·rintro rfl
    rcases he with z | z
    ·exact nown c b hc z
    ·rw [hc] at z; cases z; exact hb rfl
end
structure Un (fs ex : List Addr) (H H' : Hp) (h h' : Heap) : Prop where
 keep : ∀ b o,h.get? b = some o -> H b = none -> b ∉ fs -> b ∉ ex -> h'.get? b = some o
 slot : ∀ b o,h.get? b = some o -> H b = none -> b ∈ fs -> b ∉ ex -> ∃ sl,h'.get? b = some { o with slots:=sl }
 free : ∀ b o,h.get? b = some o -> H b = none -> b ∉ ex -> H' b = none
 there : ∀ b o,h.get? b = some o -> b ∉ ex -> ∃ o',h'.get? b = some o'
 tups : ∀ b xs,H b = some (.tup xs) -> H' b = some (.tup xs)
 frzs : ∀ b o u,H b = some (.frz o u) -> H' b = some (.frz o u)
 tbls : ∀ b ps,H b = some (.tbl ps) -> ∃ more,H' b = some (.tbl (ps ++ more))
section
variable {fs fs' ex ex' : List Addr} {H H1 H2 : Hp} {h h1 h2 h' : Heap} {a x e : Addr} {o : HO}
theorem Un.any (u : Un fs ex H H1 h h1) {b : Addr} {ob : Obj} (q : h.get? b = some ob) (n : H b = none) (hx : b ∉ ex) : ∃ sl,h1.get? b = some { ob with slots:=sl }:=by
 by_cases hb : b ∈ fs
 ·exact u.slot b ob q n hb hx
 ·exact ⟨ob.slots,u.keep b ob q n hb hx⟩
theorem Un.kept (k : ∀ b u,h.get? b = some u -> h'.get? b = some u) : Un fs ex H H h h' :=
 ⟨fun b ob q _ _ _=>k b ob q,fun b ob q _ _ _=>⟨ob.slots,k b ob q⟩,fun _ _ _ n _=>n,fun b ob q _=>⟨ob,k b ob q⟩,fun _ _ q=>q,fun _ _ _ q=>q,fun _ ps q=>⟨#[],by rw [q]; simp⟩⟩
theorem Un.refl : Un fs ex H H h h:=Un.kept fun _ _ q=>q
theorem Un.laid (k : ∀ b u,h.get? b = some u -> h'.get? b = some u) (hp : h.objs.size <= a) (hn : H a = none) : Un fs ex H (upd H a o) h h' where
 keep:=fun b u q _ _ _=>k b u q
 slot:=fun b u q _ _ _=>⟨u.slots,k b u q⟩
 free:=fun b u q n _=>by rw [A9 (Nat.ne_of_lt (Nat.lt_of_lt_of_le (Heap.lt_size q) hp))]; exact n
 there:=fun b u q _=>⟨u,k b u q⟩
 tups:=fun b xs q=>by rw [A9 (T2 q hn)]; exact q
 frzs:=fun b u xs q=>by rw [A9 (T2 q hn)]; exact q
 tbls:=fun b ps q=>⟨#[],by rw [A9 (T2 q hn),q]; simp⟩
theorem Un.write (mu : Mut (H x)) (he : e = x \/ H e = some (.own x)) (k : ∀ b u,b ≠ e -> h.get? b = some u -> h'.get? b = some u) (heo : ∃ u,h'.get? e = some u) : Un fs ex H (upd H x o) h h':=by
 have hx : ∀ b,H b = none -> b ≠ x:=fun b n z=>by subst z; rw [n] at mu; exact mu
 have hb : ∀ b,H b = none -> b ≠ e:=fun b n z=>by
  subst z
  rcases he with r | r
  ·exact hx b n r
  ·rw [n] at r; cases r
 have hm : ∀ b u,H b = some u -> ¬ Mut (some u) -> b ≠ x:=fun b u q nm z=>by subst z; rw [q] at mu; exact nm mu
 refine ⟨fun b u q n _ _=>k b u (hb b n) q,fun b u q n _ _=>⟨u.slots,k b u (hb b n) q⟩,fun b u q n _=>by rw [A9 (hx b n)]; exact n,fun b u q _=>?_,
  fun b xs q=>by rw [A9 (hm b _ q fun z=>z)]; exact q,fun b u xs q=>by rw [A9 (hm b _ q fun z=>z)]; exact q,fun b ps q=>⟨#[],by rw [A9 (hm b _ q fun z=>z),q]; simp⟩⟩
 by_cases hbe : b = e
 ·subst hbe; exact heo
 ·exact ⟨u,k b u hbe q⟩
end
noncomputable def trk (h : Heap) (H : Hp) : List Addr:=(List.range h.objs.size).filter fun a=>(H a).isSome
noncomputable def Z6 (h : Heap) (H : Hp) : Heap:=PySem.W.hideAll h (trk h H)
theorem Y5c (h : Heap) (H : Hp) : (Z6 h H).objs.size = h.objs.size:=PySem.W.hideAll_size _ _
theorem W0c {h : Heap} {H : Hp} {b : Addr} {o : Obj} (e : h.get? b = some o) (n : H b = none) : (Z6 h H).get? b = some o :=
 PySem.W.hideAll_get _ e fun hm=>by
  have q : (H b).isSome = true:=(List.mem_filter.mp hm).2
  rw [n] at q; simp at q
theorem W3w {h : Heap} {H : Hp} {b : Addr} {o : Obj} (e : (Z6 h H).get? b = some o) : h.get? b = some o /\ H b = none:=by
 have e' : h.get? b = some o:=PySem.W.of_hideAll (trk h H) e
 refine ⟨e',?_⟩
 cases q : H b with
 | none=>rfl
 | some x =>
  have hm : b ∈ trk h H:=List.mem_filter.mpr ⟨List.mem_range.mpr (Heap.lt_size e'),by simp [q]⟩
  have z : (Z6 h H).get? b = none:=PySem.W.hideAll_none (trk h H) hm
  rw [z] at e; cases e
end L2
namespace L2
open PySem PySem.Spec PyProof.Rows
structure Mod (K : Fg9) (mg : Str -> Option Value) (base : Heap) : Prop where
 kin : K.In base
 glob : base.Ns mainGlobals mg
 blt : ∃ mb,base.Ns builtinsNs mb /\ ∀ x : Str,x ≠ "__name__" -> mb x = bootBuiltins x
 nolimit : base.NoLimit
structure Cx where
 prog : Program
 w : World
 K : Fg9
 mg : Str -> Option Value
 base : Heap
 A : Around
 N : List Str
 s₀ : Shared
 H₀ : Hp
 env : Env
 outer : List Env
 stack : List Env
 ex : List Addr
 fn : Str -> Bool
 calm : Bool
 pn : Pn9
 xe : VS9
noncomputable def frs (l : List Env) : List Addr:=l.filterMap (·.frame)
noncomputable abbrev Cx.fs (X : Cx) : List Addr:=frs X.outer
def Vis (sc : Scope) (x : Str) : Prop:=sc.names.lookup x = some .local \/ sc.names.lookup x = some .cell \/ sc.names.lookup x = some .free
def Loc (sc : Scope) (x : Str) : Prop:=sc.names.lookup x = some .local \/ sc.names.lookup x = some .cell
def Look (env : Env) (h : Heap) (m : Str -> Option Value) (x : Str) (u : Value) : Prop :=
 (env.kindOf x = some .local /\ m x = some u) \/ ((env.kindOf x = some .cell \/ env.kindOf x = some .free) /\ ∃ c,env.cells.lookup x = some c /\ h.IsCell c (some u))
structure Cx.Ok (X : Cx) : Prop where
 mod : Mod X.K X.mg X.base
 kind : X.env.scope.kind = .function
 glob : X.env.globals = mainGlobals
 blt : X.env.builtins = builtinsNs
 above : X.s₀.heap.objs.size <= X.env.locals
 inj : ∀ x y c,X.env.cells.lookup x = some c -> X.env.cells.lookup y = some c -> x = y
 has : ∀ x,(X.env.kindOf x = some .cell \/ X.env.kindOf x = some .free) -> ∃ c,X.env.cells.lookup x = some c
 cab : ∀ x c,X.fn x = true -> X.env.cells.lookup x = some c -> X.s₀.heap.objs.size <= c
 hd : X.calm = true -> X.A.handled = none
 frames : X.A.frames = some X.stack
 stk : X.stack = X.outer \/ (X.stack = X.env :: X.outer /\ X.env.frame = some X.env.locals)
 exf : ∀ b ∈ X.ex,b ≠ X.env.locals /\ ∀ x c,X.env.cells.lookup x = some c -> c ≠ b
 bs : ∀ b o,X.base.get? b = some o -> X.s₀.heap.get? b = some o /\ X.H₀ b = none
 bsz : X.base.objs.size <= X.s₀.heap.objs.size
 noex : ∀ b o,X.base.get? b = some o -> b ∉ X.ex
 exfs : ∀ b ∈ X.ex,b ∉ X.fs
 funs : X.s₀.heap.FunFrames X.base X.outer
 frf : ∀ b ∈ X.fs,X.H₀ b = none
structure A1 (X : Cx) (pins : Pn9) (σ : List (Option V)) (H : Hp) (s : Shared) : Prop where
 ok : X.Ok
 os : s.os = X.s₀.os
 bare : AllBare s.gens
 base : Un X.fs X.ex X.H₀ H X.s₀.heap s.heap
 loc : ∃ m,s.heap.Ns X.env.locals m /\ ∀ (i : Nat) (x : Str) (v : V),X.N[i]? = some x -> σ[i]? = some (some v) -> Vis X.env.scope x -> ∃ u,B4 v u /\ Look X.env s.heap m x u
 cell : ∀ x c,X.env.cells.lookup x = some c -> ∃ v,s.heap.IsCell c v
 free : H X.env.locals = none
 freeC : ∀ x c,X.env.cells.lookup x = some c -> H c = none
 pin : ∀ p ∈ X.pn ++ pins,s.heap.get? p.1 = some p.2 /\ H p.1 = none /\ p.1 ≠ X.env.locals /\ p.1 ∉ X.fs /\ ∀ v,p.2.data ≠ .cell v
 hok : F1 X.prog X.w H s.heap
 len : σ.length = X.N.length
section
variable {X : Cx} {pins : Pn9} {σ : List (Option V)} {H H' : Hp} {s : Shared} {h' : Heap}
theorem Cx.Ok.nofr (ok : X.Ok) {b : Addr} {o : Obj} (e : X.base.get? b = some o) : b ∉ X.fs:=fun hb=>by
 have:=(ok.funs.mem hb).1
 rw [e] at this; cases this
theorem A1.bs (I : A1 X pins σ H s) : ∀ b o,X.base.get? b = some o -> s.heap.get? b = some o /\ H b = none:=fun b o e =>
 ⟨I.base.keep b o (I.ok.bs b o e).1 (I.ok.bs b o e).2 (I.ok.nofr e) (I.ok.noex b o e),I.base.free b o (I.ok.bs b o e).1 (I.ok.bs b o e).2 (I.ok.noex b o e)⟩
theorem A1.bk (I : A1 X pins σ H s) : ∀ b o,X.base.get? b = some o -> s.heap.get? b = some o:=fun b o e=>(I.bs b o e).1
theorem A1.mod (I : A1 X pins σ H s) : Mod X.K X.mg X.base:=I.ok.mod
theorem A1.kIn (I : A1 X pins σ H s) : X.K.In s.heap:=I.ok.mod.kin.keeps I.bk
theorem A1.lt (I : A1 X pins σ H s) : X.env.locals < s.heap.objs.size:=let ⟨_,hn,_⟩:=I.loc; hn.lt
theorem A1.sz (I : A1 X pins σ H s) : X.s₀.heap.objs.size <= s.heap.objs.size:=Nat.le_trans I.ok.above (Nat.le_of_lt I.lt)
theorem A1.nofs (I : A1 X pins σ H s) {a : Addr} (h : s.heap.objs.size <= a) : a ∉ X.fs:=fun hb=>by
 obtain ⟨_,o,ho,_⟩:=I.ok.funs.mem hb
 exact absurd (Nat.lt_of_lt_of_le (Heap.lt_size ho) (Nat.le_trans I.sz h)) (Nat.lt_irrefl _)
theorem A1.cne (I : A1 X pins σ H s) : ∀ x c,X.env.cells.lookup x = some c -> c ≠ X.env.locals:=fun x c e z=>by
 obtain ⟨v,o,ho,hd⟩:=I.cell x c e
 obtain ⟨m,⟨o',es,ep,ho',hd',_⟩,_⟩:=I.loc
 rw [z,ho'] at ho; cases ho; rw [hd'] at hd; cases hd
theorem A1.funs (I : A1 X pins σ H s) : s.heap.FunFrames X.base X.outer:=by
 have all : ∀ (l : List Env),(∀ b ∈ frs l,b ∈ X.fs) -> X.s₀.heap.FunFrames X.base l -> s.heap.FunFrames X.base l:=by
  intro l
  induction l with
  | nil=>intro _ _; trivial
  | cons env r ih =>
   intro hs hl
   obtain ⟨hk,⟨L,o,hf,hn,ho,hd⟩,hr⟩:=hl
   have hL : L ∈ X.fs:=hs L (by unfold frs; rw [List.filterMap_cons,hf]; exact List.mem_cons_self)
   obtain ⟨sl,e⟩:=I.base.slot L o ho (I.ok.frf L hL) hL fun z=>I.ok.exfs L z hL
   exact ⟨hk,⟨L,_,hf,hn,e,hd⟩,ih (fun b hb=>hs b (by unfold frs; rw [List.filterMap_cons,hf]; exact List.mem_cons_of_mem _ hb)) hr⟩
 exact all X.outer (fun _ hb=>hb) I.ok.funs
theorem A1.stack (I : A1 X pins σ H s) : s.heap.FunFrames X.base X.stack:=by
 rcases I.ok.stk with e | ⟨e,hf⟩
 ·rw [e]; exact I.funs
 ·rw [e]
  obtain ⟨m,hn,_⟩:=I.loc
  refine .cons (by rw [I.ok.kind]; decide) hf hn ?_ I.funs
  exact Heap.get?_none_of_le (Nat.le_trans I.ok.bsz I.ok.above)
theorem A1.stkSub (I : A1 X pins σ H s) : ∀ b ∈ frs X.stack,b ∈ X.env.locals :: X.fs:=fun b hb=>by
 rcases I.ok.stk with e | ⟨e,hf⟩
 ·rw [e] at hb; exact List.mem_cons_of_mem _ hb
 ·rw [e] at hb
  unfold frs at hb
  rw [List.filterMap_cons,hf] at hb
  exact hb
theorem A1.stkFree (I : A1 X pins σ H s) : ∀ b ∈ frs X.stack,H b = none:=fun b hb=>by
 rcases List.mem_cons.mp (I.stkSub b hb) with e | hb
 ·rw [e]; exact I.free
 ·obtain ⟨_,o,ho,_⟩:=I.ok.funs.mem hb
  exact I.base.free b o ho (I.ok.frf b hb) fun z=>I.ok.exfs b z hb
theorem A1.step {g' : Array GenState} {t' : Nat} {d' : Drawn} {ch : List Addr} (I : A1 X pins σ H s)
  (hch : ∀ b ∈ ch,(b ∈ X.ex \/ X.s₀.heap.objs.size <= b) /\ b ≠ X.env.locals /\ (∀ x c,X.env.cells.lookup x = some c -> c ≠ b) /\ ∀ p ∈ X.pn ++ pins,p.1 ≠ b)
  (keep : ∀ b o,b ≠ X.env.locals -> b ∉ X.fs -> b ∉ ch -> s.heap.get? b = some o -> H b = none -> h'.get? b = some o)
  (slot : ∀ b o,b ≠ X.env.locals -> b ∈ X.fs -> b ∉ ch -> s.heap.get? b = some o -> H b = none -> ∃ sl,h'.get? b = some { o with slots:=sl }) (free : ∀ b o,b ∉ ch -> s.heap.get? b = some o -> H b = none -> H' b = none)
  (there : ∀ b o,b ∉ ch -> s.heap.get? b = some o -> ∃ o',h'.get? b = some o')
  (tups : ∀ b xs,H b = some (.tup xs) -> H' b = some (.tup xs)) (frzs : ∀ b o u,H b = some (.frz o u) -> H' b = some (.frz o u)) (tbls : ∀ b ps,H b = some (.tbl ps) -> ∃ more,H' b = some (.tbl (ps ++ more)))
  (ns : ∀ m,s.heap.Ns X.env.locals m -> h'.Ns X.env.locals m) (hok : F1 X.prog X.w H' h') (hg : AllBare g') :
  A1 X pins σ H' { s with heap:=h',gens:=g',drawn:=d',toks:=t' }:=by
 have neL : ∀ b o,X.s₀.heap.get? b = some o -> b ≠ X.env.locals:=fun b o e=>Nat.ne_of_lt (Nat.lt_of_lt_of_le (Heap.lt_size e) I.ok.above)
 have neC : ∀ b o,X.s₀.heap.get? b = some o -> b ∉ X.ex -> b ∉ ch:=fun b o e hx hb=>by
  rcases (hch b hb).1 with z | z
  ·exact hx z
  ·exact absurd (Nat.lt_of_lt_of_le (Heap.lt_size e) z) (Nat.lt_irrefl _)
 have cellK : ∀ x c,X.env.cells.lookup x = some c -> ∀ v,s.heap.IsCell c v -> h'.IsCell c v:=fun x c e v ⟨o,ho,hd⟩=>by
  have nch : c ∉ ch:=fun z=>(hch c z).2.2.1 x c e rfl
  by_cases hc : c ∈ X.fs
  ·obtain ⟨sl,q⟩:=slot c o (I.cne x c e) hc nch ho (I.freeC x c e)
   exact ⟨_,q,hd⟩
  ·exact ⟨o,keep c o (I.cne x c e) hc nch ho (I.freeC x c e),hd⟩
 refine ⟨I.ok,I.os,hg,⟨fun b o e n hb hx=>?_,fun b o e n hb hx=>?_,fun b o e n hx=>?_,fun b o e hx=>?_,fun b xs e=>tups b xs (I.base.tups b xs e),fun b o xs e=>frzs b o xs (I.base.frzs b o xs e),fun b ps e=>?_⟩,?_,fun x c e=>?_,?_,fun x c e=>?_,fun p hp=>?_,hok,I.len⟩
 ·exact keep b o (neL b o e) hb (neC b o e hx) (I.base.keep b o e n hb hx) (I.base.free b o e n hx)
 ·obtain ⟨sl,e1⟩:=I.base.slot b o e n hb hx
  obtain ⟨sl',e2⟩:=slot b _ (neL b o e) hb (neC b o e hx) e1 (I.base.free b o e n hx)
  exact ⟨sl',e2⟩
 ·obtain ⟨o',e1⟩:=I.base.there b o e hx
  exact free b o' (neC b o e hx) e1 (I.base.free b o e n hx)
 ·obtain ⟨o',e1⟩:=I.base.there b o e hx
  exact there b o' (neC b o e hx) e1
 ·obtain ⟨m1,e1⟩:=I.base.tbls b ps e
  obtain ⟨m2,e2⟩:=tbls b _ e1
  exact ⟨m1 ++ m2,by rw [e2,Array.append_assoc]⟩
 ·obtain ⟨m,hn,hl⟩:=I.loc
  refine ⟨m,ns m hn,fun i x v e1 e2 e3=>?_⟩
  obtain ⟨u,r,l⟩:=hl i x v e1 e2 e3
  refine ⟨u,r,?_⟩
  rcases l with l | ⟨k,c,e,z⟩
  ·exact .inl l
  ·exact .inr ⟨k,c,e,cellK x c e _ z⟩
 ·obtain ⟨v,z⟩:=I.cell x c e
  exact ⟨v,cellK x c e v z⟩
 ·obtain ⟨m,⟨o,_,_,ho,_⟩,_⟩:=I.loc
  exact free _ o (fun z=>(hch _ z).2.1 rfl) ho I.free
 ·obtain ⟨v,o,ho,hd⟩:=I.cell x c e
  exact free c o (fun z=>(hch c z).2.2.1 x c e rfl) ho (I.freeC x c e)
 ·obtain ⟨e,n,ne,nf,d⟩:=I.pin p hp
  have nch : p.1 ∉ ch:=fun z=>(hch p.1 z).2.2.2 p hp rfl
  exact ⟨keep p.1 p.2 ne nf nch e n,free p.1 p.2 nch e n,ne,nf,d⟩
theorem A1.un {t' : Nat} (I : A1 X pins σ H s) (u : Un X.fs [] H H' s.heap h') (hok : F1 X.prog X.w H' h') : A1 X pins σ H' { s with heap:=h',toks:=t' }:=by
 obtain ⟨m,⟨o,es,ep,ho,r⟩,_⟩:=id I.loc
 obtain ⟨sl,hL⟩:=u.any ho I.free (by simp)
 exact I.step (g':=s.gens) (d':=s.drawn) (ch:=[]) (fun _ z=>nomatch z) (fun b o _ hb _ e n=>u.keep b o e n hb (by simp)) (fun b o _ hb _ e n=>u.slot b o e n hb (by simp)) (fun b o _ e n=>u.free b o e n (by simp)) (fun b o _ e=>u.there b o e (by simp)) u.tups u.frzs u.tbls (fun m' hm=>by
  obtain ⟨o',es',ep',ho',r'⟩:=hm
  rw [ho] at ho'; cases ho'
  exact ⟨_,es',ep',hL,r'⟩) hok I.bare
theorem A1.call {g' : Array GenState} {t' : Nat} {d' : Drawn} {ch : List Addr} (I : A1 X pins σ H s) (u : Un (frs X.stack) ch H H' s.heap h') (hok : F1 X.prog X.w H' h') (hg : AllBare g')
  (hch : ∀ b ∈ ch,(b ∈ X.ex \/ X.s₀.heap.objs.size <= b) /\ b ≠ X.env.locals /\ (∀ x c,X.env.cells.lookup x = some c -> c ≠ b) /\ ∀ p ∈ X.pn ++ pins,p.1 ≠ b) :
  A1 X pins σ H' { s with heap:=h',gens:=g',drawn:=d',toks:=t' }:=by
 obtain ⟨m,⟨o,es,ep,ho,r⟩,_⟩:=id I.loc
 obtain ⟨sl,hL⟩:=u.any ho I.free fun z=>(hch _ z).2.1 rfl
 exact I.step (ch:=ch) hch (fun b o hL hb hc e n=>u.keep b o e n (fun z=>(List.mem_cons.mp (I.stkSub b z)).elim hL hb) hc) (fun b o _ _ hc e n=>u.any e n hc) (fun b o hc e n=>u.free b o e n hc) (fun b o hc e=>u.there b o e hc) u.tups u.frzs u.tbls (fun m' hm=>by
  obtain ⟨o',es',ep',ho',r'⟩:=hm
  rw [ho] at ho'; cases ho'
  exact ⟨_,es',ep',hL,r'⟩) hok hg
theorem A1.turned {t' : Nat} {it : Addr} (I : A1 X pins σ H s) (k : ∀ b o,b ≠ it -> s.heap.get? b = some o -> h'.get? b = some o) (hn : H it = none) (hL : it ≠ X.env.locals)
  (h1 : it ∈ X.ex \/ X.s₀.heap.objs.size <= it) (h2 : ∀ x c,X.env.cells.lookup x = some c -> c ≠ it) (h3 : ∀ p ∈ X.pn ++ pins,p.1 ≠ it) : A1 X pins σ H { s with heap:=h',toks:=t' }:=by
 have nit : ∀ b u,H b = some u -> b ≠ it:=fun b u e z=>by rw [z,hn] at e; cases e
 refine I.step (g':=s.gens) (d':=s.drawn) (ch:=[it]) (fun b hb=>?_) (fun b o _ _ hc e _=>k b o (fun z=>hc (by simp [z])) e) (fun b o _ _ hc e _=>⟨o.slots,k b o (fun z=>hc (by simp [z])) e⟩) (fun _ _ _ _ n=>n)
  (fun b o hc e=>⟨o,k b o (fun z=>hc (by simp [z])) e⟩) (fun _ _ e=>e) (fun _ _ _ e=>e) (fun b ps e=>⟨#[],by rw [e]; simp⟩) (fun m hm=>?_) (fun b u e=>?_) I.bare
 ·have e : b = it:=by simpa using hb
  subst e
  exact ⟨h1,hL,h2,h3⟩
 ·obtain ⟨o,es,ep,ho,r⟩:=hm
  exact ⟨o,es,ep,k _ o (Ne.symm hL) ho,r⟩
 ·refine (I.hok b u e).stay (fun c v hc q=>k c v ?_ q) (fun _ _ _ q=>q) fun _ _ q=>q
  rcases hc with z | z
  ·rw [z]; exact nit b u e
  ·exact nit c _ z
theorem A1.tok (I : A1 X pins σ H s) (t : Nat) : A1 X pins σ H { s with toks:=t }:=I.un (h':=s.heap) (t':=t) Un.refl I.hok
theorem A1.kept {t' : Nat} (I : A1 X pins σ H s) (k : ∀ b u,s.heap.get? b = some u -> h'.get? b = some u) : A1 X pins σ H { s with heap:=h',toks:=t' }:=I.un (Un.kept k) (I.hok.kept k)
theorem A1.laid {a : Addr} {o : HO} {t' : Nat} (I : A1 X pins σ H s) (k : ∀ b u,s.heap.get? b = some u -> h'.get? b = some u) (hp : s.heap.objs.size <= a) (new : F6 X.prog X.w (upd H a o) h' a o) :
  A1 X pins σ (upd H a o) { s with heap:=h',toks:=t' }:=I.un (Un.laid k hp (I.hok.fresh hp)) (I.hok.laid k hp new)
theorem A1.write {x e : Addr} {o : HO} {t' : Nat} (I : A1 X pins σ H s) (mu : Mut (H x)) (he : e = x \/ H e = some (.own x)) (k : ∀ b u,b ≠ e -> s.heap.get? b = some u -> h'.get? b = some u) (heo : ∃ u,h'.get? e = some u)
  (new : F6 X.prog X.w (upd H x o) h' x o) : A1 X pins σ (upd H x o) { s with heap:=h',toks:=t' }:=I.un (Un.write mu he k heo) (I.hok.write mu he k heo new)
theorem A1.pins_of {pins' : Pn9} (I : A1 X pins σ H s) (h : ∀ p ∈ pins',s.heap.get? p.1 = some p.2 /\ H p.1 = none /\ p.1 ≠ X.env.locals /\ p.1 ∉ X.fs /\ ∀ v,p.2.data ≠ .cell v) : A1 X pins' σ H s :=
 ⟨I.ok,I.os,I.bare,I.base,I.loc,I.cell,I.free,I.freeC,fun p hp=>(List.mem_append.mp hp).elim (fun z=>I.pin p (List.mem_append_left _ z)) (h p),I.hok,I.len⟩
theorem Y1i {N : List Str} (hN : N.Nodup) {i j : Nat} {x : Str} (a : N[i]? = some x) (b : N[j]? = some x) : i = j:=by
 obtain ⟨h1,e1⟩:=List.getElem?_eq_some_iff.mp a
 obtain ⟨h2,e2⟩:=List.getElem?_eq_some_iff.mp b
 exact (List.getElem_inj hN).mp (e1.trans e2.symm)
theorem Z2s {M : Model} {A : Around} {E : VS9} {i : Nat} {x : Str} {v : V} {u : Value} {Q : Unit -> Shared -> Prop} (I : A1 X pins σ H s) (hN : X.N.Nodup) (hi : X.N[i]? = some x) (hx : Loc X.env.scope x) (r : B4 v u)
  (h : ∀ s',A1 X pins (σ.set i (some v)) H s' -> (∃ a,Heap.SameBut a s.heap s'.heap /\ (a = X.env.locals \/ X.env.cells.lookup x = some a)) -> Q () s') (hf : X.fn x = true \/ X.env.scope.names.lookup x = some .local:=by first | exact .inl rfl | exact .inr rfl | assumption) : wpAny M A (storeName X.env x u) Q E s:=by
 obtain ⟨m,hn,hl⟩:=id I.loc
 have hcls : (X.env.scope.kind == .class || (X.env.scope.kind == .module && X.env.locals != X.env.globals)) = false:=by rw [I.ok.kind]; rfl
 have hiσ : i < σ.length:=by rw [I.len]; exact (List.getElem?_eq_some_iff.mp hi).1
 have cne:=I.cne
 have tracked : ∀ {a : Addr} {h' : Heap},(∃ o,s.heap.get? a = some o /\ H a = none) -> Heap.SameBut a s.heap h' -> F1 X.prog X.w H h':=fun {a h'} ha hs b ob e=>by
  obtain ⟨_,_,hfree⟩:=ha
  refine (I.hok b ob e).stay (fun c w' hc q=>(hs.2 c ?_).trans q) (fun _ _ _ q=>q) fun _ _ q=>q
  rintro rfl
  rcases hc with rfl | hc
  ·rw [hfree] at e; cases e
  ·rw [hfree] at hc; cases hc
 rcases hx with hk | hk
 ·refine wpAny_storeName_local hk hn (fun h' hn' hs=>?_) hcls
  obtain ⟨oL,_,_,hoL,_⟩:=id hn
  refine h _ ⟨I.ok,I.os,I.bare,⟨fun b o e n hb hx=>?_,fun b o e n hb hx=>?_,I.base.free,fun b o e hx=>?_,I.base.tups,I.base.frzs,I.base.tbls⟩,⟨_,hn',fun j y v' e1 e2 e3=>?_⟩,fun y c e=>?_,I.free,I.freeC,fun p hp=>?_,tracked ⟨oL,hoL,I.free⟩ hs,by simpa using I.len⟩ ⟨_,hs,.inl rfl⟩
  ·exact (hs.2 b (Nat.ne_of_lt (Nat.lt_of_lt_of_le (Heap.lt_size e) I.ok.above))).trans (I.base.keep b o e n hb hx)
  ·obtain ⟨sl,e1⟩:=I.base.slot b o e n hb hx
   exact ⟨sl,(hs.2 b (Nat.ne_of_lt (Nat.lt_of_lt_of_le (Heap.lt_size e) I.ok.above))).trans e1⟩
  ·obtain ⟨o',e1⟩:=I.base.there b o e hx
   exact ⟨o',(hs.2 b (Nat.ne_of_lt (Nat.lt_of_lt_of_le (Heap.lt_size e) I.ok.above))).trans e1⟩
  ·by_cases hj : j = i
   ·subst hj
    rw [hi] at e1; cases e1
    rw [List.getElem?_set_self hiσ] at e2
    cases e2
    exact ⟨u,r,.inl ⟨hk,by simp⟩⟩
   ·rw [List.getElem?_set_ne (Ne.symm hj)] at e2
    obtain ⟨u',r',q⟩:=hl j y v' e1 e2 e3
    refine ⟨u',r',?_⟩
    rcases q with ⟨k,e⟩ | ⟨k,c,e,z⟩
    ·refine .inl ⟨k,?_⟩
     have : y ≠ x:=fun e=>hj (Y1i hN e1 (e ▸ hi))
     simp [this,e]
    ·exact .inr ⟨k,c,e,z.sameBut hs (cne y c e)⟩
  ·obtain ⟨w',z⟩:=I.cell y c e
   exact ⟨w',z.sameBut hs (cne y c e)⟩
  ·obtain ⟨e,n,ne,nf,d⟩:=I.pin p hp
   exact ⟨(hs.2 p.1 ne).trans e,n,ne,nf,d⟩
 ·have hfn : X.fn x = true:=by
   rcases hf with z | z
   ·exact z
   ·rw [z] at hk; cases hk
  obtain ⟨c,hc⟩:=I.ok.has x (.inl hk)
  obtain ⟨w',z⟩:=I.cell x c hc
  refine wpAny_storeName_cell I.ok.kind hk hc z (fun h' hc' hs=>?_)
  obtain ⟨oc,hoc,hocd⟩:=id z
  refine h { s with heap:=h' } ⟨I.ok,I.os,I.bare,⟨fun b o e n hb hx=>?_,fun b o e n hb hx=>?_,I.base.free,fun b o e hx=>?_,I.base.tups,I.base.frzs,I.base.tbls⟩,⟨m,hn.sameBut hs (Ne.symm (cne x c hc)),fun j y v' e1 e2 e3=>?_⟩,fun y c' e=>?_,I.free,I.freeC,fun p hp=>?_,tracked ⟨oc,hoc,I.freeC x c hc⟩ hs,by simpa using I.len⟩ ⟨c,hs,.inr hc⟩
  ·exact (hs.2 b (Nat.ne_of_lt (Nat.lt_of_lt_of_le (Heap.lt_size e) (I.ok.cab x c hfn hc)))).trans (I.base.keep b o e n hb hx)
  ·obtain ⟨sl,e1⟩:=I.base.slot b o e n hb hx
   exact ⟨sl,(hs.2 b (Nat.ne_of_lt (Nat.lt_of_lt_of_le (Heap.lt_size e) (I.ok.cab x c hfn hc)))).trans e1⟩
  ·obtain ⟨o',e1⟩:=I.base.there b o e hx
   exact ⟨o',(hs.2 b (Nat.ne_of_lt (Nat.lt_of_lt_of_le (Heap.lt_size e) (I.ok.cab x c hfn hc)))).trans e1⟩
  ·by_cases hj : j = i
   ·subst hj
    rw [hi] at e1; cases e1
    rw [List.getElem?_set_self hiσ] at e2
    cases e2
    exact ⟨u,r,.inr ⟨.inl hk,c,hc,hc'⟩⟩
   ·rw [List.getElem?_set_ne (Ne.symm hj)] at e2
    obtain ⟨u',r',q⟩:=hl j y v' e1 e2 e3
    refine ⟨u',r',?_⟩
    rcases q with q | ⟨k,c',e,z'⟩
    ·exact .inl q
    ·refine .inr ⟨k,c',e,z'.sameBut hs ?_⟩
     rintro rfl
     exact hj (Y1i hN e1 (I.ok.inj _ _ _ e hc ▸ hi))
  ·by_cases hcc : c' = c
   ·subst hcc; exact ⟨_,hc'⟩
   ·obtain ⟨w2,z2⟩:=I.cell y c' e
    exact ⟨w2,z2.sameBut hs hcc⟩
  ·obtain ⟨e,n,ne,nf,d⟩:=I.pin p hp
   refine ⟨(hs.2 p.1 ?_).trans e,n,ne,nf,d⟩
   intro q
   rw [q,hoc] at e
   have q' : oc = p.2:=Option.some.inj e
   exact d w' (by rw [<- q']; exact hocd)
theorem Z2h {M : Model} {A : Around} {E : VS9} {i : Nat} {x : Str} {v : V} {u : Value} {Q : Unit -> Shared -> Prop} (I : A1 X pins σ H s) (hN : X.N.Nodup) (hi : X.N[i]? = some x) (hx : Loc X.env.scope x) (r : B4 v u)
  (h : ∀ s',A1 X pins (σ.set i (some v)) H s' -> Q () s') (hf : X.fn x = true \/ X.env.scope.names.lookup x = some .local:=by first | exact .inl rfl | exact .inr rfl | assumption) : wpAny M A (storeName X.env x u) Q E s :=
 Z2s I hN hi hx r (fun s' I' _=>h s' I') hf
theorem A1.call' {s' : Shared} {ch : List Addr} (I : A1 X pins σ H s) (ho : s'.os = s.os) (u : Un (frs X.stack) ch H H' s.heap s'.heap) (hok : F1 X.prog X.w H' s'.heap) (hg : AllBare s'.gens)
  (hch : ∀ b ∈ ch,(b ∈ X.ex \/ X.s₀.heap.objs.size <= b) /\ b ≠ X.env.locals /\ (∀ x c,X.env.cells.lookup x = some c -> c ≠ b) /\ ∀ p ∈ X.pn ++ pins,p.1 ≠ b) : A1 X pins σ H' s':=by
 obtain ⟨h',g',d',t',o'⟩:=s'
 have e : o' = s.os:=ho
 subst e
 exact I.call (g':=g') (t':=t') (d':=d') u hok hg hch
end
noncomputable abbrev XK:=Value -> Option Addr -> Hp -> Prop
noncomputable abbrev St:=List (Option V)
noncomputable abbrev VK:=V -> Hp -> Prop
noncomputable abbrev TE:=St -> Hp -> VK -> Prop
noncomputable abbrev TT:=St -> Hp -> (Bool -> Hp -> Prop) -> Prop
noncomputable abbrev TA:=St -> Hp -> (List V -> Hp -> Prop) -> Prop
structure K4 where
 nx : St -> Hp -> Prop
 rt : VK
 bk : St -> Hp -> Prop:=fun _ _=>False
 ct : St -> Hp -> Prop:=fun _ _=>False
noncomputable abbrev TS:=K4 -> St -> Hp -> Prop
def EP (X : Cx) (pins : Pn9) (σ : St) (Q : VK) (u : Value) (s' : Shared) : Prop:=∃ v H',A1 X pins σ H' s' /\ B4 v u /\ Q v H'
def TP (X : Cx) (pins : Pn9) (σ : St) (Q : Bool -> Hp -> Prop) (b : Bool) (s' : Shared) : Prop:=∃ H',A1 X pins σ H' s' /\ Q b H'
def AP (X : Cx) (pins : Pn9) (σ : St) (Q : List V -> Hp -> Prop) (us : List Value) (s' : Shared) : Prop:=∃ vs H',A1 X pins σ H' s' /\ C4 vs us /\ Q vs H'
def SP (X : Cx) (pins : Pn9) (D : K4) (f : Flow) (s' : Shared) : Prop :=
 match f with
 | .next=>∃ σ' H',A1 X pins σ' H' s' /\ D.nx σ' H'
 | .brk=>∃ σ' H',A1 X pins σ' H' s' /\ D.bk σ' H'
 | .cont=>∃ σ' H',A1 X pins σ' H' s' /\ D.ct σ' H'
 | .ret u=>∃ v σ' H',A1 X pins σ' H' s' /\ B4 v u /\ D.rt v H'
def PE (X : Cx) (e : Expr) (t : TE) : Prop :=
 ∀ (pins : Pn9) (s : Shared) (σ : St) (H : Hp) (Q : VK),A1 X pins σ H s -> t σ H Q -> wpAny (model X.prog X.w) X.A (eval e X.env) (EP X pins σ Q) X.xe s
def PT (X : Cx) (e : Expr) (t : TT) : Prop :=
 ∀ (pins : Pn9) (s : Shared) (σ : St) (H : Hp) (Q : Bool -> Hp -> Prop),A1 X pins σ H s -> t σ H Q -> wpAny (model X.prog X.w) X.A (isTrue e X.env (eval e X.env)) (TP X pins σ Q) X.xe s
def PW (X : Cx) (e : Expr) (t : TT) : Prop :=
 ∀ (whole : Sem Value) (pins : Pn9) (s : Shared) (σ : St) (H : Hp) (Q : Bool -> Hp -> Prop),A1 X pins σ H s -> t σ H Q -> wpAny (model X.prog X.w) X.A (isTrue e X.env whole) (TP X pins σ Q) X.xe s
theorem PW.pt {X : Cx} {e : Expr} {t : TT} (h : PW X e t) : PT X e t:=h _
def PA (X : Cx) (es : List Expr) (t : TA) : Prop :=
 ∀ (pos : Pos) (pins : Pn9) (s : Shared) (σ : St) (H : Hp) (Q : List V -> Hp -> Prop),A1 X pins σ H s -> t σ H Q -> wpAny (model X.prog X.w) X.A (spliced (backTo pos (starEach es X.env))) (AP X pins σ Q) X.xe s
def PS (X : Cx) (st : Stmt) (t : TS) : Prop :=
 ∀ (pins : Pn9) (s : Shared) (σ : St) (H : Hp) (D : K4),A1 X pins σ H s -> t D σ H -> wpAny (model X.prog X.w) X.A (exec st X.env) (SP X pins D) X.xe s
def PSs (X : Cx) (st : List Stmt) (t : TS) : Prop :=
 ∀ (pins : Pn9) (s : Shared) (σ : St) (H : Hp) (D : K4),A1 X pins σ H s -> t D σ H -> wpAny (model X.prog X.w) X.A (execs st X.env) (SP X pins D) X.xe s
theorem B2 {α : Type} {t : Sem α} {Q Q' : α -> Shared -> Prop} {M : Model} {A : Around} {E : VS9} {s : Shared} (h : wpAny M A t Q E s) (hQ : ∀ a s,Q a s -> Q' a s) : wpAny M A t Q' E s:=wpAny_mono h hQ fun _ _ x=>x
end L2
namespace L2
open PySem PySem.Spec PyProof.Rows
section
variable {X : Cx}
def O4 (i : Nat) : TE:=fun σ H Q=>∃ v,σ[i]? = some (some v) /\ Q v H
def tC (v : V) : TE:=fun _ H Q=>Q v H
theorem Y5b {i : Nat} {x : Str} {pos : Pos} (hN : X.N[i]? = some x) (hv : Vis X.env.scope x) (hd : (x == ("__debug__" : Str)) = false:=by decide) (hcd : (x == ("__classdict__" : Str)) = false:=by decide) : PE X (.Name x pos) (O4 i):=by
 intro pins s σ H Q I h
 obtain ⟨v,e,h⟩:=h
 obtain ⟨m,hn,hl⟩:=I.loc
 obtain ⟨u,r,l⟩:=hl i x v hN e hv
 have fin : EP X pins σ Q u s:=⟨v,H,I,r,h⟩
 rcases l with ⟨hk,hm⟩ | ⟨hk,c,hc,hcell⟩
 ·exact wpAny_Name (wpAny_loadName_local I.ok.kind hk hn hm fin) hd
 ·rcases hk with hk | hk
  ·exact wpAny_Name (wpAny_loadName_cell I.ok.kind hk hc hcell fin) hd
  ·exact wpAny_Name (wpAny_loadName_free I.ok.kind hk hc hcell fin hcd) hd
theorem W5f {i j pos} : PE X (.Constant (.int i) j pos) (tC (.int i)):=fun _ _ _ H _ I h=>wpAny_Constant_int ⟨.int i,H,I.tok _,⟨_,rfl⟩,h⟩
theorem W2s {b j pos} : PE X (.Constant (.bool b) j pos) (tC (.bl b)):=fun _ _ _ H _ I h=>Constant_bool ⟨.bl b,H,I,rfl,h⟩
theorem Y4q {j pos} : PE X (.Constant .none j pos) (tC .non):=fun _ _ _ H _ I h=>Constant_none ⟨.non,H,I,rfl,h⟩
theorem W1r {x j pos} : PE X (.Constant (.str x) j pos) (tC (.str x)):=fun _ _ _ H _ I h=>Calls.Constant_str ⟨.str x,H,I.tok _,⟨_,rfl⟩,h⟩
def Gl (X : Cx) (x : Str) : Prop:=X.env.kindOf x = some .globalImplicit
theorem Q9r {E : VS9} {pins : Pn9} {s : Shared} {σ : St} {H : Hp} {x : Str} {u : Value} {pos : Pos} {Q : VS9} (I : A1 X pins σ H s) (hg : Gl X x) (hm : X.mg x = some u) (h : Q u s)
  (hd : (x == ("__debug__" : Str)) = false:=by decide) : wpAny (model X.prog X.w) X.A (eval (.Name x pos) X.env) Q E s :=
 Calls.Name_function_global I.ok.kind hg (Calls.loadGlobal_global (by rw [I.ok.glob]; exact I.mod.glob.keeps I.bk) hm h) hd
theorem Q0c {E : VS9} {pins : Pn9} {s : Shared} {σ : St} {H : Hp} {x : Str} {u : Value} {pos : Pos} {Q : VS9} (I : A1 X pins σ H s) (hg : Gl X x) (hm : X.mg x = none) (hv : bootBuiltins x = some u) (h : Q u s)
  (hn : x ≠ "__name__":=by decide) (hd : (x == ("__debug__" : Str)) = false:=by decide) : wpAny (model X.prog X.w) X.A (eval (.Name x pos) X.env) Q E s:=by
 obtain ⟨mb,h1,h2⟩:=I.mod.blt
 exact Calls.Name_function_global I.ok.kind hg (Calls.loadGlobal_builtin (by rw [I.ok.glob]; exact I.mod.glob.keeps I.bk) hm (by rw [I.ok.blt]; exact h1.keeps I.bk) ((h2 x hn).trans hv) h) hd
theorem Y5g {x : Str} {v : V} {u : Value} {pos : Pos} (hg : Gl X x) (hm : X.mg x = some u) (r : B4 v u) (hd : (x == ("__debug__" : Str)) = false:=by decide) : PE X (.Name x pos) (tC v) :=
 fun _ _ _ H _ I h=>Q9r I hg hm ⟨v,H,I,r,h⟩ hd
theorem Y4j {x : Str} {v : V} {u : Value} {pos : Pos} (hg : Gl X x) (hm : X.mg x = none) (hv : bootBuiltins x = some u) (r : B4 v u) (hn : x ≠ "__name__":=by decide) (hd : (x == ("__debug__" : Str)) = false:=by decide) : PE X (.Name x pos) (tC v) :=
 fun _ _ _ H _ I h=>Q0c I hg hm hv ⟨v,H,I,r,h⟩ hn hd
variable {a b : Expr} {ta tb : TE} {pos : Pos}
def PC (X : Cx) (op : CmpOp) (a b : Expr) (t : TE) : Prop :=
 ∀ (pins : Pn9) (s : Shared) (σ : St) (H : Hp) (Q : VK),A1 X pins σ H s -> t σ H Q ->
  wpAny (model X.prog X.w) X.A (eval a X.env) (fun v s₁=>wpAny (model X.prog X.w) X.A (eval b X.env) (fun u s₂=>wpAny (model X.prog X.w) X.A (compareOp op v u) (EP X pins σ Q) X.xe s₂) X.xe s₁) X.xe s
def tB (t : TE) : TT:=fun σ H Q=>t σ H fun x H1=>∃ c,x = .bl c /\ Q c H1
theorem Z7x {op : CmpOp} {t : TE} (h : PC X op a b t) (h1 : behindInMarks op b = false:=by first | exact nobehind _ (by decide) (by decide) | rfl) : PT X (.Compare a [op] [b] pos) (tB t):=by
 intro pins s σ H Q I hw
 refine wpAny_isTrue_Compare1 (B2 (h pins s σ H _ I hw) fun v s1 h1=>B2 h1 fun u s2 h2=>B2 h2 fun c s3 ⟨x,H1,I1,r1,q1⟩=>?_) h1
 obtain ⟨d,rfl,q⟩:=q1
 cases r1
 exact wpAny_truthy_bool ⟨H1,I1,q⟩
variable {tA tB' : TT} {rest : List Expr}
def tAnd (t u : TT) : TT:=fun σ H Q=>t σ H fun c H1=>if c = true then u σ H1 Q else Q false H1
def tOr (t u : TT) : TT:=fun σ H Q=>t σ H fun c H1=>if c = true then Q true H1 else u σ H1 Q
def tNot (t : TT) : TT:=fun σ H Q=>t σ H fun c H1=>Q (!c) H1
theorem Y6z (ha : PT X a tA) : PW X (.BoolOp .And [a] pos) tA:=by
 intro wh pins s σ H Q I h
 refine isTrue_and (B2 (ha pins s σ H Q I h) fun c s1 e=>?_)
 cases c with
 | true=>exact isTrue_and_nil e
 | false=>exact e
theorem W0b (ha : PT X a tA) : PW X (.BoolOp .Or [a] pos) tA:=by
 intro wh pins s σ H Q I h
 refine isTrue_or (B2 (ha pins s σ H Q I h) fun c s1 e=>?_)
 cases c with
 | false=>exact isTrue_or_nil e
 | true=>exact e
theorem Y4n (ha : PT X a tA) (hb : PW X (.BoolOp .And (b :: rest) pos) tB') : PW X (.BoolOp .And (a :: b :: rest) pos) (tAnd tA tB'):=by
 intro wh pins s σ H Q I h
 refine isTrue_and (B2 (ha pins s σ H _ I h) fun c s1 ⟨H1,I1,q1⟩=>?_)
 cases c with
 | true=>exact hb wh pins s1 σ H1 Q I1 q1
 | false=>exact ⟨H1,I1,q1⟩
theorem W0v (ha : PT X a tA) (hb : PW X (.BoolOp .Or (b :: rest) pos) tB') : PW X (.BoolOp .Or (a :: b :: rest) pos) (tOr tA tB'):=by
 intro wh pins s σ H Q I h
 refine isTrue_or (B2 (ha pins s σ H _ I h) fun c s1 ⟨H1,I1,q1⟩=>?_)
 cases c with
 | true=>exact ⟨H1,I1,q1⟩
 | false=>exact hb wh pins s1 σ H1 Q I1 q1
theorem Y6l (ha : PT X a tA) : PT X (.UnaryOp .Not a pos) (tNot tA):=by
 intro pins s σ H Q I h
 exact isTrue_not (ha pins s σ H (fun c H1=>Q (!c) H1) I h)
def Y6x (ta tb : TE) : TE:=fun σ H Q=>ta σ H fun x H1=>∃ c,x = .bl c /\ if c = true then tb σ H1 Q else Q (.bl false) H1
def tOrV (ta tb : TE) : TE:=fun σ H Q=>ta σ H fun x H1=>∃ c,x = .bl c /\ if c = true then Q (.bl true) H1 else tb σ H1 Q
def W3x (ta : TE) : TE:=fun σ H Q=>ta σ H fun x H1=>∃ c,x = .bl c /\ Q (.bl (!c)) H1
theorem Y0d {op} {t : TE} (h : PE X a t) : PE X (.BoolOp op [a] pos) t:=fun pins s σ H Q I hw=>BoolOp_one (h pins s σ H Q I hw)
theorem Y5o (ha : PE X a ta) (hb : PE X (.BoolOp .And (b :: rest) pos) tb) : PE X (.BoolOp .And (a :: b :: rest) pos) (Y6x ta tb):=by
 intro pins s σ H Q I h
 refine BoolOp_and (B2 (ha pins s σ H _ I h) fun v s1 ⟨x,H1,I1,r1,q1⟩=>?_)
 obtain ⟨c,rfl,q1⟩:=q1
 cases r1
 refine wpAny_truthy_bool ?_
 cases c with
 | true=>exact hb pins s1 σ H1 Q I1 q1
 | false=>exact ⟨.bl false,H1,I1,rfl,q1⟩
theorem W4f (ha : PE X a ta) (hb : PE X (.BoolOp .Or (b :: rest) pos) tb) : PE X (.BoolOp .Or (a :: b :: rest) pos) (tOrV ta tb):=by
 intro pins s σ H Q I h
 refine BoolOp_or (B2 (ha pins s σ H _ I h) fun v s1 ⟨x,H1,I1,r1,q1⟩=>?_)
 obtain ⟨c,rfl,q1⟩:=q1
 cases r1
 refine wpAny_truthy_bool ?_
 cases c with
 | false=>exact hb pins s1 σ H1 Q I1 q1
 | true=>exact ⟨.bl true,H1,I1,rfl,q1⟩
theorem Y2m (ha : PE X a ta) : PE X (.UnaryOp .Not a pos) (W3x ta):=by
 intro pins s σ H Q I h
 refine UnaryOp_ (B2 (ha pins s σ H _ I h) fun v s1 ⟨x,H1,I1,r1,q1⟩=>?_)
 obtain ⟨c,rfl,q1⟩:=q1
 cases r1
 exact not_of (wpAny_truthy_bool ⟨.bl (!c),H1,I1,rfl,q1⟩)
def tIf (t : TT) (ta tb : TE) : TE:=fun σ H Q=>t σ H fun c H1=>if c = true then ta σ H1 Q else tb σ H1 Q
theorem W4n {c : Expr} (hc : PT X c tA) (ha : PE X a ta) (hb : PE X b tb) : PE X (.IfExp c a b pos) (tIf tA ta tb):=by
 intro pins s σ H Q I h
 refine wpAny_IfExp (B2 (hc pins s σ H _ I h) fun d s1 ⟨H1,I1,q1⟩=>?_)
 cases d with
 | true=>exact ha pins s1 σ H1 Q I1 q1
 | false=>exact hb pins s1 σ H1 Q I1 q1
end
end L2
namespace L2
open PySem PySem.Spec PyProof.Rows
def D5 (K : Fg9) (H : Hp) (a : Addr) (xs : List V) : Prop :=
 Rd H a (.lst xs) \/
  ∃ (o : Obj) (its : Array Value) (n : Nat),K.lookup a = some o /\ o.cls = .type "list" /\ o.dict = none /\ o.data = .seq its n /\ its.size <= sizeLine /\ C4 xs its.toList
def C8 (K : Fg9) (H : Hp) (a : Addr) (xs : List V) : Prop :=
 Rd H a (.tup xs) \/
  ∃ (o : Obj) (its : Array Value) (n : Nat),K.lookup a = some o /\ o.cls = .type "tuple" /\ o.data = .seq its n /\ its.size <= sizeLine /\ C4 xs its.toList
noncomputable def absV : Value -> Option V
 | .none=>some .non
 | .bool b=>some (.bl b)
 | .int i _=>some (.int i)
 | .str x _=>some (.str x)
 | .bytes b _=>some (.byt b)
 | .float b _=>some (.flt b)
 | .ref a=>some (.ref a)
 | .type n=>some (.ty n)
 | _=>none
theorem B4.abs {x : V} {u : Value} (r : B4 x u) : absV u = some x:=by
 cases x with
 | non=>cases r; rfl
 | bl _=>cases r; rfl
 | int _=>obtain ⟨t,rfl⟩:=r; rfl
 | str _=>obtain ⟨t,rfl⟩:=r; rfl
 | byt _=>obtain ⟨t,rfl⟩:=r; rfl
 | flt _=>obtain ⟨t,rfl⟩:=r; rfl
 | ref _=>cases r; rfl
 | ty _=>cases r; rfl
theorem B4.inj {x y : V} {u : Value} (r : B4 x u) (q : B4 y u) : x = y:=Option.some.inj (r.abs.symm.trans q.abs)
theorem C4.inj : ∀ {xs ys : List V} {us : List Value},C4 xs us -> C4 ys us -> xs = ys
 | _,_,_,.nil,.nil=>rfl
 | _,_,_,.cons r t,.cons r' t'=>by rw [r.inj r',C4.inj t t']
section
variable {X : Cx} {pins : Pn9} {σ : St} {H : Hp} {s : Shared} {a : Addr} {xs ys : List V}
theorem D5.of {K : Fg9} (h : H a = some (.lst xs)) : D5 K H a xs:=.inl (.inl h)
theorem C8.of {K : Fg9} (h : H a = some (.tup xs)) : C8 K H a xs:=.inl (.inl h)
theorem A1.list (I : A1 X pins σ H s) (h : D5 X.K H a xs) : ∃ its : List Value,C4 xs its /\ PlainL s.heap a its.toArray /\ xs.length <= sizeLine:=by
 rcases h with h | ⟨o,its,n,hk,hc,hd,hs,hz,r⟩
 ·obtain ⟨z,its,n,r,e⟩:=h.ok I.hok
  exact ⟨its,r,⟨_,n,e,rfl,rfl,rfl⟩,z⟩
 ·refine ⟨its.toList,r,⟨o,n,I.kIn a o hk,hc,hd,by simpa using hs⟩,?_⟩
  have e:=r.length
  simp only [Array.length_toList] at e
  omega
theorem A1.tuple (I : A1 X pins σ H s) (h : C8 X.K H a xs) : ∃ its : List Value,C4 xs its /\ IsTup s.heap a its.toArray /\ xs.length <= sizeLine:=by
 rcases h with h | ⟨o,its,n,hk,hc,hs,hz,r⟩
 ·obtain ⟨z,its,r,p⟩:=h.ok I.hok
  exact ⟨its,r,p,z⟩
 ·refine ⟨its.toList,r,⟨o,I.kIn a o hk,hc,n,by simpa using hs⟩,?_⟩
  have e:=r.length
  simp only [Array.length_toList] at e
  omega
theorem A1.list_inj (I : A1 X pins σ H s) (h : D5 X.K H a xs) (h' : D5 X.K H a ys) : xs = ys:=by
 obtain ⟨its,r,⟨o,n,e,_,_,d⟩,_⟩:=I.list h
 obtain ⟨its',r',⟨o',n',e',_,_,d'⟩,_⟩:=I.list h'
 rw [e] at e'; cases e'
 rw [d] at d'
 injection d' with d1 _
 have : its = its':=by simpa using congrArg Array.toList d1
 subst this
 exact r.inj r'
theorem A1.tuple_inj (I : A1 X pins σ H s) (h : C8 X.K H a xs) (h' : C8 X.K H a ys) : xs = ys:=by
 obtain ⟨its,r,⟨o,e,_,n,d⟩,_⟩:=I.tuple h
 obtain ⟨its',r',⟨o',e',_,n',d'⟩,_⟩:=I.tuple h'
 rw [e] at e'; cases e'
 rw [d] at d'
 injection d' with d1 _
 have : its = its':=by simpa using congrArg Array.toList d1
 subst this
 exact r.inj r'
end
noncomputable abbrev Cx.wish (X : Cx) (E : VS9) : Cx:={ X with xe:=E }
noncomputable abbrev Cx.nox (X : Cx) : Cx:=X.wish fun _ _=>False
theorem Cx.Ok.wish {X : Cx} (ok : X.Ok) (E : VS9) : (X.wish E).Ok :=
 ⟨ok.mod,ok.kind,ok.glob,ok.blt,ok.above,ok.inj,ok.has,ok.cab,ok.hd,ok.frames,ok.stk,ok.exf,ok.bs,ok.bsz,ok.noex,ok.exfs,ok.funs,ok.frf⟩
theorem Cx.Ok.unwish {X : Cx} {E : VS9} (ok : (X.wish E).Ok) : X.Ok :=
 ⟨ok.mod,ok.kind,ok.glob,ok.blt,ok.above,ok.inj,ok.has,ok.cab,ok.hd,ok.frames,ok.stk,ok.exf,ok.bs,ok.bsz,ok.noex,ok.exfs,ok.funs,ok.frf⟩
section
variable {X : Cx} {pins : Pn9} {σ : St} {H : Hp} {s : Shared} {E : VS9}
theorem A1.wish (I : A1 X pins σ H s) (E : VS9) : A1 (X.wish E) pins σ H s:=⟨I.ok.wish E,I.os,I.bare,I.base,I.loc,I.cell,I.free,I.freeC,I.pin,I.hok,I.len⟩
theorem A1.unwish (I : A1 (X.wish E) pins σ H s) : A1 X pins σ H s:=⟨I.ok.unwish,I.os,I.bare,I.base,I.loc,I.cell,I.free,I.freeC,I.pin,I.hok,I.len⟩
theorem SP.unwish {D : K4} {f : Flow} {s' : Shared} (h : SP (X.wish E) pins D f s') : SP X pins D f s':=by
 cases f with
 | next=>obtain ⟨σ',H',I,q⟩:=h; exact ⟨σ',H',I.unwish,q⟩
 | brk=>obtain ⟨σ',H',I,q⟩:=h; exact ⟨σ',H',I.unwish,q⟩
 | cont=>obtain ⟨σ',H',I,q⟩:=h; exact ⟨σ',H',I.unwish,q⟩
 | ret u=>obtain ⟨v,σ',H',I,r,q⟩:=h; exact ⟨v,σ',H',I.unwish,r,q⟩
theorem PSs.nox {st : List Stmt} {t : TS} (h : PSs X.nox st t) : PSs X st t:=fun pins s σ H D I hw =>
 wpAny_mono (h pins s σ H D (I.wish _) hw) (fun _ _ q=>q.unwish) fun _ _ z=>False.elim z
end
section
variable {X : Cx} {st : Stmt} {rest : List Stmt} {t u : TS} {e : Expr} {te : TE} {pos : Pos}
def W4y : TS:=fun D σ H=>D.nx σ H
def tSeq (t u : TS) : TS:=fun D σ H=>t { D with nx:=u D } σ H
theorem W2q : PSs X [] W4y:=fun _ _ σ H _ I h=>wpAny_execs_nil ⟨σ,H,I,h⟩
theorem Z6e (h1 : PS X st t) (h2 : PSs X rest u) : PSs X (st :: rest) (tSeq t u):=by
 intro pins s σ H D I h
 refine wpAny_execs_cons (B2 (h1 pins s σ H { D with nx:=u D } I h) fun f s1 q=>?_)
 cases f with
 | next =>
  obtain ⟨σ',H',I',q⟩:=q
  exact h2 pins s1 σ' H' D I' q
 | ret v=>exact q
 | brk=>exact q
 | cont=>exact q
theorem Z4n (h1 : PS X st t) : PSs X [st] t:=by
 intro pins s σ H D I h
 refine wpAny_execs_cons (B2 (h1 pins s σ H D I h) fun f s1 q=>?_)
 cases f with
 | next=>exact wpAny_execs_nil q
 | ret v=>exact q
 | brk=>exact q
 | cont=>exact q
theorem A1.quiet {pins : Pn9} {σ : St} {H : Hp} {s : Shared} (I : A1 X pins σ H s) : interactive X.env = false:=by simp [interactive,I.ok.kind]
def Y9o (te : TE) : TS:=fun D σ H=>te σ H fun _ H1=>D.nx σ H1
theorem Z3f (he : PE X e te) (hs : swapsWith e none pos.line X.env = pure false:=by rfl) : PS X (.Expr e pos) (Y9o te):=by
 intro pins s σ H D I h
 exact wpAny_Expr_any (B2 (he pins s σ H _ I h) fun v s1 ⟨x,H1,I1,r1,q1⟩=>⟨σ,H1,I1,q1⟩) I.quiet hs
def tRet (te : TE) : TS:=fun D σ H=>te σ H D.rt
theorem Z1b (he : PE X e te) : PS X (.Return (some e) pos) (tRet te):=by
 intro pins s σ H D I h
 exact wpAny_Return_some (B2 (he pins s σ H _ I h) fun v s1 ⟨x,H1,I1,r1,q1⟩=>⟨x,σ,H1,I1,r1,q1⟩)
def tIfS (c : TT) (t u : TS) : TS:=fun D σ H=>c σ H fun b H1=>if b = true then t D σ H1 else u D σ H1
theorem Y4e {c : Expr} {a b : List Stmt} {tc : TT} (hc : PT X c tc) (ha : PSs X a t) (hb : PSs X b u) : PS X (.If c a b pos) (tIfS tc t u):=by
 intro pins s σ H D I h
 refine wpAny_If (B2 (hc pins s σ H _ I h) fun d s1 ⟨H1,I1,q1⟩=>?_)
 cases d with
 | true=>exact ha pins s1 σ H1 D I1 q1
 | false=>exact hb pins s1 σ H1 D I1 q1
def Y5r : TS:=fun _ _ _=>False
theorem W5r {sts : List Stmt} : PSs X sts Y5r:=fun _ _ _ _ _ _ h=>h.elim
end
noncomputable abbrev TG:=V -> St -> Hp -> (St -> Hp -> Prop) -> Prop
noncomputable abbrev TGs:=List V -> St -> Hp -> (St -> Hp -> Prop) -> Prop
def PG (X : Cx) (target : Expr) (t : TG) : Prop :=
 ∀ (pins : Pn9) (s : Shared) (σ : St) (H : Hp) (v : V) (u : Value) (Q : St -> Hp -> Prop),A1 X pins σ H s -> B4 v u -> t v σ H Q ->
  wpAny (model X.prog X.w) X.A (assign target X.env u) (fun _ s'=>∃ σ' H',A1 X pins σ' H' s' /\ Q σ' H') X.xe s
def PGs (X : Cx) (ts : List Expr) (t : TGs) : Prop :=
 ∀ (pins : Pn9) (s : Shared) (σ : St) (H : Hp) (vs : List V) (us : List Value) (Q : St -> Hp -> Prop),A1 X pins σ H s -> C4 vs us -> t vs σ H Q ->
  wpAny (model X.prog X.w) X.A (assignInOrder ((assignEach ts X.env).map (·.2)) us) (fun _ s'=>∃ σ' H',A1 X pins σ' H' s' /\ Q σ' H') X.xe s
noncomputable abbrev TIp:=V -> V -> Hp -> VK -> Prop
def PIp (X : Cx) (op : Operator) (t : TIp) : Prop :=
 ∀ (pins : Pn9) (s : Shared) (σ : St) (H : Hp) (x y : V) (v u : Value) (Q : VK),A1 X pins σ H s -> B4 x v -> B4 y u -> t x y H Q ->
  wpAny (model X.prog X.w) X.A (inplaceOp op v u) (EP X pins σ Q) X.xe s
section
variable {X : Cx} {pos : Pos}
noncomputable def Q8l (i : Nat) : TG:=fun v σ H Q=>Q (σ.set i (some v)) H
theorem Z5k {i : Nat} {x : Str} (hN : X.N.Nodup) (hi : X.N[i]? = some x) (hx : Loc X.env.scope x) (hf : X.fn x = true \/ X.env.scope.names.lookup x = some .local:=by first | exact .inl rfl | exact .inr rfl | assumption) : PG X (.Name x pos) (Q8l i):=by
 intro pins s σ H v u Q I r h
 exact wpAny_assign_Name (Z2h I hN hi hx r (fun s' I'=>⟨_,H,I',h⟩) hf)
noncomputable def gNil : TGs:=fun vs σ H Q=>vs = [] /\ Q σ H
noncomputable def Y8k (t : TG) (u : TGs) : TGs:=fun vs σ H Q=>∃ v r,vs = v :: r /\ t v σ H fun σ' H'=>u r σ' H' Q
theorem Y8d : PGs X [] gNil:=by
 intro pins s σ H vs us Q I r h
 obtain ⟨e,h⟩:=h
 subst e
 cases r
 exact assignInOrder_nil ⟨σ,H,I,h⟩
theorem W4a {e : Expr} {es : List Expr} {t : TG} {u : TGs} (h1 : PG X e t) (h2 : PGs X es u)
  (hs : (assignEach (e :: es) X.env).map (·.2) = assign e X.env :: (assignEach es X.env).map (·.2):=by rfl) : PGs X (e :: es) (Y8k t u):=by
 intro pins s σ H vs us Q I r h
 obtain ⟨v,vr,e1,h⟩:=h
 subst e1
 cases r with
 | cons r rr =>
  rw [hs]
  refine assignInOrder_cons (B2 (h1 pins s σ H _ _ _ I r h) fun _ s1 ⟨σ1,H1,I1,q1⟩=>?_)
  exact h2 pins s1 σ1 H1 _ _ Q I1 rr q1
noncomputable def gTup (K : Fg9) (n : Nat) (t : TGs) : TG:=fun v σ H Q=>∃ a xs,v = .ref a /\ C8 K H a xs /\ xs.length = n /\ t xs σ H Q
theorem W3d {es : List Expr} {k : Nat} {t : TGs} {n : Nat} (hc : X.calm = true) (h : PGs X es t)
  (hn : (assignEach es X.env).length = n:=by rfl) (hst : (assignEach es X.env).findIdx? (·.1) = none:=by rfl) : PG X (.Tuple es k pos) (gTup X.K n t):=by
 intro pins s σ H v u Q I r hw
 obtain ⟨a,xs,e1,hq,hl,hw⟩:=hw
 subst e1
 cases r
 obtain ⟨its,rv,ht,hz⟩:=I.tuple hq
 refine assign_Tuple_tuple (I.ok.hd hc) ht (by simp [hn,<- hl,rv.length]) hst fun h' hx=>?_
 have I1 : A1 X pins σ H { s with heap:=h' }:=I.kept (t':=s.toks) fun b o e=>hx b o (Nat.ne_of_lt (Heap.lt_size e)) e
 exact h pins _ σ H xs _ Q I1 (by simpa using rv) hw
def tAsg (te : TE) (g : TG) : TS:=fun D σ H=>te σ H fun x H1=>g x σ H1 D.nx
theorem W5a {tg e : Expr} {te : TE} {g : TG} (he : PE X e te) (hg : PG X tg g) (hs : swapsWithSole [tg] e pos.line X.env = pure false:=by rfl) (hw : swappedStores [tg] e X.env = pure none:=by rfl)
  (h1 : (assignEach [tg] X.env).map (·.2) = [assign tg X.env]:=by rfl) : PS X (.Assign [tg] e pos) (tAsg te g):=by
 intro pins s σ H D I h
 refine wpAny_Assign_stores (B2 (he pins s σ H _ I h) fun v s1 ⟨x,H1,I1,r1,q1⟩=>?_) hs hw
 rw [h1]
 exact B2 (hg pins s1 σ H1 x v _ I1 r1 q1) fun _ s2 q=>q
theorem Q4f {i : Nat} {x : Str} {e : Expr} {te : TE} {pos' : Pos} (hN : X.N.Nodup) (hi : X.N[i]? = some x) (hx : Loc X.env.scope x) (he : PE X e te) (hs : swapsWith e (some (.Name x pos')) pos.line X.env = pure false:=by rfl) (hf : X.fn x = true \/ X.env.scope.names.lookup x = some .local:=by first | exact .inl rfl | exact .inr rfl | assumption) :
  PS X (.Assign [.Name x pos'] e pos) (tAsg te (Q8l i)):=by
 intro pins s σ H D I h
 refine wpAny_Assign_Name (B2 (he pins s σ H _ I h) fun v s1 ⟨y,H1,I1,r1,q1⟩=>?_) hs
 exact Z2h I1 hN hi hx r1 (fun s2 I2=>⟨_,H1,I2,q1⟩) hf
def tAug (i : Nat) (te : TE) (ti : TIp) : TS:=fun D σ H=>∃ x,σ[i]? = some (some x) /\ te σ H fun y H1=>ti x y H1 fun z H2=>D.nx (σ.set i (some z)) H2
theorem Y2p {i : Nat} {x : Str} {e : Expr} {te : TE} {op : Operator} {ti : TIp} {pos' : Pos} (hN : X.N.Nodup) (hi : X.N[i]? = some x) (hx : Loc X.env.scope x) (he : PE X e te) (ho : PIp X op ti) (hf : X.fn x = true \/ X.env.scope.names.lookup x = some .local:=by first | exact .inl rfl | exact .inr rfl | assumption) :
  PS X (.AugAssign (.Name x pos') op e pos) (tAug i te ti):=by
 intro pins s σ H D I h
 obtain ⟨v,e1,h⟩:=h
 obtain ⟨m,hn,hl⟩:=I.loc
 have vis : Vis X.env.scope x:=by rcases hx with k | k; exact .inl k; exact .inr (.inl k)
 obtain ⟨u,r,l⟩:=hl i x v hi e1 vis
 refine wpAny_AugAssign_Name ?_
 have go : wpAny (model X.prog X.w) X.A (eval e X.env) (fun w s₂=>wpAny (model X.prog X.w) X.A (inplaceOp op u w) (fun r s₃=>wpAny (model X.prog X.w) X.A (storeName X.env x r) (fun _=>SP X pins D .next) X.xe s₃) X.xe s₂) X.xe s:=by
  refine B2 (he pins s σ H _ I h) fun w s1 ⟨y,H1,I1,r1,q1⟩=>?_
  refine B2 (ho pins s1 σ H1 v y u w _ I1 r r1 q1) fun z s2 ⟨zv,H2,I2,r2,q2⟩=>?_
  exact Z2h I2 hN hi hx r2 (fun s3 I3=>⟨_,H2,I3,q2⟩) hf
 rcases l with ⟨hk,hm⟩ | ⟨hk,c,hc,hcell⟩
 ·exact wpAny_loadName_local I.ok.kind hk hn hm go
 ·rcases hk with hk | hk
  ·exact wpAny_loadName_cell I.ok.kind hk hc hcell go
  ·rcases hx with k | k
   ·have : X.env.scope.names.lookup x = some .free:=hk
    rw [k] at this; cases this
   ·have : X.env.scope.names.lookup x = some .free:=hk
    rw [k] at this; cases this
end
section
variable {X : Cx} {pos : Pos}
def Y9s (c : TT) (tb : TS) : TS:=fun D σ H=>∃ W : Nat -> St -> Hp -> Prop,(∃ m,W m σ H) /\ ∀ m σ H,W m σ H ->
 c σ H fun b H1=>if b = true then ∃ N : St -> Hp -> Prop,(∀ σ' H',N σ' H' -> ∃ m',m' < m /\ W m' σ' H') /\ tb { D with nx:=N,ct:=N,bk:=D.nx } σ H1 else D.nx σ H1
theorem W3g {c : Expr} {body : List Stmt} {tc : TT} {tb : TS} (hp : PassesOwn (model X.prog X.w) X.A X.env X.xe) (hc : PT X c tc) (hb : PSs X body tb) : PS X (.While c body [] pos) (Y9s tc tb):=by
 intro pins s σ H D I h
 obtain ⟨W,⟨m0,w0⟩,turn⟩:=h
 refine wpAny_While (codeAny_whileLoop (fun n s'=>∃ σ' H',A1 X pins σ' H' s' /\ W n σ' H') ?_ m0 ⟨σ,H,I,w0⟩)
 rintro n s1 ⟨σ1,H1,I1,w1⟩
 refine wpAny_passesOwn hp (B2 (hc pins s1 σ1 H1 _ I1 (turn n σ1 H1 w1)) fun b s2 ⟨H2,I2,q2⟩=>?_)
 cases b with
 | true =>
  obtain ⟨N,hN,q2⟩:=q2
  rw [if_pos rfl]
  refine wpAny_passesOwn hp (B2 (hb pins s2 σ1 H2 _ I2 q2) fun f s3 q3=>?_)
  cases f with
  | next =>
   obtain ⟨σ3,H3,I3,n3⟩:=q3
   obtain ⟨m',hm,w3⟩:=hN σ3 H3 n3
   exact ⟨m',hm,σ3,H3,I3,w3⟩
  | cont =>
   obtain ⟨σ3,H3,I3,n3⟩:=q3
   obtain ⟨m',hm,w3⟩:=hN σ3 H3 n3
   exact ⟨m',hm,σ3,H3,I3,w3⟩
  | brk=>exact q3
  | ret v=>exact q3
 | false =>
  rw [if_neg Bool.false_ne_true]
  exact wpAny_execs_nil ⟨σ1,H2,I2,q2⟩
end
structure It where
 go : Nat -> Hp -> Prop
 yld : Nat -> Hp -> V -> Hp -> Prop
 stop : Nat -> Hp -> Prop
def K3 (X : Cx) (pins : Pn9) (H : Hp) (b : Addr) : Prop :=
 H b = none /\ b ≠ X.env.locals /\ b ∉ X.fs /\ (b ∈ X.ex \/ X.s₀.heap.objs.size <= b) /\ (∀ x c,X.env.cells.lookup x = some c -> c ≠ b) /\ ∀ p ∈ X.pn ++ pins,p.1 ≠ b
theorem A1.fpOk {X : Cx} {pins : Pn9} {σ : St} {H H' : Hp} {s : Shared} {b : Addr} (I : A1 X pins σ H s) (hb : s.heap.objs.size <= b) (hn : H' b = none) : K3 X pins H' b:=by
 refine ⟨hn,Nat.ne_of_gt (Nat.lt_of_lt_of_le I.lt hb),I.nofs hb,.inr (Nat.le_trans I.sz hb),fun x c e z=>?_,fun p hp z=>?_⟩
 ·obtain ⟨v,q⟩:=I.cell x c e
  exact absurd (Nat.lt_of_lt_of_le q.lt (by rw [z]; exact hb)) (Nat.lt_irrefl _)
 ·exact absurd (Nat.lt_of_lt_of_le (Heap.lt_size (I.pin p hp).1) (by rw [z]; exact hb)) (Nat.lt_irrefl _)
structure Q1k (P : Program) (w : World) (K : Fg9) (tg : Expr) (J : It) (fp : List Addr) (it : Addr) (tn : Nat -> Heap -> Prop) : Prop where
 mem : it ∈ fp
 obj : ∀ i h,tn i h -> ∀ b ∈ fp,∃ o,h.get? b = some o /\ ∀ v,o.data ≠ .cell v
 keep : ∀ i h h',tn i h -> (∀ b ∈ fp,∀ o,h.get? b = some o -> h'.get? b = some o) -> tn i h'
 item : ∀ (X : Cx),X.prog = P -> X.w = w -> X.K = K -> X.calm = true -> ∀ (i : Nat) (pins : Pn9) (s : Shared) (σ : St) (H : Hp) (E : VS9),A1 X pins σ H s -> (∀ b ∈ fp,K3 X pins H b) -> tn i s.heap -> J.go i H ->
  wpAny (model P w) X.A (pyNext (.ref it)) (fun r s1=>∃ u,r = some u /\
   wpAny (model P w) X.A (letOwnedTupleGo tg (.ref it) u) (fun _ s2=>∃ x H',A1 X pins σ H' s2 /\ B4 x u /\ J.yld i H x H' /\ tn (i + 1) s2.heap /\ ∀ b ∈ fp,H' b = none) E s1) E s
 done : ∀ (X : Cx),X.prog = P -> X.w = w -> X.K = K -> X.calm = true -> ∀ (i : Nat) (pins : Pn9) (s : Shared) (σ : St) (H : Hp) (E : VS9),A1 X pins σ H s -> (∀ b ∈ fp,K3 X pins H b) -> tn i s.heap -> J.stop i H ->
  wpAny (model P w) X.A (pyNext (.ref it)) (fun r s1=>r = none /\ A1 X pins σ H s1) E s
 self : ∀ (A : Around) (i : Nat) (s : Shared) (Q : VS9) (E : VS9),tn i s.heap -> Q (.ref it) s -> wpAny (model P w) A (pyIter (.ref it)) Q E s
noncomputable abbrev TI:=St -> Hp -> (It -> Hp -> Prop) -> Prop
def PIE (X : Cx) (pins : Pn9) (σ : St) (tg : Expr) (R : It -> Hp -> Prop) (itv : Value) (s2 : Shared) : Prop :=
 ∃ (it : Addr) (fp : List Addr) (tn : Nat -> Heap -> Prop) (J : It) (H' : Hp),itv = .ref it /\ A1 X pins σ H' s2 /\ Q1k X.prog X.w X.K tg J fp it tn /\ tn 0 s2.heap /\ (∀ b ∈ fp,K3 X pins H' b) /\ R J H'
def PI (X : Cx) (tg iter : Expr) (wi : TI) : Prop :=
 ∀ (pins : Pn9) (s : Shared) (σ : St) (H : Hp) (R : It -> Hp -> Prop),A1 X pins σ H s -> wi σ H R ->
  wpAny (model X.prog X.w) X.A (eval iter X.env) (fun v s1=>wpAny (model X.prog X.w) X.A (pyIter v) (PIE X pins σ tg R) X.xe s1) X.xe s
theorem Z3g {M : Model} {A : Around} {E : VS9} {s : Shared} {tg : Expr} {it : Addr} {u : Value} {o : Obj} {n : String} {vs : Array Value} {Q : Unit -> Shared -> Prop} (ho : s.heap.get? it = some o) (hc : o.cls = .type n) (hd : o.data = .fields vs)
  (hn : ["enumerate","zip","dict_itemiterator","dict_reverseitemiterator","odict_iterator","itertools.zip_longest","itertools.pairwise"].contains n = false) (hQ : Q () s) : wpAny M A (letOwnedTupleGo tg (.ref it) u) Q E s:=by
 unfold letOwnedTupleGo
 cases tg <;> first
  | exact wpAny_pure hQ
  | (cases u <;> first
    | exact wpAny_pure hQ
    | (refine wpAny_bind (wpAny_load ho ?_)
       rw [hc,hd]
       show wpAny M A (if (["enumerate","zip","dict_itemiterator","dict_reverseitemiterator","odict_iterator","itertools.zip_longest","itertools.pairwise"].contains n && vs[0]? == some (rawInt _)) = true then _ else _) Q E s
       rw [if_neg (by intro h; rw [hn,Bool.false_and] at h; cases h)]
       exact wpAny_pure hQ))
noncomputable def Itl (K : Fg9) (a : Addr) : It :=
 ⟨fun i H=>∃ xs x,D5 K H a xs /\ xs[i]? = some x,fun i H x H'=>H' = H /\ ∀ xs,D5 K H a xs -> xs[i]? = some x,fun i H=>∃ xs,D5 K H a xs /\ xs.length <= i⟩
noncomputable def Itt (K : Fg9) (a : Addr) : It :=
 ⟨fun i H=>∃ xs x,C8 K H a xs /\ xs[i]? = some x,fun i H x H'=>H' = H /\ ∀ xs,C8 K H a xs -> xs[i]? = some x,fun i H=>∃ xs,C8 K H a xs /\ xs.length <= i⟩
noncomputable def Itr (lo : Int) (n : Nat) : It:=⟨fun i _=>i < n,fun i H x H'=>H' = H /\ x = .int (lo + i),fun i _=>n <= i⟩
theorem Y9l {P : Program} {w : World} {K : Fg9} {tg : Expr} (a it : Addr) : Q1k P w K tg (Itl K a) [it] it (fun i h=>h.IsListIter it a i) where
 mem:=by simp
 obj:=fun i h st b hb=>by
  have e : b = it:=by simpa using hb
  subst e
  obtain ⟨o,e,c,d⟩:=st
  exact ⟨o,e,fun v z=>by rw [d] at z; cases z⟩
 keep:=fun i h h' st k=>st.at fun o e=>k it (by simp) o e
 item:=by
  intro X hP hw hK hc i pins s σ H E I hf st hg
  subst hP hw hK
  obtain ⟨xs,x,hq,hx⟩:=hg
  obtain ⟨its,rv,p,hz⟩:=I.list hq
  obtain ⟨u,hu,ru⟩:=rv.get hx
  obtain ⟨f0,f1,f2,f3,f4,f5⟩:=hf it (by simp)
  refine wpAny_pyNext_list_item st p.isList (x:=u) (by simpa using hu) fun h' st' sb=>?_
  have I1 : A1 X pins σ H { s with heap:=h' }:=I.turned (t':=s.toks) (fun b o hb e=>(sb.2 b hb).trans e) f0 f1 f3 f4 f5
  obtain ⟨o,e,c,d⟩:=id st'
  exact ⟨u,rfl,Z3g (s:={ s with heap:=h' }) e c d (by decide) ⟨x,H,I1,ru,⟨rfl,fun ys hy=>by rw [I.list_inj hy hq]; exact hx⟩,st',fun b hb=>(hf b hb).1⟩⟩
 done:=by
  intro X hP hw hK hc i pins s σ H E I hf st hg
  subst hP hw hK
  obtain ⟨xs,hq,hx⟩:=hg
  obtain ⟨its,rv,p,hz⟩:=I.list hq
  obtain ⟨f0,f1,f2,f3,f4,f5⟩:=hf it (by simp)
  have hl:=rv.length
  exact wpAny_pyNext_list_end (I.ok.hd hc) st p.isList (by simp; omega) fun h' eb=>⟨rfl,I.turned (t':=s.toks) (fun b o hb e=>eb b o hb e) f0 f1 f3 f4 f5⟩
 self:=fun _ _ _ _ _ st h=>wpAny_pyIter_listiter st h
theorem Y6w {P : Program} {w : World} {K : Fg9} {tg : Expr} (a it : Addr) : Q1k P w K tg (Itt K a) [it] it (fun i h=>h.IsTupleIter it a i) where
 mem:=by simp
 obj:=fun i h st b hb=>by
  have e : b = it:=by simpa using hb
  subst e
  obtain ⟨o,e,c,d⟩:=st
  exact ⟨o,e,fun v z=>by rw [d] at z; cases z⟩
 keep:=fun i h h' st k=>st.at fun o e=>k it (by simp) o e
 item:=by
  intro X hP hw hK hc i pins s σ H E I hf st hg
  subst hP hw hK
  obtain ⟨xs,x,hq,hx⟩:=hg
  obtain ⟨its,rv,p,hz⟩:=I.tuple hq
  obtain ⟨u,hu,ru⟩:=rv.get hx
  obtain ⟨f0,f1,f2,f3,f4,f5⟩:=hf it (by simp)
  refine wpAny_pyNext_tuple_item st (show s.heap.IsTuple a its.toArray from p) (x:=u) (by simpa using hu) fun h' st' sb=>?_
  have I1 : A1 X pins σ H { s with heap:=h' }:=I.turned (t':=s.toks) (fun b o hb e=>(sb.2 b hb).trans e) f0 f1 f3 f4 f5
  obtain ⟨o,e,c,d⟩:=id st'
  exact ⟨u,rfl,Z3g (s:={ s with heap:=h' }) e c d (by decide) ⟨x,H,I1,ru,⟨rfl,fun ys hy=>by rw [I.tuple_inj hy hq]; exact hx⟩,st',fun b hb=>(hf b hb).1⟩⟩
 done:=by
  intro X hP hw hK hc i pins s σ H E I hf st hg
  subst hP hw hK
  obtain ⟨xs,hq,hx⟩:=hg
  obtain ⟨its,rv,p,hz⟩:=I.tuple hq
  obtain ⟨f0,f1,f2,f3,f4,f5⟩:=hf it (by simp)
  have hl:=rv.length
  exact wpAny_pyNext_tuple_end (I.ok.hd hc) st (show s.heap.IsTuple a its.toArray from p) (by simp; omega) fun h' eb=>⟨rfl,I.turned (t':=s.toks) (fun b o hb e=>eb b o hb e) f0 f1 f3 f4 f5⟩
 self:=fun _ _ _ _ _ st h=>wpAny_pyIter_tupleiter st h
theorem W3u {P : Program} {w : World} {K : Fg9} {tg : Expr} (it : Addr) (lo : Int) (n : Nat) : Q1k P w K tg (Itr lo n) [it] it (fun i h=>IsRangeIter h it (lo + (i : Nat) * 1) ((n : Int) - (i : Nat)) 1) where
 mem:=by simp
 obj:=fun i h st b hb=>by
  have e : b = it:=by simpa using hb
  subst e
  exact ⟨_,st,fun v z=>by
   have z' : Data.fields _ = Data.cell v:=z
   cases z'⟩
 keep:=fun i h h' st k=>k it (by simp) _ st
 item:=by
  intro X hP hw hK hc i pins s σ H E I hf st hg
  subst hP hw hK
  obtain ⟨f0,f1,f2,f3,f4,f5⟩:=hf it (by simp)
  have W:=Walks.range (prog:=X.prog) (w:=X.w) (I.ok.hd hc) it lo 1 n
  refine W.item i s _ _ hg st fun v h' tk hv st' kk=>?_
  obtain ⟨t,rfl⟩:=hv
  have I1 : A1 X pins σ H { s with heap:=h',toks:=tk }:=I.turned (fun b o hb e=>kk b o (by simpa using hb) e) f0 f1 f3 f4 f5
  refine ⟨_,rfl,Z3g (s:={ s with heap:=h',toks:=tk }) (n:="range_iterator") st' rfl rfl (by decide) ⟨.int (lo + i),H,I1,⟨t,?_⟩,⟨rfl,rfl⟩,st',fun b hb=>(hf b hb).1⟩⟩
  rw [Int.mul_one]
 done:=by
  intro X hP hw hK hc i pins s σ H E I hf st hg
  subst hP hw hK
  obtain ⟨f0,f1,f2,f3,f4,f5⟩:=hf it (by simp)
  exact wpAny_pyNext_range_end (I.ok.hd hc) st (by have : n <= i:=hg; omega) fun h' eb=>⟨rfl,I.turned (t':=s.toks) (fun b o hb e=>eb b o hb e) f0 f1 f3 f4 f5⟩
 self:=fun _ _ _ _ _ st h=>wpAny_pyIter_rangeiter st h
end L2
namespace L2
open PySem PySem.Spec PyProof.Rows
section
variable {X : Cx} {tg : Expr}
noncomputable def Y8i (K : Fg9) (tl : TE) : TI:=fun σ H R=>tl σ H fun x H1=>∃ a,x = .ref a /\ (∃ xs,D5 K H1 a xs) /\ R (Itl K a) H1
noncomputable def Q5g (K : Fg9) (tl : TE) : TI:=fun σ H R=>tl σ H fun x H1=>∃ a,x = .ref a /\ (∃ xs,C8 K H1 a xs) /\ R (Itt K a) H1
theorem Z7h {l : Expr} {tl : TE} (hl : PE X l tl) : PI X tg l (Y8i X.K tl):=by
 intro pins s σ H R I h
 refine B2 (hl pins s σ H _ I h) fun v s1 ⟨x,H1,I1,r1,q1⟩=>?_
 obtain ⟨a,e,⟨xs,hq⟩,q⟩:=q1
 subst e
 cases r1
 obtain ⟨its,rv,p,hz⟩:=I1.list hq
 refine wpAny_pyIter_list p.isList ?_
 refine ⟨s1.heap.objs.size,[s1.heap.objs.size],_,_,H1,rfl,I1.kept (t':=s1.toks) fun b o e=>Heap.get?_push_of_some _ e,Y9l a _,⟨_,Heap.get?_push_size _ rfl,rfl,rfl⟩,fun b hb=>?_,q⟩
 have e : b = s1.heap.objs.size:=by simpa using hb
 subst e
 exact I1.fpOk (Nat.le_refl _) (I1.hok.fresh (Nat.le_refl _))
theorem Z8i {l : Expr} {tl : TE} (hl : PE X l tl) : PI X tg l (Q5g X.K tl):=by
 intro pins s σ H R I h
 refine B2 (hl pins s σ H _ I h) fun v s1 ⟨x,H1,I1,r1,q1⟩=>?_
 obtain ⟨a,e,⟨xs,hq⟩,q⟩:=q1
 subst e
 cases r1
 obtain ⟨its,rv,p,hz⟩:=I1.tuple hq
 refine wpAny_pyIter_tuple (show s1.heap.IsTuple a its.toArray from p) ?_
 refine ⟨s1.heap.objs.size,[s1.heap.objs.size],_,_,H1,rfl,I1.kept (t':=s1.toks) fun b o e=>Heap.get?_push_of_some _ e,Y6w a _,⟨_,Heap.get?_push_size _ rfl,rfl,rfl⟩,fun b hb=>?_,q⟩
 have e : b = s1.heap.objs.size:=by simpa using hb
 subst e
 exact I1.fpOk (Nat.le_refl _) (I1.hok.fresh (Nat.le_refl _))
theorem Y5q {pins : Pn9} {σ : St} {H : Hp} {s : Shared} {R : It -> Hp -> Prop} {E : VS9} {lo hi : Int} {t u v : Tok} {tk : Nat} (I : A1 X pins σ H s) (h1 : -(2 ^ 62) <= lo) (h2 : lo < 2 ^ 62) (h3 : -(2 ^ 62) <= hi) (h4 : hi < 2 ^ 62)
  (q : R (Itr lo (hi - lo).toNat) H) : wpAny (model X.prog X.w) X.A (pyIter (.ref s.heap.objs.size)) (PIE X pins σ tg R) E { s with heap:=s.heap.push { cls:=.type "range",data:=.fields #[.int lo t,.int hi u,.int 1 v] },toks:=tk }:=by
 refine wpAny_pyIter_range (IsRange.new ..) (small_one h1 h2 h3 h4) ?_
 have I1 : A1 X pins σ H { s with heap:=s.heap.push { cls:=.type "range",data:=.fields #[.int lo t,.int hi u,.int 1 v] },toks:=tk }:=I.kept fun b o e=>Heap.get?_push_of_some _ e
 refine ⟨(s.heap.push { cls:=.type "range",data:=.fields #[.int lo t,.int hi u,.int 1 v] }).objs.size,[(s.heap.push { cls:=.type "range",data:=.fields #[.int lo t,.int hi u,.int 1 v] }).objs.size],_,_,H,rfl,
  I1.kept (t':=tk) fun b o e=>Heap.get?_push_of_some _ e,W3u _ lo (hi - lo).toNat,?_,fun b hb=>?_,q⟩
 ·have e1 : lo + ((0 : Nat) : Int) * 1 = lo:=by simp
  have e2 : (((hi - lo).toNat : Nat) : Int) - ((0 : Nat) : Int) = Builtin.Range.rangeSize lo hi 1:=by rw [rangeSize_one]; split <;> omega
  show IsRangeIter _ _ (lo + ((0 : Nat) : Int) * 1) ((((hi - lo).toNat : Nat) : Int) - ((0 : Nat) : Int)) 1
  rw [e1,e2]
  exact Heap.get?_push_size _ rfl
 ·have e : b = (s.heap.push { cls:=.type "range",data:=.fields #[.int lo t,.int hi u,.int 1 v] }).objs.size:=by simpa using hb
  subst e
  exact I1.fpOk (Nat.le_refl _) (I1.hok.fresh (Nat.le_refl _))
noncomputable def Q0x (ta : TA) : TI:=fun σ H R=>ta σ H fun vs H1=>∃ j : Int,vs = [.int j] /\ -(2 ^ 62) <= j /\ j < 2 ^ 62 /\ R (Itr 0 j.toNat) H1
theorem Z6q {a : Expr} {ta : TA} {p pos : Pos} (hg : Gl X "range") (hm : X.mg "range" = none) (ha : PA X [a] ta) (hs : starEach [a] X.env = [(false,eval a X.env)]:=by rfl) : PI X tg (.Call (.Name "range" p) [a] [] pos) (Q0x ta):=by
 intro pins s σ H R I h
 refine Call_ (Q0c I hg hm boot_range (PyProof.Rows.callWith_type1 (B2 (ha pos pins s σ H _ I h) fun us s1 ⟨vs,H1,I1,r1,q1⟩=>?_) hs rfl))
 obtain ⟨j,e,q1,q2,q⟩:=q1
 subst e
 cases r1 with
 | cons r rr =>
  cases rr
  obtain ⟨t,rfl⟩:=r
  exact call_range_1 (Y5q I1 (by omega) (by omega) q1 q2 (by simpa using q))
def tFor (wi : TI) (g : TG) (tb : TS) : TS:=fun D σ H=>wi σ H fun J H1=>∃ W : Nat -> Nat -> St -> Hp -> Prop,(∃ m,W 0 m σ H1) /\ ∀ i m σ H,W i m σ H ->
 (J.stop i H /\ D.nx σ H) \/ (J.go i H /\ ∃ N : St -> Hp -> Prop,(∀ σ' H',N σ' H' -> ∃ m',m' < m /\ W (i + 1) m' σ' H') /\ ∀ x H',J.yld i H x H' -> g x σ H' fun σ2 H2=>tb { D with nx:=N,ct:=N,bk:=D.nx } σ2 H2)
noncomputable def S8 (fp : List Addr) (h : Heap) : Pn9:=fp.filterMap fun b=>(h.get? b).map fun o=>(b,o)
theorem Q0j {fp : List Addr} {h : Heap} {b : Addr} {o : Obj} (hb : b ∈ fp) (e : h.get? b = some o) : (b,o) ∈ S8 fp h:=List.mem_filterMap.mpr ⟨b,hb,by rw [e]; rfl⟩
theorem Q5i {fp : List Addr} {h : Heap} {p : Addr × Obj} (hp : p ∈ S8 fp h) : p.1 ∈ fp /\ h.get? p.1 = some p.2:=by
 obtain ⟨b,hb,e⟩:=List.mem_filterMap.mp hp
 cases q : h.get? b with
 | none=>rw [q] at e; cases e
 | some o =>
  rw [q] at e
  have e' : (b,o) = p:=Option.some.inj e
  subst e'
  exact ⟨hb,q⟩
theorem A1.pinned {pins : Pn9} {σ : St} {H : Hp} {s : Shared} {fp : List Addr} (I : A1 X pins σ H s) (hf : ∀ b ∈ fp,K3 X pins H b) (ho : ∀ b ∈ fp,∃ o,s.heap.get? b = some o /\ ∀ v,o.data ≠ .cell v) : A1 X (pins ++ S8 fp s.heap) σ H s :=
 I.pins_of fun p hp=>(List.mem_append.mp hp).elim (fun z=>I.pin p (List.mem_append_right _ z)) fun z=>by
  obtain ⟨hb,e⟩:=Q5i z
  obtain ⟨f0,f1,f2,_⟩:=hf p.1 hb
  obtain ⟨o,e',d⟩:=ho p.1 hb
  rw [e] at e'; cases e'
  exact ⟨e,f0,f1,f2,d⟩
theorem A1.unpinned {pins pl : Pn9} {σ : St} {H : Hp} {s : Shared} (I : A1 X (pins ++ pl) σ H s) : A1 X pins σ H s:=I.pins_of fun p hp=>I.pin p (List.mem_append_right _ (List.mem_append_left _ hp))
theorem Y6y {iter : Expr} {body : List Stmt} {wi : TI} {g : TG} {tb : TS} {pos : Pos} (hp : PassesOwn (model X.prog X.w) X.A X.env X.xe) (hc : X.calm = true) (hi : PI X tg iter wi) (hg : PG X tg g) (hb : PSs X body tb)
  (hs : ∀ x,foldedSetIterable iter X.env x = pure x:=by intro _; rfl) : PS X (.For tg iter body [] pos) (tFor wi g tb):=by
 intro pins s σ H D I h
 refine wpAny_For (B2 (hi pins s σ H _ I h) fun v s1 h1=>B2 h1 fun itv s2 h2=>?_) hs
 obtain ⟨it,fp,tn,J,H2,e,I2,T,st2,f2,W,⟨m0,w0⟩,turn⟩:=h2
 subst e
 have stat : ∀ {H' : Hp},(∀ b ∈ fp,H' b = none) -> ∀ b ∈ fp,K3 X pins H' b:=fun hn b hb=>⟨hn b hb,(f2 b hb).2⟩
 refine codeAny_forLoop_any (fun n s'=>∃ i σ' H',A1 X pins σ' H' s' /\ tn i s'.heap /\ (∀ b ∈ fp,H' b = none) /\ W i n σ' H') ?_ m0 ⟨0,σ,H2,I2,st2,fun b hb=>(f2 b hb).1,w0⟩
 rintro n s3 ⟨i,σ3,H3,I3,st3,fr3,w3⟩
 rcases turn i n σ3 H3 w3 with ⟨stop,qn⟩ | ⟨go,N,hN,step⟩
 ·refine wpAny_passesOwn hp (B2 (T.done X rfl rfl rfl hc i pins s3 σ3 H3 X.xe I3 (stat fr3) st3 stop) fun r s4 ⟨hr,I4⟩=>?_)
  subst hr
  exact wpAny_execs_nil ⟨σ3,H3,I4,qn⟩
 ·refine wpAny_passesOwn hp (B2 (T.item X rfl rfl rfl hc i pins s3 σ3 H3 X.xe I3 (stat fr3) st3 go) fun r s4 ⟨u,hr,h4⟩=>?_)
  subst hr
  refine wpAny_passesOwn hp (B2 h4 fun _ s5 ⟨x,H5,I5,r5,y5,st5,fr5⟩=>?_)
  have I5':=I5.pinned (stat fr5) (T.obj _ _ st5)
  refine wpAny_passesOwn hp (B2 (hg _ s5 σ3 H5 x u _ I5' r5 (step x H5 y5)) fun _ s6 ⟨σ6,H6,I6,q6⟩=>?_)
  refine wpAny_passesOwn hp (B2 (hb _ s6 σ6 H6 _ I6 q6) fun f s7 q7=>?_)
  have again : ∀ {σ7 : St} {H7 : Hp},A1 X (pins ++ S8 fp s5.heap) σ7 H7 s7 -> N σ7 H7 -> ∃ m,m < n /\ ∃ i σ' H',A1 X pins σ' H' s7 /\ tn i s7.heap /\ (∀ b ∈ fp,H' b = none) /\ W i m σ' H':=fun {σ7 H7} I7 n7=>by
   obtain ⟨m',hm,w7⟩:=hN σ7 H7 n7
   refine ⟨m',hm,i + 1,σ7,H7,I7.unpinned,T.keep _ _ _ st5 fun b hb o e=>(I7.pin (b,o) (List.mem_append_right _ (List.mem_append_right _ (Q0j hb e)))).1,fun b hb=>?_,w7⟩
   obtain ⟨o,e,d⟩:=T.obj _ _ st5 b hb
   exact (I7.pin (b,o) (List.mem_append_right _ (List.mem_append_right _ (Q0j hb e)))).2.1
  cases f with
  | next=>obtain ⟨σ7,H7,I7,n7⟩:=q7; exact again I7 n7
  | cont=>obtain ⟨σ7,H7,I7,n7⟩:=q7; exact again I7 n7
  | brk=>obtain ⟨σ7,H7,I7,q7⟩:=q7; exact ⟨σ7,H7,I7.unpinned,q7⟩
  | ret v=>obtain ⟨x7,σ7,H7,I7,r7,q7⟩:=q7; exact ⟨x7,σ7,H7,I7.unpinned,r7,q7⟩
end
end L2
namespace L2
open PySem PySem.Spec PyProof.Rows
noncomputable abbrev R2:=V -> V -> Hp -> VK -> Prop
def M3 (X : Cx) (f : Value -> Value -> Sem Value) (r : R2) : Prop :=
 ∀ (pins : Pn9) (s : Shared) (σ : St) (H : Hp) (x y : V) (v u : Value) (Q : VK),A1 X pins σ H s -> B4 x v -> B4 y u -> r x y H Q ->
  wpAny (model X.prog X.w) X.A (f v u) (EP X pins σ Q) X.xe s
def Q1o (X : Cx) (f : Value) (r : List V -> Hp -> VK -> Prop) : Prop :=
 ∀ (pins : Pn9) (s : Shared) (σ : St) (H : Hp) (xs : List V) (us : List Value) (Q : VK),A1 X pins σ H s -> C4 xs us -> r xs H Q ->
  wpAny (model X.prog X.w) X.A (call f us) (EP X pins σ Q) X.xe s
def TruR (X : Cx) (r : V -> Hp -> (Bool -> Hp -> Prop) -> Prop) : Prop :=
 ∀ (pins : Pn9) (s : Shared) (σ : St) (H : Hp) (x : V) (v : Value) (Q : Bool -> Hp -> Prop),A1 X pins σ H s -> B4 x v -> r x H Q ->
  wpAny (model X.prog X.w) X.A (truthy v) (TP X pins σ Q) X.xe s
def tOp (r : R2) (ta tb : TE) : TE:=fun σ H Q=>ta σ H fun x H1=>tb σ H1 fun y H2=>r x y H2 Q
def rI (C : Int -> Int -> Prop) (g : Int -> Int -> V) : R2:=fun x y H Q=>∃ i j,x = .int i /\ y = .int j /\ C i j /\ Q (g i j) H
def rI0 (g : Int -> Int -> V) : R2:=fun x y H Q=>∃ i j,x = .int i /\ y = .int j /\ Q (g i j) H
section
variable {X : Cx} {a b c : Expr} {ta tb tc : TE} {pos : Pos}
theorem Z1w (ha : PE X a ta) (hb : PE X b tb) {pins : Pn9} {s : Shared} {σ : St} {H : Hp} {R : V -> V -> Hp -> Prop} (I : A1 X pins σ H s)
  (h : ta σ H fun x H1=>tb σ H1 fun y H2=>R x y H2) {Q : VS9} {f : Value -> Value -> Sem Value}
  (hf : ∀ v u s2 x y H2,A1 X pins σ H2 s2 -> B4 x v -> B4 y u -> R x y H2 -> wpAny (model X.prog X.w) X.A (f v u) Q X.xe s2) :
  wpAny (model X.prog X.w) X.A (eval a X.env) (fun v s₁=>wpAny (model X.prog X.w) X.A (eval b X.env) (fun u s₂=>wpAny (model X.prog X.w) X.A (f v u) Q X.xe s₂) X.xe s₁) X.xe s:=by
 refine B2 (ha pins s σ H _ I h) fun v s1 ⟨x,H1,I1,r1,q1⟩=>?_
 refine B2 (hb pins s1 σ H1 _ I1 q1) fun u s2 ⟨y,H2,I2,r2,q2⟩=>?_
 exact hf v u s2 x y H2 I2 r1 r2 q2
theorem Y7p {op : Operator} {r : R2} (ho : M3 X (binaryOp op) r) (ha : PE X a ta) (hb : PE X b tb) : PE X (.BinOp a op b pos) (tOp r ta tb):=by
 intro pins s σ H Q I h
 exact wpAny_BinOp (Z1w ha hb I h fun v u s2 x y H2 I2 rx ry q=>ho pins s2 σ H2 x y v u Q I2 rx ry q)
theorem opI {f : Value -> Value -> Sem Value} {C : Int -> Int -> Prop} {g : Int -> Int -> Int}
  (rule : ∀ (i j : Int) (t u : Tok) (s : Shared) (Q : VS9) (E : VS9),C i j -> Q (.int (g i j) s.toks) { s with toks:=s.toks + 1 } -> wpAny (model X.prog X.w) X.A (f (.int i t) (.int j u)) Q E s) :
  M3 X f (rI C fun i j=>.int (g i j)):=by
 intro pins s σ H x y v u Q I rx ry h
 obtain ⟨i,j,rfl,rfl,hc,q⟩:=h
 obtain ⟨t,rfl⟩:=rx
 obtain ⟨t',rfl⟩:=ry
 exact rule i j t t' s _ _ hc ⟨.int (g i j),H,I.tok _,⟨_,rfl⟩,q⟩
theorem opI0 {f : Value -> Value -> Sem Value} {g : Int -> Int -> Int}
  (rule : ∀ (i j : Int) (t u : Tok) (s : Shared) (Q : VS9) (E : VS9),Q (.int (g i j) s.toks) { s with toks:=s.toks + 1 } -> wpAny (model X.prog X.w) X.A (f (.int i t) (.int j u)) Q E s) :
  M3 X f (rI0 fun i j=>.int (g i j)):=by
 intro pins s σ H x y v u Q I rx ry h
 obtain ⟨i,j,rfl,rfl,q⟩:=h
 obtain ⟨t,rfl⟩:=rx
 obtain ⟨t',rfl⟩:=ry
 exact rule i j t t' s _ _ ⟨.int (g i j),H,I.tok _,⟨_,rfl⟩,q⟩
theorem opB0 {f : Value -> Value -> Sem Value} {g : Int -> Int -> Bool}
  (rule : ∀ (i j : Int) (t u : Tok) (s : Shared) (Q : VS9) (E : VS9),Q (.bool (g i j)) s -> wpAny (model X.prog X.w) X.A (f (.int i t) (.int j u)) Q E s) :
  M3 X f (rI0 fun i j=>.bl (g i j)):=by
 intro pins s σ H x y v u Q I rx ry h
 obtain ⟨i,j,rfl,rfl,q⟩:=h
 obtain ⟨t,rfl⟩:=rx
 obtain ⟨t',rfl⟩:=ry
 exact rule i j t t' s _ _ ⟨.bl (g i j),H,I,rfl,q⟩
def Q0f (i j : Int) : Prop:=0 < j /\ j < 1073741824
def Q1s (i j : Int) : Prop:=(-(2 ^ 64) < i /\ i < 2 ^ 64) \/ (-(2 ^ 64) < j /\ j < 2 ^ 64)
theorem Q1s.ok {i j : Int} (h : Q1s i j) : IntMulOk i j:=by
 rcases h with ⟨h1,h2⟩ | ⟨h1,h2⟩
 ·exact .of_left (intBits_le_64 h1 h2)
 ·exact .of_right (intBits_le_64 h1 h2)
theorem W1x : M3 X (binaryOp .Add) (rI0 fun i j=>.int (i + j)):=opI0 fun _ _ _ _ _ _ _ q=>add_int q
theorem Y4m : M3 X (binaryOp .Mult) (rI Q1s fun i j=>.int (i * j)):=opI fun _ _ _ _ _ _ _ hc q=>mul_int q hc.ok
theorem W2o : M3 X (binaryOp .FloorDiv) (rI Q0f fun i j=>.int (i / j)):=opI fun i j _ _ _ _ _ hc q=>by
 have h1 : (0 : Int) < j:=hc.1
 have h2 : j < 1073741824:=hc.2
 exact floordiv_int (by omega) (by rw [Int.fdiv_eq_ediv_of_nonneg i (by omega)]; exact q) (.inl (PyProof.noPylong_small (by omega)))
theorem Y9k : M3 X (binaryOp .Mod) (rI (fun _ j=>0 < j) fun i j=>.int (i % j)):=opI fun i j _ _ _ _ _ hc q=>by
 have h1 : (0 : Int) < j:=hc
 exact mod_int' (by omega) (by rw [Int.fmod_eq_emod_of_nonneg i (by omega)]; exact q)
theorem Y5p : M3 X (inplaceOp .Add) (rI0 fun i j=>.int (i + j)):=opI0 fun _ _ _ _ _ _ _ q=>iadd_int q
end
noncomputable def scal : V -> V -> Bool
 | .non,.non=>true | .non,.int _=>true | .int _,.non=>true | .non,.bl _=>true | .bl _,.non=>true | .non,.str _=>true | .str _,.non=>true
 | .int _,.int _=>true | .bl _,.bl _=>true | .str _,.str _=>true | .byt _,.byt _=>true
 | .int _,.str _=>true | .str _,.int _=>true | .bl _,.str _=>true | .str _,.bl _=>true
 | _,_=>false
def rNe : R2:=fun x y H Q=>scal x y = true /\ Q (.bl (!decide (x = y))) H
theorem Z5x {i j : Int} : decide (V.int i = V.int j) = (i == j):=by
 rw [Bool.eq_iff_iff]
 simp
theorem Y2h {i j : Bool} : decide (V.bl i = V.bl j) = (i == j):=by
 rw [Bool.eq_iff_iff]
 simp
theorem Y0a {i j : Str} : decide (V.str i = V.str j) = (i == j):=by
 rw [Bool.eq_iff_iff]
 simp
theorem Y8u {i j : Array UInt8} : decide (V.byt i = V.byt j) = (i.toList == j.toList):=by
 rw [Bool.eq_iff_iff]
 cases i
 cases j
 simp
section
variable {X : Cx} {a b c : Expr} {ta tb tc : TE} {pos : Pos}
theorem R8 {pins : Pn9} {σ : St} {H : Hp} {s : Shared} {Q : VK} {k k' : Bool} (I : A1 X pins σ H s) (q : Q (.bl k) H) (e : k = k') : EP X pins σ Q (.bool k') s:=by
 subst e
 exact ⟨.bl k,H,I,rfl,q⟩
theorem Y9m : M3 X (compareOp .NotEq) rNe:=by
 intro pins s σ H x y v u Q I rx ry h
 obtain ⟨hs,q⟩:=h
 cases x with
 | non =>
  cases rx
  cases y with
  | non=>cases ry; exact PySem.EqNone.ne_none_none (R8 I q (by simp))
  | bl j=>cases ry; exact PySem.EqNone.ne_none_bool (R8 I q (by simp))
  | int j=>obtain ⟨t',rfl⟩:=ry; exact PySem.EqNone.ne_none_int (R8 I q (by simp))
  | str j=>obtain ⟨t',rfl⟩:=ry; exact PySem.EqNone.ne_none_str (R8 I q (by simp))
  | _=>exact absurd (show false = true from hs) Bool.false_ne_true
 | bl i =>
  cases rx
  cases y with
  | non=>cases ry; exact PySem.EqNone.ne_bool_none (R8 I q (by simp))
  | bl j=>cases ry; exact ne_bool (R8 I q (congrArg not Y2h))
  | str j=>obtain ⟨t',rfl⟩:=ry; exact PySem.EqMixed.ne_bool_str (R8 I q (by simp))
  | _=>exact absurd (show false = true from hs) Bool.false_ne_true
 | int i =>
  obtain ⟨t,rfl⟩:=rx
  cases y with
  | non=>cases ry; exact PySem.EqNone.ne_int_none (R8 I q (by simp))
  | int j=>obtain ⟨t',rfl⟩:=ry; exact ne_int (R8 I q (congrArg not Z5x))
  | str j=>obtain ⟨t',rfl⟩:=ry; exact PySem.EqMixed.ne_int_str (R8 I q (by simp))
  | _=>exact absurd (show false = true from hs) Bool.false_ne_true
 | str i =>
  obtain ⟨t,rfl⟩:=rx
  cases y with
  | non=>cases ry; exact PySem.EqNone.ne_str_none (R8 I q (by simp))
  | bl j=>cases ry; exact PySem.EqMixed.ne_str_bool (R8 I q (by simp))
  | int j=>obtain ⟨t',rfl⟩:=ry; exact PySem.EqMixed.ne_str_int (R8 I q (by simp))
  | str j=>obtain ⟨t',rfl⟩:=ry; exact ne_str (R8 I q (congrArg not Y0a))
  | _=>exact absurd (show false = true from hs) Bool.false_ne_true
 | byt i =>
  obtain ⟨t,rfl⟩:=rx
  cases y with
  | byt j=>obtain ⟨t',rfl⟩:=ry; exact PySem.W.ne_bytes (R8 I q (congrArg not Y8u))
  | _=>exact absurd (show false = true from hs) Bool.false_ne_true
 | _=>cases y <;> exact absurd (show false = true from hs) Bool.false_ne_true
theorem Y3j : M3 X (compareOp .Lt) (rI0 fun i j=>.bl (decide (i < j))):=opB0 fun _ _ _ _ _ _ _ q=>lt_int q
theorem Y4a : M3 X (compareOp .GtE) (rI0 fun i j=>.bl (decide (j <= i))):=opB0 fun _ _ _ _ _ _ _ q=>ge_int q
theorem W2h : M3 X (compareOp .Is) (fun x y H Q=>y = .non /\ Q (.bl (decide (x = .non))) H):=by
 intro pins s σ H x y v u Q I rx ry h
 obtain ⟨rfl,q⟩:=h
 cases ry
 refine is_none_gen (R8 I q ?_)
 cases x <;> first
  | (cases rx; rfl)
  | (obtain ⟨t,rfl⟩:=rx; rfl)
theorem J3 (b : Expr) {op : CmpOp} (h : op ≠ .In:=by decide) (h2 : op ≠ .NotIn:=by decide) : behindInMarks op b = false:=by
 have e1 : (op == CmpOp.In) = false:=by cases op <;> first | rfl | exact absurd rfl h
 have e2 : (op == CmpOp.NotIn) = false:=by cases op <;> first | rfl | exact absurd rfl h2
 cases b <;> simp [behindInMarks,e1,e2]
theorem Y7y {op : CmpOp} {r : R2} (ho : M3 X (compareOp op) r) (ha : PE X a ta) (hb : PE X b tb) (hm : behindInMarks op b = false) : PE X (.Compare a [op] [b] pos) (tOp r ta tb):=by
 intro pins s σ H Q I h
 exact wpAny_Compare1 (Z1w ha hb I h fun v u s2 x y H2 I2 rx ry q=>ho pins s2 σ H2 x y v u Q I2 rx ry q) hm
def Y2x (t : TE) : TT:=fun σ H Q=>t σ H fun x H'=>∃ k,x = .bl k /\ Q k H'
theorem Y7f {op : CmpOp} {r : R2} (ho : M3 X (compareOp op) r) (ha : PE X a ta) (hb : PE X b tb) (hm : behindInMarks op b = false) : PT X (.Compare a [op] [b] pos) (Y2x (tOp r ta tb)):=by
 intro pins s σ H Q I h
 refine wpAny_isTrue_Compare1 (B2 (ha pins s σ H _ I h) fun v s1 ⟨x,H1,I1,r1,q1⟩=>B2 (hb pins s1 σ H1 _ I1 q1) fun u s2 ⟨y,H2,I2,r2,q2⟩ =>
  B2 (ho pins s2 σ H2 x y v u _ I2 r1 r2 q2) fun c s3 ⟨z,H3,I3,r3,k,e,q3⟩=>?_) hm
 subst e
 cases r3
 exact wpAny_truthy_bool ⟨H3,I3,q3⟩
def Q9x (K : Fg9) (x : V) (H : Hp) (k : Bool) : Prop :=
 match x with
 | .non=>k = false
 | .bl b=>k = b
 | .int i=>k = (i != 0)
 | .str y=>y.length <= sizeLine /\ k = ((y.length : Int) != 0)
 | .byt y=>y.size <= sizeLine /\ k = ((y.size : Int) != 0)
 | .ref p=>(∃ xs,D5 K H p xs /\ k = !xs.isEmpty) \/ (∃ xs,C8 K H p xs /\ k = !xs.isEmpty) \/ ∃ kvs,H p = some (.dK kvs) /\ k = !kvs.isEmpty
 | _=>False
theorem W3h {κ : Type} {kvs : List (κ × V)} {vs : List (κ × Value)} (r : KV kvs vs) : (!vs.isEmpty) = !kvs.isEmpty:=by
 cases r <;> rfl
theorem Z7l {xs : List V} {its : List Value} (r : C4 xs its) : (!its.toArray.isEmpty) = !xs.isEmpty:=by
 cases r <;> simp
theorem Q5x : (sizeLine : Nat) < 2 ^ 63:=by rw [sizeLine_eq]; decide
theorem Y6k : TruR X (fun x H Q=>∃ k,Q9x X.K x H k /\ Q k H):=by
 intro pins s σ H x v Q I rx h
 obtain ⟨k,e,q⟩:=h
 have hl:=Q5x
 have hs : sizeLine = 16777216:=sizeLine_eq
 cases x with
 | non =>
  cases rx
  have e' : k = false:=e
  subst e'
  exact truthy_none ⟨H,I,q⟩
 | bl b =>
  cases rx
  have e' : k = b:=e
  subst e'
  exact wpAny_truthy_bool ⟨H,I,q⟩
 | int i =>
  obtain ⟨t,rfl⟩:=rx
  have e' : k = (i != 0):=e
  subst e'
  exact PySem.P.truthy_int ⟨H,I,q⟩
 | str y =>
  obtain ⟨t,rfl⟩:=rx
  obtain ⟨hy,e'⟩ : y.length <= sizeLine /\ k = ((y.length : Int) != 0):=e
  subst e'
  exact PySem.P.truthy_str (by omega) ⟨H,I.tok _,q⟩
 | byt y =>
  obtain ⟨t,rfl⟩:=rx
  obtain ⟨hy,e'⟩ : y.size <= sizeLine /\ k = ((y.size : Int) != 0):=e
  subst e'
  exact PySem.W.truthy_bytes (by omega) ⟨H,I.tok _,q⟩
 | ref p =>
  cases rx
  have e' : (∃ xs,D5 X.K H p xs /\ k = !xs.isEmpty) \/ (∃ xs,C8 X.K H p xs /\ k = !xs.isEmpty) \/ ∃ kvs,H p = some (.dK kvs) /\ k = !kvs.isEmpty:=e
  rcases e' with ⟨xs,hx,e'⟩ | ⟨xs,hx,e'⟩ | ⟨kvs,hx,e'⟩
  ·subst e'
   obtain ⟨its,r,pl,hz⟩:=I.list hx
   have hlen:=r.length
   exact wpAny_truthy_list pl.isList (by simp only [List.size_toArray]; omega) ⟨H,I.tok _,by rw [Z7l r]; exact q⟩
  ·subst e'
   obtain ⟨its,r,pl,hz⟩:=I.tuple hx
   have hlen:=r.length
   exact truthy_tuple pl (by simp only [List.size_toArray]; omega) ⟨H,I.tok _,by rw [Z7l r]; exact q⟩
  ·subst e'
   obtain ⟨hz,hS,vs,r,m⟩ : kvs.length <= sizeLine /\ (p == sysModules) = false /\ ∃ vs,KV kvs vs /\ s.heap.DictOf (J2 X.prog X.w) p vs:=I.hok p _ hx
   have hlen : kvs.length = vs.length:=Paired.length r
   exact wpAny_truthy_dict hS m (by omega) ⟨H,I.tok _,by rw [W3h r]; exact q⟩
 | _=>exact (show False from e).elim
theorem Y8z (ha : PE X a ta) (he : ∀ whole,isTrue a X.env whole = (do let v <- whole; standAt a.pos; holding [v] (truthy v))) :
  PT X a (fun σ H Q=>ta σ H fun x H'=>∃ k,Q9x X.K x H' k /\ Q k H'):=by
 intro pins s σ H Q I h
 exact isTrue_plain (B2 (ha pins s σ H _ I h) fun v s1 ⟨x,H1,I1,r1,q1⟩=>Y6k pins s1 σ H1 x v Q I1 r1 q1) (he _)
theorem W0q : M3 X (binaryOp .Add) (fun x y H Q=>∃ i j,x = .str i /\ y = .str j /\ i.length + j.length <= sizeLine /\ Q (.str (i ++ j)) H):=by
 intro pins s σ H x y v u Q I rx ry h
 obtain ⟨i,j,rfl,rfl,hz,q⟩:=h
 obtain ⟨t,rfl⟩:=rx
 obtain ⟨t',rfl⟩:=ry
 exact add_str (fun t' tk=>⟨.str (i ++ j),H,I.tok _,⟨_,rfl⟩,q⟩) hz
theorem V2 {x : V} {us : List Value} (r : C4 [x] us) : ∃ u,us = [u] /\ B4 x u:=by
 cases r with
 | cons r1 r2=>cases r2; exact ⟨_,rfl,r1⟩
theorem W1f {x y : V} {us : List Value} (r : C4 [x,y] us) : ∃ u w',us = [u,w'] /\ B4 x u /\ B4 y w':=by
 cases r with
 | cons r1 r2 =>
  cases r2 with
  | cons r3 r4=>cases r4; exact ⟨_,_,rfl,r1,r3⟩
theorem Z7o : Q1o X (.type "int") (fun xs H Q=>(∃ i,xs = [.int i] /\ Q (.int i) H) \/ ∃ k,xs = [.bl k] /\ Q (.int (if k then 1 else 0)) H):=by
 intro pins s σ H xs us Q I r h
 rcases h with ⟨i,rfl,q⟩ | ⟨k,rfl,q⟩
 ·obtain ⟨u,rfl,t,rfl⟩:=V2 r
  exact call_int_int ⟨.int i,H,I,⟨_,rfl⟩,q⟩
 ·obtain ⟨u,rfl,r1⟩:=V2 r
  cases r1
  exact call_int_bool ⟨.int (if k then 1 else 0),H,I.tok _,⟨_,rfl⟩,q⟩
def LenV (K : Fg9) (x : V) (H : Hp) (n : Nat) : Prop :=
 match x with
 | .str y=>y.length <= sizeLine /\ n = y.length
 | .byt y=>y.size <= sizeLine /\ n = y.size
 | .ref p=>(∃ xs,D5 K H p xs /\ n = xs.length) \/ ∃ xs,C8 K H p xs /\ n = xs.length
 | _=>False
theorem Q4v : Q1o X (.builtin "len") (fun xs H Q=>∃ x n,xs = [x] /\ LenV X.K x H n /\ Q (.int n) H):=by
 intro pins s σ H xs us Q I r h
 obtain ⟨x,n,rfl,e,q⟩:=h
 obtain ⟨u,rfl,rx⟩:=V2 r
 have hl:=Q5x
 have hs : sizeLine = 16777216:=sizeLine_eq
 cases x with
 | str y =>
  obtain ⟨t,rfl⟩:=rx
  obtain ⟨hy,e'⟩ : y.length <= sizeLine /\ n = y.length:=e
  subst e'
  exact len_str (by omega) ⟨.int _,H,I.tok _,⟨_,rfl⟩,q⟩
 | byt y =>
  obtain ⟨t,rfl⟩:=rx
  obtain ⟨hy,e'⟩ : y.size <= sizeLine /\ n = y.size:=e
  subst e'
  exact PySem.W.len_bytes (by omega) ⟨.int _,H,I.tok _,⟨_,rfl⟩,q⟩
 | ref p =>
  cases rx
  have e' : (∃ xs,D5 X.K H p xs /\ n = xs.length) \/ ∃ xs,C8 X.K H p xs /\ n = xs.length:=e
  rcases e' with ⟨xs,hx,e'⟩ | ⟨xs,hx,e'⟩
  ·subst e'
   obtain ⟨its,r',pl,hz⟩:=I.list hx
   have hlen:=r'.length
   exact Calls.call_len_list pl.isList (by simp only [List.size_toArray]; omega) ⟨.int xs.length,H,I.tok _,⟨_,by simp only [List.size_toArray]; rw [hlen]⟩,q⟩
  ·subst e'
   obtain ⟨its,r',pl,hz⟩:=I.tuple hx
   have hlen:=r'.length
   exact len_tuple pl (by simp only [List.size_toArray]; omega) ⟨.int xs.length,H,I.tok _,⟨_,by simp only [List.size_toArray]; rw [hlen]⟩,q⟩
 | _=>exact (show False from e).elim
end
end L2
namespace L2
open PySem PySem.Spec PyProof.Rows
structure Q8z (h : Heap) (x dx C : Addr) (mA : Str -> Option Value) : Prop where
 obj : h.get? x = some (PySem.W.instObj C dx)
 ns : h.Ns1 dx mA
 ne : dx ≠ x
theorem Y9w {h : Heap} {dx : Addr} {mA : Str -> Option Value} (n : h.Ns1 dx mA) : ∃ od,h.get? dx = some od /\ ∀ name,PySem.W.lookIn name od = some (mA name):=by
 obtain ⟨o,es,ep,ho,hd,hk,_,hm⟩:=n
 refine ⟨o,ho,fun name=>?_⟩
 have e:=hm name
 unfold nsFind findBy at e
 rw [<- Array.find?_toList] at e
 unfold PySem.W.lookIn
 rw [hd]
 dsimp only
 split
 ·rename_i y q
  rw [q] at e
  exact congrArg some e
 ·rename_i q
  rw [q] at e
  have a : es.toList.any (·.refKey) = false:=by
   rw [List.any_eq_false]
   intro y hy
   obtain ⟨z,t,hkey⟩:=hk y (Array.mem_toList_iff.mp hy)
   simp [DictEntry.refKey,hkey]
  have a' : ¬ es.toList.any (·.refKey) = true:=by rw [a]; exact Bool.false_ne_true
  rw [if_neg a']
  exact congrArg some e
theorem Q8z.look {h : Heap} {x dx C : Addr} {mA : Str -> Option Value} (I : Q8z h x dx C mA) : ∃ od,PySem.W.InstAt h x (PySem.W.instObj C dx) C (some od) /\ ∀ name,PySem.W.lookIn name od = some (mA name) :=
 let ⟨od,ho,hl⟩:=Y9w I.ns
 ⟨od,⟨I.obj,rfl,rfl,ho⟩,hl⟩
section
variable {prog : Program} {w : World} {A : Around} {E : VS9} {s : Shared} {K : Fg9} {x dx C f : Addr} {mA : Str -> Option Value} {name : Str} {v : Value}
end
theorem W8.some_of {v : V} {o : Option Value} (r : W8 (some v) o) : ∃ u,o = some u /\ B4 v u:=by
 cases o with
 | none=>exact (show False from r).elim
 | some u=>exact ⟨u,rfl,r⟩
section
variable {P : Program} {w : World} {H H' : Hp} {h h' : Heap} {a C dx : Addr} {fs fs' : List (Str × V)}
theorem Y4s (hok : F1 P w H h) (e : H a = some (.ins C dx fs)) : ∃ mA,Q8z h a dx C mA /\ (∀ f,W8 (fs.lookup f) (mA f)) /\ PySem.Within mA (fs.map (·.1)) /\ fs.length <= 1000 /\ H dx = some (.own a):=by
 obtain ⟨d,z,ne,ob,mA,n,r,q⟩:=(show F6 P w H h a (.ins C dx fs) from hok a _ e)
 exact ⟨mA,⟨ob,n,ne⟩,r,q,z,d⟩
end
structure Cls (K : Fg9) (C : Addr) : Prop where
 pg : PySem.W.plainGet K C Str.empty = true
 hd : PySem.W.hasDictIn K C = true
 po : PySem.W.plainOver K C = true
 sa : PySem.W.findIn K (.ref C) "__setattr__" = some (some (.builtin "object.__setattr__"))
theorem Cls.get {K : Fg9} {C : Addr} (c : Cls K C) (f : Str) : PySem.W.plainGet K C f = true:=c.pg
section
variable {X : Cx} {pins : Pn9} {σ : St} {H : Hp} {s : Shared} {a C dx : Addr} {fs : List (Str × V)} {f : Str} {v : V} {A : Around} {E : VS9}
end
section
variable {X : Cx} {o e value : Expr} {f : Str} {pos pos' tpos : Pos} {ta tv : TE}
end
section
variable {X : Cx} {pins : Pn9} {σ : St} {H : Hp} {s : Shared} {A : Around} {E : VS9} {Q : VS9} {c : Value} {b : Bool}
inductive V8 (K : Fg9) (H : Hp) : V -> Value -> Prop where
 | non : V8 K H .non (.type "NoneType")
 | bl (x : Bool) : V8 K H (.bl x) (.type "bool")
 | int (i : Int) : V8 K H (.int i) (.type "int")
 | str (x : Str) : V8 K H (.str x) (.type "str")
 | flt (x : UInt64) : V8 K H (.flt x) (.type "float")
 | lst {a : Addr} {xs : List V} (e : H a = some (.lst xs)) : V8 K H (.ref a) (.type "list")
 | frz {a : Addr} {o : Obj} {xs : List V} (e : H a = some (.frz o (.lst xs))) : V8 K H (.ref a) (.type "list")
 | tup {a : Addr} {xs : List V} (e : H a = some (.tup xs)) : V8 K H (.ref a) (.type "tuple")
 | dK {a : Addr} {kvs : List (B0 × V)} (e : H a = some (.dK kvs)) : V8 K H (.ref a) (.type "dict")
 | dT {a : Addr} {kvs : List (List B0 × V)} (e : H a = some (.dT kvs)) : V8 K H (.ref a) (.type "dict")
 | ins {a C dx : Addr} {fs : List (Str × V)} (e : H a = some (.ins C dx fs)) (cl : Cls K C) (ha : PySem.W.findIn K (.ref C) "__class__" = some (some (.builtin "object.__class__")))
   (hn : PySem.W.specialIn K (.builtin "object.__class__") "__get__" = some (some (.builtin "getset_descriptor.__get__"))) (htk : PySem.W.takesIn K (.builtin "object.__class__") = some true)
   (hm : PySem.W.mroIn K C (.type "object") = some true) : V8 K H (.ref a) (.ref C)
theorem Y5y {x : V} {u t : Value} (I : A1 X pins σ H s) (rx : B4 x u) (ty : V8 X.K H x t) (e : PySem.W.kitOne X.K t c = some b) (h : ∀ tk,Q (.bool b) { s with toks:=tk }) :
  wpAny (model X.prog X.w) A (call (.builtin "isinstance") [u,c]) Q E s:=by
 cases ty with
 | non=>cases (show u = Value.none from rx); exact PySem.W.kia_one PySem.W.kitx_none I.kIn True.intro e (fun z=>nomatch z) h
 | bl y=>cases (show u = Value.bool y from rx); exact PySem.W.kia_one PySem.W.kitx_bool I.kIn True.intro e (fun z=>nomatch z) h
 | int i=>obtain ⟨t,q⟩:=(show ∃ t,u = Value.int i t from rx); cases q; exact PySem.W.kia_one PySem.W.kitx_int I.kIn True.intro e (fun z=>nomatch z) h
 | str y=>obtain ⟨t,q⟩:=(show ∃ t,u = Value.str y t from rx); cases q; exact PySem.W.kia_one PySem.W.kitx_str I.kIn True.intro e (fun z=>nomatch z) h
 | flt y=>obtain ⟨t,q⟩:=(show ∃ t,u = Value.float y t from rx); cases q; exact PySem.W.kia_one PySem.W.kitx_float I.kIn True.intro e (fun z=>nomatch z) h
 | @lst a xs ea =>
  cases (show u = Value.ref a from rx)
  obtain ⟨_,_,n,_,h1⟩:=(show F6 X.prog X.w H s.heap a (.lst xs) from I.hok a _ ea)
  exact PySem.W.kia_one PySem.W.kitx_list I.kIn ⟨_,h1,rfl⟩ e (fun z=>nomatch z) h
 | @frz a ob xs ea =>
  cases (show u = Value.ref a from rx)
  obtain ⟨_,_,_,n,_,h1⟩:=(show F6 X.prog X.w H s.heap a (.frz ob (.lst xs)) from I.hok a _ ea)
  exact PySem.W.kia_one PySem.W.kitx_list I.kIn ⟨_,h1,rfl⟩ e (fun z=>nomatch z) h
 | @tup a xs ea =>
  cases (show u = Value.ref a from rx)
  obtain ⟨_,_,_,p⟩:=(show F6 X.prog X.w H s.heap a (.tup xs) from I.hok a _ ea)
  obtain ⟨o,h1,h2,_⟩:=p
  exact PySem.W.kia_one PySem.W.kitx_tuple I.kIn ⟨o,h1,h2⟩ e (fun z=>nomatch z) h
 | @dK a kvs ea =>
  cases (show u = Value.ref a from rx)
  obtain ⟨_,_,vs,_,p⟩:=(show F6 X.prog X.w H s.heap a (.dK kvs) from I.hok a _ ea)
  obtain ⟨o,es,ep,h1,h2,_⟩:=p
  exact PySem.W.kia_one PySem.W.kitx_dict I.kIn ⟨o,h1,h2.1⟩ e (fun z=>nomatch z) h
 | @dT a kvs ea =>
  cases (show u = Value.ref a from rx)
  obtain ⟨_,_,xs,_,o,es,ep,h1,h2,_⟩:=(show F6 X.prog X.w H s.heap a (.dT kvs) from I.hok a _ ea)
  exact PySem.W.kia_one PySem.W.kitx_dict I.kIn ⟨o,h1,h2.1⟩ e (fun z=>nomatch z) h
 | @ins a C dx fs ea cl ha hn htk hm =>
  cases (show u = Value.ref a from rx)
  obtain ⟨mA,O,_⟩:=Y4s I.hok ea
  obtain ⟨od,J,_⟩:=O.look
  exact PySem.W.kia_one (PySem.W.kitx_own (cl.get _) cl.hd ha hn htk hm) I.kIn J e (fun z=>nomatch z) h
end
end L2
namespace L2
open PySem PySem.Spec PyProof.Rows
structure C5 (k : Nat) (A : Around) : Prop where
 hd : A.handled = none
 dp : A.depth + 3 * k + 5 < recursionLimit
 un : A.units + 16 * k + 200 < cLine
theorem C5.mono {j k : Nat} {A : Around} (r : C5 k A) (h : j <= k) : C5 j A:=⟨r.hd,by have:=r.dp; omega,by have:=r.un; omega⟩
theorem C5.deeper {k : Nat} {A : Around} (r : C5 (k + 1) A) (env : Env) : C5 k (A.deeper env) :=
 ⟨r.hd,by have:=r.dp; show A.depth + 1 + 3 * k + 5 < _; omega,by have:=r.un; show A.units + 3 + 16 * k + 200 < _; omega⟩
theorem C5.depth {k : Nat} {A : Around} (r : C5 k A) : A.depth < recursionLimit:=by have:=r.dp; omega
theorem C5.units {k : Nat} {A : Around} (r : C5 k A) : A.units + 64 < cLine:=by have:=r.un; omega
theorem C5.units0 {k : Nat} {A : Around} (r : C5 k A) : A.units < cLine:=by have:=r.un; omega
def tNil : TA:=fun _ H Q=>Q [] H
def Q9k (ta : TE) (tr : TA) : TA:=fun σ H Q=>ta σ H fun x H1=>tr σ H1 fun xs H2=>Q (x :: xs) H2
section
variable {X : Cx} {e : Expr} {es : List Expr} {te : TE} {t : TA} {pos : Pos}
theorem Q4s : PA X [] tNil:=fun _ _ _ _ H Q I h=>Calls.spliced_nil ⟨[],H,I,.nil,h⟩
theorem Q2f (ha : PE X e te) (hr : PA X es t) (hs : starEach (e :: es) X.env = (false,eval e X.env) :: starEach es X.env:=by rfl) : PA X (e :: es) (Q9k te t):=by
 intro pos pins s σ H Q I h
 rw [hs]
 show wpAny _ _ (spliced ((false,eval e X.env) :: backTo pos (starEach es X.env))) _ _ s
 refine Calls.spliced_cons (B2 (ha pins s σ H _ I h) fun u s1 ⟨x,H1,I1,r1,q1⟩=>?_)
 exact B2 (hr pos pins s1 σ H1 _ I1 q1) fun us s2 ⟨xs,H2,I2,r2,q2⟩=>⟨x :: xs,H2,I2,.cons r1 r2,q2⟩
def tTup (t : TA) : TE:=fun σ H Q=>t σ H fun xs H1=>xs.length <= sizeLine /\ ∀ p,H1 p = none -> Q (.ref p) (upd H1 p (.tup xs))
def tLst (t : TA) : TE:=fun σ H Q=>t σ H fun xs H1=>xs.length <= sizeLine /\ ∀ p,H1 p = none -> Q (.ref p) (upd H1 p (.lst xs))
theorem Y8v {x1} (h : PA X es t) : PE X (.Tuple es x1 pos) (tTup t):=by
 intro pins s σ H Q I hq
 refine wpAny_Tuple_spliced (B2 (h pos pins s σ H _ I hq) fun us s1 ⟨xs,H1,I1,r,z,q⟩=>⟨by rw [<- r.length]; exact z,?_⟩)
 have hf : H1 s1.heap.objs.size = none:=I1.hok.fresh (Nat.le_refl _)
 refine ⟨.ref s1.heap.objs.size,upd H1 s1.heap.objs.size (.tup xs),I1.laid (t':=s1.toks) (fun b u e=>Heap.get?_push_of_some _ e) (Nat.le_refl _) ?_,rfl,q _ hf⟩
 exact ⟨z,us,r,⟨_,Heap.get?_push_size _ rfl,rfl,_,rfl⟩⟩
theorem Y7b (h : PA X es t) : PE X (.List es pos) (tLst t):=by
 intro pins s σ H Q I hq
 refine wpAny_List_spliced (B2 (h pos pins s σ H _ I hq) fun us s1 ⟨xs,H1,I1,r,z,q⟩=>⟨by rw [<- r.length]; exact z,?_⟩)
 have hf : H1 s1.heap.objs.size = none:=I1.hok.fresh (Nat.le_refl _)
 refine ⟨.ref s1.heap.objs.size,upd H1 s1.heap.objs.size (.lst xs),I1.laid (t':=s1.toks) (fun b u e=>Heap.get?_push_of_some _ e) (Nat.le_refl _) ?_,rfl,q _ hf⟩
 exact ⟨z,us,0,r,Heap.get?_push_size _ rfl⟩
end
noncomputable abbrev Sp:=List V -> Hp -> VK -> XK -> Prop
noncomputable abbrev CXT:=List Env -> Hp -> Shared -> XK -> Value -> Shared -> Prop
structure Q4e (P : Program) (w : World) (K : Fg9) (mg : Str -> Option Value) (base : Heap) (A : Around) (outer : List Env) (s : Shared) (H : Hp) : Prop where
 frames : A.frames = some outer
 mod : Mod K mg base
 bs : ∀ b o,base.get? b = some o -> s.heap.get? b = some o /\ H b = none
 bsz : base.objs.size <= s.heap.objs.size
 funs : s.heap.FunFrames base outer
 frf : ∀ b ∈ frs outer,H b = none
 hok : F1 P w H s.heap
 bare : AllBare s.gens
def CE (outer : List Env) (P : Program) (w : World) (H : Hp) (s : Shared) (Q : VK) (u : Value) (s' : Shared) : Prop :=
 ∃ v H',s'.os = s.os /\ AllBare s'.gens /\ Un (frs outer) [] H H' s.heap s'.heap /\ F1 P w H' s'.heap /\ B4 v u /\ Q v H'
def CR (CX : CXT) (outer : List Env) (P : Program) (w : World) (H : Hp) (s : Shared) (Q : VK) (E : XK) (r : Result) (s' : Shared) : Prop :=
 match r with
 | .ok (.ret u)=>CE outer P w H s Q u s'
 | .ok _=>False
 | .error e=>CX outer H s E e s'
structure P8 (P : Program) (w : World) (K : Fg9) (mg : Str -> Option Value) (base : Heap) (CX : CXT) (k : Nat) (f : Addr) (fd : FuncData) (ps : List Str) (sp : Sp) : Prop where
 len : ∀ vs H Q E,sp vs H Q E -> vs.length = ps.length
 run : ∀ (A : Around) (outer : List Env) (s : Shared) (H : Hp) (args : Args) (us : List Value) (vs : List V) (Q : VK) (E : XK),C5 k A -> Q4e P w K mg base A outer s H -> BindsTo s fd args (ps.zip us) -> C4 vs us -> sp vs H Q E ->
  codeAny (model P w) A (.call (.ref f) args) (CR CX outer P w H s Q E) s
section
variable {X : Cx} {pins : Pn9} {σ : St} {H : Hp} {s s' : Shared}
theorem A1.env0 (I : A1 X pins σ H s) : Q4e X.prog X.w X.K X.mg X.base X.A X.stack s H :=
 ⟨I.ok.frames,I.ok.mod,I.bs,Nat.le_trans I.ok.bsz I.sz,I.stack,I.stkFree,I.hok,I.bare⟩
theorem A1.after {Q : VK} {u : Value} (I : A1 X pins σ H s) (h : CE X.stack X.prog X.w H s Q u s') : EP X pins σ Q u s':=by
 obtain ⟨v,H',os,bare,un,hok,r,q⟩:=h
 obtain ⟨hh,g,d,t,os'⟩:=s'
 obtain rfl : os' = s.os:=os
 exact ⟨v,H',I.call (h':=hh) (g':=g) (d':=d) (t':=t) (ch:=[]) un hok bare (fun b z=>absurd z (by simp)),r,q⟩
end
def Y8e (sp : Sp) (dvs : List V) (E : XK) (t : TA) : TE:=fun σ H Q=>t σ H fun vs H1=>sp (vs ++ dvs) H1 Q E
def V6 (K : Fg9) (fd : FuncData) (ps : List Str) (ds : List Value) : Prop :=
 ∀ (s : Shared) (us : List Value),K.In s.heap -> (us ++ ds).length = ps.length -> BindsTo s fd ⟨us,[]⟩ (ps.zip (us ++ ds))
theorem V6.all {K : Fg9} {fd : FuncData} {ps : List Str} (h : ∀ us : List Value,us.length = ps.length -> bindArgs fd ⟨us,[]⟩ = pure (ps.zip us)) : V6 K fd ps []:=fun s us _ hl=>by
 rw [List.append_nil] at hl ⊢
 exact .of_eq (h us hl)
def Z2z (CX : CXT) (X : Cx) (E : XK) : Prop:=∀ (pins : Pn9) (σ : St) (H : Hp) (s : Shared) (e : Value) (s' : Shared),A1 X pins σ H s -> CX X.stack H s E e s' -> X.xe e s'
section
variable {X : Cx} {CX : CXT} {k : Nat} {f C : Addr} {fd : FuncData} {ps : List Str} {sp : Sp} {dvs : List V} {ds : List Value} {E : XK} {x m : Str} {p pos apos : Pos} {e o : Expr} {es : List Expr} {ta : TE} {t : TA}
theorem Z8g {pins : Pn9} {σ : St} {H : Hp} {s : Shared} {Q : VK} {us : List Value} {vs : List V} (F : P8 X.prog X.w X.K X.mg X.base CX k f fd ps sp) (hr : C5 k X.A) (hb : V6 X.K fd ps ds) (hd : C4 dvs ds) (hx : Z2z CX X E)
  (I : A1 X pins σ H s) (r : C4 vs us) (h : sp (vs ++ dvs) H Q E) : wpAny (model X.prog X.w) X.A (call (.ref f) us) (EP X pins σ Q) X.xe s:=by
 have r2 : C4 (vs ++ dvs) (us ++ ds):=r.append hd
 have hl : (us ++ ds).length = ps.length:=by rw [<- r2.length]; exact F.len _ _ _ _ h
 refine wpAny_call (codeAny_mono (F.run X.A X.stack s H ⟨us,[]⟩ (us ++ ds) (vs ++ dvs) Q E hr I.env0 (hb s us I.kIn hl) r2 h) fun r s' hq=>?_)
 cases r with
 | error e=>exact hx pins σ H s e s' I hq
 | ok fl =>
  cases fl with
  | ret u=>exact I.after hq
  | next=>exact False.elim hq
  | brk=>exact False.elim hq
  | cont=>exact False.elim hq
theorem Z9v (F : P8 X.prog X.w X.K X.mg X.base CX k f fd ps sp) (hr : C5 k X.A) (hg : Gl X x) (hm : X.mg x = some (.ref f)) (hk : PySem.W.keepIn X.K (.ref f) = true) (hb : V6 X.K fd ps ds) (hd : C4 dvs ds) (hx : Z2z CX X E)
  (ha : PA X (e :: es) t) (hdb : (x == ("__debug__" : Str)) = false:=by decide) (he : starEach (e :: es) X.env = (false,eval e X.env) :: starEach es X.env:=by rfl) (hpl : (backTo pos (starEach es X.env)).any (·.1) = false:=by rfl) :
  PE X (.Call (.Name x p) (e :: es) [] pos) (Y8e sp dvs E t):=by
 intro pins s σ H Q I h
 refine wpAny_Call_Name_kw (Q9r I hg hm ?_ hdb)
 refine PySem.W.callWith_K (h₀:=X.base) I.ok.mod.kin hk (B2 (ha pos pins s σ H _ I h) fun us s1 ⟨vs,H1,I1,r,q⟩=>⟨I1.kIn,?_⟩) he hpl
 exact Z8g F hr hb hd hx I1 r q
end
section
variable {X : Cx} {CX : CXT} {k : Nat} {f C : Addr} {fd : FuncData} {ps ks : List Str} {sp : Sp} {E : XK} {x m : Str} {p pos apos kpos : Pos} {e o : Expr} {es : List Expr} {kws : List Keyword} {te ta : TE} {t tk : TA} {nm : Option Str}
variable {g : List Value -> List Value -> List Value} {gV : List V -> List V -> List V}
end
structure G2 (N P : List Str) (sc : Scope) : Prop where
 kind : sc.kind = .function
 co : sc.isCoroutine = false
 gen : sc.isGenerator = false
 nd : N.Nodup
 pre : N.take P.length = P
 par : ∀ x ∈ P,sc.names.lookup x = some .local \/ sc.names.lookup x = some .cell
 nofree : ∀ y ∈ sc.names,y.2 ≠ .free
theorem Y1o {kindOf : Str -> Option NameKind} {x : Str} : ∀ {binds : List (Str × Value)} {m : Str -> Option Value},(∀ v,(x,v) ∉ binds) -> bindL kindOf binds m x = m x
 | [],_,_=>rfl
 | (n,v) :: r,m,h=>by
  unfold bindL
  rw [Y1o fun w hw=>h w (List.mem_cons_of_mem _ hw)]
  split
  ·have : x ≠ n:=by rintro rfl; exact h v List.mem_cons_self
   simp [this]
  ·rfl
theorem Z7u {kindOf : Str -> Option NameKind} {x : Str} : ∀ {binds : List (Str × Value)} {m : Str -> Option Value},(∀ v,(x,v) ∉ binds) -> bindC kindOf binds m x = m x
 | [],_,_=>rfl
 | (n,v) :: r,m,h=>by
  unfold bindC
  rw [Z7u fun w hw=>h w (List.mem_cons_of_mem _ hw)]
  split
  ·rfl
  ·have : x ≠ n:=by rintro rfl; exact h v List.mem_cons_self
   simp [this]
theorem Z7g {kindOf : Str -> Option NameKind} {x : Str} {v : Value} : ∀ {P : List Str} {vs : List Value} {i : Nat} {m : Str -> Option Value},P.Nodup -> P[i]? = some x -> vs[i]? = some v -> kindOf x = some .local ->
  bindL kindOf (P.zip vs) m x = some v
 | [],_,_,_,_,h,_,_=>by simp at h
 | _ :: _,[],_,_,_,_,h,_=>by simp at h
 | p :: P,w :: vs,0,m,nd,h1,h2,hk=>by
  simp at h1 h2; subst h1; subst h2
  show bindL kindOf ((p,w) :: P.zip vs) m p = _
  unfold bindL
  rw [Y1o fun v hv=>(List.nodup_cons.mp nd).1 (List.of_mem_zip hv).1,if_pos hk]
  simp
 | p :: P,w :: vs,i + 1,m,nd,h1,h2,hk=>by
  show bindL kindOf ((p,w) :: P.zip vs) m x = _
  unfold bindL
  exact Z7g (i:=i) (List.nodup_cons.mp nd).2 (by simpa using h1) (by simpa using h2) hk
theorem Y1t {kindOf : Str -> Option NameKind} {x : Str} {v : Value} : ∀ {P : List Str} {vs : List Value} {i : Nat} {m : Str -> Option Value},P.Nodup -> P[i]? = some x -> vs[i]? = some v -> kindOf x ≠ some .local ->
  bindC kindOf (P.zip vs) m x = some v
 | [],_,_,_,_,h,_,_=>by simp at h
 | _ :: _,[],_,_,_,_,h,_=>by simp at h
 | p :: P,w :: vs,0,m,nd,h1,h2,hk=>by
  simp at h1 h2; subst h1; subst h2
  show bindC kindOf ((p,w) :: P.zip vs) m p = _
  unfold bindC
  rw [Z7u fun v hv=>(List.nodup_cons.mp nd).1 (List.of_mem_zip hv).1,if_neg hk]
  simp
 | p :: P,w :: vs,i + 1,m,nd,h1,h2,hk=>by
  show bindC kindOf ((p,w) :: P.zip vs) m x = _
  unfold bindC
  exact Y1t (i:=i) (List.nodup_cons.mp nd).2 (by simpa using h1) (by simpa using h2) hk
noncomputable def start (N : List Str) (vs : List V) : St:=vs.map some ++ List.replicate (N.length - vs.length) none
noncomputable def V0 (CX : CXT) (P : Program) (w : World) (K : Fg9) (mg : Str -> Option Value) (base : Heap) (N : List Str) (qual : Str) (scope : Scope) (f : Addr) (cd : Value) (A : Around) (outer : List Env) (s : Shared) (H : Hp) (E : XK) : Cx where
 prog:=P
 w:=w
 K:=K
 mg:=mg
 base:=base
 A:=A.deeper (envOfC qual scope s.heap.objs.size f cd)
 N:=N
 s₀:=s
 H₀:=H
 env:=envOfC qual scope s.heap.objs.size f cd
 outer:=outer
 stack:=envOfC qual scope s.heap.objs.size f cd :: outer
 ex:=[]
 calm:=true
 fn:=fun _=>true
 pn:=[]
 xe:=fun e s'=>wpAny (model P w) (A.deeper (envOfC qual scope s.heap.objs.size f cd)) (leaving (envOfC qual scope s.heap.objs.size f cd) e) (fun _ s''=>CX outer H s E e s'') (fun e' s''=>CX outer H s E e' s'') s'
theorem Z9b {sc : Scope} {n : Nat} {x : Str} (h : sc.names.lookup x = some .cell) : ∃ c,(cellsFrom n sc.names []).lookup x = some c:=by
 have q:=PySem.W.cellsFrom_some sc.names n [] (.inl h)
 exact Option.isSome_iff_exists.mp q
theorem Z5t {CX : CXT} {P : Program} {w : World} {K : Fg9} {mg : Str -> Option Value} {base : Heap} {N ps : List Str} {qual : Str} {scope : Scope} {f : Addr} {cd : Value} {A : Around} {outer : List Env} {s s1 : Shared} {H : Hp} {E : XK} {us : List Value} {vs : List V}
  (S : G2 N ps scope) (hd : A.handled = none) (e0 : Q4e P w K mg base A outer s H) (hl : vs.length = ps.length) (r : C4 vs us)
  (x : InCallC s s.heap.objs.size (bindL (envOfC qual scope s.heap.objs.size f cd).kindOf (ps.zip us) fun _=>none) (cellsFrom (s.heap.objs.size + 1) scope.names []) (bindC (envOfC qual scope s.heap.objs.size f cd).kindOf (ps.zip us) fun _=>none) s1) :
  A1 (V0 CX P w K mg base N qual scope f cd A outer s H E) [] (start N vs) H s1:=by
 have hpl : ps.length <= N.length:=by have:=congrArg List.length S.pre; rw [List.length_take] at this; omega
 obtain ⟨h1,tk,rfl,hk⟩:=x.done
 have noA : ∀ b : Addr,b ∉ (V0 CX P w K mg base N qual scope f cd A outer s H E).ex:=fun b z=>absurd (show b ∈ ([] : List Addr) from z) (by simp)
 refine ⟨⟨e0.mod,S.kind,rfl,rfl,Nat.le_refl _,fun y z c h1 h2=>?_,fun y hy=>?_,fun y c _ h=>?_,fun _=>hd,Around.frames_deeper e0.frames,.inr ⟨rfl,rfl⟩,fun b z=>absurd z (noA b),e0.bs,e0.bsz,fun b _ _=>noA b,fun b z=>absurd z (noA b),e0.funs,e0.frf⟩,
  rfl,e0.bare,Un.kept hk,⟨_,x.toInCall.ns,fun i y v h1 h2 h3=>?_⟩,fun y c h=>⟨_,x.cell y c h⟩,e0.hok.fresh (Nat.le_refl _),fun y c h=>?_,fun p hp=>absurd (show p ∈ ([] : Pn9) from hp) (by simp),e0.hok.kept hk,?_⟩
 ·exact name_of_addr x.apart (PySem.mem_of_lookup h1) (PySem.mem_of_lookup h2)
 ·have hy : scope.names.lookup y = some .cell \/ scope.names.lookup y = some .free:=hy
  rcases hy with hy | hy
  ·exact Z9b hy
  ·exact absurd rfl (S.nofree _ (PySem.mem_of_lookup hy))
 ·exact Nat.le_of_lt (x.above y c (PySem.mem_of_lookup h))
 ·have hi : i < vs.length:=by
   unfold start at h2
   by_cases hi : i < vs.length
   ·exact hi
   ·rw [List.getElem?_append_right (by simpa using hi)] at h2
    rw [List.getElem?_replicate] at h2
    split at h2 <;> cases h2
  have ha : vs[i]? = some v:=by
   unfold start at h2
   rw [List.getElem?_append_left (by simpa using hi),List.getElem?_map] at h2
   cases e : vs[i]? with
   | none=>rw [e] at h2; cases h2
   | some a=>rw [e] at h2; cases h2; rfl
  obtain ⟨u,hu,rv⟩:=r.get ha
  have hp : ps[i]? = some y:=by
   rw [<- S.pre,List.getElem?_take_of_lt (by omega)]; exact h1
  have ndP : ps.Nodup:=by rw [<- S.pre]; exact S.nd.sublist (List.take_sublist _ _)
  refine ⟨u,rv,?_⟩
  rcases S.par y (List.mem_of_getElem? hp) with k | k
  ·exact .inl ⟨k,Z7g ndP hp hu k⟩
  ·obtain ⟨c,e⟩:=Z9b (n:=s.heap.objs.size + 1) k
   refine .inr ⟨.inl k,c,e,?_⟩
   have q:=x.cell y c e
   rw [Y1t ndP hp hu (by show scope.names.lookup y ≠ _; rw [k]; decide)] at q
   exact q
 ·exact e0.hok.fresh (Nat.le_of_lt (x.above y c (PySem.mem_of_lookup h)))
 ·unfold start
  show _ = N.length
  rw [List.length_append,List.length_map,List.length_replicate]
  omega
theorem Y0g {CX : CXT} {P : Program} {w : World} {K : Fg9} {mg : Str -> Option Value} {base : Heap} {k : Nat} {f : Addr} {name qual : Str} {params : Arguments} {body : List Stmt} {scope : Scope} {dV kV doc pm cdv ct oc : Value} {an od : Option Addr}
  {osl : Array (Option Value)} {N ps : List Str} {sp : Sp} (lk : K.lookup f = some ⟨oc,od,.func (PySem.W.fnOf name qual params body scope dV kV doc pm an cdv ct),osl⟩) (hcd : PySem.W.codeIn K cdv qual = true) (S : G2 N ps scope)
  (len : ∀ vs H Q E,sp vs H Q E -> vs.length = ps.length)
  (hbody : ∀ (A : Around) (outer : List Env) (s : Shared) (H : Hp) (vs : List V) (Q : VK) (E : XK),C5 k (A.deeper (envOfC qual scope s.heap.objs.size f cdv)) -> sp vs H Q E ->
   ∃ t,PSs (V0 CX P w K mg base N qual scope f cdv A outer s H E) body t /\ t { nx:=fun _ H'=>Q .non H',rt:=Q } (start N vs) H) :
  P8 P w K mg base CX (k + 1) f (PySem.W.fnOf name qual params body scope dV kV doc pm an cdv ct) ps sp:=by
 refine ⟨len,fun A outer s H args us vs Q E hr e0 hb r hsp=>?_⟩
 have hl:=len _ _ _ _ hsp
 have KX : K.In s.heap:=e0.mod.kin.keeps fun b o e=>(e0.bs b o e).1
 have lim : s.heap.NoLimit:=e0.mod.nolimit.keeps fun b o e=>(e0.bs b o e).1
 have hkind : ∀ y ∈ ps.zip us,scope.names.lookup y.1 = some .local \/ (scope.names.lookup y.1 = some .cell /\ ((cellsFrom (s.heap.objs.size + 1) scope.names []).lookup y.1).isSome = true):=fun ⟨n,v⟩ hy=>by
  rcases S.par n (List.of_mem_zip hy).1 with q | q
  ·exact .inl q
  ·exact .inr ⟨q,PySem.W.cellsFrom_some _ _ _ (.inl q)⟩
 refine codeAny_call_function hr.depth (KX _ _ lk) rfl S.co S.gen rfl (PySem.W.codeRec_of KX hcd) (hb _ _ _ _ ?_)
 refine wpAny_newFunctionEnv_cells S.kind hkind fun env he s1 x=>?_
 subst he
 refine ⟨lim.keeps x.toInCall.keep,codeAny_func ?_⟩
 obtain ⟨t,ht,hq⟩:=hbody A outer s H vs Q E (hr.deeper _) hsp
 have I : A1 (V0 CX P w K mg base N qual scope f cdv A outer s H E) [] (start N vs) H s1:=Z5t S hr.hd e0 hl r x
 refine wpAny_mono (ht [] s1 (start N vs) H _ I hq) (fun fl s' hs=>?_) fun e s' hs=>hs
 have fin : ∀ {σ' : St} {H' : Hp} {v : V} {u : Value},A1 (V0 CX P w K mg base N qual scope f cdv A outer s H E) [] σ' H' s' -> B4 v u -> Q v H' -> CE outer P w H s Q u s' :=
  fun {σ' H' v u} J rv q=>⟨v,H',J.os,J.bare,J.base,J.hok,rv,q⟩
 cases fl with
 | ret u =>
  obtain ⟨v,σ',H',J,rv,q⟩:=hs
  exact fin J rv q
 | next =>
  obtain ⟨σ',H',J,q⟩:=hs
  exact fin (v:=V.non) (u:=Value.none) J rfl q
 | brk =>
  obtain ⟨_,_,_,q⟩:=hs
  exact False.elim q
 | cont =>
  obtain ⟨_,_,_,q⟩:=hs
  exact False.elim q
end L2
namespace L2
open PySem PySem.Spec PyProof.Rows
section
variable {X : Cx} {x : Str} {p pos : Pos} {e : Expr} {es : List Expr} {t : TA} {id T : String} {r : List V -> Hp -> VK -> Prop}
def tCB (r : List V -> Hp -> VK -> Prop) (t : TA) : TE:=fun σ H Q=>t σ H fun vs H1=>r vs H1 Q
theorem Z3r (hc : Q1o X (.builtin id) r) (hg : Gl X x) (hm : X.mg x = none) (hv : bootBuiltins x = some (.builtin id)) (ha : PA X (e :: es) t) (hn : x ≠ "__name__":=by decide) (hdb : (x == ("__debug__" : Str)) = false:=by decide)
  (he : starEach (e :: es) X.env = (false,eval e X.env) :: starEach es X.env:=by rfl) (hpl : (backTo pos (starEach es X.env)).any (·.1) = false:=by rfl) : PE X (.Call (.Name x p) (e :: es) [] pos) (tCB r t):=by
 intro pins s σ H Q I h
 refine wpAny_Call_Name_kw (Q0c I hg hm hv ?_ hn hdb)
 exact PyProof.Rows.callWith_builtin1 (B2 (ha pos pins s σ H _ I h) fun us s1 ⟨vs,H1,I1,r1,q1⟩=>hc pins s1 σ H1 vs us Q I1 r1 q1) he hpl
theorem Y4d (hc : Q1o X (.type T) r) (hg : Gl X x) (hm : X.mg x = none) (hv : bootBuiltins x = some (.type T)) (ha : PA X (e :: es) t) (hn : x ≠ "__name__":=by decide) (hdb : (x == ("__debug__" : Str)) = false:=by decide)
  (he : starEach (e :: es) X.env = (false,eval e X.env) :: starEach es X.env:=by rfl) (hpl : (backTo pos (starEach es X.env)).any (·.1) = false:=by rfl) : PE X (.Call (.Name x p) (e :: es) [] pos) (tCB r t):=by
 intro pins s σ H Q I h
 refine wpAny_Call_Name_kw (Q0c I hg hm hv ?_ hn hdb)
 exact PyProof.Rows.callWith_type1 (B2 (ha pos pins s σ H _ I h) fun us s1 ⟨vs,H1,I1,r1,q1⟩=>hc pins s1 σ H1 vs us Q I1 r1 q1) he hpl
end
end L2
namespace HT
open PySem PyProof.Rows
section
open PySem.SeqAt
open PySem.AutoSeq1 (wpAny_loadPart')
open PySem.MeetsSeq PySem.MeetsSeq2 PySem.MeetsSeq3
end
section
variable {prog : Program} {w : World} {A : Around} {E : VS9} {s : Shared}
theorem cat_tup {t b : Addr} {vs ws : List Value} {Q : VS9} (ht : IsTup s.heap t vs.toArray) (hb : IsTup s.heap b ws.toArray) (hv : vs ≠ [])
  (h1 : ws = [] -> Q (.ref t) s) (h2 : ws ≠ [] -> Q (.ref s.heap.objs.size) { s with heap:=s.heap.push { cls:=.type "tuple",data:=.seq (vs ++ ws).toArray } })
  (hsz : vs.length + ws.length <= sizeLine) : wpAny (model prog w) A (binaryOp .Add (.ref t) (.ref b)) Q E s:=by
 obtain ⟨⟨cls,dd,data,sl⟩,ho,hc,n,hd⟩:=id ht
 obtain ⟨⟨cls2,dd2,data2,sl2⟩,ho2,hc2,n2,hd2⟩:=id hb
 simp only at hc hd hc2 hd2
 subst hc hd hc2 hd2
 have e : vs.toArray ++ ws.toArray = (vs ++ ws).toArray:=by simp
 by_cases hw : ws = []
 ·exact concat_meets ⟨_,ho,rfl⟩ ⟨_,ho2,rfl⟩ noFill_tuple_add seq_tuple_add PySem.F.slot_tuple_add PySem.F.entry_tuple_add (PySem.F.args_tuple_add_2 _ _)
   (tuple_addW1 t b vs.toArray ws.toArray n n2 dd dd2 sl sl2 (by simpa using hv) (by simp [hw])) ⟨ho,ho2,h1 hw⟩
 ·refine concat_meets ⟨_,ho,rfl⟩ ⟨_,ho2,rfl⟩ noFill_tuple_add seq_tuple_add PySem.F.slot_tuple_add PySem.F.entry_tuple_add (PySem.F.args_tuple_add_2 _ _)
   (tuple_addW2 t b vs.toArray ws.toArray n n2 dd dd2 sl sl2 (by simpa using hv) (by simpa using hw) (by rw [List.size_toArray,List.size_toArray]; exact hsz)) ⟨ho,ho2,?_⟩
  rw [e]
  exact h2 hw
end
end HT
namespace L2
open PySem PySem.Spec PyProof.Rows
section
variable {X : Cx} {e : Expr} {te : TE} {lo hi : Option Expr} {tl th : TO} {pos p2 : Pos}
def Y8s (K : Fg9) : R2:=fun x y H Q=>∃ a b xs ys,x = .ref a /\ y = .ref b /\ C8 K H a xs /\ C8 K H b ys /\ xs ≠ [] /\ xs.length + ys.length <= sizeLine /\
 (ys = [] -> Q (.ref a) H) /\ (ys ≠ [] -> ∀ p,H p = none -> Q (.ref p) (upd H p (.tup (xs ++ ys))))
theorem C4.nil_iff {xs : List V} {us : List Value} (r : C4 xs us) : us = [] ↔ xs = []:=by
 cases r with
 | nil=>simp
 | cons _ _=>simp
theorem Y4t : M3 X (binaryOp .Add) (Y8s X.K):=by
 intro pins s σ H x y v u Q I rx ry h
 obtain ⟨a,b,xs,ys,rfl,rfl,ha,hb,hx,hz,q1,q2⟩:=h
 cases rx
 cases ry
 obtain ⟨its,r1,p1,_⟩:=I.tuple ha
 obtain ⟨its2,r2,p2,_⟩:=I.tuple hb
 refine HT.cat_tup p1 p2 (fun z=>hx (r1.nil_iff.mp z)) (fun z=>⟨.ref a,H,I,rfl,q1 (r2.nil_iff.mp z)⟩) (fun z=>?_) (by rw [<- r1.length,<- r2.length]; exact hz)
 refine ⟨.ref s.heap.objs.size,_,I.laid (t':=s.toks) (o:=.tup (xs ++ ys)) (fun b ob q=>Heap.get?_push_of_some _ q) (Nat.le_refl _) ?_,rfl,q2 (fun w=>z (r2.nil_iff.mpr w)) _ (I.hok.fresh (Nat.le_refl _))⟩
 exact ⟨by rw [List.length_append]; exact hz,_,r1.append r2,IsTup.new _ _⟩
end
end L2
namespace L2
open PySem PySem.Spec PyProof.Rows
noncomputable def ixN (n : Nat) (i : Int) : Option Nat:=if 0 <= i then (if i < n then some i.toNat else none) else if -(n : Int) <= i then some (i + n).toNat else none
noncomputable def K7 {α : Type} (xs : List α) (i : Int) : Option α:=(ixN xs.length i).bind fun j=>xs[j]?
theorem Z6d {n : Nat} {i : Int} {j : Nat} (h : ixN n i = some j) : seqIndex? i n = some j /\ j < n /\ -(n : Int) <= i /\ i < n:=by
 unfold ixN at h
 by_cases h0 : 0 <= i
 ·rw [if_pos h0] at h
  by_cases h1 : i < n
  ·rw [if_pos h1] at h
   have e : i.toNat = j:=Option.some.inj h
   exact ⟨by rw [seqIndex_of h0 h1,e],by omega,by omega,h1⟩
  ·rw [if_neg h1] at h; cases h
 ·rw [if_neg h0] at h
  by_cases h1 : -(n : Int) <= i
  ·rw [if_pos h1] at h
   have e : (i + n).toNat = j:=Option.some.inj h
   exact ⟨by rw [seqIndex_neg (by omega) h1,e],by omega,h1,by omega⟩
  ·rw [if_neg h1] at h; cases h
theorem Z0u {α : Type} {xs : List α} {i : Int} {v : α} (h : K7 xs i = some v) : ∃ j,seqIndex? i xs.length = some j /\ xs[j]? = some v /\ j < xs.length /\ -(xs.length : Int) <= i /\ i < xs.length:=by
 unfold K7 at h
 cases e : ixN xs.length i with
 | none=>rw [e] at h; cases h
 | some j =>
  rw [e] at h
  obtain ⟨h1,h2,h3,h4⟩:=Z6d e
  exact ⟨j,h1,h,h2,h3,h4⟩
theorem V1 {α : Type} {xs : List α} {j : Nat} {v : α} (h : xs[j]? = some v) : K7 xs (j : Int) = some v:=by
 have hj : j < xs.length:=(List.getElem?_eq_some_iff.mp h).1
 have e : ixN xs.length (j : Int) = some j:=by
  unfold ixN
  rw [if_pos (by omega),if_pos (by omega)]; simp
 unfold K7; rw [e]; exact h
def Z0k (b : Expr) : Prop:=∀ o i,subscripted b false o i = operate [o,i] (getItem o i)
def IxR (X : Cx) (r : R2) : Prop :=
 ∀ (value slice : Expr) (pins : Pn9) (s : Shared) (σ : St) (H : Hp) (x y : V) (v u : Value) (Q : VK),A1 X pins σ H s -> B4 x v -> B4 y u -> r x y H Q ->
  subscripted slice false v u = operate [v,u] (getItem v u) -> wpAny (model X.prog X.w) X.A (subscriptTail value slice v u) (EP X pins σ Q) X.xe s
def MtR (X : Cx) (id : String) (r : V -> List V -> Hp -> VK -> Prop) : Prop :=
 ∀ (pins : Pn9) (s : Shared) (σ : St) (H : Hp) (x : V) (xs : List V) (v : Value) (us : List Value) (Q : VK),A1 X pins σ H s -> B4 x v -> C4 xs us -> r x xs H Q ->
  wpAny (model X.prog X.w) X.A (call (.builtin id) (v :: us)) (EP X pins σ Q) X.xe s
section
variable {X : Cx} {a b : Expr} {ta tb : TE} {pos : Pos}
theorem IxR.or {r r' : R2} (h : IxR X r) (h' : IxR X r') : IxR X (fun x y H Q=>r x y H Q \/ r' x y H Q):=by
 intro value slice pins s σ H x y v u Q I rx ry q hs
 rcases q with q | q
 ·exact h value slice pins s σ H x y v u Q I rx ry q hs
 ·exact h' value slice pins s σ H x y v u Q I rx ry q hs
theorem Z8d {r : R2} (hr : IxR X r) (ha : PE X a ta) (hb : PE X b tb) (hs : Z0k b) : PE X (.Subscript a b pos) (tOp r ta tb):=by
 intro pins s σ H Q I h
 exact Subscript_ (Z1w ha hb I h fun v u s2 x y H2 I2 rx ry q=>hr a b pins s2 σ H2 x y v u Q I2 rx ry q (hs _ _))
def rIxL (K : Fg9) : R2:=fun x y H Q=>∃ p xs i v,x = .ref p /\ y = .int i /\ D5 K H p xs /\ K7 xs i = some v /\ Q v H
def rIxT (K : Fg9) : R2:=fun x y H Q=>∃ p xs i v,x = .ref p /\ y = .int i /\ C8 K H p xs /\ K7 xs i = some v /\ Q v H
def rIxS : R2:=fun x y H Q=>∃ z i c,x = .str z /\ y = .int i /\ z.length <= sizeLine /\ K7 z.cps.toList i = some c /\ Q (.str ⟨#[c]⟩) H
theorem Z8b : IxR X (rIxL X.K):=by
 intro value slice pins s σ H x y v u Q I rx ry h hs
 obtain ⟨p,xs,i,z,rfl,rfl,hq,he,q⟩:=h
 cases rx
 obtain ⟨t,rfl⟩:=ry
 obtain ⟨its,r,pl,hz⟩:=I.list hq
 obtain ⟨j,h1,h2,h3,h4,h5⟩:=Z0u he
 obtain ⟨w,ew,rw'⟩:=r.get h2
 have hl:=r.length
 have hn:=Q5x
 have fin : EP X pins σ Q w s:=⟨z,H,I,rw',q⟩
 by_cases h0 : 0 <= i
 ·have hj : i.toNat = j:=by
   rw [seqIndex_of h0 h5] at h1
   exact Option.some.inj h1
  exact item_listR pl.isList h0 (by omega) (by rw [hj]; simpa using ew) fin hs
 ·have hj : (i + (its.toArray.size : Int)).toNat = j:=by
   rw [seqIndex_neg (by omega) h4] at h1
   rw [List.size_toArray,<- hl]
   exact Option.some.inj h1
  exact subscriptTail_builtinR (x:=w) pl.isList.typeIs slot_list_getitem.lookup
   (wpAny_getItem_list_neg (Q:=fun r s'=>r = w /\ EP X pins σ Q r s') pl.isList (by omega) (by rw [List.size_toArray] <;> omega) (by omega) (by rw [hj]; simpa using ew) ⟨rfl,fin⟩) hs
theorem W3t : IxR X (rIxT X.K):=by
 intro value slice pins s σ H x y v u Q I rx ry h hs
 obtain ⟨p,xs,i,z,rfl,rfl,hq,he,q⟩:=h
 cases rx
 obtain ⟨t,rfl⟩:=ry
 obtain ⟨its,r,pl,hz⟩:=I.tuple hq
 obtain ⟨j,h1,h2,h3,h4,h5⟩:=Z0u he
 obtain ⟨w,ew,rw'⟩:=r.get h2
 have hl:=r.length
 have hn:=Q5x
 have fin : EP X pins σ Q w s:=⟨z,H,I,rw',q⟩
 exact subscriptTail_builtinR (x:=w) pl.typeIs slot_tuple_getitem.lookup
  (getItem_tuple (j:=j) (Q:=fun r s'=>r = w /\ EP X pins σ Q r s') pl (by omega) (by omega) (by rw [List.size_toArray,<- hl]; exact h1) (by simpa using ew) ⟨rfl,fin⟩) hs
theorem Y5a : IxR X rIxS:=by
 intro value slice pins s σ H x y v u Q I rx ry h hs
 obtain ⟨z,i,c,rfl,rfl,hz,he,q⟩:=h
 obtain ⟨t,rfl⟩:=rx
 obtain ⟨t',rfl⟩:=ry
 obtain ⟨j,h1,h2,h3,h4,h5⟩:=Z0u he
 have hl : z.cps.toList.length = z.length:=by simp [Str.length]
 rw [hl] at h1 h4 h5
 have hn:=Q5x
 exact tail_any (typeIs_str s z t) slot_str_getitem.lookup (getItem_str (c:=c) (by
  have e1 : decide (i < -(2 ^ 63 : Int)) = false:=decide_eq_false (by omega)
  have e2 : decide (i ≥ 2 ^ 63) = false:=decide_eq_false (by omega)
  rw [e1,e2,Bool.or_false]) (by rw [h1]; simpa using h2) ⟨.str ⟨#[c]⟩,H,I.tok _,⟨_,rfl⟩,q⟩) hs
def rIx (K : Fg9) : R2:=fun x y H Q=>rIxL K x y H Q \/ rIxT K x y H Q \/ rIxS x y H Q
theorem W2m : IxR X (rIx X.K):=Z8b.or (W3t.or Y5a)
theorem W3l : Q1o X (.type "tuple") (fun xs H Q=>∃ p ys,xs = [.ref p] /\ ((D5 X.K H p ys /\ ∀ l,H l = none -> Q (.ref l) (upd H l (.tup ys))) \/ (C8 X.K H p ys /\ Q (.ref p) H))):=by
 intro pins s σ H xs us Q I r h
 obtain ⟨p,ys,rfl,h⟩:=h
 obtain ⟨u,rfl,rx⟩:=V2 r
 cases rx
 rcases h with ⟨hq,q⟩ | ⟨hq,q⟩
 ·obtain ⟨its,r',pl,hz⟩:=I.list hq
  have hlen:=r'.length
  refine call_tuple_list pl.isList (fun h' kp=>?_) (by simp only [List.size_toArray] <;> omega)
  have I1 : A1 X pins σ H { s with heap:=h' }:=I.kept (t':=s.toks) kp
  have I2 : A1 X pins σ (upd H h'.objs.size (.tup ys)) { s with heap:=h'.push { cls:=.type "tuple",data:=.seq its.toArray } } :=
   I1.laid (t':=s.toks) (fun b o e=>Heap.get?_push_of_some _ e) (Nat.le_refl _) (show F6 X.prog X.w _ _ _ (.tup ys) from ⟨hz,its,r',IsTup.new _ _⟩)
  exact ⟨.ref h'.objs.size,_,I2,rfl,q _ (I1.hok.fresh (Nat.le_refl _))⟩
 ·obtain ⟨its,r',pl,hz⟩:=I.tuple hq
  exact call_tuple_same pl ⟨.ref p,H,I,rfl,q⟩
def tyV (K : Fg9) (T : String) (x : V) (H : Hp) : Prop:=match x with
 | .str _=>T = "str"
 | .int _=>T = "int"
 | .ref p=>(T = "list" /\ ∃ xs,D5 K H p xs) \/ (T = "tuple" /\ ∃ o,K.lookup p = some o /\ o.cls = .type "tuple" /\ o.dict = none) \/
   (T = "dict" /\ ((∃ kvs,H p = some (.dK kvs)) \/ ∃ kvs,H p = some (.dT kvs))) \/ (T = "set" /\ ∃ S n,H p = some (.set S n))
 | _=>False
theorem W0f {pins : Pn9} {σ : St} {H : Hp} {s : Shared} {T : String} {x : V} {v : Value} (I : A1 X pins σ H s) (r : B4 x v) (ty : tyV X.K T x H) :
  s.TypeIs v T /\ ∀ a,v = .ref a -> ∃ ob,s.heap.get? a = some ob /\ ob.dict = none:=by
 cases x with
 | str z =>
  obtain ⟨t,rfl⟩:=r
  cases (show T = "str" from ty)
  exact ⟨typeIs_str s z t,fun _ e=>nomatch e⟩
 | int i =>
  obtain ⟨t,rfl⟩:=r
  cases (show T = "int" from ty)
  exact ⟨typeIs_int s i t,fun _ e=>nomatch e⟩
 | ref p =>
  cases r
  rcases ty with ⟨rfl,xs,hq⟩ | ⟨rfl,o,hk,hc,hd⟩ | ⟨rfl,hk⟩ | ⟨rfl,S,n,hk⟩
  ·obtain ⟨its,_,pl,_⟩:=I.list hq
   refine ⟨pl.isList.typeIs,fun a e=>?_⟩
   cases e
   obtain ⟨o,n,e,c,hd,_⟩:=pl
   exact ⟨o,e,hd⟩
  ·refine ⟨⟨o,I.kIn p o hk,hc⟩,fun a e=>?_⟩
   cases e
   exact ⟨o,I.kIn _ o hk,hd⟩
  ·have z : ∃ o,s.heap.get? p = some o /\ o.ExactDict:=by
    rcases hk with ⟨kvs,hk⟩ | ⟨kvs,hk⟩
    ·obtain ⟨_,_,_,_,o,_,_,e,ex,_⟩:=I.hok p _ hk
     exact ⟨o,e,ex⟩
    ·obtain ⟨_,_,_,_,o,_,_,e,ex,_⟩:=I.hok p _ hk
     exact ⟨o,e,ex⟩
   obtain ⟨o,e,ex⟩:=z
   refine ⟨⟨o,e,ex.1⟩,fun a e2=>?_⟩
   cases e2
   exact ⟨o,e,ex.2.1⟩
  ·obtain ⟨o,_,_,_,e,ex,_⟩:=I.hok p _ hk
   refine ⟨⟨o,e,ex.1⟩,fun a e2=>?_⟩
   cases e2
   exact ⟨o,e,ex.2.1⟩
 | _=>exact False.elim ty
def tBM (K : Fg9) (T : String) (r : V -> List V -> Hp -> VK -> Prop) (to : TE) (t : TA) : TE:=fun σ H Q=>to σ H fun x H1=>tyV K T x H1 /\ t σ H1 fun xs H2=>r x xs H2 Q
variable {o e : Expr} {es : List Expr} {to : TE} {t : TA} {name : Str} {apos cpos : Pos} {T id : String} {r : V -> List V -> Hp -> VK -> Prop}
theorem Y5t (pa : PlainAttrs T) (slot : Slot T name id) (hty : typeOf (.builtin id) = pure (.type "method_descriptor")) (hm : MtR X id r) (ho : PE X o to) (ha : PA X (e :: es) t)
  (hbase : attributeBase o name X.env (eval o X.env) = eval o X.env:=by rfl)
  (hfew : ((backTo cpos (starEach (e :: es) X.env)).all (fun x=>!x.1) && (backToKw cpos (keywordEach [] X.env)).all (fun x=>x.1.isSome)
   && decide ((e :: es).length + ([] : List Keyword).length + (if ([] : List Keyword).isEmpty then 0 else 1) < 30)) = true:=by rfl)
  (hline : (apos.endLine == cpos.line) = true:=by rfl) (hs : starEach (e :: es) X.env = (false,eval e X.env) :: starEach es X.env:=by rfl) (hplain : (backTo cpos (starEach es X.env)).any (·.1) = false:=by rfl) :
  PE X (.Call (.Attribute o name apos) (e :: es) [] cpos) (tBM X.K T r to t):=by
 intro pins s σ H Q I h
 refine wpAny_Call_method_late hbase hfew hline rfl (B2 (ho pins s σ H _ I h) fun v s1 ⟨x,H1,I1,r1,ty,q1⟩=>?_)
 obtain ⟨h1,h2⟩:=W0f I1 r1 ty
 refine ⟨T,id,pa,slot,hty,h1,h2,?_⟩
 have hA:=ha cpos pins s1 σ H1 _ I1 q1
 rw [hs] at hA ⊢
 refine Calls.callWith_builtin (by show (false || (backTo cpos (starEach es X.env)).any (·.1)) = false; rw [hplain] <;> rfl) (Calls.evalArgs_plain ?_)
 exact B2 hA fun us s2 ⟨vs,H2,I2,r2,q2⟩=>hm pins s2 σ H2 x vs v us Q I2 r1 r2 q2
/- xs.append(e),list.index on a module's tuple .. are MtR facts of 06m -/
end
end L2
namespace L2
open PySem PySem.Spec PyProof.Rows
def MtM (X : Cx) (id : String) (r : V -> List V -> Hp -> VK -> Prop) : Prop :=
 ∀ (pins : Pn9) (s : Shared) (σ : St) (H : Hp) (x : V) (xs : List V) (v : Value) (us : List Value) (Q : VK),A1 X pins σ H s -> B4 x v -> C4 xs us -> r x xs H Q ->
  wpAny (model X.prog X.w) X.A (call (.builtin id) (v :: us)) (EP X pins σ Q) X.xe s
theorem C4.one : ∀ {x : V} {us : List Value},C4 [x] us -> ∃ u,us = [u] /\ B4 x u
 | _,_,.cons r .nil=>⟨_,rfl,r⟩
theorem C4.rep {xs : List V} {us : List Value} (h : C4 xs us) : ∀ k : Nat,C4 (List.replicate k xs).flatten (List.replicate k us).flatten
 | 0=>.nil
 | k + 1=>by
  rw [List.replicate_succ,List.replicate_succ,List.flatten_cons,List.flatten_cons]
  exact C4.append h (C4.rep h k)
theorem Z9s (its : List Value) : ∀ (k : Nat) (acc : List Value),
  List.foldl (fun x1 x2=>x1 ++ x2) acc.toArray (List.replicate k its.toArray) = (acc ++ (List.replicate k its).flatten).toArray
 | 0,acc=>by simp
 | k + 1,acc=>by
  have e : acc.toArray ++ its.toArray = (acc ++ its).toArray:=by simp
  have e2 : (acc ++ its) ++ (List.replicate k its).flatten = acc ++ (List.replicate (k + 1) its).flatten:=by
   rw [List.replicate_succ,List.flatten_cons,List.append_assoc]
  rw [<- e2,<- Z9s its k (acc ++ its),<- e,List.replicate_succ,List.foldl_cons]
section
variable {X : Cx} {pins : Pn9} {σ : St} {H : Hp} {s : Shared} {l b : Addr} {xs ys zs : List V}
theorem A1.lset {its its' : List Value} {n : Nat} {f : Array Value -> Array Value} {t' : Nat} (I : A1 X pins σ H s) (hH : H l = some (.lst xs))
  (e : s.heap.get? l = some { cls:=.type "list",data:=.seq its.toArray n }) (hf : f its.toArray = its'.toArray) (hv : C4 ys its') (hz : ys.length <= sizeLine) :
  A1 X pins σ (upd H l (.lst ys)) { s with heap:=s.heap.update l (Obj.mapSeq f),toks:=t' }:=by
 have q:=PySem.IsL.update e f
 rw [hf] at q
 refine I.write (x:=l) (e:=l) (by rw [hH]; exact trivial) (.inl rfl) (fun b' u hb hu=>(Heap.get?_update_other s.heap (Obj.mapSeq f) (Ne.symm hb)).trans hu) ⟨_,q⟩ ?_
 exact ⟨hz,its',_,hv,q⟩
theorem A1.lnew {its : List Value} {t' : Nat} (I : A1 X pins σ H s) (hv : C4 ys its) (hz : ys.length <= sizeLine) :
  A1 X pins σ (upd H s.heap.objs.size (.lst ys)) { s with heap:=s.heap.push { cls:=.type "list",data:=.seq its.toArray },toks:=t' } :=
 I.laid (fun _ _ q=>Heap.get?_push_of_some _ q) (Nat.le_refl _) ⟨hz,its,0,hv,Heap.get?_push_size _ rfl⟩
theorem A1.fresh (I : A1 X pins σ H s) : H s.heap.objs.size = none:=I.hok.fresh (Nat.le_refl _)
theorem A1.lstM (I : A1 X pins σ H s) (hH : H l = some (.lst xs)) : xs.length <= sizeLine /\ ∃ (its : List Value) (n : Nat),C4 xs its /\ xs.length = its.length /\ s.heap.get? l = some { cls:=.type "list",data:=.seq its.toArray n }:=by
 obtain ⟨z,its,n,r,e⟩:=I.hok l _ hH
 exact ⟨z,its,n,r,r.length,e⟩
theorem Y8a {n : Nat} (h : n <= sizeLine) : Builtin.List.listTooLong n = false:=by
 unfold Builtin.List.listTooLong
 exact decide_eq_false (by omega)
end
section
variable {X : Cx}
noncomputable def Y8r : V -> List V -> Hp -> VK -> Prop:=fun x vs H Q=>∃ l xs y,x = .ref l /\ vs = [y] /\ H l = some (.lst xs) /\ xs.length < sizeLine /\ Q .non (upd H l (.lst (xs ++ [y])))
theorem W3p : MtM X "list.append" Y8r:=by
 intro pins s σ H x vs v us Q I rx rv h
 obtain ⟨l,xs,y,rfl,rfl,hH,hz,q⟩:=h
 cases rx
 obtain ⟨u,rfl,ru⟩:=rv.one
 obtain ⟨z,its,n,r,hl,e⟩:=I.lstM hH
 refine call_meets F.slot_list_append ⟨_,e,rfl⟩ F.entry_list_append (F.args_list_append_2 _ _) (PySem.list_append l its.toArray n u (by rw [List.size_toArray]; omega)) ⟨e,?_⟩
 refine ⟨.non,_,I.lset (its':=its ++ [u]) hH e (by simp) (r.append (.cons ru .nil)) ?_,rfl,q⟩
 rw [List.length_append,List.length_singleton]
 omega
def rCat : R2:=fun x y H Q=>∃ l b xs zs,x = .ref l /\ y = .ref b /\ H l = some (.lst xs) /\ H b = some (.lst zs) /\ xs.length + zs.length <= sizeLine /\ ∀ p,H p = none -> Q (.ref p) (upd H p (.lst (xs ++ zs)))
theorem Y7g : M3 X (binaryOp .Add) rCat:=by
 intro pins s σ H x y v u Q I rx ry h
 obtain ⟨l,b,xs,zs,rfl,rfl,hH,hB,hz,q⟩:=h
 cases rx
 cases ry
 obtain ⟨z,its,n,r,hl,e⟩:=I.lstM hH
 obtain ⟨z2,its2,n2,r2,hl2,e2⟩:=I.lstM hB
 refine PySem.P.add_list e e2 ?_ (by rw [List.size_toArray,List.size_toArray]; omega)
 have ea : its.toArray ++ its2.toArray = (its ++ its2).toArray:=by simp
 rw [ea]
 exact ⟨.ref _,_,I.lnew (t':=s.toks) (r.append r2) (by rw [List.length_append]; omega),rfl,q _ I.fresh⟩
def rRep : R2:=fun x y H Q=>∃ l k xs,x = .ref l /\ y = .int k /\ H l = some (.lst xs) /\ -(2 ^ 63) <= k /\ k < 2 ^ 63 /\ xs.length * k.toNat <= sizeLine /\
 ∀ p,H p = none -> Q (.ref p) (upd H p (.lst (List.replicate k.toNat xs).flatten))
theorem Y6c {α : Type} (xs : List α) (k : Nat) : (List.replicate k xs).flatten.length = k * xs.length:=by
 induction k with
 | zero=>simp
 | succ k ih=>rw [List.replicate_succ,List.flatten_cons,List.length_append,ih,Nat.succ_mul,Nat.add_comm]
theorem Y8t : M3 X (binaryOp .Mult) rRep:=by
 intro pins s σ H x y v u Q I rx ry h
 obtain ⟨l,k,xs,rfl,rfl,hH,h1,h2,hz,q⟩:=h
 cases rx
 obtain ⟨t,rfl⟩:=ry
 obtain ⟨z,its,n,r,hl,e⟩:=I.lstM hH
 have hlen : its.toArray.size * k.toNat <= sizeLine:=by rw [List.size_toArray,<- hl]; exact hz
 have hcap : ¬ its.toArray.size * k.toNat > (2 ^ 63 - 1) / 8:=by
  have : (sizeLine : Nat) <= (2 ^ 63 - 1) / 8:=by decide
  omega
 have hfit : ¬ (!Builtin.List.listFitsIndex k) = true:=by
  rw [fitsIndex_both h1 h2]
  exact Bool.false_ne_true
 have hlong : ¬ Builtin.List.listTooLong (its.toArray.size * k.toNat) = true:=by
  rw [Y8a hlen]
  exact Bool.false_ne_true
 have hnew : List.foldl (fun x1 x2=>x1 ++ x2) #[] (List.replicate (if its.toArray.isEmpty = true then 0 else k.toNat) its.toArray) = (List.replicate k.toNat its).flatten.toArray:=by
  have f0 : ∀ m : Nat,List.foldl (fun x1 x2=>x1 ++ x2) #[] (List.replicate m its.toArray) = (List.replicate m its).flatten.toArray:=fun m=>by
   have:=Z9s its m []
   rw [List.nil_append] at this
   exact this
  rw [f0]
  cases its with
  | nil=>simp
  | cons a r'=>rw [if_neg (by simp)]
 refine wpAny_binaryOp_repeat_ref (T:="list") (U:="int") (by decide) ⟨_,e,rfl⟩ (fun s'=>typeIs_int s' k t) noFill_list_mul F.fills_int_mul F.slot_int_rmul repeat_list F.slot_int_index.lookup
  (call_meets F.slot_int_rmul (typeIs_int s k t) F.entry_int_rmul (F.args_int_rmul_2 _ _) (int___rmul___int_list k t l its.toArray n)
   ⟨e,rfl,⟨_,e,rfl⟩,call_meets F.slot_list_mul ⟨_,e,rfl⟩ F.entry_list_mul (F.args_list_mul_2 _ _) (AutoListH.list___mul___list_int_3 l its.toArray n k t hfit hcap hlong) ⟨e,?_⟩⟩)
 rw [hnew]
 exact ⟨.ref _,_,I.lnew (t':=s.toks) (r.rep k.toNat) (by rw [Y6c,Nat.mul_comm]; exact hz),rfl,q _ I.fresh⟩
end
section
variable {prog : Program} {w : World} {A : Around} {E : VS9} {s : Shared}
end
section
variable {X : Cx}
end
end L2
namespace L2
open PySem PySem.Spec PyProof.Rows
section
variable {κ : Type} [DecidableEq κ]
noncomputable def P3 (kvs : List (κ × V)) (k : κ) : Option V:=(kvs.find? fun kv=>decide (kv.1 = k)).map (·.2)
noncomputable def M5 (kvs : List (κ × V)) (k : κ) (v : V) : List (κ × V) :=
 if (kvs.any fun kv=>decide (kv.1 = k)) = true then kvs.map (fun kv=>if kv.1 = k then (kv.1,v) else kv) else kvs ++ [(k,v)]
theorem Q8g {p : κ × V} {r : List (κ × V)} {k : κ} (e : p.1 = k) : P3 (p :: r) k = some p.2:=by simp [P3,List.find?_cons,e]
theorem Q7a {p : κ × V} {r : List (κ × V)} {k : κ} (e : ¬ p.1 = k) : P3 (p :: r) k = P3 r k:=by simp [P3,List.find?_cons,e]
theorem Z8e (k : κ) : ∀ kvs : List (κ × V),(kvs.any fun kv=>decide (kv.1 = k)) = (P3 kvs k).isSome
 | []=>rfl
 | p :: r=>by
  rw [List.any_cons]
  by_cases e : p.1 = k
  ·simp only [Q8g e,decide_eq_true e,Bool.true_or,Option.isSome_some]
  ·rw [Q7a e,decide_eq_false e,Bool.false_or]; exact Z8e k r
theorem Q4z (kvs : List (κ × V)) (k : κ) (v : V) : (M5 kvs k v).length <= kvs.length + 1:=by
 unfold M5
 split
 ·rw [List.length_map]; omega
 ·rw [List.length_append,List.length_cons,List.length_nil]; omega
theorem W8.isSome_eq {o : Option V} {u : Option Value} (r : W8 o u) : o.isSome = u.isSome:=by
 cases o with
 | none=>cases u with
  | none=>rfl
  | some _=>exact (show False from r).elim
 | some _=>cases u with
  | none=>exact (show False from r).elim
  | some _=>rfl
theorem W8.getD {o : Option V} {u : Option Value} {d : V} {d' : Value} (r : W8 o u) (rd : B4 d d') : B4 (o.getD d) (u.getD d'):=by
 cases o with
 | none=>cases u with
  | none=>exact rd
  | some _=>exact (show False from r).elim
 | some _=>cases u with
  | none=>exact (show False from r).elim
  | some _=>exact r
theorem KV.val {kvs : List (κ × V)} {vs : List (κ × Value)} (r : KV kvs vs) (k : κ) : W8 (P3 kvs k) (valueAt vs k):=by
 unfold KV at r
 induction r with
 | nil=>exact True.intro
 | @cons p q ps qs h t ih =>
  obtain ⟨h1,h2⟩:=h
  by_cases e : p.1 = k
  ·have e' : q.1 = k:=h1.symm.trans e
   have b : valueAt (q :: qs) k = some q.2:=by simp [valueAt,List.find?_cons,e']
   rw [Q8g e,b]; exact h2
  ·have e' : ¬ q.1 = k:=fun z=>e (h1.trans z)
   have b : valueAt (q :: qs) k = valueAt qs k:=by simp [valueAt,List.find?_cons,e']
   rw [Q7a e,b]; exact ih
theorem KV.any {kvs : List (κ × V)} {vs : List (κ × Value)} (r : KV kvs vs) (k : κ) : (kvs.any fun kv=>decide (kv.1 = k)) = vs.any fun kv=>decide (kv.1 = k):=by
 unfold KV at r
 induction r with
 | nil=>rfl
 | cons h t ih=>rw [List.any_cons,List.any_cons,ih,h.1]
theorem KV.repl {kvs : List (κ × V)} {vs : List (κ × Value)} (r : KV kvs vs) (k : κ) {y : V} {u : Value} (ry : B4 y u) :
  KV (kvs.map fun kv=>if kv.1 = k then (kv.1,y) else kv) (vs.map fun kv=>if kv.1 = k then (kv.1,u) else kv):=by
 unfold KV at r ⊢
 induction r with
 | nil=>exact .nil
 | @cons p q ps qs h t ih =>
  rw [List.map_cons,List.map_cons]
  refine .cons ?_ ih
  obtain ⟨h1,h2⟩:=h
  by_cases e : p.1 = k
  ·rw [if_pos e,if_pos (h1.symm.trans e)]; exact ⟨h1,ry⟩
  ·rw [if_neg e,if_neg (fun z=>e (h1.trans z))]; exact ⟨h1,h2⟩
theorem KV.put {kvs : List (κ × V)} {vs : List (κ × Value)} (r : KV kvs vs) (k : κ) {y : V} {u : Value} (ry : B4 y u) : KV (M5 kvs k y) (stored vs k u):=by
 unfold M5 stored
 rw [r.any k]
 by_cases e : (vs.any fun kv=>decide (kv.1 = k)) = true
 ·rw [if_pos e,if_pos e]; exact r.repl k ry
 ·rw [if_neg e,if_neg e]; exact Paired.snoc r ⟨rfl,ry⟩
theorem KV.length {kvs : List (κ × V)} {vs : List (κ × Value)} (r : KV kvs vs) : kvs.length = vs.length:=Paired.length r
end
theorem Q0v {P : Program} {w : World} {k : B0} {u : Value} (r : B4 (kV k) u) : (J2 P w).is k u = true:=by
 cases k with
 | inl i=>obtain ⟨t,e⟩:=(show ∃ t,u = Value.int i t from r); subst e; exact Y8c P w i t
 | inr x=>obtain ⟨t,e⟩:=(show ∃ t,u = Value.str x t from r); subst e; exact W4u P w x t
theorem Y0w {P : Program} {w : World} : ∀ {ks : List B0} {us : List Value},C4 (ks.map kV) us -> ItemsAre (J2 P w) ks us
 | [],_,r=>by rw [List.map_nil] at r; cases r; exact .nil
 | k :: ks,_,r=>by
  rw [List.map_cons] at r
  cases r with
  | cons h t=>exact .cons (Q0v h) (Y0w t)
noncomputable abbrev KT (H : Hp) : List (List B0 × V) -> List (List B0 × Addr × Value) -> Prop:=Paired fun p q=>p.1 = q.1 /\ H q.2.1 = some (.tup (p.1.map kV)) /\ B4 p.2 q.2.2
theorem KT.val {H : Hp} {kvs : List (List B0 × V)} {xs : List (List B0 × Addr × Value)} (r : KT H kvs xs) (k : List B0) : W8 (P3 kvs k) ((atKey xs k).map (·.2)):=by
 induction r with
 | nil=>exact True.intro
 | @cons p q ps qs h t ih =>
  obtain ⟨h1,_,h2⟩:=h
  by_cases e : p.1 = k
  ·have e' : q.1 = k:=h1.symm.trans e
   have b : atKey (q :: qs) k = some q.2:=by simp [atKey,List.find?_cons,e']
   rw [Q8g e,b]; exact h2
  ·have e' : ¬ q.1 = k:=fun z=>e (h1.trans z)
   have b : atKey (q :: qs) k = atKey qs k:=by simp [atKey,List.find?_cons,e']
   rw [Q7a e,b]; exact ih
theorem KT.repl {H : Hp} {kvs : List (List B0 × V)} {xs : List (List B0 × Addr × Value)} (r : KT H kvs xs) (k : List B0) {y : V} {u : Value} (ry : B4 y u) :
  KT H (kvs.map fun kv=>if kv.1 = k then (kv.1,y) else kv) (xs.map (putAt k u)):=by
 induction r with
 | nil=>exact .nil
 | @cons p q ps qs h t ih =>
  rw [List.map_cons,List.map_cons]
  refine .cons ?_ ih
  obtain ⟨h1,h2,h3⟩:=h
  unfold putAt
  by_cases e : p.1 = k
  ·rw [if_pos e,if_pos (h1.symm.trans e)]; exact ⟨h1,h2,ry⟩
  ·rw [if_neg e,if_neg (fun z=>e (h1.trans z))]; exact ⟨h1,h2,h3⟩
theorem KT.put {H : Hp} {kvs : List (List B0 × V)} {xs : List (List B0 × Addr × Value)} (r : KT H kvs xs) (k : List B0) {b : Addr} {y : V} {u : Value} (hb : H b = some (.tup (k.map kV))) (ry : B4 y u) :
  KT H (M5 kvs k y) (storedH xs k b u):=by
 have e : (kvs.any fun kv=>decide (kv.1 = k)) = (atKey xs k).isSome:=by
  rw [Z8e,(r.val k).isSome_eq,Option.isSome_map]
 unfold M5 storedH
 rw [e]
 by_cases q : (atKey xs k).isSome = true
 ·rw [if_pos q,if_pos q]; exact r.repl k ry
 ·rw [if_neg q,if_neg q]; exact Paired.snoc r ⟨rfl,hb,ry⟩
theorem KT.keeps {H H' : Hp} {kvs : List (List B0 × V)} {xs : List (List B0 × Addr × Value)} (r : KT H kvs xs) (ht : ∀ b ys,H b = some (.tup ys) -> H' b = some (.tup ys)) : KT H' kvs xs :=
 Paired.mapP r fun _ _ z=>⟨z.1,ht _ _ z.2.1,z.2.2⟩
section
variable {P : Program} {w : World} {H : Hp} {h : Heap} {a : Addr}
theorem Z5i {u : HO} (ok : F1 P w H h) (e : Rd H a u) : F6 P w H h a u:=e.ok ok
theorem Q3h {kvs : List (B0 × V)} (ok : F1 P w H h) (e : Rd H a (.dK kvs)) : kvs.length <= sizeLine /\ (a == sysModules) = false /\ ∃ vs,KV kvs vs /\ h.DictOf (J2 P w) a vs :=
 show F6 P w H h a (.dK kvs) from Z5i ok e
theorem Q6c {kvs : List (B0 × V)} (ok : F1 P w H h) (e : H a = some (.dK kvs)) : kvs.length <= sizeLine /\ (a == sysModules) = false /\ ∃ vs,KV kvs vs /\ h.DictOf (J2 P w) a vs:=Q3h ok (.inl e)
theorem Q3i {ks : List B0} (ok : F1 P w H h) (e : H a = some (.tup (ks.map kV))) : (tupleKind (J2 P w)).is h ks a:=by
 obtain ⟨_,its,r,o,h1,h2,n,h3⟩:=(show F6 P w H h a (.tup (ks.map kV)) from ok a _ e)
 exact ⟨o,its.toArray,n,h1,h2,h3,by simpa using Y0w r⟩
theorem Q3d {kvs : List (List B0 × V)} (ok : F1 P w H h) (e : Rd H a (.dT kvs)) : kvs.length <= sizeLine /\ (a == sysModules) = false /\
  ∃ xs,KT H kvs xs /\ h.DictOfH (tupleKind (J2 P w)) a xs:=by
 obtain ⟨z,y,xs,r,o,es,ep,h1,h2,h3,h4,h5⟩:=(show F6 P w H h a (.dT kvs) from Z5i ok e)
 refine ⟨z,y,xs,r,o,es,ep,h1,h2,h3,h4,fun x hx=>?_,h5⟩
 have all : ∀ {l : List (List B0 × V)} {m : List (List B0 × Addr × Value)},KT H l m -> ∀ x ∈ m,(tupleKind (J2 P w)).is h x.1 x.2.1:=by
  intro l m q
  induction q with
  | nil=>intro x hx; exact nomatch hx
  | @cons p q ps qs hq t ih =>
   intro x hx
   rcases List.mem_cons.mp hx with e | hx
   ·subst e
    exact Q3i ok (by rw [<- hq.1]; exact hq.2.1)
   ·exact ih x hx
 exact all r x hx
theorem Y0f {kvs : List (List B0 × V)} (ok : F1 P w H h) (e : H a = some (.dT kvs)) : kvs.length <= sizeLine /\ (a == sysModules) = false /\
  ∃ xs,KT H kvs xs /\ h.DictOfH (tupleKind (J2 P w)) a xs:=Q3d ok (.inl e)
end
def T7 (H : Hp) (a : Addr) (y : V) (r : Option V) : Prop :=
 (∃ kvs k,Rd H a (.dK kvs) /\ y = kV k /\ r = P3 kvs k) \/ ∃ kvs k b,Rd H a (.dT kvs) /\ y = .ref b /\ H b = some (.tup (k.map kV)) /\ r = P3 kvs k
def Q1f (H : Hp) (a : Addr) (y v : V) (H' : Hp) : Prop :=
 (∃ kvs k,H a = some (.dK kvs) /\ y = kV k /\ kvs.length < sizeLine /\ H' = upd H a (.dK (M5 kvs k v))) \/
 ∃ kvs k b,H a = some (.dT kvs) /\ y = .ref b /\ H b = some (.tup (k.map kV)) /\ kvs.length < sizeLine /\ H' = upd H a (.dT (M5 kvs k v))
theorem T7.k {H : Hp} {a : Addr} {kvs : List (B0 × V)} {k : B0} (e : H a = some (.dK kvs)) : T7 H a (kV k) (P3 kvs k):=.inl ⟨kvs,k,.inl e,rfl,rfl⟩
theorem T7.t {H : Hp} {a b : Addr} {kvs : List (List B0 × V)} {k : List B0} (e : H a = some (.dT kvs)) (eb : H b = some (.tup (k.map kV))) : T7 H a (.ref b) (P3 kvs k):=.inr ⟨kvs,k,b,.inl e,rfl,eb,rfl⟩
theorem Q1f.k {H : Hp} {a : Addr} {kvs : List (B0 × V)} {k : B0} {v : V} (e : H a = some (.dK kvs)) (hl : kvs.length < sizeLine) : Q1f H a (kV k) v (upd H a (.dK (M5 kvs k v))):=.inl ⟨kvs,k,e,rfl,hl,rfl⟩
theorem Q1f.t {H : Hp} {a b : Addr} {kvs : List (List B0 × V)} {k : List B0} {v : V} (e : H a = some (.dT kvs)) (eb : H b = some (.tup (k.map kV))) (hl : kvs.length < sizeLine) :
  Q1f H a (.ref b) v (upd H a (.dT (M5 kvs k v))):=.inr ⟨kvs,k,b,e,rfl,eb,hl,rfl⟩
section
variable {X : Cx} {pins : Pn9} {σ : St} {H : Hp} {s : Shared} {a : Addr} {y v : V} {u r : Value} {o : Option V} {A : Around} {E : VS9}
theorem A1.big (I : A1 X pins σ H s) : sysModules < s.heap.objs.size:=by
 have h : mainGlobals < s.heap.objs.size:=(I.mod.glob.keeps I.bk).lt
 exact Nat.lt_trans (by decide) h
theorem Y6i {Q : VS9} (hu : A.units + 1 < cLine) (I : A1 X pins σ H s) (g : T7 H a y (some v)) (ry : B4 y u) (h : ∀ w' s',A1 X pins σ H s' -> B4 v w' -> Q w' s') :
  wpAny (model X.prog X.w) A (getItem (.ref a) u) Q E s:=by
 rcases g with ⟨kvs,k,e,ey,l⟩ | ⟨kvs,k,b,e,ey,eb,l⟩
 ·subst ey
  obtain ⟨z,hd,vs,rel,dd⟩:=Q3h I.hok e
  obtain ⟨w',hw,rw'⟩:=W8.some_of (v:=v) (o:=valueAt vs k) (by rw [l]; exact rel.val k)
  exact wpAny_getItem_of (Q0v ry) dd.mapOf hw (h w' _ (I.tok _) rw')
 ·subst ey
  cases (show u = Value.ref b from ry)
  obtain ⟨z,hd,xs,rel,dd⟩:=Q3d I.hok e
  obtain ⟨w',hw,rw'⟩:=W8.some_of (v:=v) (o:=(atKey xs k).map (·.2)) (by rw [l]; exact rel.val k)
  obtain ⟨p,hp,hp2⟩:=Option.map_eq_some_iff.mp hw
  refine wpAny_getItem_heap (tupleKind_room_in1 hu) (Q3i I.hok eb) dd hp ?_
  rw [hp2]
  exact h w' _ (I.tok _) rw'
theorem W2z {Q : VS9} (hu : A.units + 1 < cLine) (I : A1 X pins σ H s) (g : T7 H a y o) (ry : B4 y u) (h : ∀ s',A1 X pins σ H s' -> Q (.bool (!o.isSome)) s') :
  wpAny (model X.prog X.w) A (compareOp .NotIn u (.ref a)) Q E s:=by
 rcases g with ⟨kvs,k,e,ey,l⟩ | ⟨kvs,k,b,e,ey,eb,l⟩
 ·subst ey
  obtain ⟨z,hd,vs,rel,dd⟩:=Q3h I.hok e
  refine wpAny_notIn_of (Q0v ry) hd dd.mapOf ?_
  rw [<- (rel.val k).isSome_eq,<- l]
  exact h _ (I.tok _)
 ·subst ey
  cases (show u = Value.ref b from ry)
  obtain ⟨z,hd,xs,rel,dd⟩:=Q3d I.hok e
  refine wpAny_notIn_heap (tupleKind_room_in1 hu) (Q3i I.hok eb) hd dd ?_
  have q:=(rel.val k).isSome_eq
  rw [Option.isSome_map] at q
  rw [<- q,<- l]
  exact h _ (I.tok _)
theorem Q2t {h' : Heap} {t' : Nat} {ob : HO} (I : A1 X pins σ H s) (mu : Mut (H a)) (hs : Heap.SameBut a s.heap h') (he : ∃ q,h'.get? a = some q) (new : F6 X.prog X.w (upd H a ob) h' a ob) :
  A1 X pins σ (upd H a ob) { s with heap:=h',toks:=t' } :=
 I.write (x:=a) (e:=a) mu (.inl rfl) (fun b q hb z=>(hs.2 b hb).trans z) he new
theorem Z1h {P : Program} {w : World} {H' : Hp} {h' : Heap} {kvs : List (B0 × V)} {vs : List (B0 × Value)} (z : kvs.length <= sizeLine) (hd : (a == sysModules) = false) (rel : KV kvs vs) (dd : h'.DictOf (J2 P w) a vs) :
  F6 P w H' h' a (.dK kvs):=⟨z,hd,vs,rel,dd⟩
theorem W2b {H' : Hp} {Q : Unit -> Shared -> Prop} (hu : A.units + 1 < cLine) (I : A1 X pins σ H s) (g : Q1f H a y v H') (ry : B4 y u) (rv : B4 v r) (h : ∀ s',A1 X pins σ H' s' -> Q () s') :
  wpAny (model X.prog X.w) A (setItem (.ref a) u r) Q E s:=by
 rcases g with ⟨kvs,k,e,ey,l,eH⟩ | ⟨kvs,k,b,e,ey,eb,l,eH⟩
 ·subst ey eH
  obtain ⟨z,hd,vs,rel,dd⟩:=Q6c I.hok e
  have hz : vs.length <= sizeLine:=by rw [<- rel.length]; exact z
  have hl : (M5 kvs k v).length <= sizeLine:=by have:=Q4z kvs k v; omega
  refine wpAny_setItem_pairs (hsz:=hz) (Q0v ry) dd fun h' dd' hs=>h _ ?_
  have he : ∃ q,h'.get? a = some q:=let ⟨q,_,_,hq,_⟩:=dd'; ⟨q,hq⟩
  exact Q2t I (by rw [e]; exact True.intro) hs he (Z1h hl hd (rel.put k rv) dd')
 ·subst ey eH
  cases (show u = Value.ref b from ry)
  obtain ⟨z,hd,xs,rel,dd⟩:=Y0f I.hok e
  have hz : xs.length <= sizeLine:=by rw [<- Paired.length rel]; exact z
  have hl : (M5 kvs k v).length <= sizeLine:=by have:=Q4z kvs k v; omega
  refine wpAny_setItem_heap (hsz:=hz) (tupleKind_room_in1 hu) (Q3i I.hok eb) dd fun h' dd' hs=>h _ ?_
  obtain ⟨q,es,ep,hq,h2,h3,h4,_,h5⟩:=dd'
  refine Q2t I (by rw [e]; exact True.intro) hs ⟨q,hq⟩ ⟨hl,hd,_,(rel.put k eb rv).keeps fun c ys ec=>?_,q,es,ep,hq,h2,h3,h4,h5⟩
  rw [A9 (W9 ec e (fun z=>nomatch z))]
  exact ec
end
section
variable {X : Cx} {pins : Pn9} {σ : St} {H : Hp} {s : Shared} {a : Addr} {kvs : List (B0 × V)} {k : B0} {u : Value} {A : Around} {E : VS9}
end
def Q5y (i : Expr) : Prop:=∀ ov iv,subscripted i false ov iv = operate [ov,iv] (getItem ov iv)
theorem W5m {prog : Program} {w : World} {A : Around} {E : VS9} {s : Shared} {env : Env} {value slice : Expr} {pos : Pos} {T id : String} {Q : VS9}
  (hl : typeLookup (.type T) "__getitem__" = pure (some (.builtin id))) (hs : Q5y slice)
  (h : wpAny (model prog w) A (eval value env) (fun o s₁=>wpAny (model prog w) A (eval slice env) (fun i s₂=>s₂.TypeIs o T /\ wpAny (model prog w) A (getItem o i) Q E s₂) E s₁) E s) :
  wpAny (model prog w) A (eval (.Subscript value slice pos) env) Q E s:=by
 refine Subscript_ (wpAny_mono h (fun o s₁ h₁=>wpAny_mono h₁ (fun i s₂ h₂=>?_) fun _ _ x=>x) fun _ _ x=>x)
 obtain ⟨hT,h₂⟩:=h₂
 unfold subscriptTail
 refine wpAny_bind ?_
 rw [getitemInPython_of_ne hT.not_modules]
 refine wpAny_bind (wpAny_specialOf hT hl ?_)
 have fin : wpAny (model prog w) A (subscripted slice false o i) (fun r s₃=>wpAny (model prog w) A (letTemporaryGo value o r >>= fun _=>pure r) Q E s₃) E s₂:=by
  rw [hs o i]
  exact wpAny_operating (wpAny_mono h₂ (fun r s₃ h₃=>wpAny_bind (wpAny_letTemporaryGo (wpAny_pure h₃))) fun _ _ x=>x)
 first
  | exact wpAny_pure (wpAny_bind fin)
  | exact wpAny_bind (wpAny_pure (wpAny_bind fin))
  | exact wpAny_bind fin
theorem Y8o {X : Cx} {pins : Pn9} {σ : St} {H : Hp} {s : Shared} {a : Addr} {y : V} {o : Option V} (I : A1 X pins σ H s) (g : T7 H a y o) : s.TypeIs (.ref a) "dict":=by
 rcases g with ⟨kvs,k,e,_,_⟩ | ⟨kvs,k,b,e,_,_,_⟩
 ·obtain ⟨_,_,vs,_,dd⟩:=Q3h I.hok e
  exact dd.typeIs
 ·obtain ⟨_,_,xs,_,dd⟩:=Q3d I.hok e
  exact dd.typeIs
def Y2w (td ty : TE) : TE:=fun σ H Q=>td σ H fun x H1=>ty σ H1 fun y H2=>∃ a v,x = .ref a /\ T7 H2 a y (some v) /\ Q v H2
def Y7u (ty td : TE) : TE:=fun σ H Q=>ty σ H fun y H1=>td σ H1 fun x H2=>∃ a o,x = .ref a /\ T7 H2 a y o /\ Q (.bl (!o.isSome)) H2
def Y7o (td ty tv : TE) : TS:=fun D σ H=>tv σ H fun v H1=>td σ H1 fun x H2=>ty σ H2 fun y H3=>∃ a H4,x = .ref a /\ Q1f H3 a y v H4 /\ D.nx σ H4
section
variable {X : Cx} {o i e value : Expr} {pos pos' tpos : Pos} {td ty tv : TE}
theorem Z1v (hu : X.A.units + 1 < cLine) (ho : PE X o td) (hi : PE X i ty) (hs : Q5y i) : PE X (.Subscript o i pos) (Y2w td ty):=by
 intro pins s σ H Q I h
 refine W5m PySem.F.slot_dict_getitem.lookup hs (B2 (ho pins s σ H _ I h) fun u s1 ⟨x,H1,I1,rx,q1⟩=>B2 (hi pins s1 σ H1 _ I1 q1) fun iv s2 ⟨y,H2,I2,ry,a,v,ex,g,q2⟩=>?_)
 subst ex
 obtain rfl : u = Value.ref a:=rx
 exact ⟨Y8o I2 g,Y6i hu I2 g ry fun w' s3 I3 rw'=>⟨v,H2,I3,rw',q2⟩⟩
theorem Z8w (hu : X.A.units + 1 < cLine) (hi : PE X i ty) (ho : PE X o td) : PC X .NotIn i o (Y7u ty td):=by
 intro pins s σ H Q I h
 refine B2 (hi pins s σ H _ I h) fun iv s1 ⟨y,H1,I1,ry,q1⟩=>B2 (ho pins s1 σ H1 _ I1 q1) fun u s2 ⟨x,H2,I2,rx,a,ov,ex,g,q2⟩=>?_
 subst ex
 obtain rfl : u = Value.ref a:=rx
 exact W2z hu I2 g ry fun s3 I3=>⟨.bl (!ov.isSome),H2,I3,rfl,q2⟩
theorem Z4u (hu : X.A.units + 1 < cLine) (ho : PE X o td) (hi : PE X i ty) (hv : PE X value tv) (hs : swapsWith value (some (.Subscript o i pos')) pos.line X.env = pure false) :
  PS X (.Assign [.Subscript o i pos'] value pos) (Y7o td ty tv):=by
 intro pins s σ H D I h
 refine wpAny_Assign_Subscript (B2 (hv pins s σ H _ I h) fun r s1 ⟨v,H1,I1,rv,q1⟩=>B2 (ho pins s1 σ H1 _ I1 q1) fun u s2 ⟨x,H2,I2,rx,q2⟩=>B2 (hi pins s2 σ H2 _ I2 q2) fun iv s3 ⟨y,H3,I3,ry,a,H4,ex,g,q3⟩=>?_) hs
 subst ex
 obtain rfl : u = Value.ref a:=rx
 exact W2b hu I3 g ry rv fun s4 I4=>⟨σ,H4,I4,q3⟩
end
theorem Z8x {P : Program} {w : World} {H : Hp} (h : Heap) (hb : sysModules < h.objs.size) : F6 P w H (h.push { cls:=.type "dict",data:=.dict #[] }) h.objs.size (.dK []) :=
 ⟨Nat.zero_le _,beq_eq_false_iff_ne.mpr (Ne.symm (Nat.ne_of_lt hb)),[],.nil,Heap.DictOf.new h⟩
theorem Y9z {P : Program} {w : World} {H : Hp} (h : Heap) (hb : sysModules < h.objs.size) : F6 P w H (h.push { cls:=.type "dict",data:=.dict #[] }) h.objs.size (.dT []) :=
 ⟨Nat.zero_le _,beq_eq_false_iff_ne.mpr (Ne.symm (Nat.ne_of_lt hb)),[],.nil,_,#[],0,Heap.get?_push_size _ rfl,⟨rfl,rfl,rfl⟩,rfl,rfl,List.nodup_nil⟩
def Y5f : TE:=fun _ H Q=>∀ p,H p = none -> Q (.ref p) (upd H p (.dK []))
section
variable {X : Cx} {pos : Pos}
theorem W3s : PE X (.Dict [] [] pos) Y5f:=fun pins s σ H Q I h =>
 wpAny_Dict_empty ⟨.ref s.heap.objs.size,_,I.laid (a:=s.heap.objs.size) (o:=.dK []) (t':=s.toks) (fun _ _ q=>Heap.get?_push_of_some _ q) (Nat.le_refl _) (Z8x s.heap I.big),rfl,h _ (I.hok.fresh (Nat.le_refl _))⟩
end
noncomputable def Z2a : List (TE × TE) -> St -> Hp -> (List (V × V) -> Hp -> Prop) -> Prop
 | [],_,H,Q=>Q [] H
 | (tk,tv) :: r,σ,H,Q=>tk σ H fun x H1=>tv σ H1 fun y H2=>Z2a r σ H2 fun ps H3=>Q ((x,y) :: ps) H3
noncomputable abbrev VV : List (V × V) -> List (Value × Value) -> Prop:=Paired fun p q=>B4 p.1 q.1 /\ B4 p.2 q.2
def PPs (X : Cx) (pos : Pos) (keys : List (Option Expr)) (values : List Expr) (trs : List (TE × TE)) : Prop :=
 ∀ (pins : Pn9) (s : Shared) (σ : St) (H : Hp) (Q : List (V × V) -> Hp -> Prop),A1 X pins σ H s -> Z2a trs σ H Q ->
  wpAny (model X.prog X.w) X.A (evalPairs (pairTrees keys values X.env pos)) (fun vs s'=>∃ ps H',A1 X pins σ H' s' /\ VV ps vs /\ Q ps H') X.xe s
theorem W1p {X : Cx} {pos : Pos} : PPs X pos [] [] []:=fun pins s σ H Q I h=>pairTrees_nil_walk ⟨[],H,I,.nil,h⟩
theorem Y9x {X : Cx} {pos : Pos} {k v : Expr} {ks : List (Option Expr)} {vs : List Expr} {tk tv : TE} {trs : List (TE × TE)} (hk : PE X k tk) (hv : PE X v tv) (hr : PPs X pos ks vs trs) :
  PPs X pos (some k :: ks) (v :: vs) ((tk,tv) :: trs):=fun pins s σ H Q I h =>
 pairTrees_cons_walk (B2 (hk pins s σ H _ I h) fun u s1 ⟨x,H1,I1,rx,q1⟩=>B2 (hv pins s1 σ H1 _ I1 q1) fun w2 s2 ⟨y,H2,I2,ry,q2⟩ =>
  B2 (hr pins s2 σ H2 _ I2 q2) fun ws s3 ⟨ps,H3,I3,rel,q3⟩=>⟨(x,y) :: ps,H3,I3,.cons ⟨rx,ry⟩ rel,q3⟩)
noncomputable def Q4c (kvs more : List (B0 × V)) : List (B0 × V):=more.foldl (fun acc kv=>M5 acc kv.1 kv.2) kvs
theorem KV.merge : ∀ {more : List (B0 × V)} {rs : List (B0 × Value)} {kvs : List (B0 × V)} {vs : List (B0 × Value)},KV more rs -> KV kvs vs -> KV (Q4c kvs more) (merged vs rs):=by
 intro more rs kvs vs r
 unfold KV at r
 induction r generalizing kvs vs with
 | nil=>intro q; exact q
 | @cons p q ps qs h t ih =>
  intro r0
  have e : KV (M5 kvs p.1 p.2) (stored vs q.1 q.2):=by
   have:=r0.put p.1 h.2
   rw [<- h.1]; exact this
  exact ih e
theorem Z6l : ∀ (more kvs : List (B0 × V)),(Q4c kvs more).length <= kvs.length + more.length
 | [],kvs=>by show kvs.length <= kvs.length + 0; omega
 | p :: r,kvs=>by
  have h1:=Z6l r (M5 kvs p.1 p.2)
  have h2:=Q4z kvs p.1 p.2
  show (Q4c (M5 kvs p.1 p.2) r).length <= _
  rw [List.length_cons]; omega
theorem Y2e {P : Program} {w : World} : ∀ {kvs : List (B0 × V)} {ws : List (Value × Value)},VV (kvs.map fun kv=>(kV kv.1,kv.2)) ws -> ∃ rs,Carries (J2 P w) ws rs /\ KV kvs rs
 | [],_,r=>by rw [List.map_nil] at r; cases r; exact ⟨[],True.intro,.nil⟩
 | p :: kvs,_,r=>by
  rw [List.map_cons] at r
  cases r with
  | @cons a b as bs h t =>
   obtain ⟨rs,c,q⟩:=Y2e (P:=P) (w:=w) t
   obtain ⟨b1,b2⟩:=b
   exact ⟨(p.1,b2) :: rs,⟨Q0v h.1,rfl,c⟩,.cons ⟨rfl,h.2⟩ q⟩
def Y8b (trs : List (TE × TE)) : TE:=fun σ H Q=>∀ p,H p = none -> Z2a trs σ (upd H p (.dK [])) fun ps H2=>H2 p = some (.dK []) /\ ∃ kvs : List (B0 × V),ps = kvs.map (fun kv=>(kV kv.1,kv.2)) /\ kvs.length <= 15 /\ Q (.ref p) (upd H2 p (.dK (Q4c [] kvs)))
theorem W0z {X : Cx} {pos : Pos} {keys : List (Option Expr)} {values : List Expr} {trs : List (TE × TE)} (h : PPs X pos keys values trs) (hall : keys.all (·.isSome) = true) (hl : keys.length = values.length) (h0 : keys ≠ [])
  (h15 : keys.length <= 15) : PE X (.Dict keys values pos) (Y8b trs):=by
 intro pins s σ H Q I q
 have hn:=I.hok.fresh (Nat.le_refl s.heap.objs.size)
 have I1:=I.laid (a:=s.heap.objs.size) (o:=.dK []) (h':=s.heap.push { cls:=.type "dict",data:=.dict #[] }) (t':=s.toks) (fun _ _ q=>Heap.get?_push_of_some _ q) (Nat.le_refl _) (Z8x s.heap I.big)
 refine wpAny_Dict_walk (knd:=J2 X.prog X.w) hall hl h0 h15 (B2 (h pins _ σ _ _ I1 (q _ hn)) fun ws s2 ⟨ps,H2,I2,rel,e,kvs,ep,lk,q2⟩=>?_)
 subst ep
 obtain ⟨rs,c,rk⟩:=Y2e (P:=X.prog) (w:=X.w) rel
 obtain ⟨z,hd,vs0,r0,dd⟩:=Q6c I2.hok e
 cases r0
 refine ⟨rs,c,dd,fun h' dd' hs=>⟨.ref s.heap.objs.size,_,?_,rfl,q2⟩⟩
 have hz : (Q4c [] kvs).length <= sizeLine:=by
  have h1:=Z6l kvs []
  rw [List.length_nil] at h1
  rw [sizeLine_eq]; omega
 have he : ∃ q,h'.get? s.heap.objs.size = some q:=let ⟨q,_,_,hq,_⟩:=dd'; ⟨q,hq⟩
 exact Q2t I2 (by rw [e]; exact True.intro) hs he (Z1h hz hd (rk.merge .nil) dd')
structure M1 (X : Cx) (o : Expr) (m : Str) (apos : Pos) (e : Expr) (cpos : Pos) : Prop where
 base : attributeBase o m X.env (eval o X.env) = eval o X.env
 few : ((backTo cpos (starEach [e] X.env)).all (fun x=>!x.1) && (backToKw cpos (keywordEach [] X.env)).all (fun x=>x.1.isSome)
  && decide (([e] : List Expr).length + ([] : List Keyword).length + (if ([] : List Keyword).isEmpty then 0 else 1) < 30)) = true
 line : (apos.endLine == cpos.line) = true
 trees : backTo cpos (starEach [e] X.env) = [(false,eval e X.env)]
structure M2 (X : Cx) (o : Expr) (m : Str) (apos : Pos) (e f : Expr) (cpos : Pos) : Prop where
 base : attributeBase o m X.env (eval o X.env) = eval o X.env
 few : ((backTo cpos (starEach [e,f] X.env)).all (fun x=>!x.1) && (backToKw cpos (keywordEach [] X.env)).all (fun x=>x.1.isSome)
  && decide (([e,f] : List Expr).length + ([] : List Keyword).length + (if ([] : List Keyword).isEmpty then 0 else 1) < 30)) = true
 line : (apos.endLine == cpos.line) = true
 trees : backTo cpos (starEach [e,f] X.env) = [(false,eval e X.env),(false,eval f X.env)]
def IsD (H : Hp) (a : Addr) : Prop:=(∃ kvs,Rd H a (.dK kvs)) \/ ∃ kvs,Rd H a (.dT kvs)
theorem Z4j {X : Cx} {pins : Pn9} {σ : St} {H : Hp} {s : Shared} {a : Addr} (I : A1 X pins σ H s) (d : IsD H a) :
  s.TypeIs (.ref a) "dict" /\ (∀ b,Value.ref a = .ref b -> ∃ ob,s.heap.get? b = some ob /\ ob.dict = none) /\ (a == sysModules) = false:=by
 rcases d with ⟨kvs,e⟩ | ⟨kvs,e⟩
 ·obtain ⟨_,hd,vs,_,dd⟩:=Q3h I.hok e
  refine ⟨dd.typeIs,fun b q=>?_,hd⟩
  cases q
  obtain ⟨ob,_,_,h1,h2,_⟩:=dd
  exact ⟨ob,h1,h2.2.1⟩
 ·obtain ⟨_,hd,xs,_,dd⟩:=Q3d I.hok e
  refine ⟨dd.typeIs,fun b q=>?_,hd⟩
  cases q
  obtain ⟨ob,_,_,h1,h2,_⟩:=dd
  exact ⟨ob,h1,h2.2.1⟩
section
variable {X : Cx} {pins : Pn9} {σ : St} {H : Hp} {s : Shared} {a : Addr} {y d : V} {u r : Value} {o : Option V} {A : Around} {E : VS9}
theorem Y6r {Q : VS9} (hu : A.units + 1 < cLine) (I : A1 X pins σ H s) (g : T7 H a y o) (ry : B4 y u) (h : ∀ w' s',A1 X pins σ H s' -> B4 (o.getD .non) w' -> Q w' s') :
  wpAny (model X.prog X.w) A (call (.builtin "dict.get") [.ref a,u]) Q E s:=by
 rcases g with ⟨kvs,k,e,ey,l⟩ | ⟨kvs,k,b,e,ey,eb,l⟩
 ·subst ey
  obtain ⟨z,hd,vs,rel,dd⟩:=Q3h I.hok e
  refine call_meetsIn PySem.F.slot_dict_get dd.typeIs PySem.F.entry_dict_get (PySem.F.args_dict_get_2 _ _) (meets_dict_get (J2 X.prog X.w) a (Q0v ry) hd) ⟨_,dd.mapOf,h _ _ (I.tok _) ?_⟩
  rw [l]
  exact (rel.val k).getD rfl
 ·subst ey
  cases (show u = Value.ref b from ry)
  obtain ⟨z,hd,xs,rel,dd⟩:=Q3d I.hok e
  refine call_meetsIn PySem.F.slot_dict_get dd.typeIs PySem.F.entry_dict_get (PySem.F.args_dict_get_2 _ _) (meetsH_dict_get (tupleKind (J2 X.prog X.w)) a b hd) ⟨tupleKind_room_in1 hu,k,xs,Q3i I.hok eb,dd,h _ _ (I.tok _) ?_⟩
  rw [l]
  exact (rel.val k).getD rfl
end
def Y7c (td ty : TE) : TE:=fun σ H Q=>td σ H fun x H1=>∃ a,x = .ref a /\ IsD H1 a /\ ty σ H1 fun y H2=>∃ o,T7 H2 a y o /\ Q (o.getD .non) H2
section
variable {X : Cx} {o e f : Expr} {apos cpos : Pos} {td ty tx : TE}
theorem Y6g (hu : X.A.units + 1 < cLine) (ho : PE X o td) (he : PE X e ty) (m : M1 X o "get" apos e cpos) : PE X (.Call (.Attribute o "get" apos) [e] [] cpos) (Y7c td ty):=by
 intro pins s σ H Q I h
 refine wpAny_Call_method m.base m.few m.line PySem.F.plainAttrs_dict PySem.F.slot_dict_get PySem.F.type_dict_get (B2 (ho pins s σ H _ I h) fun u s1 ⟨x,H1,I1,rx,a,ex,d,q1⟩=>?_)
 subst ex
 obtain rfl : u = Value.ref a:=rx
 obtain ⟨t1,t2,_⟩:=Z4j I1 d
 refine ⟨t1,t2,?_⟩
 rw [m.trees]
 refine Calls.callWith_builtin rfl (Calls.evalArgs_plain (Calls.spliced_cons (B2 (he pins s1 σ H1 _ I1 q1) fun iv s2 ⟨y,H2,I2,ry,ov,g,q2⟩=>Calls.spliced_nil ?_)))
 exact Y6r hu I2 g ry fun w' s3 I3 rw'=>⟨_,H2,I3,rw',q2⟩
end
section
variable {X : Cx} {pins : Pn9} {σ : St} {H : Hp} {s : Shared} {a : Addr} {kvs : List (B0 × V)} {A : Around} {E : VS9}
end
section
variable {X : Cx} {pins : Pn9} {σ : St} {H : Hp} {s : Shared} {a : Addr} {y : V} {u : Value} {A : Around} {E : VS9}
end
end L2
namespace Att
open PySem PySem.W PySem.Calls PyProof.Rows
theorem W2e {P : Params} {h : Heap} : ∀ (ns : List Int) (vs : List Value),WellAll P h vs (ns.map WData.int) -> IntsAre vs ns:=by
 intro ns
 induction ns with
 | nil =>
  intro vs w
  rw [List.map_nil] at w
  cases w
  exact .nil
 | cons n ns ih =>
  intro vs w
  rw [List.map_cons] at w
  cases w with
  | cons a b =>
   cases a
   exact .cons _ _ (ih _ b)
theorem Y3d {l : OpenLaw} {n : Nat} (hn : l.most = some n) {P : Params} {h : Heap} {args : List WData} {vals : List Value}
  (hpre : l.row.toRowW.claim.pre args = true) (hwl : WellAll P h vals args) :
  ∃ a vs ns,vals = [Value.ref a] /\ args = [WData.list (ns.map WData.int)] /\ h.get? a = some { cls:=.type "list",data:=.seq vs.toArray } /\ IntsAre vs ns /\ ns.length <= n:=by
 have hsh : WShape.hasAll [] args [.list .int] = true:=(pre_splitW hpre).1
 have hc : l.pre.holds [] { args:=args } = true:=(pre_splitW hpre).2
 obtain ⟨d,r,rfl,h1,h2⟩:=hasAllW_cons hsh
 obtain rfl:=hasAllW_nil h2
 obtain ⟨xs,rfl,h3⟩:=hasW_list h1
 obtain ⟨ns,rfl⟩:=items_int h3
 have hlen : ns.length <= n:=by
  unfold OpenLaw.pre at hc
  have h4 : (WTm.not (.lt (.lit (.int (n : Int))) (.len (.arg 0)))).holds [] { args:=[.list (ns.map .int)] } = true:=by
   have h4:=(holds_andW hc).1
   rw [hn] at h4
   exact h4
  have h5:=condW_of h4 (w_not (w_lt w_lit (w_len_list (w_arg rfl))))
  rw [List.length_map] at h5
  refine Nat.le_of_not_lt fun q=>?_
  have q' : (n : Int) < ((ns.length : Nat) : Int):=by omega
  first
   | (rw [decide_eq_true q'] at h5; exact absurd h5 (by decide))
   | (simp at h5; omega)
 cases hwl with
 | cons w1 w2 =>
  cases w2
  cases w1 with
  | list ho hall=>exact ⟨_,_,ns,rfl,rfl,ho,W2e ns _ hall,hlen⟩
theorem Y2r (l : OpenLaw) (args : List WData) : l.row.toRowW.claim.post args (.bool true) args = true :=
 postW_of (r:=l.row.toRowW) (X:=(true == true))
  (show WShape.has [] (.bool true) .bool = true by first | rfl | decide | simp [WShape.has,WShape.arms,WShape.armsAll])
  (show (WTm.eq .res (.lit (.bool true))).value [] { args:=args,res:=some (.bool true),after:=args } = some (.bool (true == true)) from w_eq_bool (w_res rfl) w_lit) rfl
theorem attach_call {l : OpenLaw} {n : Nat} {q : Program} {loose : List Str} {XP : (Str -> Option Value) -> Heap -> Prop} {YP : World -> Heap -> Prop} {d : DefRec}
  (hn : l.most = some n) (hdf : d.params.defaults = [])
  (call : ∀ (w : World) (s₀ s₁ : Shared) (mg mb : Str -> Option Value) (fa : Addr) (o : Obj) (pm cd doc : Value) (a : Addr) (vs : List Value) (ns : List Int),
   Ground q loose [] XP w s₀ mg mb s₁.heap -> YP w s₁.heap ->
   s₁.heap.get? fa = some o -> o.data = .func (docDef d.name d.params d.body d.scope pm cd doc) -> s₁.heap.CodeRec cd d.name -> mg d.name = some (.ref fa) ->
   s₁.heap.get? a = some { cls:=.type "list",data:=.seq vs.toArray } -> IntsAre vs ns -> ns.length <= n -> s₁.gens = #[] ->
   codeAny (model l.prog w) callerA (.call (.ref fa) ⟨[.ref a],[]⟩) (fun r s'=>r = .ok (.ret (.bool true)) /\ OldK s₁.heap s'.heap /\ s'.os = s₁.os /\ AllBare s'.gens) s₁) :
  WalkO q loose XP YP l.row.toRowW d [] (fun f vs=>PySem.call f vs):=by
 intro w s₀ s₁ mg mb G Y fa o pm cd doc dV kV ho hd hcd hD hmg hg args vals as hpre hlay hrd hwl hlo
 obtain rfl : dV = .none:=Dflts.none hD hdf
 obtain rfl : kV = .none:=Dflts.noKw hD
 obtain ⟨a,vs,ns,rfl,rfl,hobj,hints,hlen⟩:=Y3d hn hpre hwl
 refine enter_call (codeAny_mono (call w s₀ s₁ mg mb fa o pm cd doc a vs ns G Y ho (fd_plain hd) hcd hmg hobj hints hlen hg) fun r s' hq=>?_)
 obtain ⟨rfl,h2,h3,h4⟩:=hq
 exact ⟨.inl ⟨.bool true,.bool true,[],rfl,fun _=>rfl,.bool true,Y2r l _,fun _=>⟨List.Pairwise.nil,fun _ hm=>(nomatch hm)⟩⟩,h2,h3,h4⟩
section
variable {prog : Program} {w : World} {A : Around} {E : VS9} {s : Shared} {K : Frag}
end
end Att
namespace L2
open PySem PySem.Spec PyProof.Rows
theorem Y1l : ∀ {vs : List Value} {ns : List Int},IntsAre vs ns -> C4 (ns.map V.int) vs
 | _,_,.nil=>.nil
 | _,_,.cons n t h=>.cons ⟨t,rfl⟩ (Y1l h)
end L2
namespace L2
open PySem PySem.Spec PyProof.Rows
end L2
/- THE LAST THEOREM (shape; LID,My.* are yours):
 My.Adr: a structure of the addresses that your layer names (classes,functions); My.Txt K t: a structure (Prop) of the equations over K;
 My.txt_mk : {K} {implicit addresses ..} (e1 : nsIn K mainGlobals "law" = some (some (.ref f))) (e2 : K.lookup f = some ⟨oc,od,.func (fnOf "law" "law" params body scope dV kV doc pm an cdv ct),sl⟩) (e3 : codeIn K cdv "law" = true) .. : ∃ t,My.Txt K t
theorem PySem.Challenge.cw_LID_holds : PySem.Challenge.rw_LID.Holds := by
 w_on; o_law; k_head; (case hw=>w_witness2)
 k_fill
 refine L2.walk_of (l:=PySem.Challenge.rw_LID) (n:=63) (k:=40) (x:="script") (CX:=fun w=>..) (sp:=fun _=>My.sp_law) rfl (by decide) rfl ⟨rfl,by decide,by decide⟩ (fun w h Y=>PySem.W.kIn_of Y) ?F ?S ?C
 case F =>
  intro w mg fa h KX G hmg
  have T : ∃ t,My.Txt (L2.KOf KX) t:=by
   dsimp only [L2.KOf]
   refine' My.txt_mk ?e1 ?e2 ?e3 ..
   (case e1=>PySem.W.k_is)
   (case e2=>PySem.W.k_is)
   ..
  obtain ⟨t,T⟩:=T
  have e0:=hmg.symm.trans (PySem.W.mg_of KX G T.law)
  cases e0
  exact ⟨_,fun s u=>.of_eq rfl,fun base kb nb=>My.law_fn T kb nb⟩
 case S=>exact fun w H a ns hl hO hS=>..
 case C=>exact ..
(the tactic k_is has no namespace: write k_is) -/
namespace L2
open PySem PySem.Spec PyProof.Rows
noncomputable def X9 (s : Stmt) : Arguments:=match s with
 | .FunctionDef _ a _ _ _ _ _ _ _ _=>a
 | _=>{ posonlyargs:=[],args:=[],vararg:=none,kwonlyargs:=[],kw_defaults:=[],kwarg:=none,defaults:=[] }
noncomputable def Q3 (s : Stmt) : List Stmt:=match s with
 | .FunctionDef _ _ b _ _ _ _ _ _ _=>b
 | _=>[]
noncomputable def C0 (s : Stmt) : Scope:=match s with
 | .FunctionDef _ _ _ _ _ _ sc _ _ _=>sc
 | _=>{ kind:=.function,names:=[],isGenerator:=false,isCoroutine:=false }
abbrev K6 : CXT:=fun _ _ _ _ _ _=>False
abbrev E0 : XK:=fun _ _ _=>False
theorem Q9e {X : Cx} : Z2z K6 X E0:=fun _ _ _ _ _ _ _ h=>h.elim
structure O5 (K : Fg9) (x qual : Str) (st : Stmt) (f : Addr) (fd : FuncData) : Prop where
 ex : ∃ (oc : Value) (od : Option Addr) (kV doc pm : Value) (an : Option Addr) (cdv ct : Value) (osl : Array (Option Value)),
  fd = PySem.W.fnOf x qual (X9 st) (Q3 st) (C0 st) .none kV doc pm an cdv ct /\ K.lookup f = some ⟨oc,od,.func fd,osl⟩ /\ PySem.W.codeIn K cdv qual = true
 kp : PySem.W.keepIn K (.ref f) = true
section
variable {P : Program} {w : World} {K : Fg9} {mg : Str -> Option Value} {base : Heap}
theorem O5.ok {x qual : Str} {st : Stmt} {f : Addr} {fd : FuncData} {N ps : List Str} {k : Nat} {sp : Sp} (F : O5 K x qual st f fd) (S : G2 N ps (C0 st)) (len : ∀ vs H Q E,sp vs H Q E -> vs.length = ps.length)
  (hbody : ∀ (cdv : Value) (A : Around) (outer : List Env) (s : Shared) (H : Hp) (vs : List V) (Q : VK) (E : XK),C5 k (A.deeper (envOfC qual (C0 st) s.heap.objs.size f cdv)) -> sp vs H Q E ->
   ∃ t,PSs (V0 K6 P w K mg base N qual (C0 st) f cdv A outer s H E).nox (Q3 st) t /\ t { nx:=fun _ H'=>Q .non H',rt:=Q } (start N vs) H) : P8 P w K mg base K6 (k + 1) f fd ps sp:=by
 obtain ⟨oc,od,kV,doc,pm,an,cdv,ct,osl,rfl,lk,hcd⟩:=F.ex
 refine Y0g lk hcd S len fun A outer s H vs Q E hr hsp=>?_
 obtain ⟨t,h,q⟩:=hbody cdv A outer s H vs Q E hr hsp
 exact ⟨t,h.nox,q⟩
theorem O5.binds {x qual : Str} {st : Stmt} {f : Addr} {fd : FuncData} {ps : List Str} (F : O5 K x qual st f fd)
  (h : ∀ (kV doc pm : Value) (an : Option Addr) (cdv ct : Value) (us : List Value),us.length = ps.length -> bindArgs (PySem.W.fnOf x qual (X9 st) (Q3 st) (C0 st) .none kV doc pm an cdv ct) ⟨us,[]⟩ = pure (ps.zip us)) : V6 K fd ps []:=by
 obtain ⟨oc,od,kV,doc,pm,an,cdv,ct,osl,rfl,lk,hcd⟩:=F.ex
 exact .all (h kV doc pm an cdv ct)
theorem Y7d {x qual : Str} {st : Stmt} {f : Addr} {oc : Value} {od an : Option Addr} {osl : Array (Option Value)} {kV doc pm cdv ct : Value} (l : K.lookup f = some ⟨oc,od,.func (PySem.W.fnOf x qual (X9 st) (Q3 st) (C0 st) .none kV doc pm an cdv ct),osl⟩)
  (c : PySem.W.codeIn K cdv qual = true) (k : PySem.W.keepIn K (.ref f) = true) : O5 K x qual st f (PySem.W.fnOf x qual (X9 st) (Q3 st) (C0 st) .none kV doc pm an cdv ct):=⟨⟨oc,od,kV,doc,pm,an,cdv,ct,osl,rfl,l,c⟩,k⟩
end
section
variable {X : Cx}
theorem pv (i : Nat) {x : Str} {pos : Pos} (hN : X.N[i]? = some x:=by rfl) (hv : Vis X.env.scope x:=by first | exact Or.inl rfl | exact Or.inr (Or.inl rfl) | exact Or.inr (Or.inr rfl)) (hd : (x == ("__debug__" : Str)) = false:=by decide)
  (hcd : (x == ("__classdict__" : Str)) = false:=by decide) : PE X (.Name x pos) (O4 i):=Y5b hN hv hd hcd
end
def A6 (H H' : Hp) : Prop:=∀ b o,H b = some o -> H' b = some o
theorem A6.refl (H : Hp) : A6 H H:=fun _ _ h=>h
theorem A6.trans {H H1 H2 : Hp} (a : A6 H H1) (b : A6 H1 H2) : A6 H H2:=fun c o h=>b c o (a c o h)
theorem A6.free {H H' : Hp} (e : A6 H H') {l : Addr} (h : H' l = Option.none) : H l = Option.none:=by
 cases q : H l with
 | none=>rfl
 | some o =>
  rw [e l o q] at h
  cases h
theorem A6.seq {K : Fg9} {H H' : Hp} {a : Addr} {xs : List V} (e : A6 H H') (h : D5 K H a xs) : D5 K H' a xs:=by
 rcases h with (h | ⟨o,h⟩) | h
 ·exact .inl (.inl (e _ _ h))
 ·exact .inl (.inr ⟨o,e _ _ h⟩)
 ·exact .inr h
section
variable {κ : Type} [DecidableEq κ]
end
end L2
end
section
namespace TK
open PySem PySem.Spec PyProof.Rows L2
noncomputable abbrev St:=L2.St
inductive D where
 | non | bl (b : Bool) | int (i : Int) | str (x : Str) | tup (xs : List D) | lst (xs : List D)
def FzL (K : Fg9) (H : Hp) (a : Addr) (xs : List V) : Prop :=
 (∃ o,H a = some (.frz o (.lst xs))) \/
  ∃ (o : Obj) (its : Array Value) (n : Nat),K.lookup a = some o /\ o.cls = .type "list" /\ o.dict = none /\ o.data = .seq its n /\ its.size <= sizeLine /\ C4 xs its.toList
theorem FzL.sq {K : Fg9} {H : Hp} {a : Addr} {xs : List V} (h : FzL K H a xs) : D5 K H a xs:=by
 rcases h with ⟨o,h⟩ | h
 ·exact .inl (.inr ⟨o,h⟩)
 ·exact .inr h
structure Kp (H H' : Hp) : Prop where
 tup : ∀ a xs,H a = some (.tup xs) -> H' a = some (.tup xs)
 frz : ∀ a o u,H a = some (.frz o u) -> H' a = some (.frz o u)
theorem Kp.refl (H : Hp) : Kp H H:=⟨fun _ _ h=>h,fun _ _ _ h=>h⟩
theorem Kp.trans {H H1 H2 : Hp} (a : Kp H H1) (b : Kp H1 H2) : Kp H H2:=⟨fun c xs h=>b.tup c xs (a.tup c xs h),fun c o u h=>b.frz c o u (a.frz c o u h)⟩
theorem Kp.of {H H' : Hp} (s : A6 H H') : Kp H H':=⟨fun a xs h=>s a _ h,fun a o u h=>s a _ h⟩
theorem Kp.upd {H : Hp} {a : Addr} {xs : List V} (h : H a = some (.lst xs)) (o : HO) : Kp H (upd H a o) :=
 ⟨fun c ys q=>by rw [A9 (W9 q h (by intro z; cases z))]; exact q,fun c ob u q=>by rw [A9 (W9 q h (by intro z; cases z))]; exact q⟩
theorem Kp.fzL {K : Fg9} {H H' : Hp} (k : Kp H H') {a : Addr} {xs : List V} (h : FzL K H a xs) : FzL K H' a xs:=by
 rcases h with ⟨o,h⟩ | h
 ·exact .inl ⟨o,k.frz _ _ _ h⟩
 ·exact .inr h
theorem F7 {H : Hp} {p : Addr} (h : H p = none) (o : HO) : A6 H (upd H p o):=fun b u q=>by rw [A9 (T2 q h)]; exact q
mutual
noncomputable def A2 (K : Fg9) (H : Hp) : D -> V -> Prop
 | .non,v=>v = .non
 | .bl b,v=>v = .bl b
 | .int i,v=>v = .int i
 | .str x,v=>v = .str x
 | .tup ds,v=>∃ a xs,v = .ref a /\ H a = some (.tup xs) /\ AllS K H ds xs
 | .lst ds,v=>∃ a xs,v = .ref a /\ FzL K H a xs /\ AllS K H ds xs
noncomputable def AllS (K : Fg9) (H : Hp) : List D -> List V -> Prop
 | [],vs=>vs = []
 | d :: ds,vs=>∃ v r,vs = v :: r /\ A2 K H d v /\ AllS K H ds r
end
section
variable {K : Fg9} {H H' H0 : Hp}
mutual
theorem A2.mono (k : Kp H H') : ∀ (d : D) (v : V),A2 K H d v -> A2 K H' d v
 | .non,v,h=>h
 | .bl _,v,h=>h
 | .int _,v,h=>h
 | .str _,v,h=>h
 | .tup ds,v,h=>by
  unfold A2 at h ⊢
  obtain ⟨a,xs,e,q,r⟩:=h
  exact ⟨a,xs,e,k.tup _ _ q,AllS.mono k ds xs r⟩
 | .lst ds,v,h=>by
  unfold A2 at h ⊢
  obtain ⟨a,xs,e,q,r⟩:=h
  exact ⟨a,xs,e,k.fzL q,AllS.mono k ds xs r⟩
theorem AllS.mono (k : Kp H H') : ∀ (ds : List D) (vs : List V),AllS K H ds vs -> AllS K H' ds vs
 | [],vs,h=>h
 | d :: ds,vs,h=>by
  unfold AllS at h ⊢
  obtain ⟨v,r,e,q,t⟩:=h
  exact ⟨v,r,e,A2.mono k d v q,AllS.mono k ds r t⟩
end
theorem AllS.length : ∀ {ds : List D} {vs : List V},AllS K H ds vs -> ds.length = vs.length
 | [],vs,h=>by unfold AllS at h; subst h; rfl
 | d :: ds,vs,h=>by
  unfold AllS at h
  obtain ⟨v,r,e,q,t⟩:=h
  subst e
  rw [List.length_cons,List.length_cons,AllS.length t]
theorem AllS.nil : AllS K H [] []:=by unfold AllS; rfl
theorem AllS.cons {d : D} {ds : List D} {v : V} {vs : List V} (h : A2 K H d v) (t : AllS K H ds vs) : AllS K H (d :: ds) (v :: vs):=by
 unfold AllS; exact ⟨v,vs,rfl,h,t⟩
theorem AllS.get : ∀ {ds : List D} {vs : List V} {i : Nat} {d : D},AllS K H ds vs -> ds[i]? = some d -> ∃ v,vs[i]? = some v /\ A2 K H d v
 | [],_,_,_,_,e=>by simp at e
 | d :: ds,vs,0,x,h,e=>by
  unfold AllS at h
  obtain ⟨v,r,rfl,q,t⟩:=h
  simp at e; subst e
  exact ⟨v,rfl,q⟩
 | d :: ds,vs,i + 1,x,h,e=>by
  unfold AllS at h
  obtain ⟨v,r,rfl,q,t⟩:=h
  obtain ⟨u,h1,h2⟩:=AllS.get (i:=i) t (by simpa using e)
  exact ⟨u,by simpa using h1,h2⟩
theorem AllS.append : ∀ {ds es : List D} {vs us : List V},AllS K H ds vs -> AllS K H es us -> AllS K H (ds ++ es) (vs ++ us)
 | [],_,vs,_,h,t=>by unfold AllS at h; subst h; exact t
 | d :: ds,es,vs,us,h,t=>by
  unfold AllS at h
  obtain ⟨v,r,rfl,q,s⟩:=h
  exact AllS.cons q (AllS.append s t)
theorem AllS.ints {ns : List Int} : AllS K H (ns.map D.int) (ns.map V.int):=by
 induction ns with
 | nil=>exact AllS.nil
 | cons n r ih=>exact AllS.cons (by unfold A2; rfl) ih
theorem A2.s_int {i : Int} : A2 K H (.int i) (.int i):=by unfold A2; rfl
theorem A2.s_bl {i : Bool} : A2 K H (.bl i) (.bl i):=by unfold A2; rfl
theorem A2.s_str {i : Str} : A2 K H (.str i) (.str i):=by unfold A2; rfl
theorem A2.s_non : A2 K H .non .non:=by unfold A2; rfl
theorem A2.s_tup {ds : List D} {a : Addr} {xs : List V} (q : H a = some (.tup xs)) (r : AllS K H ds xs) : A2 K H (.tup ds) (.ref a):=by unfold A2; exact ⟨a,xs,rfl,q,r⟩
theorem A2.s_lst {ds : List D} {a : Addr} {xs : List V} (q : FzL K H a xs) (r : AllS K H ds xs) : A2 K H (.lst ds) (.ref a):=by unfold A2; exact ⟨a,xs,rfl,q,r⟩
end
def Q3j (Φ : Hp -> Prop) : Prop:=∀ H H' : Hp,Kp H H' -> Φ H -> Φ H'
inductive R where
 | st (d : D) | nw (ds : List D) | bw (ds : List D) | dk (kvs : List (B0 × D)) | dt (kvs : List (List B0 × D)) | ob (a : Addr) | cl (a : Addr) (Φ : Hp -> Prop) | ms (a C : Addr) (d : D) (fs : List (Str × D))
noncomputable def B8 {κ : Type} (K : Fg9) (H : Hp) : List (κ × D) -> List (κ × V) -> Prop
 | [],vs=>vs = []
 | p :: ps,vs=>∃ v r,vs = (p.1,v) :: r /\ A2 K H p.2 v /\ B8 K H ps r
theorem B8.mono {κ : Type} {K : Fg9} {H H' : Hp} (k : Kp H H') : ∀ (ps : List (κ × D)) (vs : List (κ × V)),B8 K H ps vs -> B8 K H' ps vs
 | [],_,h=>h
 | p :: ps,vs,h=>by
  obtain ⟨v,r,e,q,t⟩:=h
  exact ⟨v,r,e,q.mono k _ _,B8.mono k ps r t⟩
noncomputable def E1 (K : Fg9) (H0 H : Hp) : R -> V -> Prop
 | .st d,v=>A2 K H d v
 | .nw ds,v=>∃ a xs,v = .ref a /\ H0 a = none /\ H a = some (.lst xs) /\ AllS K H ds xs
 | .bw ds,v=>∃ a xs,v = .ref a /\ H a = some (.lst xs) /\ AllS K H ds xs
 | .dk kvs,v=>∃ a ps,v = .ref a /\ H a = some (.dK ps) /\ B8 K H kvs ps
 | .dt kvs,v=>∃ a ps,v = .ref a /\ H a = some (.dT ps) /\ B8 K H kvs ps
 | .ob a,v=>v = .ref a
 | .cl a Φ,v=>v = .ref a /\ Φ H /\ Q3j Φ
 | .ms a C d fs,v=>A2 K H d v /\ ∃ dx vs,H a = some (.ins C dx vs) /\ B8 K H fs vs
theorem E1.mono {K : Fg9} {H0 H H' : Hp} (s : A6 H H') : ∀ {r : R} {v : V},E1 K H0 H r v -> E1 K H0 H' r v
 | .st d,v,h=>A2.mono (Kp.of s) d v h
 | .nw ds,v,h=>by obtain ⟨a,xs,e,n,q,t⟩:=h; exact ⟨a,xs,e,n,s _ _ q,t.mono (Kp.of s) _ _⟩
 | .bw ds,v,h=>by obtain ⟨a,xs,e,q,t⟩:=h; exact ⟨a,xs,e,s _ _ q,t.mono (Kp.of s) _ _⟩
 | .dk ds,v,h=>by obtain ⟨a,xs,e,q,t⟩:=h; exact ⟨a,xs,e,s _ _ q,t.mono (Kp.of s) _ _⟩
 | .dt ds,v,h=>by obtain ⟨a,xs,e,q,t⟩:=h; exact ⟨a,xs,e,s _ _ q,t.mono (Kp.of s) _ _⟩
 | .ob a,v,h=>h
 | .cl a Φ,v,h=>⟨h.1,h.2.2 _ _ (Kp.of s) h.2.1,h.2.2⟩
 | .ms a C d fs,v,h=>by obtain ⟨h1,dx,vs,q,t⟩:=h; exact ⟨h1.mono (Kp.of s) _ _,dx,vs,s _ _ q,t.mono (Kp.of s) _ _⟩
theorem E1.older {K : Fg9} {H0 H1 H : Hp} (s : A6 H0 H1) : ∀ {r : R} {v : V},E1 K H1 H r v -> E1 K H0 H r v
 | .st d,v,h=>h
 | .nw ds,v,h=>by obtain ⟨a,xs,e,n,q,t⟩:=h; exact ⟨a,xs,e,s.free n,q,t⟩
 | .bw ds,v,h=>h
 | .dk ds,v,h=>h
 | .dt ds,v,h=>h
 | .ob a,v,h=>h
 | .cl _ _,v,h=>h
 | .ms _ _ _ _,v,h=>h
noncomputable def LO (b : Addr) (xs : List V) : Heap -> Prop:=fun h=>xs.length <= sizeLine /\ ∃ (its : List Value) (n : Nat),C4 xs its /\ h.get? b = some { cls:=.type "list",data:=.seq its.toArray n }
noncomputable def G8 (K : Fg9) (H : Hp) : List Addr -> List (List D) -> Prop
 | [],dss=>dss = []
 | b :: bs,dss=>∃ ds r,dss = ds :: r /\ (∃ xs,H b = some (.ext (LO b xs)) /\ AllS K H ds xs) /\ G8 K H bs r
def Q5j (K : Fg9) (H0 H : Hp) (a : Addr) (dss : List (List D)) : Prop:=∃ bs o,H a = some (.frz o (.lst (bs.map V.ref))) /\ bs.Nodup /\ (∀ b ∈ bs,H0 b = none) /\ G8 K H bs dss
theorem G8.keep {K : Fg9} {H H' : Hp} (k : Kp H H') (x : ∀ b φ,H b = some (.ext φ) -> H' b = some (.ext φ)) : ∀ {bs : List Addr} {dss : List (List D)},G8 K H bs dss -> G8 K H' bs dss
 | [],_,h=>h
 | b :: bs,_,h=>by obtain ⟨ds,r,e,⟨xs,q,al⟩,t⟩:=h; exact ⟨ds,r,e,⟨xs,x _ _ q,al.mono k _ _⟩,G8.keep k x t⟩
theorem Q5j.keep {K : Fg9} {H0 H H' : Hp} {a : Addr} {dss : List (List D)} (h : Q5j K H0 H a dss) (k : Kp H H') (x : ∀ b φ,H b = some (.ext φ) -> H' b = some (.ext φ)) : Q5j K H0 H' a dss:=by
 obtain ⟨bs,o,q,n,f,t⟩:=h
 exact ⟨bs,o,k.frz _ _ _ q,n,f,t.keep k x⟩
inductive Sl where
 | dat (d : D) | own (ds : List D) | bor (ds : List D) | dk (kvs : List (B0 × D)) | dt (kvs : List (List B0 × D)) | ob (a : Addr) | cl (a : Addr) (Φ : Hp -> Prop) | ll (a : Addr) (dss : List (List D)) | ins (a C : Addr) (fs : List (Str × D))
noncomputable abbrev A8:=List (Option Sl)
noncomputable def Sl.mut : Sl -> Bool
 | .own _=>true
 | .dk _=>true
 | .dt _=>true
 | .ins _ _ _=>true
 | _=>false
noncomputable def SlR (K : Fg9) (H0 H : Hp) : Sl -> V -> Prop
 | .dat d,v=>A2 K H d v
 | .own ds,v=>∃ a xs,v = .ref a /\ H0 a = none /\ H a = some (.lst xs) /\ AllS K H ds xs
 | .bor ds,v=>∃ a xs,v = .ref a /\ H0 a = some (.lst xs) /\ AllS K H ds xs
 | .dk kvs,v=>∃ a ps,v = .ref a /\ H0 a = none /\ H a = some (.dK ps) /\ B8 K H kvs ps
 | .dt kvs,v=>∃ a ps,v = .ref a /\ H0 a = none /\ H a = some (.dT ps) /\ B8 K H kvs ps
 | .ob a,v=>v = .ref a
 | .cl a Φ,v=>v = .ref a /\ Φ H /\ Q3j Φ
 | .ll a dss,v=>v = .ref a /\ Q5j K H0 H a dss
 | .ins a C fs,v=>v = .ref a /\ H0 a = none /\ ∃ dx vs,H a = some (.ins C dx vs) /\ B8 K H fs vs
theorem SlR.mono {K : Fg9} {H0 H H' : Hp} (s : A6 H H') : ∀ {r : Sl} {v : V},SlR K H0 H r v -> SlR K H0 H' r v
 | .dat d,v,h=>A2.mono (Kp.of s) d v h
 | .own ds,v,h=>by obtain ⟨a,xs,e,n,q,t⟩:=h; exact ⟨a,xs,e,n,s _ _ q,t.mono (Kp.of s) _ _⟩
 | .bor ds,v,h=>by obtain ⟨a,xs,e,q,t⟩:=h; exact ⟨a,xs,e,q,t.mono (Kp.of s) _ _⟩
 | .dk ds,v,h=>by obtain ⟨a,xs,e,n,q,t⟩:=h; exact ⟨a,xs,e,n,s _ _ q,t.mono (Kp.of s) _ _⟩
 | .dt ds,v,h=>by obtain ⟨a,xs,e,n,q,t⟩:=h; exact ⟨a,xs,e,n,s _ _ q,t.mono (Kp.of s) _ _⟩
 | .ob a,v,h=>h
 | .cl a Φ,v,h=>⟨h.1,h.2.2 _ _ (Kp.of s) h.2.1,h.2.2⟩
 | .ll a dss,v,h=>⟨h.1,h.2.keep (Kp.of s) fun b φ q=>s _ _ q⟩
 | .ins a C fs,v,h=>by obtain ⟨e,n,dx,vs,q,t⟩:=h; exact ⟨e,n,dx,vs,s _ _ q,t.mono (Kp.of s) _ _⟩
structure B5 (K : Fg9) (H0 : Hp) (τ : A8) (σ : St) (H : Hp) : Prop where
 len : τ.length = σ.length
 same : A6 H0 H
 here : ∀ (i : Nat) (s : Sl),τ[i]? = some (some s) -> ∃ v,σ[i]? = some (some v) /\ SlR K H0 H s v
 apart : ∀ (i j : Nat) (s t : Sl) (v : V),i ≠ j -> τ[i]? = some (some s) -> τ[j]? = some (some t) -> s.mut = true -> t.mut = true -> σ[i]? = some (some v) -> σ[j]? = some (some v) -> False
theorem B5.mono {K : Fg9} {H0 H H' : Hp} {τ : A8} {σ : St} (h : B5 K H0 τ σ H) (s : A6 H H') : B5 K H0 τ σ H' :=
 ⟨h.len,h.same.trans s,fun i sl e=>let ⟨v,q,r⟩:=h.here i sl e; ⟨v,q,r.mono s⟩,h.apart⟩
noncomputable abbrev WE:=A8 -> (R -> Prop) -> Prop
def Z3u (K : Fg9) (H0 : Hp) (w : WE) : TE:=fun σ H Q=>∃ τ,B5 K H0 τ σ H /\ w τ fun r=>∀ v H',A6 H H' -> E1 K H H' r v -> Q v H'
structure DE (X : Cx) (H0 : Hp) (e : Expr) (w : WE) : Prop where
 mono : ∀ (τ : A8) (P Q : R -> Prop),(∀ r,P r -> Q r) -> w τ P -> w τ Q
 pe : PE X e (Z3u X.K H0 w)
noncomputable abbrev WT:=A8 -> (Bool -> Prop) -> Prop
def Z0o (K : Fg9) (H0 : Hp) (w : WT) : TT:=fun σ H Q=>∃ τ,B5 K H0 τ σ H /\ w τ fun b=>∀ H',A6 H H' -> Q b H'
structure DT (X : Cx) (H0 : Hp) (e : Expr) (w : WT) : Prop where
 mono : ∀ (τ : A8) (P Q : Bool -> Prop),(∀ r,P r -> Q r) -> w τ P -> w τ Q
 pt : PT X e (Z0o X.K H0 w)
structure DW (X : Cx) (H0 : Hp) (e : Expr) (w : WT) : Prop where
 mono : ∀ (τ : A8) (P Q : Bool -> Prop),(∀ r,P r -> Q r) -> w τ P -> w τ Q
 pw : PW X e (Z0o X.K H0 w)
noncomputable abbrev WA:=A8 -> (List R -> Prop) -> Prop
noncomputable def L6 (K : Fg9) (H0 H : Hp) : List R -> List V -> Prop
 | [],vs=>vs = []
 | r :: rs,vs=>∃ v t,vs = v :: t /\ E1 K H0 H r v /\ L6 K H0 H rs t
def Y4o (K : Fg9) (H0 : Hp) (w : WA) : TA:=fun σ H Q=>∃ τ,B5 K H0 τ σ H /\ w τ fun rs=>∀ vs H',A6 H H' -> L6 K H H' rs vs -> Q vs H'
structure DA (X : Cx) (H0 : Hp) (es : List Expr) (w : WA) : Prop where
 len : ∀ (τ : A8) (Q : List R -> Prop),w τ Q -> w τ fun rs=>rs.length = es.length /\ Q rs
 mono : ∀ (τ : A8) (P Q : List R -> Prop),(∀ r,P r -> Q r) -> w τ P -> w τ Q
 pa : PA X es (Y4o X.K H0 w)
structure E6 where
 nx : A8 -> Prop
 rt : R -> Prop
 bk : A8 -> Prop
 ct : A8 -> Prop
noncomputable abbrev WS:=E6 -> A8 -> Prop
structure E6.Le (E F : E6) : Prop where
 nx : ∀ τ,E.nx τ -> F.nx τ
 rt : ∀ r,E.rt r -> F.rt r
 bk : ∀ τ,E.bk τ -> F.bk τ
 ct : ∀ τ,E.ct τ -> F.ct τ
noncomputable def K9 (K : Fg9) (H0 Hs : Hp) (D : K4) : E6 where
 nx:=fun τ=>∀ σ H,Kp Hs H -> B5 K H0 τ σ H -> D.nx σ H
 rt:=fun r=>∀ v H,A6 H0 H -> E1 K H0 H r v -> D.rt v H
 bk:=fun τ=>∀ σ H,Kp Hs H -> B5 K H0 τ σ H -> D.bk σ H
 ct:=fun τ=>∀ σ H,Kp Hs H -> B5 K H0 τ σ H -> D.ct σ H
theorem Z1e {K : Fg9} {H0 H H1 : Hp} {D : K4} (k : Kp H H1) : (K9 K H0 H D).Le (K9 K H0 H1 D) :=
 ⟨fun τ h σ H2 k2 hR=>h σ H2 (k.trans k2) hR,fun _ h=>h,fun τ h σ H2 k2 hR=>h σ H2 (k.trans k2) hR,fun τ h σ H2 k2 hR=>h σ H2 (k.trans k2) hR⟩
def Z9a (K : Fg9) (H0 : Hp) (w : WS) : TS:=fun D σ H=>∃ τ,B5 K H0 τ σ H /\ w (K9 K H0 H D) τ
structure DS (X : Cx) (H0 : Hp) (st : Stmt) (w : WS) : Prop where
 mono : ∀ (τ : A8) (E F : E6),E.Le F -> w E τ -> w F τ
 ps : PS X st (Z9a X.K H0 w)
structure A4 (X : Cx) (H0 : Hp) (sts : List Stmt) (w : WS) : Prop where
 mono : ∀ (τ : A8) (E F : E6),E.Le F -> w E τ -> w F τ
 ps : PSs X sts (Z9a X.K H0 w)
theorem O0 {X : Cx} {e : Expr} {t t' : TE} (h : PE X e t) (f : ∀ σ H Q,t' σ H Q -> t σ H Q) : PE X e t':=fun pins s σ H Q I q=>h pins s σ H Q I (f σ H Q q)
theorem ptW {X : Cx} {e : Expr} {t t' : TT} (h : PT X e t) (f : ∀ σ H Q,t' σ H Q -> t σ H Q) : PT X e t':=fun pins s σ H Q I q=>h pins s σ H Q I (f σ H Q q)
theorem pwW {X : Cx} {e : Expr} {t t' : TT} (h : PW X e t) (f : ∀ σ H Q,t' σ H Q -> t σ H Q) : PW X e t':=fun whole pins s σ H Q I q=>h whole pins s σ H Q I (f σ H Q q)
theorem paW {X : Cx} {e : List Expr} {t t' : TA} (h : PA X e t) (f : ∀ σ H Q,t' σ H Q -> t σ H Q) : PA X e t':=fun pos pins s σ H Q I q=>h pos pins s σ H Q I (f σ H Q q)
theorem P4 {X : Cx} {e : Stmt} {t t' : TS} (h : PS X e t) (f : ∀ D σ H,t' D σ H -> t D σ H) : PS X e t':=fun pins s σ H D I q=>h pins s σ H D I (f D σ H q)
theorem Q7p {X : Cx} {e : List Stmt} {t t' : TS} (h : PSs X e t) (f : ∀ D σ H,t' D σ H -> t D σ H) : PSs X e t':=fun pins s σ H D I q=>h pins s σ H D I (f D σ H q)
noncomputable abbrev IsV (K : Fg9) (H : Hp) : R -> V -> Prop:=E1 K (fun _=>none) H
theorem E1.v {K : Fg9} {H0 H : Hp} : ∀ {r : R} {v : V},E1 K H0 H r v -> IsV K H r v
 | .st d,v,h=>h
 | .nw ds,v,h=>by obtain ⟨a,xs,e,n,q,t⟩:=h; exact ⟨a,xs,e,rfl,q,t⟩
 | .bw ds,v,h=>h
 | .dk ds,v,h=>h
 | .dt ds,v,h=>h
 | .ob a,v,h=>h
 | .cl _ _,v,h=>h
 | .ms _ _ _ _,v,h=>h
theorem Q5h {K : Fg9} {H0 H : Hp} {k : Bool} : E1 K H0 H (.st (.bl k)) (.bl k):=A2.s_bl (K:=K) (H:=H)
theorem X6 {K : Fg9} {H0 H : Hp} {k : Int} : E1 K H0 H (.st (.int k)) (.int k):=A2.s_int (K:=K) (H:=H)
theorem Y1v {K : Fg9} {H0 H : Hp} {k : Str} : E1 K H0 H (.st (.str k)) (.str k):=A2.s_str (K:=K) (H:=H)
section
variable {X : Cx} {H0 : Hp} {a b c e : Expr} {pos : Pos} {wa wb wc we : WE}
noncomputable def rdS : Sl -> R
 | .dat d=>.st d
 | .own ds=>.bw ds
 | .bor ds=>.bw ds
 | .dk k=>.dk k
 | .dt k=>.dt k
 | .ob a=>.ob a
 | .cl a Φ=>.cl a Φ
 | .ll a _=>.ob a
 | .ins a _ _=>.ob a
theorem SlR.rd {K : Fg9} {H0 H Hs : Hp} (s : A6 H0 H) : ∀ {r : Sl} {v : V},SlR K H0 H r v -> E1 K Hs H (rdS r) v
 | .dat d,v,h=>h
 | .own ds,v,h=>by obtain ⟨a,xs,e,n,q,t⟩:=h; exact ⟨a,xs,e,q,t⟩
 | .bor ds,v,h=>by obtain ⟨a,xs,e,q,t⟩:=h; exact ⟨a,xs,e,s _ _ q,t⟩
 | .dk ds,v,h=>by obtain ⟨a,xs,e,n,q,t⟩:=h; exact ⟨a,xs,e,q,t⟩
 | .dt ds,v,h=>by obtain ⟨a,xs,e,n,q,t⟩:=h; exact ⟨a,xs,e,q,t⟩
 | .ob a,v,h=>h
 | .cl _ _,v,h=>h
 | .ll a _,v,h=>h.1
 | .ins a C fs,v,h=>h.1
def wV (i : Nat) : WE:=fun τ Q=>∃ s,τ[i]? = some (some s) /\ Q (rdS s)
theorem DE.var {i : Nat} (h : PE X e (O4 i)) : DE X H0 e (wV i) where
 mono:=fun τ P Q f ⟨s,h1,h2⟩=>⟨s,h1,f _ h2⟩
 pe:=O0 h fun σ H Q ⟨τ,hR,s,h1,h2⟩=>by
  obtain ⟨v,hv,q⟩:=hR.here i s h1
  exact ⟨v,hv,h2 v H (A6.refl H) (q.rd hR.same)⟩
def wC (d : D) : WE:=fun _ Q=>Q (.st d)
theorem DE.con {v : V} {d : D} (h : PE X e (tC v)) (hd : ∀ K H,A2 K H d v) : DE X H0 e (wC d) where
 mono:=fun τ P Q f h=>f _ h
 pe:=O0 h fun σ H Q ⟨τ,hR,h⟩=>h v H (A6.refl H) (hd _ _)
theorem DE.int {i : Int} {j : Nat} : DE X H0 (.Constant (.int i) j pos) (wC (.int i)):=DE.con W5f fun _ _=>A2.s_int
theorem DE.bl {i : Bool} {j : Nat} : DE X H0 (.Constant (.bool i) j pos) (wC (.bl i)):=DE.con W2s fun _ _=>A2.s_bl
theorem DE.str {i : Str} {j : Nat} : DE X H0 (.Constant (.str i) j pos) (wC (.str i)):=DE.con W1r fun _ _=>A2.s_str
theorem DE.non {j : Nat} : DE X H0 (.Constant .none j pos) (wC .non):=DE.con Y4q fun _ _=>A2.s_non
noncomputable def fzR : R -> (D -> Prop) -> Prop
 | .st d,Q=>Q d
 | .nw ds,Q=>Q (.lst ds)
 | _,_=>False
theorem A1.freeze {pins : Pn9} {σ : St} {H : Hp} {s : Shared} {x : Addr} {xs : List V} (I : A1 X pins σ H s) (h : H x = some (.lst xs)) : ∃ o,A1 X pins σ (upd H x (.frz o (.lst xs))) s:=by
 obtain ⟨z,its,n,r,q⟩:=I.hok x _ h
 refine ⟨_,I.write (t':=s.toks) (h':=s.heap) (e:=x) (o:=.frz { cls:=.type "list",data:=.seq its.toArray n } (.lst xs)) (by rw [h]; trivial) (.inl rfl) (fun b u _ k=>k) ⟨_,q⟩ ?_⟩
 exact ⟨q,z,its,n,r,q⟩
theorem DE.fz (h : DE X H0 e we) : DE X H0 e (fun τ Q=>we τ fun r=>fzR r fun d=>Q (.st d)) where
 mono:=fun τ P Q f h'=>h.mono τ _ _ (fun r q=>by
  cases r <;> first | exact f _ q | exact q) h'
 pe:=by
  intro pins s σ H Q I ⟨τ,hR,hw⟩
  refine B2 (h.pe pins s σ H (fun v H'=>A6 H H' /\ ∃ r,E1 X.K H H' r v /\ fzR r fun d=>∀ v H',A6 H H' -> A2 X.K H' d v -> Q v H') I ⟨τ,hR,h.mono τ _ _ (fun r q v H' sm ir=>⟨sm,r,ir,q⟩) hw⟩) ?_
  rintro u s1 ⟨v,H1,I1,rv,sm,r,ir,q⟩
  cases r with
  | st d=>exact ⟨v,H1,I1,rv,q v H1 sm ir⟩
  | nw ds =>
   obtain ⟨p,xs,rfl,hn,hp,al⟩:=ir
   obtain ⟨o,I2⟩:=A1.freeze I1 hp
   refine ⟨.ref p,_,I2,rv,q _ _ (fun b ob hb=>?_) (A2.s_lst (.inl ⟨o,upd_same⟩) (al.mono (Kp.upd hp _) _ _))⟩
   rw [A9 (T2 hb hn)]
   exact sm b ob hb
  | bw _=>exact q.elim
  | dk _=>exact q.elim
  | dt _=>exact q.elim
  | ob _=>exact q.elim
  | cl _ _=>exact q.elim
  | ms _ _ _ _=>exact q.elim
theorem two (ha : DE X H0 a wa) (hb : DE X H0 b wb) {τ : A8} {σ : St} {H : Hp} (hR : B5 X.K H0 τ σ H) {F : R -> R -> Prop} (h : wa τ fun x=>wb τ fun y=>F x y) {G : V -> V -> Hp -> Prop}
  (hG : ∀ x y v u H',A6 H H' -> E1 X.K H H' x v -> E1 X.K H H' y u -> F x y -> G v u H') : Z3u X.K H0 wa σ H fun v H1=>Z3u X.K H0 wb σ H1 fun u H2=>G v u H2 :=
 ⟨τ,hR,ha.mono τ _ _ (fun x hx v H1 s1 r1=>⟨τ,hR.mono s1,hb.mono τ _ _ (fun y hy u H2 s2 r2=>hG x y v u H2 (s1.trans s2) (r1.mono s2) (r2.older s1) hy) hx⟩) h⟩
def OpD (X : Cx) (f : Value -> Value -> Sem Value) (g : R -> R -> (R -> Prop) -> Prop) : Prop :=
 M3 X f (fun x y H Q=>∃ r1 r2,IsV X.K H r1 x /\ IsV X.K H r2 y /\ g r1 r2 fun r=>∀ v H',A6 H H' -> E1 X.K H H' r v -> Q v H')
def W0 {α : Type} (g : R -> R -> (α -> Prop) -> Prop) : Prop:=∀ x y (P Q : α -> Prop),(∀ r,P r -> Q r) -> g x y P -> g x y Q
noncomputable def A5 {α : Type} (g : R -> R -> (α -> Prop) -> Prop) (wa wb : WE) : A8 -> (α -> Prop) -> Prop:=fun τ Q=>wa τ fun x=>wb τ fun y=>g x y Q
theorem DE.op {op : Operator} {g : R -> R -> (R -> Prop) -> Prop} (ho : OpD X (binaryOp op) g) (mg : W0 g) (ha : DE X H0 a wa) (hb : DE X H0 b wb) : DE X H0 (.BinOp a op b pos) (A5 g wa wb) where
 mono:=fun τ P Q f h=>ha.mono τ _ _ (fun x h=>hb.mono τ _ _ (fun y h=>mg x y P Q f h) h) h
 pe:=O0 (Y7p ho ha.pe hb.pe) fun σ H Q ⟨τ,hR,h⟩=>two ha hb hR h fun x y v u H' sm rx ry q =>
  ⟨x,y,rx.v,ry.v,mg x y _ _ (fun r q v H'' s2 ir=>q v H'' (sm.trans s2) (ir.older sm)) q⟩
def W6 (X : Cx) (op : CmpOp) (g : R -> R -> (Bool -> Prop) -> Prop) : Prop :=
 M3 X (compareOp op) (fun x y H Q=>∃ r1 r2,IsV X.K H r1 x /\ IsV X.K H r2 y /\ g r1 r2 fun k=>Q (.bl k) H)
theorem DE.cmp {op : CmpOp} {g : R -> R -> (Bool -> Prop) -> Prop} (ho : W6 X op g) (mg : W0 g) (ha : DE X H0 a wa) (hb : DE X H0 b wb) (hm : behindInMarks op b = false) :
  DE X H0 (.Compare a [op] [b] pos) (fun τ Q=>A5 g wa wb τ fun k=>Q (.st (.bl k))) where
 mono:=fun τ P Q f h=>ha.mono τ _ _ (fun x h=>hb.mono τ _ _ (fun y h=>mg x y _ _ (fun k q=>f _ q) h) h) h
 pe:=O0 (Y7y ho ha.pe hb.pe hm) fun σ H Q ⟨τ,hR,h⟩=>two ha hb hR h fun x y v u H' sm rx ry q =>
  ⟨x,y,rx.v,ry.v,mg x y _ _ (fun r q=>q _ _ sm Q5h) q⟩
theorem DT.cmp {op : CmpOp} {g : R -> R -> (Bool -> Prop) -> Prop} (ho : W6 X op g) (mg : W0 g) (ha : DE X H0 a wa) (hb : DE X H0 b wb) (hm : behindInMarks op b = false) :
  DT X H0 (.Compare a [op] [b] pos) (A5 g wa wb) where
 mono:=fun τ P Q f h=>ha.mono τ _ _ (fun x h=>hb.mono τ _ _ (fun y h=>mg x y _ _ (fun k q=>f _ q) h) h) h
 pt:=ptW (Y7f ho ha.pe hb.pe hm) fun σ H Q ⟨τ,hR,h⟩=>two ha hb hR h fun x y v u H' sm rx ry q =>
  ⟨x,y,rx.v,ry.v,mg x y _ _ (fun r q=>⟨r,rfl,q _ sm⟩) q⟩
noncomputable def Y7 : R -> (Bool -> Prop) -> Prop
 | .st .non,Q=>Q false
 | .st (.bl b),Q=>Q b
 | .st (.int i),Q=>Q (i != 0)
 | .st (.str x),Q=>x.length <= sizeLine /\ Q ((x.length : Int) != 0)
 | .st (.tup ds),Q=>Q (!ds.isEmpty)
 | .st (.lst ds),Q=>Q (!ds.isEmpty)
 | .nw ds,Q=>Q (!ds.isEmpty)
 | .bw ds,Q=>Q (!ds.isEmpty)
 | .dk kvs,Q=>Q (!kvs.isEmpty)
 | .dt _,_=>False
 | .ob _,_=>False
 | .cl _ _,_=>False
 | .ms _ _ _ _,_=>False
theorem AllS.empty {K : Fg9} {H : Hp} {ds : List D} {xs : List V} (h : AllS K H ds xs) : ds.isEmpty = xs.isEmpty:=by
 have:=h.length
 cases ds <;> cases xs <;> simp_all
theorem Y2v (r : R) (P Q : Bool -> Prop) (f : ∀ r,P r -> Q r) (h : Y7 r P) : Y7 r Q:=by
 unfold Y7 at h ⊢
 split at h <;> first | exact f _ h | exact ⟨h.1,f _ h.2⟩ | exact h
theorem W5l {K : Fg9} {H : Hp} {r : R} {v : V} (ir : IsV K H r v) {Q : Bool -> Prop} (h : Y7 r Q) : ∃ k,Q9x K v H k /\ Q k:=by
 cases r with
 | st d =>
  cases d with
  | non=>cases (show v = .non from ir); exact ⟨_,rfl,h⟩
  | bl b=>cases (show v = .bl b from ir); exact ⟨_,rfl,h⟩
  | int b=>cases (show v = .int b from ir); exact ⟨_,rfl,h⟩
  | str b=>cases (show v = .str b from ir); exact ⟨_,⟨h.1,rfl⟩,h.2⟩
  | tup ds =>
   have ir : A2 K H (.tup ds) v:=ir
   unfold A2 at ir
   obtain ⟨p,xs,rfl,q,al⟩:=ir
   exact ⟨_,.inr (.inl ⟨xs,C8.of q,rfl⟩),by rw [<- al.empty]; exact h⟩
  | lst ds =>
   have ir : A2 K H (.lst ds) v:=ir
   unfold A2 at ir
   obtain ⟨p,xs,rfl,q,al⟩:=ir
   exact ⟨_,.inl ⟨xs,q.sq,rfl⟩,by rw [<- al.empty]; exact h⟩
 | nw ds=>obtain ⟨p,xs,rfl,_,q,al⟩:=ir; exact ⟨_,.inl ⟨xs,D5.of q,rfl⟩,by rw [<- al.empty]; exact h⟩
 | bw ds=>obtain ⟨p,xs,rfl,q,al⟩:=ir; exact ⟨_,.inl ⟨xs,D5.of q,rfl⟩,by rw [<- al.empty]; exact h⟩
 | dk ds =>
  obtain ⟨p,xs,rfl,q,al⟩:=ir
  refine ⟨_,.inr (.inr ⟨xs,q,rfl⟩),?_⟩
  cases ds with
  | nil=>cases (show xs = [] from al); exact h
  | cons d ds=>obtain ⟨v,r,rfl,_⟩:=al; exact h
 | dt _=>exact h.elim
 | ob _=>exact h.elim
 | cl _ _=>exact h.elim
 | ms _ _ _ _=>exact h.elim
theorem DT.tru (ha : DE X H0 a wa) (he : ∀ whole,isTrue a X.env whole = (do let v <- whole; standAt a.pos; holding [v] (truthy v))) : DT X H0 a (fun τ Q=>wa τ fun r=>Y7 r Q) where
 mono:=fun τ P Q f h=>ha.mono τ _ _ (fun x h=>Y2v x P Q f h) h
 pt:=ptW (Y8z ha.pe he) fun σ H Q ⟨τ,hR,h⟩=>⟨τ,hR,ha.mono τ _ _ (fun r q v H' sm ir=>by
  obtain ⟨k,h1,h2⟩:=W5l ir.v q
  exact ⟨k,h1,h2 H' sm⟩) h⟩
variable {ta tb tc : WT} {rest : List Expr}
def Q8p (t u : WT) : WT:=fun τ Q=>t τ fun k=>if k = true then u τ Q else Q false
def wOr (t u : WT) : WT:=fun τ Q=>t τ fun k=>if k = true then Q true else u τ Q
def Q6w (t : WT) : WT:=fun τ Q=>t τ fun k=>Q (!k)
theorem U6 {c A B A' B' : Prop} [Decidable c] (f : A -> A') (g : B -> B') (h : if c then A else B) : if c then A' else B':=by
 split at h
 ·rename_i hc; rw [if_pos hc]; exact f h
 ·rename_i hc; rw [if_neg hc]; exact g h
theorem DW.and1 (ha : DT X H0 a ta) : DW X H0 (.BoolOp .And [a] pos) ta:=⟨ha.mono,Y6z ha.pt⟩
theorem DW.or1 (ha : DT X H0 a ta) : DW X H0 (.BoolOp .Or [a] pos) ta:=⟨ha.mono,W0b ha.pt⟩
theorem DW.and (ha : DT X H0 a ta) (hb : DW X H0 (.BoolOp .And (b :: rest) pos) tb) : DW X H0 (.BoolOp .And (a :: b :: rest) pos) (Q8p ta tb) where
 mono:=fun τ P Q f h=>ha.mono τ _ _ (fun k h=>U6 (hb.mono τ _ _ f) (f _) h) h
 pw:=pwW (Y4n ha.pt hb.pw) fun σ H Q ⟨τ,hR,h⟩=>⟨τ,hR,ha.mono τ _ _ (fun k q H1 s1 =>
  U6 (fun h=>⟨τ,hR.mono s1,hb.mono τ _ _ (fun k q H2 s2=>q H2 (s1.trans s2)) h⟩) (fun h=>h H1 s1) q) h⟩
theorem DW.or (ha : DT X H0 a ta) (hb : DW X H0 (.BoolOp .Or (b :: rest) pos) tb) : DW X H0 (.BoolOp .Or (a :: b :: rest) pos) (wOr ta tb) where
 mono:=fun τ P Q f h=>ha.mono τ _ _ (fun k h=>U6 (f _) (hb.mono τ _ _ f) h) h
 pw:=pwW (W0v ha.pt hb.pw) fun σ H Q ⟨τ,hR,h⟩=>⟨τ,hR,ha.mono τ _ _ (fun k q H1 s1 =>
  U6 (fun h=>h H1 s1) (fun h=>⟨τ,hR.mono s1,hb.mono τ _ _ (fun k q H2 s2=>q H2 (s1.trans s2)) h⟩) q) h⟩
theorem DW.t (h : DW X H0 a ta) : DT X H0 a ta:=⟨h.mono,h.pw.pt⟩
theorem DT.nt (ha : DT X H0 a ta) : DT X H0 (.UnaryOp .Not a pos) (Q6w ta) where
 mono:=fun τ P Q f h=>ha.mono τ _ _ (fun k h=>f _ h) h
 pt:=ptW (Y6l ha.pt) fun σ H Q ⟨τ,hR,h⟩=>⟨τ,hR,h⟩
noncomputable def blR : R -> (Bool -> Prop) -> Prop
 | .st (.bl b),Q=>Q b
 | _,_=>False
theorem Q3r {r : R} {P : Bool -> Prop} (h : blR r P) : ∃ k,r = .st (.bl k) /\ P k:=by
 unfold blR at h
 split at h
 ·exact ⟨_,rfl,h⟩
 ·exact h.elim
def Z2 (wa wb : WE) : WE:=fun τ Q=>wa τ fun r=>blR r fun k=>if k = true then wb τ Q else Q (.st (.bl false))
def Z1f (wa wb : WE) : WE:=fun τ Q=>wa τ fun r=>blR r fun k=>if k = true then Q (.st (.bl true)) else wb τ Q
def Q3g (wa : WE) : WE:=fun τ Q=>wa τ fun r=>blR r fun k=>Q (.st (.bl (!k)))
theorem DE.and1 (ha : DE X H0 a wa) : DE X H0 (.BoolOp .And [a] pos) wa:=⟨ha.mono,Y0d ha.pe⟩
theorem DE.or1 (ha : DE X H0 a wa) : DE X H0 (.BoolOp .Or [a] pos) wa:=⟨ha.mono,Y0d ha.pe⟩
theorem DE.and (ha : DE X H0 a wa) (hb : DE X H0 (.BoolOp .And (b :: rest) pos) wb) : DE X H0 (.BoolOp .And (a :: b :: rest) pos) (Z2 wa wb) where
 mono:=fun τ P Q f h=>ha.mono τ _ _ (fun r h=>by
  obtain ⟨k,rfl,h⟩:=Q3r h
  exact U6 (hb.mono τ _ _ f) (f _) h) h
 pe:=O0 (Y5o ha.pe hb.pe) fun σ H Q ⟨τ,hR,h⟩=>⟨τ,hR,ha.mono τ _ _ (fun r h v H1 s1 ir=>by
  obtain ⟨k,rfl,h⟩:=Q3r h
  refine ⟨k,ir,U6 (fun h=>⟨τ,hR.mono s1,hb.mono τ _ _ (fun r q u H2 s2 iu=>q u H2 (s1.trans s2) (iu.older s1)) h⟩) (fun h=>h _ _ s1 Q5h) h⟩) h⟩
theorem DE.or (ha : DE X H0 a wa) (hb : DE X H0 (.BoolOp .Or (b :: rest) pos) wb) : DE X H0 (.BoolOp .Or (a :: b :: rest) pos) (Z1f wa wb) where
 mono:=fun τ P Q f h=>ha.mono τ _ _ (fun r h=>by
  obtain ⟨k,rfl,h⟩:=Q3r h
  exact U6 (f _) (hb.mono τ _ _ f) h) h
 pe:=O0 (W4f ha.pe hb.pe) fun σ H Q ⟨τ,hR,h⟩=>⟨τ,hR,ha.mono τ _ _ (fun r h v H1 s1 ir=>by
  obtain ⟨k,rfl,h⟩:=Q3r h
  refine ⟨k,ir,U6 (fun h=>h _ _ s1 Q5h) (fun h=>⟨τ,hR.mono s1,hb.mono τ _ _ (fun r q u H2 s2 iu=>q u H2 (s1.trans s2) (iu.older s1)) h⟩) h⟩) h⟩
theorem DE.nt (ha : DE X H0 a wa) : DE X H0 (.UnaryOp .Not a pos) (Q3g wa) where
 mono:=fun τ P Q f h=>ha.mono τ _ _ (fun r h=>by
  obtain ⟨k,rfl,h⟩:=Q3r h
  exact f _ h) h
 pe:=O0 (Y2m ha.pe) fun σ H Q ⟨τ,hR,h⟩=>⟨τ,hR,ha.mono τ _ _ (fun r h v H1 s1 ir=>by
  obtain ⟨k,rfl,h⟩:=Q3r h
  exact ⟨k,ir,h _ _ s1 Q5h⟩) h⟩
def wIf (t : WT) (wa wb : WE) : WE:=fun τ Q=>t τ fun k=>if k = true then wa τ Q else wb τ Q
theorem DE.ife (hc : DT X H0 c tc) (ha : DE X H0 a wa) (hb : DE X H0 b wb) : DE X H0 (.IfExp c a b pos) (wIf tc wa wb) where
 mono:=fun τ P Q f h=>hc.mono τ _ _ (fun k h=>U6 (ha.mono τ _ _ f) (hb.mono τ _ _ f) h) h
 pe:=O0 (W4n hc.pt ha.pe hb.pe) fun σ H Q ⟨τ,hR,h⟩=>⟨τ,hR,hc.mono τ _ _ (fun k h H1 s1 =>
  U6 (fun h=>⟨τ,hR.mono s1,ha.mono τ _ _ (fun r q u H2 s2 iu=>q u H2 (s1.trans s2) (iu.older s1)) h⟩) (fun h=>⟨τ,hR.mono s1,hb.mono τ _ _ (fun r q u H2 s2 iu=>q u H2 (s1.trans s2) (iu.older s1)) h⟩) h) h⟩
variable {es : List Expr} {wr : WA}
def A3 : WA:=fun _ Q=>Q []
def A0 (we : WE) (wr : WA) : WA:=fun τ Q=>we τ fun r=>wr τ fun rs=>Q (r :: rs)
theorem L6.older {K : Fg9} {H0 H1 H : Hp} (s : A6 H0 H1) : ∀ {rs : List R} {vs : List V},L6 K H1 H rs vs -> L6 K H0 H rs vs
 | [],_,h=>h
 | r :: rs,_,h=>by obtain ⟨v,t,e,q,z⟩:=h; exact ⟨v,t,e,q.older s,L6.older s z⟩
theorem DA.nil : DA X H0 [] A3:=⟨fun τ Q h=>⟨rfl,h⟩,fun τ P Q f h=>f _ h,paW Q4s fun σ H Q ⟨τ,hR,h⟩=>h [] H (A6.refl H) rfl⟩
theorem DA.cons (ha : DE X H0 e we) (hr : DA X H0 es wr) (hs : starEach (e :: es) X.env = (false,eval e X.env) :: starEach es X.env:=by rfl) : DA X H0 (e :: es) (A0 we wr) where
 len:=fun τ Q h=>ha.mono τ _ _ (fun r h=>hr.mono τ _ _ (fun rs h=>⟨by rw [List.length_cons,List.length_cons,h.1],h.2⟩) (hr.len τ _ h)) h
 mono:=fun τ P Q f h=>ha.mono τ _ _ (fun r h=>hr.mono τ _ _ (fun rs h=>f _ h) h) h
 pa:=paW (Q2f ha.pe hr.pa hs) fun σ H Q ⟨τ,hR,h⟩=>⟨τ,hR,ha.mono τ _ _ (fun r h v H1 s1 ir=>⟨τ,hR.mono s1,hr.mono τ _ _ (fun rs h vs H2 s2 irs =>
  h (v :: vs) H2 (s1.trans s2) ⟨v,vs,rfl,ir.mono s2,irs.older s1⟩) h⟩) h⟩
noncomputable def Y5 : List R -> Option (List D)
 | []=>some []
 | .st d :: rs=>(Y5 rs).map (d :: ·)
 | _ :: _=>none
theorem Z0g {K : Fg9} {H0 H : Hp} : ∀ {rs : List R} {ds : List D} {vs : List V},Y5 rs = some ds -> L6 K H0 H rs vs -> AllS K H ds vs
 | [],ds,vs,h,q=>by cases h; cases q; exact AllS.nil
 | .st d :: rs,ds,vs,h,q=>by
  obtain ⟨v,t,rfl,iv,z⟩:=q
  unfold Y5 at h
  cases e : Y5 rs with
  | none=>rw [e] at h; cases h
  | some es=>rw [e] at h; cases h; exact AllS.cons iv (Z0g e z)
 | .nw _ :: _,_,_,h,_=>by cases h
 | .bw _ :: _,_,_,h,_=>by cases h
 | .dk _ :: _,_,_,h,_=>by cases h
 | .dt _ :: _,_,_,h,_=>by cases h
 | .ob _ :: _,_,_,h,_=>by cases h
 | .cl _ _ :: _,_,_,h,_=>by cases h
 | .ms _ _ _ _ :: _,_,_,h,_=>by cases h
def Q9 (wr : WA) : WE:=fun τ Q=>wr τ fun rs=>∃ ds,Y5 rs = some ds /\ ds.length <= sizeLine /\ Q (.st (.tup ds))
def K1 (wr : WA) : WE:=fun τ Q=>wr τ fun rs=>∃ ds,Y5 rs = some ds /\ ds.length <= sizeLine /\ Q (.nw ds)
theorem DE.tup {k : Nat} (h : DA X H0 es wr) : DE X H0 (.Tuple es k pos) (Q9 wr) where
 mono:=fun τ P Q f h'=>h.mono τ _ _ (fun rs ⟨ds,e,l,q⟩=>⟨ds,e,l,f _ q⟩) h'
 pe:=O0 (Y8v h.pa) fun σ H Q ⟨τ,hR,h'⟩=>⟨τ,hR,h.mono τ _ _ (fun rs ⟨ds,e,l,q⟩ vs H1 s1 irs=>by
  have al:=Z0g e irs
  refine ⟨by rw [<- al.length]; exact l,fun p hp=>q _ _ (s1.trans (F7 hp _)) (A2.s_tup upd_same (al.mono (Kp.of (F7 hp _)) _ _))⟩) h'⟩
theorem DE.lst (h : DA X H0 es wr) : DE X H0 (.List es pos) (K1 wr) where
 mono:=fun τ P Q f h'=>h.mono τ _ _ (fun rs ⟨ds,e,l,q⟩=>⟨ds,e,l,f _ q⟩) h'
 pe:=O0 (Y7b h.pa) fun σ H Q ⟨τ,hR,h'⟩=>⟨τ,hR,h.mono τ _ _ (fun rs ⟨ds,e,l,q⟩ vs H1 s1 irs=>by
  have al:=Z0g e irs
  refine ⟨by rw [<- al.length]; exact l,fun p hp=>q _ _ (s1.trans (F7 hp _)) ⟨p,vs,rfl,s1.free hp,upd_same,al.mono (Kp.of (F7 hp _)) _ _⟩⟩) h'⟩
end
theorem Z0 {α : Type} {l : List (Option α)} {i : Nat} {x : Option α} (h : i < l.length) : (l.set i x)[i]? = some x:=by simp [h]
theorem B5.set {K : Fg9} {H0 H : Hp} {τ : A8} {σ : St} {i : Nat} {s : Sl} {v : V} (h : B5 K H0 τ σ H) (q : SlR K H0 H s v)
  (ap : s.mut = true -> ∀ (j : Nat) (t : Sl),j ≠ i -> τ[j]? = some (some t) -> t.mut = true -> σ[j]? ≠ some (some v)) : B5 K H0 (τ.set i (some s)) (σ.set i (some v)) H where
 len:=by rw [List.length_set,List.length_set]; exact h.len
 same:=h.same
 here:=fun j t e=>by
  by_cases hj : j = i
  ·subst hj
   by_cases hl : j < τ.length
   ·rw [Z0 hl] at e
    cases e
    exact ⟨v,Z0 (by rw [<- h.len]; exact hl),q⟩
   ·rw [List.getElem?_eq_none_iff.mpr (by rw [List.length_set]; omega)] at e; cases e
  ·rw [List.getElem?_set_ne (fun z=>hj z.symm)] at e ⊢
   exact h.here j t e
 apart:=fun j k s1 s2 u hne e1 e2 m1 m2 q1 q2=>by
  by_cases hj : j = i
  ·subst hj
   have hk : k ≠ j:=fun z=>hne z.symm
   by_cases hl : j < τ.length
   ·rw [Z0 hl] at e1
    cases e1
    rw [Z0 (by rw [<- h.len]; exact hl)] at q1
    cases q1
    rw [List.getElem?_set_ne (fun z=>hk z.symm)] at e2 q2
    exact ap m1 k s2 hk e2 m2 q2
   ·rw [List.getElem?_eq_none_iff.mpr (by rw [List.length_set]; omega)] at e1; cases e1
  ·by_cases hk : k = i
   ·subst hk
    by_cases hl : k < τ.length
    ·rw [Z0 hl] at e2
     cases e2
     rw [Z0 (by rw [<- h.len]; exact hl)] at q2
     cases q2
     rw [List.getElem?_set_ne (fun z=>hj z.symm)] at e1 q1
     exact ap m2 j s1 hj e1 m1 q1
    ·rw [List.getElem?_eq_none_iff.mpr (by rw [List.length_set]; omega)] at e2; cases e2
   ·rw [List.getElem?_set_ne (fun z=>hj z.symm)] at e1 q1
    rw [List.getElem?_set_ne (fun z=>hk z.symm)] at e2 q2
    exact h.apart j k s1 s2 u hne e1 e2 m1 m2 q1 q2
theorem B5.tracked {K : Fg9} {H0 H : Hp} {τ : A8} {σ : St} {j : Nat} {t : Sl} {p : Addr} (h : B5 K H0 τ σ H) (e : τ[j]? = some (some t)) (m : t.mut = true) (q : σ[j]? = some (some (.ref p))) : ∃ o,H p = some o:=by
 obtain ⟨v,hv,r⟩:=h.here j t e
 rw [q] at hv; cases hv
 cases t with
 | dat _=>cases m
 | bor _=>cases m
 | own ds=>obtain ⟨a,xs,e,_,q,_⟩:=r; cases e; exact ⟨_,q⟩
 | dk ds=>obtain ⟨a,xs,e,_,q,_⟩:=r; cases e; exact ⟨_,q⟩
 | dt ds=>obtain ⟨a,xs,e,_,q,_⟩:=r; cases e; exact ⟨_,q⟩
 | ob _=>cases m
 | cl _ _=>cases m
 | ll _ _=>cases m
 | ins _ _ _=>obtain ⟨e,_,dx,xs,q,_⟩:=r; cases e; exact ⟨_,q⟩
noncomputable def Q0b : R -> (Sl -> Prop) -> Prop
 | .st d,Q=>Q (.dat d)
 | .nw ds,Q=>Q (.own ds)
 | _,_=>False
theorem Y7s {r : R} {P : Sl -> Prop} (h : Q0b r P) : ∃ s,P s /\ ((∃ d,r = .st d /\ s = .dat d) \/ ∃ ds,r = .nw ds /\ s = .own ds):=by
 cases r with
 | st d=>exact ⟨_,h,.inl ⟨d,rfl,rfl⟩⟩
 | nw ds=>exact ⟨_,h,.inr ⟨ds,rfl,rfl⟩⟩
 | bw _=>exact h.elim
 | dk _=>exact h.elim
 | dt _=>exact h.elim
 | ob _=>exact h.elim
 | cl _ _=>exact h.elim
 | ms _ _ _ _=>exact h.elim
theorem Z9c {r : R} {P Q : Sl -> Prop} (f : ∀ s,P s -> Q s) (h : Q0b r P) : Q0b r Q:=by
 cases r <;> first | exact f _ h | exact h
theorem B5.store {K : Fg9} {H0 H H1 : Hp} {τ : A8} {σ : St} {i : Nat} {r : R} {v : V} (h : B5 K H0 τ σ H) (sm : A6 H H1) (ir : E1 K H H1 r v) {P : Sl -> Prop} (st : Q0b r P) : ∃ s,P s /\ B5 K H0 (τ.set i (some s)) (σ.set i (some v)) H1:=by
 obtain ⟨s,p,⟨d,rfl,rfl⟩ | ⟨ds,rfl,rfl⟩⟩:=Y7s st
 ·exact ⟨_,p,(h.mono sm).set ir fun m=>by cases m⟩
 ·obtain ⟨a,xs,rfl,hn,ha,al⟩:=ir
  refine ⟨_,p,(h.mono sm).set ⟨a,xs,rfl,h.same.free hn,ha,al⟩ fun _ j t hj e m q=>?_⟩
  obtain ⟨o,ho⟩:=h.tracked e m q
  rw [hn] at ho; cases ho
section
variable {X : Cx} {H0 : Hp} {a b c e : Expr} {pos pos' : Pos} {wa wb we : WE} {tc : WT} {st : Stmt} {sts : List Stmt} {ws wt : WS}
def G0 : WS:=fun E τ=>E.nx τ
def A7 (t u : WS) : WS:=fun E τ=>t { E with nx:=u E } τ
theorem A4.nil : A4 X H0 [] G0:=⟨fun τ E F le h=>le.nx τ h,Q7p W2q fun D σ H ⟨τ,hR,h⟩=>h σ H (Kp.refl H) hR⟩
theorem A4.cons (h1 : DS X H0 st ws) (h2 : A4 X H0 sts wt) : A4 X H0 (st :: sts) (A7 ws wt) where
 mono:=fun τ E F le h=>h1.mono τ { E with nx:=wt E } { F with nx:=wt F } ⟨fun τ' h=>h2.mono τ' E F le h,le.rt,le.bk,le.ct⟩ h
 ps:=Q7p (Z6e h1.ps h2.ps) fun D σ H ⟨τ,hR,h⟩=>⟨τ,hR,h1.mono τ { K9 X.K H0 H D with nx:=wt (K9 X.K H0 H D) } _ ⟨fun τ' h σ' H' k hR'=>⟨τ',hR',h2.mono τ' _ _ (Z1e k) h⟩,fun _ h=>h,fun _ h=>h,fun _ h=>h⟩ h⟩
theorem A4.one (h1 : DS X H0 st ws) : A4 X H0 [st] ws:=⟨h1.mono,Q7p (Z4n h1.ps) fun D σ H h=>h⟩
def F9 (t : WT) (ws wt : WS) : WS:=fun E τ=>t τ fun k=>if k = true then ws E τ else wt E τ
theorem DS.ife {sa sb : List Stmt} (hc : DT X H0 c tc) (ha : A4 X H0 sa ws) (hb : A4 X H0 sb wt) : DS X H0 (.If c sa sb pos) (F9 tc ws wt) where
 mono:=fun τ E F le h=>hc.mono τ _ _ (fun k h=>U6 (ha.mono τ E F le) (hb.mono τ E F le) h) h
 ps:=P4 (Y4e hc.pt ha.ps hb.ps) fun D σ H ⟨τ,hR,h⟩=>⟨τ,hR,hc.mono τ _ _ (fun k h H1 s1 =>
  U6 (fun h=>⟨τ,hR.mono s1,ha.mono τ _ _ (Z1e (Kp.of s1)) h⟩) (fun h=>⟨τ,hR.mono s1,hb.mono τ _ _ (Z1e (Kp.of s1)) h⟩) h) h⟩
noncomputable def Q4i : R -> (R -> Prop) -> Prop
 | .st d,Q=>Q (.st d)
 | .nw ds,Q=>Q (.nw ds)
 | _,_=>False
theorem W4c {r : R} {P : R -> Prop} (h : Q4i r P) : P r:=by
 cases r <;> first | exact h | exact h.elim
theorem W5h {r : R} {P Q : R -> Prop} (f : ∀ s,P s -> Q s) (h : Q4i r P) : Q4i r Q:=by
 cases r <;> first | exact f _ h | exact h
def F4 (we : WE) : WS:=fun E τ=>we τ fun r=>Q4i r E.rt
theorem DS.ret (he : DE X H0 e we) : DS X H0 (.Return (some e) pos) (F4 we) where
 mono:=fun τ E F le h=>he.mono τ _ _ (fun r h=>W5h le.rt h) h
 ps:=P4 (Z1b he.pe) fun D σ H ⟨τ,hR,h⟩=>⟨τ,hR,he.mono τ _ _ (fun r h v H1 s1 ir=>W4c (P:=(K9 X.K H0 H D).rt) h v H1 (hR.same.trans s1) (ir.older hR.same)) h⟩
noncomputable def Q2l : Sl -> (R -> Prop) -> Prop
 | .dat d,Q=>Q (.st d)
 | .own ds,Q=>Q (.nw ds)
 | _,_=>False
theorem DS.retV {i : Nat} (he : PE X e (O4 i)) : DS X H0 (.Return (some e) pos) (fun E τ=>∃ s,τ[i]? = some (some s) /\ Q2l s E.rt) where
 mono:=fun τ E F le ⟨s,h1,h2⟩=>⟨s,h1,by cases s <;> first | exact le.rt _ h2 | exact h2⟩
 ps:=P4 (Z1b he) fun D σ H ⟨τ,hR,s,h1,h2⟩=>by
  obtain ⟨v,hv,q⟩:=hR.here i s h1
  refine ⟨v,hv,?_⟩
  cases s with
  | dat d=>exact h2 v H hR.same q
  | own ds=>exact h2 v H hR.same q
  | bor _=>exact h2.elim
  | dk _=>exact h2.elim
  | dt _=>exact h2.elim
  | ob _=>exact h2.elim
  | cl _ _=>exact h2.elim
  | ll _ _=>exact h2.elim
  | ins _ _ _=>exact h2.elim
def B7 (i : Nat) (we : WE) : WS:=fun E τ=>we τ fun r=>Q0b r fun s=>E.nx (τ.set i (some s))
theorem DS.set {i : Nat} {x : Str} (he : DE X H0 e we) (hN : X.N.Nodup) (hi : X.N[i]? = some x) (hx : Loc X.env.scope x) (hs : swapsWith e (some (.Name x pos')) pos.line X.env = pure false:=by rfl)
  (hf : X.fn x = true \/ X.env.scope.names.lookup x = some .local:=by first | exact .inl rfl | exact .inr rfl | assumption) : DS X H0 (.Assign [.Name x pos'] e pos) (B7 i we) where
 mono:=fun τ E F le h=>he.mono τ _ _ (fun r h=>Z9c (fun s h=>le.nx _ h) h) h
 ps:=P4 (Q4f hN hi hx he.pe hs hf) fun D σ H ⟨τ,hR,h⟩=>⟨τ,hR,he.mono τ _ _ (fun r h v H1 s1 ir=>by
  obtain ⟨s,p,hR'⟩:=hR.store (i:=i) s1 ir h
  exact p _ _ (Kp.of s1) hR') h⟩
noncomputable def F5 (t : WT) (wb : WS) : Nat -> WS
 | 0=>fun _ _=>False
 | n + 1=>fun E τ=>t τ fun k=>if k = true then wb { E with nx:=F5 t wb n E,ct:=F5 t wb n E,bk:=E.nx } τ else E.nx τ
def Q1x (t : WT) (wb : WS) : WS:=fun E τ=>∃ n,F5 t wb n E τ
theorem Z2p (ht : ∀ (τ : A8) (P Q : Bool -> Prop),(∀ r,P r -> Q r) -> tc τ P -> tc τ Q) (hb : ∀ (τ : A8) (E F : E6),E.Le F -> ws E τ -> ws F τ) :
  ∀ (n : Nat) (τ : A8) (E F : E6),E.Le F -> F5 tc ws n E τ -> F5 tc ws n F τ
 | 0,_,_,_,_,h=>h
 | n + 1,τ,E,F,le,h=>ht τ _ _ (fun k h=>U6 (hb τ { E with nx:=F5 tc ws n E,ct:=F5 tc ws n E,bk:=E.nx } { F with nx:=F5 tc ws n F,ct:=F5 tc ws n F,bk:=F.nx } ⟨fun τ h=>Z2p ht hb n τ E F le h,le.rt,le.nx,fun τ h=>Z2p ht hb n τ E F le h⟩) (le.nx τ) h) h
theorem DS.whl {body : List Stmt} (hp : PassesOwn (model X.prog X.w) X.A X.env X.xe) (hc : DT X H0 c tc) (hb : A4 X H0 body ws) : DS X H0 (.While c body [] pos) (Q1x tc ws) where
 mono:=fun τ E F le ⟨n,h⟩=>⟨n,Z2p hc.mono hb.mono n τ E F le h⟩
 ps:=P4 (W3g hp hc.pt hb.ps) fun D σ H0' ⟨τ,hR,n,h⟩=>by
  refine ⟨fun m σ H=>∃ τ,B5 X.K H0 τ σ H /\ Kp H0' H /\ F5 tc ws m (K9 X.K H0 H0' D) τ,⟨n,τ,hR,Kp.refl _,h⟩,?_⟩
  rintro m σ H ⟨τ,hR,kp,h⟩
  cases m with
  | zero=>exact h.elim
  | succ m =>
   refine ⟨τ,hR,hc.mono τ _ _ (fun k h H1 s1=>U6 (fun h=>?_) (fun h=>h σ H1 (kp.trans (Kp.of s1)) (hR.mono s1)) h) h⟩
   refine ⟨fun σ' H'=>∃ τ,B5 X.K H0 τ σ' H' /\ Kp H0' H' /\ F5 tc ws m (K9 X.K H0 H0' D) τ,fun σ' H' h'=>⟨m,Nat.lt_succ_self m,h'⟩,τ,hR.mono s1,?_⟩
   have k1:=kp.trans (Kp.of s1)
   exact hb.mono τ { K9 X.K H0 H0' D with nx:=F5 tc ws m (K9 X.K H0 H0' D),ct:=F5 tc ws m (K9 X.K H0 H0' D),bk:=(K9 X.K H0 H0' D).nx } _
    ⟨fun τ' h' σ' H' k hR'=>⟨τ',hR',k1.trans k,h'⟩,fun _ h=>h,fun τ' h' σ' H' k hR'=>h' σ' H' (k1.trans k) hR',fun τ' h' σ' H' k hR'=>⟨τ',hR',k1.trans k,h'⟩⟩ h
end
noncomputable abbrev D8:=List R -> R -> Prop
noncomputable def M7 : R -> Bool
 | .st _=>true
 | .nw _=>true
 | .bw _=>true
 | .ob _=>true
 | .cl _ _=>true
 | _=>false
noncomputable def nrm : R -> R
 | .nw ds=>.bw ds
 | r=>r
noncomputable def Q4y (K : Fg9) (n : Nat) (sp : D8) : Sp:=fun vs H Q _=>∃ (rs : List R) (r : R),rs.length = n /\ L6 K (fun _=>none) H rs vs /\ rs.all M7 = true /\ sp (rs.map nrm) r /\ ∀ v H',A6 H H' -> E1 K H H' r v -> Q v H'
noncomputable def M8 : R -> Sl
 | .st d=>.dat d
 | .nw ds=>.bor ds
 | .bw ds=>.bor ds
 | .dk k=>.dk k
 | .dt k=>.dt k
 | .ob a=>.ob a
 | .cl a Φ=>.cl a Φ
 | .ms a C _ fs=>.ins a C fs
noncomputable def E4 (N : List Str) (rs : List R) : A8:=rs.map (fun r=>some (M8 r)) ++ List.replicate (N.length - rs.length) none
theorem L6.length {K : Fg9} {H0 H : Hp} : ∀ {rs : List R} {vs : List V},L6 K H0 H rs vs -> rs.length = vs.length
 | [],_,h=>by cases h; rfl
 | r :: rs,_,h=>by obtain ⟨v,t,rfl,_,z⟩:=h; rw [List.length_cons,List.length_cons,L6.length z]
theorem L6.get {K : Fg9} {H0 H : Hp} : ∀ {rs : List R} {vs : List V} {i : Nat} {r : R},L6 K H0 H rs vs -> rs[i]? = some r -> ∃ v,vs[i]? = some v /\ E1 K H0 H r v
 | [],_,_,_,_,e=>by simp at e
 | r :: rs,_,0,r',h,e=>by obtain ⟨v,t,rfl,q,z⟩:=h; simp at e; subst e; exact ⟨v,rfl,q⟩
 | r :: rs,_,i + 1,r',h,e=>by
  obtain ⟨v,t,rfl,q,z⟩:=h
  obtain ⟨u,h1,h2⟩:=L6.get (i:=i) z (by simpa using e)
  exact ⟨u,by simpa using h1,h2⟩
theorem L6.v {K : Fg9} {H0 H : Hp} : ∀ {rs : List R} {vs : List V},L6 K H0 H rs vs -> L6 K (fun _=>none) H rs vs
 | [],_,h=>h
 | r :: rs,_,h=>by obtain ⟨v,t,e,q,z⟩:=h; exact ⟨v,t,e,q.v,L6.v z⟩
theorem Y7i (r : R) : M8 (nrm r) = M8 r:=by cases r <;> rfl
theorem Z1d (N : List Str) (rs : List R) : E4 N (rs.map nrm) = E4 N rs:=by
 unfold E4
 rw [List.map_map,List.length_map]
 congr 1
 exact List.map_congr_left fun r _=>congrArg some (Y7i r)
theorem SlR.arg {K : Fg9} {H : Hp} : ∀ {r : R} {v : V},M7 r = true -> IsV K H r v -> SlR K H H (M8 r) v
 | .st d,v,_,h=>h
 | .nw ds,v,_,h=>by obtain ⟨a,xs,e,_,q,t⟩:=h; exact ⟨a,xs,e,q,t⟩
 | .bw ds,v,_,h=>h
 | .dk _,_,h,_=>by cases h
 | .dt _,_,h,_=>by cases h
 | .ob a,v,_,h=>h
 | .cl _ _,v,_,h=>h
 | .ms _ _ _ _,_,h,_=>by cases h
theorem W4x : ∀ {r : R},M7 r = true -> (M8 r).mut = false
 | .st d,_=>rfl
 | .nw ds,_=>rfl
 | .bw ds,_=>rfl
 | .dk _,h=>by cases h
 | .dt _,h=>by cases h
 | .ob _,_=>rfl
 | .cl _ _,_=>rfl
 | .ms _ _ _ _,h=>by cases h
theorem Z3l {K : Fg9} {H : Hp} {N : List Str} {rs : List R} {vs : List V} (al : L6 K (fun _=>none) H rs vs) (ok : rs.all M7 = true) : B5 K H (E4 N rs) (L2.start N vs) H:=by
 have hl:=al.length
 have at_ : ∀ (i : Nat) (s : Sl),(E4 N rs)[i]? = some (some s) -> ∃ r,rs[i]? = some r /\ s = M8 r:=fun i s e=>by
  unfold E4 at e
  by_cases hi : i < rs.length
  ·rw [List.getElem?_append_left (by rw [List.length_map]; exact hi),List.getElem?_map,List.getElem?_eq_getElem hi] at e
   exact ⟨rs[i],List.getElem?_eq_getElem hi,(Option.some.inj (Option.some.inj e)).symm⟩
  ·rw [List.getElem?_append_right (by rw [List.length_map]; omega)] at e
   have:=List.mem_of_getElem? e
   rw [List.mem_replicate] at this
   cases this.2
 have okr : ∀ (i : Nat) (r : R),rs[i]? = some r -> M7 r = true:=fun i r e=>List.all_eq_true.mp ok r (List.mem_of_getElem? e)
 refine ⟨?_,A6.refl H,fun i s e=>?_,fun i j s t v _ e1 _ m _ _ _=>?_⟩
 ·unfold E4 L2.start
  rw [List.length_append,List.length_append,List.length_map,List.length_map,List.length_replicate,List.length_replicate,hl]
 ·obtain ⟨r,hr,rfl⟩:=at_ i s e
  obtain ⟨v,hv,q⟩:=al.get hr
  refine ⟨v,?_,SlR.arg (okr i r hr) q⟩
  unfold L2.start
  have hi : i < vs.length:=by
   rcases Nat.lt_or_ge i vs.length with h | h
   ·exact h
   ·rw [List.getElem?_eq_none_iff.mpr h] at hv; cases hv
  rw [List.getElem?_append_left (by rw [List.length_map]; exact hi),List.getElem?_map,hv]
  rfl
 ·obtain ⟨r,hr,rfl⟩:=at_ i s e1
  rw [W4x (okr i r hr)] at m; cases m
section
variable {P : Program} {w : World} {K : Fg9} {mg : Str -> Option Value} {base : Heap}
theorem O5.okD {x qual : Str} {st : Stmt} {f : Addr} {fd : FuncData} {N ps : List Str} {k : Nat} {sp : D8} (F : O5 K x qual st f fd) (S : G2 N ps (C0 st))
  (hbody : ∀ (cdv : Value) (A : Around) (outer : List Env) (s : Shared) (H : Hp) (E : XK),C5 k (A.deeper (envOfC qual (C0 st) s.heap.objs.size f cdv)) ->
   ∃ ws,A4 (V0 K6 P w K mg base N qual (C0 st) f cdv A outer s H E).nox H (Q3 st) ws /\
    ∀ rs r,rs.length = ps.length -> sp rs r -> ws { nx:=fun _=>r = .st .non,rt:=fun r'=>r' = r,bk:=fun _=>False,ct:=fun _=>False } (E4 N rs)) :
  P8 P w K mg base K6 (k + 1) f fd ps (Q4y K ps.length sp):=by
 refine F.ok S (fun vs H Q E h=>?_) (fun cdv A outer s H vs Q E hr h=>?_)
 ·obtain ⟨rs,r,hl,al,_⟩:=h
  rw [<- al.length]; exact hl
 obtain ⟨rs,r,hl,al,ok,h1,h2⟩:=h
 obtain ⟨ws,hd,hw⟩:=hbody cdv A outer s H E hr
 refine ⟨_,hd.ps,E4 N rs,Z3l al ok,?_⟩
 have hw:=hw (rs.map nrm) r (by rw [List.length_map]; exact hl) h1
 rw [Z1d] at hw
 refine hd.mono _ _ _ ⟨fun τ h σ H' _ hR=>?_,fun r' h v H' sm ir=>?_,fun _ h=>False.elim h,fun _ h=>False.elim h⟩ hw
 ·have h : r = .st .non:=h
  subst h
  exact h2 .non H' hR.same (A2.s_non (K:=K) (H:=H'))
 ·have h : r' = r:=h
  subst h
  exact h2 v H' sm ir
end
section
variable {X : Cx} {H0 : Hp} {e : Expr} {es : List Expr} {wr : WA} {k : Nat} {f : Addr} {fd : FuncData} {ps : List Str} {sp : D8} {x : Str} {p pos : Pos}
def J7 (sp : D8) (wr : WA) : WE:=fun τ Q=>wr τ fun rs=>rs.all M7 = true /\ ∃ r,sp (rs.map nrm) r /\ Q r
theorem DE.call (F : P8 X.prog X.w X.K X.mg X.base K6 k f fd ps (Q4y X.K (e :: es).length sp)) (hr : C5 k X.A) (hg : Gl X x) (hm : X.mg x = some (.ref f)) (hk : PySem.W.keepIn X.K (.ref f) = true) (hb : V6 X.K fd ps [])
  (ha : DA X H0 (e :: es) wr) (hdb : (x == ("__debug__" : Str)) = false:=by decide) (he : starEach (e :: es) X.env = (false,eval e X.env) :: starEach es X.env:=by rfl) (hpl : (backTo pos (starEach es X.env)).any (·.1) = false:=by rfl) :
  DE X H0 (.Call (.Name x p) (e :: es) [] pos) (J7 sp wr) where
 mono:=fun τ P Q f h=>ha.mono τ _ _ (fun rs ⟨ok,r,h1,h2⟩=>⟨ok,r,h1,f r h2⟩) h
 pe:=O0 (Z9v F hr hg hm hk hb .nil Q9e ha.pa hdb he hpl) fun σ H Q ⟨τ,hR,h⟩=>⟨τ,hR,ha.mono τ _ _ (fun rs ⟨hln,ok,r,h1,h2⟩ vs H1 s1 irs=>by
  refine ⟨rs,r,hln,?_,ok,h1,fun v H' s2 ir=>h2 v H' (s1.trans s2) (ir.older s1)⟩
  rw [List.append_nil]
  exact irs.v) (ha.len τ _ h)⟩
end
mutual
noncomputable def D.eq : D -> D -> Bool
 | .non,.non=>true
 | .bl a,.bl b=>a == b
 | .bl a,.int b=>(if a then (1 : Int) else 0) == b
 | .int a,.bl b=>a == (if b then (1 : Int) else 0)
 | .int a,.int b=>a == b
 | .str a,.str b=>a == b
 | .tup a,.tup b=>D.eqs a b
 | .lst a,.lst b=>D.eqs a b
 | _,_=>false
noncomputable def D.eqs : List D -> List D -> Bool
 | [],[]=>true
 | x :: xs,y :: ys=>D.eq x y && D.eqs xs ys
 | _,_=>false
end
mutual
noncomputable def D.depth : D -> Nat
 | .tup a=>D.depths a + 1
 | .lst a=>D.depths a + 1
 | _=>0
noncomputable def D.depths : List D -> Nat
 | []=>0
 | x :: xs=>max (D.depth x) (D.depths xs)
end
theorem D.depths_get : ∀ {ds : List D} {i : Nat} {d : D},ds[i]? = some d -> d.depth <= D.depths ds
 | [],_,_,h=>by simp at h
 | x :: xs,0,d,h=>by simp at h; subst h; unfold D.depths; omega
 | x :: xs,i + 1,d,h=>by
  have:=D.depths_get (ds:=xs) (i:=i) (d:=d) (by simpa using h)
  unfold D.depths; omega
mutual
theorem D.eq_refl : ∀ d : D,D.eq d d = true
 | .non=>by unfold D.eq; rfl
 | .bl a=>by unfold D.eq; simp
 | .int a=>by unfold D.eq; simp
 | .str a=>by unfold D.eq; simp
 | .tup a=>by unfold D.eq; exact D.eqs_refl a
 | .lst a=>by unfold D.eq; exact D.eqs_refl a
theorem D.eqs_refl : ∀ ds : List D,D.eqs ds ds = true
 | []=>by unfold D.eqs; rfl
 | x :: xs=>by unfold D.eqs; rw [D.eq_refl x,D.eqs_refl xs]; rfl
end
theorem D.eqs_range : ∀ (a b : List D),D.eqs a b = ((List.range (min a.length b.length)).all (fun i=>match a[i]?,b[i]? with | some x,some y=>D.eq x y | _,_=>true) && a.length == b.length)
 | [],[]=>by unfold D.eqs; simp
 | [],y :: ys=>by unfold D.eqs; simp
 | x :: xs,[]=>by unfold D.eqs; simp
 | x :: xs,y :: ys=>by
  unfold D.eqs
  rw [D.eqs_range xs ys]
  have e : min (x :: xs).length (y :: ys).length = min xs.length ys.length + 1:=by simp [Nat.succ_min_succ]
  rw [e,List.range_succ_eq_map,List.all_cons,List.all_map]
  simp only [List.length_cons,List.getElem?_cons_zero,Function.comp_def,List.getElem?_cons_succ]
  rw [Bool.and_assoc]
  congr 2
  simp
def IsW (K : Fg9) (H : Hp) (d : D) (v : V) : Prop:=match d with
 | .lst ds=>∃ a xs,v = .ref a /\ D5 K H a xs /\ AllS K H ds xs
 | d=>A2 K H d v
theorem A2.w {K : Fg9} {H : Hp} : ∀ {d : D} {v : V},A2 K H d v -> IsW K H d v
 | .non,_,h=>h
 | .bl _,_,h=>h
 | .int _,_,h=>h
 | .str _,_,h=>h
 | .tup _,_,h=>h
 | .lst _,_,h=>by unfold A2 at h; obtain ⟨a,xs,e,q,t⟩:=h; exact ⟨a,xs,e,q.sq,t⟩
noncomputable def R.d : R -> Option D
 | .st d=>some d
 | .nw ds=>some (.lst ds)
 | .bw ds=>some (.lst ds)
 | _=>none
theorem E1.w {K : Fg9} {H0 H : Hp} : ∀ {r : R} {v : V} {d : D},r.d = some d -> E1 K H0 H r v -> IsW K H d v
 | .st d,v,_,e,h=>by cases e; exact A2.w h
 | .nw ds,v,_,e,h=>by cases e; obtain ⟨a,xs,e,n,q,t⟩:=h; exact ⟨a,xs,e,D5.of q,t⟩
 | .bw ds,v,_,e,h=>by cases e; obtain ⟨a,xs,e,q,t⟩:=h; exact ⟨a,xs,e,D5.of q,t⟩
 | .dk _,_,_,e,_=>by cases e
 | .dt _,_,_,e,_=>by cases e
 | .ob _,_,_,e,_=>by cases e
 | .cl _ _,_,_,e,_=>by cases e
 | .ms _ _ _ _,_,_,e,_=>by cases e
theorem Z5y {X : Cx} {pins : Pn9} {σ : St} {H : Hp} {s : Shared} (I : A1 X pins σ H s) {a : Addr} {xs ys : List V} (h1 : C8 X.K H a xs) (h2 : D5 X.K H a ys) : False:=by
 obtain ⟨_,_,⟨o,e,c,_⟩,_⟩:=I.tuple h1
 obtain ⟨_,_,⟨o',n,e',c',_⟩,_⟩:=I.list h2
 rw [e] at e'; cases e'
 rw [c] at c'; exact absurd c' (by simp)
section
variable {X : Cx} {pins : Pn9} {σ : St} {H : Hp} {s : Shared}
mutual
theorem A2.inj (I : A1 X pins σ H s) : ∀ (d e : D) (v : V),A2 X.K H d v -> A2 X.K H e v -> d = e
 | .non,e,v,h1,h2=>by
  cases e <;> unfold A2 at h1 h2 <;> first | rfl | (obtain ⟨_,_,z,_⟩:=h2; rw [h1] at z; cases z; done) | (rw [h1] at h2; cases h2; done) | (rw [h1] at h2; cases h2; rfl)
 | .bl p,e,v,h1,h2=>by
  cases e <;> unfold A2 at h1 h2 <;> first | rfl | (obtain ⟨_,_,z,_⟩:=h2; rw [h1] at z; cases z; done) | (rw [h1] at h2; cases h2; done) | (rw [h1] at h2; cases h2; rfl)
 | .int p,e,v,h1,h2=>by
  cases e <;> unfold A2 at h1 h2 <;> first | rfl | (obtain ⟨_,_,z,_⟩:=h2; rw [h1] at z; cases z; done) | (rw [h1] at h2; cases h2; done) | (rw [h1] at h2; cases h2; rfl)
 | .str p,e,v,h1,h2=>by
  cases e <;> unfold A2 at h1 h2 <;> first | rfl | (obtain ⟨_,_,z,_⟩:=h2; rw [h1] at z; cases z; done) | (rw [h1] at h2; cases h2; done) | (rw [h1] at h2; cases h2; rfl)
 | .tup p,.non,v,h1,h2=>by unfold A2 at h1 h2; obtain ⟨_,_,e,_⟩:=h1; rw [h2] at e; cases e
 | .tup p,.bl q,v,h1,h2=>by unfold A2 at h1 h2; obtain ⟨_,_,e,_⟩:=h1; rw [h2] at e; cases e
 | .tup p,.int q,v,h1,h2=>by unfold A2 at h1 h2; obtain ⟨_,_,e,_⟩:=h1; rw [h2] at e; cases e
 | .tup p,.str q,v,h1,h2=>by unfold A2 at h1 h2; obtain ⟨_,_,e,_⟩:=h1; rw [h2] at e; cases e
 | .lst p,.non,v,h1,h2=>by unfold A2 at h1 h2; obtain ⟨_,_,e,_⟩:=h1; rw [h2] at e; cases e
 | .lst p,.bl q,v,h1,h2=>by unfold A2 at h1 h2; obtain ⟨_,_,e,_⟩:=h1; rw [h2] at e; cases e
 | .lst p,.int q,v,h1,h2=>by unfold A2 at h1 h2; obtain ⟨_,_,e,_⟩:=h1; rw [h2] at e; cases e
 | .lst p,.str q,v,h1,h2=>by unfold A2 at h1 h2; obtain ⟨_,_,e,_⟩:=h1; rw [h2] at e; cases e
 | .tup p,.tup q,v,h1,h2=>by unfold A2 at h1 h2; obtain ⟨x,xs,e1,q1,r1⟩:=h1; obtain ⟨y,ys,e2,q2,r2⟩:=h2; rw [e1] at e2; cases e2; have e:=I.tuple_inj (C8.of q1) (C8.of q2); subst e; rw [AllS.inj I p q xs r1 r2]
 | .tup p,.lst q,v,h1,h2=>by unfold A2 at h1 h2; obtain ⟨x,xs,e1,q1,r1⟩:=h1; obtain ⟨y,ys,e2,q2,r2⟩:=h2; rw [e1] at e2; cases e2; exact absurd (Z5y I (C8.of q1) q2.sq) id
 | .lst p,.tup q,v,h1,h2=>by unfold A2 at h1 h2; obtain ⟨x,xs,e1,q1,r1⟩:=h2; obtain ⟨y,ys,e2,q2,r2⟩:=h1; rw [e1] at e2; cases e2; exact absurd (Z5y I (C8.of q1) q2.sq) id
 | .lst p,.lst q,v,h1,h2=>by unfold A2 at h1 h2; obtain ⟨x,xs,e1,q1,r1⟩:=h1; obtain ⟨y,ys,e2,q2,r2⟩:=h2; rw [e1] at e2; cases e2; have e:=I.list_inj q1.sq q2.sq; subst e; rw [AllS.inj I p q xs r1 r2]
theorem AllS.inj (I : A1 X pins σ H s) : ∀ (ds es : List D) (vs : List V),AllS X.K H ds vs -> AllS X.K H es vs -> ds = es
 | [],[],_,_,_=>rfl
 | [],y :: ys,vs,h1,h2=>by unfold AllS at h1 h2; obtain ⟨_,_,e,_⟩:=h2; rw [h1] at e; cases e
 | x :: xs,[],vs,h1,h2=>by unfold AllS at h1 h2; obtain ⟨_,_,e,_⟩:=h1; rw [h2] at e; cases e
 | x :: xs,y :: ys,vs,h1,h2=>by
  unfold AllS at h1 h2
  obtain ⟨v,r,e1,q1,t1⟩:=h1
  obtain ⟨v',r',e2,q2,t2⟩:=h2
  rw [e1] at e2; cases e2
  rw [A2.inj I x y v q1 q2,AllS.inj I xs ys r t1 t2]
end
end
section
variable {X : Cx} {pins : Pn9} {σ : St} {H : Hp} {s : Shared}
open PySem.SeqAt
theorem Q1e {ds : List D} {xs : List V} {its : List Value} (al : AllS X.K H ds xs) (rv : C4 xs its) {j : Nat} (h : j < its.toArray.size) : ∃ d v,ds[j]? = some d /\ A2 X.K H d v /\ B4 v its.toArray[j]:=by
 have hl:=al.length
 have hr:=rv.length
 have hj : j < its.length:=by simpa using h
 have hj2 : j < ds.length:=by omega
 obtain ⟨v,hv,q⟩:=al.get (List.getElem?_eq_getElem hj2)
 obtain ⟨u,hu,r⟩:=rv.get hv
 have e : u = its.toArray[j]:=by
  rw [List.getElem?_eq_getElem hj] at hu
  simpa using (Option.some.inj hu).symm
 exact ⟨ds[j],v,List.getElem?_eq_getElem hj2,q,e ▸ r⟩
theorem Q4w (I : A1 X pins σ H s) {d1 d2 : D} {v1 v2 : V} {u1 u2 : Value} {n : Nat} (h : ∀ A : Around,A.units + n < cLine -> RcAt A s u1 u2 (D.eq d1 d2)) (i1 : A2 X.K H d1 v1) (i2 : A2 X.K H d2 v2) (r1 : B4 v1 u1) (r2 : B4 v2 u2) {A : Around} (hu : A.units + n < cLine) : EqAt A s u1 u2 (D.eq d1 d2):=by
 have hA:=h A hu
 by_cases e : u1 = u2
 ·subst e
  have ev:=r1.inj r2
  subst ev
  rw [A2.inj I d1 d2 v1 i1 i2,D.eq_refl]
  exact EqAt.same _
 ·intro prog w E Q hq
  unfold eqBool
  refine wpAny_holding ?_
  refine wpAny_ite_split (fun hab=>absurd (eq_of_beq hab) e) (fun _=>?_)
  have fin : wpAny (model prog w) A (richCompare .Eq u1 u2 >>= truthOfDropped) Q E s:=wpAny_bind (hA prog w E _ (wpAny_truthy_bool hq))
  cases v1 with
  | non=>cases r1; exact fin
  | bl _=>cases r1; exact fin
  | int _=>obtain ⟨t,rfl⟩:=r1; exact fin
  | str _=>obtain ⟨t,rfl⟩:=r1; exact fin
  | byt _=>obtain ⟨t,rfl⟩:=r1; exact fin
  | ref _=>cases r1; exact fin
  | ty _=>cases r1; exact fin
  | flt b=>cases d1 <;> first | (cases (show V.flt b = _ from i1)) | (unfold A2 at i1; obtain ⟨_,_,z,_⟩:=i1; cases z)
inductive Vw (X : Cx) (H : Hp) (s : Shared) : D -> Value -> Prop
 | non : Vw X H s .non .none
 | bl (b : Bool) : Vw X H s (.bl b) (.bool b)
 | int (i : Int) (t : Tok) : Vw X H s (.int i) (.int i t)
 | str (x : Str) (t : Tok) : Vw X H s (.str x) (.str x t)
 | tup {ds : List D} {a : Addr} {xs : List V} {its : List Value} (al : AllS X.K H ds xs) (rv : C4 xs its) (pl : s.heap.IsTuple a its.toArray) : Vw X H s (.tup ds) (.ref a)
 | lst {ds : List D} {a : Addr} {xs : List V} {its : List Value} (al : AllS X.K H ds xs) (rv : C4 xs its) (pl : s.heap.IsList a its.toArray) : Vw X H s (.lst ds) (.ref a)
theorem Q3a (I : A1 X pins σ H s) {d : D} {v : V} {u : Value} (h : IsW X.K H d v) (r : B4 v u) : Vw X H s d u:=by
 cases d with
 | non=>cases (show v = .non from h); cases r; exact .non
 | bl b=>cases (show v = .bl b from h); cases r; exact .bl b
 | int i=>cases (show v = .int i from h); obtain ⟨t,rfl⟩:=r; exact .int i t
 | str x=>cases (show v = .str x from h); obtain ⟨t,rfl⟩:=r; exact .str x t
 | tup ds=>have h : A2 X.K H (.tup ds) v:=h; unfold A2 at h; obtain ⟨a,xs,rfl,sq,al⟩:=h; cases r; obtain ⟨its,rv,pl,_⟩:=I.tuple (C8.of sq); exact .tup al rv pl
 | lst ds=>obtain ⟨a,xs,rfl,sq,al⟩:=h; cases r; obtain ⟨its,rv,pl,_⟩:=I.list sq; exact .lst al rv pl.isList
def Q1y (d e : D) : Prop:=(∃ p q,d = .tup p /\ e = .tup q) \/ ∃ p q,d = .lst p /\ e = .lst q
theorem Z4g {d1 d2 : D} {u1 u2 : Value} {A : Around} (h1 : Vw X H s d1 u1) (h2 : Vw X H s d2 u2) (hu : A.units < cLine) (hb : ¬ Q1y d1 d2) : RcAt A s u1 u2 (D.eq d1 d2):=by
 cases h1 <;> cases h2 <;> first | exact absurd (.inl ⟨_,_,rfl,rfl⟩) hb | exact absurd (.inr ⟨_,_,rfl,rfl⟩) hb | (unfold D.eq; (try simp only [Bool.not_true,Bool.not_false]); (with_reducible first | exact RcAt.none_none | exact RcAt.none_bool _ | exact RcAt.none_int _ _ | exact RcAt.none_str _ _ | exact RcAt.none_tuple (by assumption) hu | exact RcAt.none_list (by assumption) hu | exact RcAt.bool_none _ | exact RcAt.bool_bool _ _ | exact RcAt.bool_int _ _ _ | exact RcAt.bool_str _ _ _ | exact RcAt.bool_tuple _ (by assumption) hu | exact RcAt.bool_list _ (by assumption) hu | exact RcAt.int_none _ _ | exact RcAt.int_bool _ _ _ | exact RcAt.int_int _ _ _ _ | exact RcAt.int_str _ _ _ _ | exact RcAt.int_tuple _ _ (by assumption) hu | exact RcAt.int_list _ _ (by assumption) hu | exact RcAt.str_none _ _ | exact RcAt.str_bool _ _ _ | exact RcAt.str_int _ _ _ _ | exact RcAt.str_str _ _ _ _ | exact RcAt.str_tuple _ _ (by assumption) hu | exact RcAt.str_list _ _ (by assumption) hu | exact RcAt.tuple_none (by assumption) hu | exact RcAt.tuple_bool _ (by assumption) hu | exact RcAt.tuple_int _ _ (by assumption) hu | exact RcAt.tuple_str _ _ (by assumption) hu | exact RcAt.tuple_list (by assumption) (by assumption) hu | exact RcAt.list_none (by assumption) hu | exact RcAt.list_bool _ (by assumption) hu | exact RcAt.list_int _ _ (by assumption) hu | exact RcAt.list_str _ _ (by assumption) hu | exact RcAt.list_tuple (by assumption) (by assumption) hu))
theorem Q8n (I : A1 X pins σ H s) : ∀ (n : Nat) (d1 d2 : D) (v1 v2 : V) (u1 u2 : Value) (A : Around),d1.depth <= n -> IsW X.K H d1 v1 -> IsW X.K H d2 v2 -> B4 v1 u1 -> B4 v2 u2 -> A.units + n < cLine -> RcAt A s u1 u2 (D.eq d1 d2):=by
 intro n
 induction n with
 | zero =>
  intro d1 d2 v1 v2 u1 u2 A hd h1 h2 r1 r2 hu
  refine Z4g (Q3a I h1 r1) (Q3a I h2 r2) (by omega) ?_
  rintro (⟨p,q,rfl,rfl⟩ | ⟨p,q,rfl,rfl⟩) <;> unfold D.depth at hd <;> omega
 | succ n ih =>
  intro d1 d2 v1 v2 u1 u2 A hd h1 h2 r1 r2 hu
  have w1:=Q3a I h1 r1
  have w2:=Q3a I h2 r2
  by_cases hb : Q1y d1 d2
  ·obtain ⟨p,q,rfl,rfl⟩ | ⟨p,q,rfl,rfl⟩:=hb
   ·cases w1; cases w2
    rename_i a1 xs1 its1 rv1 pl1 al1 a2 xs2 its2 rv2 pl2 al2
    have hd : D.depths p + 1 <= n + 1:=by unfold D.depth at hd; exact hd
    have l1 : its1.toArray.size = p.length:=by have:=al1.length; have:=rv1.length; simp; omega
    have l2 : its2.toArray.size = q.length:=by have:=al2.length; have:=rv2.length; simp; omega
    have k:=RcAt.tuples (A:=A) (s:=s) (e:=fun i=>match p[i]?,q[i]? with | some x,some y=>D.eq x y | _,_=>true) pl1 pl2 (by omega) (fun j hj1 hj2=>by
     obtain ⟨d1,v1,e1,i1,w1⟩:=Q1e al1 rv1 hj1
     obtain ⟨d2,v2,e2,i2,w2⟩:=Q1e al2 rv2 hj2
     simp only [e1,e2]
     exact Q4w I (fun A=>ih d1 d2 v1 v2 _ _ A (by have:=D.depths_get e1; omega) i1.w i2.w w1 w2) i1 i2 w1 w2 (by simp only [Around.in1_units]; omega))
    rw [l1,l2,<- D.eqs_range] at k
    unfold D.eq; exact k
   ·cases w1; cases w2
    rename_i a1 xs1 its1 rv1 pl1 al1 a2 xs2 its2 rv2 pl2 al2
    have hd : D.depths p + 1 <= n + 1:=by unfold D.depth at hd; exact hd
    have l1 : its1.toArray.size = p.length:=by have:=al1.length; have:=rv1.length; simp; omega
    have l2 : its2.toArray.size = q.length:=by have:=al2.length; have:=rv2.length; simp; omega
    have kk : RcAt A s (.ref a1) (.ref a2) (D.eqs p q):=by
     rw [D.eqs_range]
     by_cases hlen : p.length = q.length
     ·have k:=RcAt.lists (A:=A) (s:=s) (e:=fun i=>match p[i]?,q[i]? with | some x,some y=>D.eq x y | _,_=>true) pl1 pl2 (by omega) (by omega) (fun j hj1 hj2=>by
       obtain ⟨d1,v1,e1,i1,w1⟩:=Q1e al1 rv1 hj1
       obtain ⟨d2,v2,e2,i2,w2⟩:=Q1e al2 rv2 hj2
       simp only [e1,e2]
       exact Q4w I (fun A=>ih d1 d2 v1 v2 _ _ A (by have:=D.depths_get e1; omega) i1.w i2.w w1 w2) i1 i2 w1 w2 (by simp only [Around.in1_units]; omega))
      rw [l1] at k
      rw [<- hlen,Nat.min_self,beq_self_eq_true,Bool.and_true]
      exact k
     ·rw [beq_eq_false_iff_ne.mpr hlen,Bool.and_false]
      exact RcAt.lists_lengths pl1 pl2 (by rw [l1,l2]; simpa using hlen) (by omega)
    unfold D.eq; exact kk
  ·exact Z4g w1 w2 (by omega) hb
end
end TK
end
section
namespace HT
open PySem PyProof.Rows
section
variable {prog : Program} {w : World} {A : Around} {E : VS9} {s : Shared}
theorem cat_tup0 {t b : Addr} {vs ws : List Value} {Q : VS9} (ht : IsTup s.heap t vs.toArray) (hb : IsTup s.heap b ws.toArray) (hv : vs = []) (h1 : Q (.ref b) s) : wpAny (model prog w) A (binaryOp .Add (.ref t) (.ref b)) Q E s:=by
 obtain ⟨⟨cls,dd,data,sl⟩,ho,hc,n,hd⟩:=id ht
 obtain ⟨⟨cls2,dd2,data2,sl2⟩,ho2,hc2,n2,hd2⟩:=id hb
 simp only at hc hd hc2 hd2
 subst hc hd hc2 hd2
 exact concat_meets ⟨_,ho,rfl⟩ ⟨_,ho2,rfl⟩ noFill_tuple_add seq_tuple_add PySem.F.slot_tuple_add PySem.F.entry_tuple_add (PySem.F.args_tuple_add_2 _ _)
  (tuple_addW0 t b vs.toArray ws.toArray n n2 dd dd2 sl sl2 (by simp [hv])) ⟨ho,ho2,h1⟩
end
end HT
namespace TK
open PySem PySem.Spec PyProof.Rows L2
section
variable {X : Cx}
noncomputable def N3 (C : Int -> Int -> Prop) (f : Int -> Int -> Int) : R -> R -> (R -> Prop) -> Prop
 | .st (.int i),.st (.int j),Q=>C i j /\ Q (.st (.int (f i j)))
 | _,_,_=>False
theorem Q9j {C : Int -> Int -> Prop} {f : Int -> Int -> Int} {x y : R} {Q : R -> Prop} (h : N3 C f x y Q) : ∃ i j,x = .st (.int i) /\ y = .st (.int j) /\ C i j /\ Q (.st (.int (f i j))):=by
 unfold N3 at h
 split at h
 ·exact ⟨_,_,rfl,rfl,h.1,h.2⟩
 ·exact h.elim
theorem X2 {C : Int -> Int -> Prop} {f : Int -> Int -> Int} : W0 (N3 C f):=fun x y P Q g h=>by
 obtain ⟨i,j,rfl,rfl,c,q⟩:=Q9j h
 exact ⟨c,g _ q⟩
theorem OpD.ints {F : Value -> Value -> Sem Value} {C : Int -> Int -> Prop} {f : Int -> Int -> Int} (h : M3 X F (rI C fun i j=>.int (f i j))) : OpD X F (N3 C f):=by
 intro pins s σ H x y v u Q I rx ry ⟨r1,r2,h1,h2,hg⟩
 obtain ⟨i,j,rfl,rfl,c,q⟩:=Q9j hg
 exact h pins s σ H x y v u Q I rx ry ⟨i,j,h1,h2,c,q _ _ (A6.refl H) X6⟩
theorem OpD.ints0 {F : Value -> Value -> Sem Value} {f : Int -> Int -> Int} (h : M3 X F (rI0 fun i j=>.int (f i j))) : OpD X F (N3 (fun _ _=>True) f):=by
 intro pins s σ H x y v u Q I rx ry ⟨r1,r2,h1,h2,hg⟩
 obtain ⟨i,j,rfl,rfl,c,q⟩:=Q9j hg
 exact h pins s σ H x y v u Q I rx ry ⟨i,j,h1,h2,q _ _ (A6.refl H) X6⟩
noncomputable abbrev NoC : Int -> Int -> Prop:=fun _ _=>True
theorem Q6m : OpD X (binaryOp .FloorDiv) (N3 Q0f fun i j=>i / j):=OpD.ints W2o
theorem Q3o : OpD X (binaryOp .Mod) (N3 (fun _ j=>0 < j) fun i j=>i % j):=OpD.ints Y9k
noncomputable def lsM : R -> Option (List D)
 | .nw ds=>some ds
 | .bw ds=>some ds
 | _=>none
noncomputable def S7 : R -> Option (List D)
 | .nw ds=>some ds
 | .bw ds=>some ds
 | .st (.lst ds)=>some ds
 | _=>none
theorem Z8f {K : Fg9} {H0 H : Hp} : ∀ {r : R} {ds : List D} {v : V},lsM r = some ds -> E1 K H0 H r v -> ∃ a xs,v = .ref a /\ H a = some (.lst xs) /\ AllS K H ds xs
 | .nw ds,_,v,e,h=>by cases e; obtain ⟨a,xs,e,n,q,t⟩:=h; exact ⟨a,xs,e,q,t⟩
 | .bw ds,_,v,e,h=>by cases e; obtain ⟨a,xs,e,q,t⟩:=h; exact ⟨a,xs,e,q,t⟩
 | .st _,_,_,e,_=>by cases e
 | .dk _,_,_,e,_=>by cases e
 | .dt _,_,_,e,_=>by cases e
 | .ob _,_,_,e,_=>by cases e
 | .cl _ _,_,_,e,_=>by cases e
 | .ms _ _ _ _,_,_,e,_=>by cases e
theorem Q1w {K : Fg9} {H0 H : Hp} : ∀ {r : R} {ds : List D} {v : V},S7 r = some ds -> E1 K H0 H r v -> ∃ a xs,v = .ref a /\ D5 K H a xs /\ AllS K H ds xs
 | .nw ds,_,v,e,h=>by cases e; obtain ⟨a,xs,e,n,q,t⟩:=h; exact ⟨a,xs,e,D5.of q,t⟩
 | .bw ds,_,v,e,h=>by cases e; obtain ⟨a,xs,e,q,t⟩:=h; exact ⟨a,xs,e,D5.of q,t⟩
 | .st (.lst ds),_,v,e,h=>by cases e; have h : A2 K H (.lst ds) v:=h; unfold A2 at h; obtain ⟨a,xs,e,q,t⟩:=h; exact ⟨a,xs,e,q.sq,t⟩
 | .st .non,_,_,e,_=>by cases e
 | .st (.bl _),_,_,e,_=>by cases e
 | .st (.int _),_,_,e,_=>by cases e
 | .st (.str _),_,_,e,_=>by cases e
 | .st (.tup _),_,_,e,_=>by cases e
 | .dk _,_,_,e,_=>by cases e
 | .dt _,_,_,e,_=>by cases e
 | .ob _,_,_,e,_=>by cases e
 | .cl _ _,_,_,e,_=>by cases e
 | .ms _ _ _ _,_,_,e,_=>by cases e
def J9 (x y : R) (Q : R -> Prop) : Prop :=
 match x,y with
 | .st (.int i),.st (.int j)=>Q (.st (.int (i + j)))
 | .st (.str i),.st (.str j)=>i.length + j.length <= sizeLine /\ Q (.st (.str (i ++ j)))
 | .st (.tup i),.st (.tup j)=>i.length + j.length <= sizeLine /\ Q (.st (.tup (i ++ j)))
 | .nw i,.nw j=>i.length + j.length <= sizeLine /\ Q (.nw (i ++ j))
 | .nw i,.bw j=>i.length + j.length <= sizeLine /\ Q (.nw (i ++ j))
 | .bw i,.nw j=>i.length + j.length <= sizeLine /\ Q (.nw (i ++ j))
 | .bw i,.bw j=>i.length + j.length <= sizeLine /\ Q (.nw (i ++ j))
 | _,_=>False
theorem T6 : W0 J9:=fun x y P Q g h=>by
 unfold J9 at h ⊢
 split at h <;> first | exact g _ h | exact ⟨h.1,g _ h.2⟩ | exact ⟨h.1,h.2.1,g _ h.2.2⟩ | exact h
theorem Q7h {pins : Pn9} {s : Shared} {σ : St} {H : Hp} {x y : V} {v u : Value} {Q : VK} (I : A1 X pins σ H s) (rx : B4 x v) (ry : B4 y u) {r1 r2 : R} {i j : List D} (e1 : lsM r1 = some i) (e2 : lsM r2 = some j)
  (h1 : IsV X.K H r1 x) (h2 : IsV X.K H r2 y) (hz : i.length + j.length <= sizeLine) (q : ∀ v H',A6 H H' -> E1 X.K H H' (.nw (i ++ j)) v -> Q v H') : wpAny (model X.prog X.w) X.A (binaryOp .Add v u) (EP X pins σ Q) X.xe s:=by
 obtain ⟨a,xs,rfl,qa,ala⟩:=Z8f e1 h1
 obtain ⟨b,ys,rfl,qb,alb⟩:=Z8f e2 h2
 refine Y7g pins s σ H _ _ v u Q I rx ry ⟨a,b,xs,ys,rfl,rfl,qa,qb,by rw [<- ala.length,<- alb.length]; exact hz,fun p hp=>?_⟩
 have k:=Kp.of (F7 hp (.lst (xs ++ ys)))
 exact q _ _ (F7 hp _) ⟨p,xs ++ ys,rfl,hp,upd_same,(ala.append alb).mono k _ _⟩
theorem U2 : OpD X (binaryOp .Add) J9:=by
 intro pins s σ H x y v u Q I rx ry ⟨r1,r2,h1,h2,hg⟩
 unfold J9 at hg
 split at hg
 ·exact W1x pins s σ H x y v u Q I rx ry ⟨_,_,h1,h2,hg _ _ (A6.refl H) X6⟩
 ·exact W0q pins s σ H x y v u Q I rx ry ⟨_,_,h1,h2,hg.1,hg.2 _ _ (A6.refl H) Y1v⟩
 ·rename_i i j
  have h1 : A2 X.K H (.tup i) x:=h1
  have h2 : A2 X.K H (.tup j) y:=h2
  unfold A2 at h1 h2
  obtain ⟨a,xs,rfl,qa,ala⟩:=h1
  obtain ⟨b,ys,rfl,qb,alb⟩:=h2
  have la:=ala.length
  have lb:=alb.length
  by_cases hx : xs = []
  ·have zi : i = []:=List.length_eq_zero_iff.mp (by rw [la,hx]; rfl)
   subst zi
   cases rx
   cases ry
   obtain ⟨its,r1,p1,_⟩:=I.tuple (C8.of (K:=X.K) qa)
   obtain ⟨its2,r2,p2,_⟩:=I.tuple (C8.of (K:=X.K) qb)
   exact HT.cat_tup0 p1 p2 (r1.nil_iff.mpr hx) ⟨.ref b,H,I,rfl,hg.2 _ _ (A6.refl H) (A2.s_tup (K:=X.K) (H:=H) qb alb)⟩
  refine Y4t pins s σ H _ _ v u Q I rx ry ⟨a,b,xs,ys,rfl,rfl,C8.of qa,C8.of qb,hx,by omega,fun z=>?_,fun z p hp=>?_⟩
  ·have zj : j = []:=List.length_eq_zero_iff.mp (by rw [lb,z]; rfl)
   subst zj
   rw [List.append_nil] at hg
   exact hg.2 _ _ (A6.refl H) (A2.s_tup (K:=X.K) (H:=H) qa ala)
  ·exact hg.2 _ _ (F7 hp _) (A2.s_tup (K:=X.K) upd_same ((ala.append alb).mono (Kp.of (F7 hp _)) _ _))
 ·exact Q7h I rx ry rfl rfl h1 h2 hg.1 hg.2
 ·exact Q7h I rx ry rfl rfl h1 h2 hg.1 hg.2
 ·exact Q7h I rx ry rfl rfl h1 h2 hg.1 hg.2
 ·exact Q7h I rx ry rfl rfl h1 h2 hg.1 hg.2
 ·exact hg.elim
def V4 (x y : R) (Q : R -> Prop) : Prop :=
 match x,y with
 | .st (.int i),.st (.int j)=>Q1s i j /\ Q (.st (.int (i * j)))
 | .nw ds,.st (.int k)=>-(2 ^ 63) <= k /\ k < 2 ^ 63 /\ ds.length * k.toNat <= sizeLine /\ Q (.nw (List.replicate k.toNat ds).flatten)
 | _,_=>False
theorem Q2p : W0 V4:=fun x y P Q g h=>by
 unfold V4 at h ⊢
 split at h <;> first | exact ⟨h.1,g _ h.2⟩ | exact ⟨h.1,h.2.1,h.2.2.1,g _ h.2.2.2⟩ | exact h
theorem AllS.rep {K : Fg9} {H : Hp} {ds : List D} {vs : List V} (h : AllS K H ds vs) : ∀ k : Nat,AllS K H (List.replicate k ds).flatten (List.replicate k vs).flatten
 | 0=>AllS.nil
 | k + 1=>by rw [List.replicate_succ,List.replicate_succ,List.flatten_cons,List.flatten_cons]; exact h.append (AllS.rep h k)
theorem Q2q : OpD X (binaryOp .Mult) V4:=by
 intro pins s σ H x y v u Q I rx ry ⟨r1,r2,h1,h2,hg⟩
 unfold V4 at hg
 split at hg
 ·exact Y4m pins s σ H x y v u Q I rx ry ⟨_,_,h1,h2,hg.1,hg.2 _ _ (A6.refl H) X6⟩
 ·obtain ⟨a,xs,rfl,_,qa,ala⟩:=h1
  refine Y8t pins s σ H _ y v u Q I rx ry ⟨a,_,xs,rfl,h2,qa,hg.1,hg.2.1,by rw [<- ala.length]; exact hg.2.2.1,fun p hp=>?_⟩
  exact hg.2.2.2 _ _ (F7 hp _) ⟨p,_,rfl,hp,upd_same,(ala.rep _).mono (Kp.of (F7 hp _)) _ _⟩
 ·exact hg.elim
noncomputable def R1 (f : Int -> Int -> Bool) : R -> R -> (Bool -> Prop) -> Prop
 | .st (.int i),.st (.int j),Q=>Q (f i j)
 | _,_,_=>False
theorem Z7v {f : Int -> Int -> Bool} {x y : R} {Q : Bool -> Prop} (h : R1 f x y Q) : ∃ i j,x = .st (.int i) /\ y = .st (.int j) /\ Q (f i j):=by
 unfold R1 at h
 split at h
 ·exact ⟨_,_,rfl,rfl,h⟩
 ·exact h.elim
theorem Q5f {f : Int -> Int -> Bool} : W0 (R1 f):=fun x y P Q g h=>by
 obtain ⟨i,j,rfl,rfl,q⟩:=Z7v h
 exact g _ q
theorem W6.ints {op : CmpOp} {f : Int -> Int -> Bool} (h : M3 X (compareOp op) (rI0 fun i j=>.bl (f i j))) : W6 X op (R1 f):=by
 intro pins s σ H x y v u Q I rx ry ⟨r1,r2,h1,h2,hg⟩
 obtain ⟨i,j,rfl,rfl,q⟩:=Z7v hg
 exact h pins s σ H x y v u Q I rx ry ⟨i,j,h1,h2,q⟩
theorem Q7r : W6 X .Lt (R1 fun i j=>decide (i < j)):=W6.ints Y3j
theorem Y9p : W6 X .GtE (R1 fun i j=>decide (j <= i)):=W6.ints Y4a
def eqD (n : Nat) (neg : Bool) (x y : R) (Q : Bool -> Prop) : Prop:=∃ d e,x.d = some d /\ y.d = some e /\ d.depth <= n /\ Q (if neg then !D.eq d e else D.eq d e)
theorem Q2j {n : Nat} {neg : Bool} : W0 (eqD n neg):=fun x y P Q g ⟨d,e,h1,h2,h3,q⟩=>⟨d,e,h1,h2,h3,g _ q⟩
theorem Q3f {n : Nat} (hu : X.A.units + n < cLine) : W6 X .Eq (eqD n false):=by
 intro pins s σ H x y v u Q I rx ry ⟨r1,r2,h1,h2,d,e,e1,e2,hd,q⟩
 exact Q8n I n d e x y v u X.A hd (h1.w e1) (h2.w e2) rx ry hu _ _ _ _ ⟨.bl _,H,I,rfl,q⟩
end
end TK
end
section
namespace TK
open PySem PySem.Spec PyProof.Rows L2
section
variable {X : Cx}
noncomputable def scD : D -> D -> Bool
 | .non,.non=>true | .non,.int _=>true | .int _,.non=>true | .non,.bl _=>true | .bl _,.non=>true | .non,.str _=>true | .str _,.non=>true
 | .int _,.int _=>true | .bl _,.bl _=>true | .str _,.str _=>true
 | .int _,.str _=>true | .str _,.int _=>true | .bl _,.str _=>true | .str _,.bl _=>true
 | _,_=>false
def G9 (x y : R) (Q : Bool -> Prop) : Prop:=∃ d e,x = .st d /\ y = .st e /\ scD d e = true /\ Q (!D.eq d e)
theorem Q2d : W0 G9:=fun x y P Q g ⟨d,e,h1,h2,h3,q⟩=>⟨d,e,h1,h2,h3,g _ q⟩
theorem Q2n : W6 X .NotEq G9:=by
 intro pins s σ H x y v u Q I rx ry ⟨r1,r2,h1,h2,d,e,e1,e2,hs,q⟩
 subst e1 e2
 have key : scal x y = true /\ (D.eq d e) = decide (x = y):=by
  cases d <;> cases e <;> first
   | (cases hs; done)
   | (replace h1 : A2 X.K H _ x:=h1; replace h2 : A2 X.K H _ y:=h2; unfold A2 at h1 h2; subst h1; subst h2; refine ⟨rfl,?_⟩; unfold D.eq; first | (exact (Z5x).symm) | (exact (Y2h).symm) | (exact (Y0a).symm) | rfl | (simp; done))
 refine Y9m pins s σ H x y v u Q I rx ry ⟨key.1,?_⟩
 rw [<- key.2]
 exact q
def M9 (neg : Bool) (x y : R) (Q : Bool -> Prop) : Prop:=∃ d,x.d = some d /\ y = .st .non /\ Q (match d with | .non=>!neg | _=>neg)
theorem Z3 {neg : Bool} : W0 (M9 neg):=fun x y P Q g ⟨d,h1,h2,q⟩=>⟨d,h1,h2,g _ q⟩
theorem W1a {K : Fg9} {H : Hp} : ∀ {d : D} {v : V},IsW K H d v -> decide (v = .non) = (match d with | .non=>true | _=>false)
 | .non,v,h=>by cases (show v = .non from h); rfl
 | .bl b,v,h=>by cases (show v = .bl b from h); rfl
 | .int b,v,h=>by cases (show v = .int b from h); rfl
 | .str b,v,h=>by cases (show v = .str b from h); rfl
 | .tup ds,v,h=>by have h : A2 K H (.tup ds) v:=h; unfold A2 at h; obtain ⟨a,_,rfl,_⟩:=h; rfl
 | .lst ds,v,h=>by obtain ⟨a,_,rfl,_⟩:=h; rfl
theorem Y3 : W6 X .Is (M9 false):=by
 intro pins s σ H x y v u Q I rx ry ⟨r1,r2,h1,h2,d,e1,e2,q⟩
 subst e2
 refine W2h pins s σ H x y v u Q I rx ry ⟨h2,?_⟩
 rw [W1a (h1.w e1)]
 cases d <;> exact q
theorem Q7c {K : Fg9} {H : Hp} {ds : List D} {xs : List V} (al : AllS K H ds xs) {i : Int} {d : D} (h : K7 ds i = some d) : ∃ v,K7 xs i = some v /\ A2 K H d v:=by
 unfold K7 at h ⊢
 rw [<- al.length]
 cases e : ixN ds.length i with
 | none=>rw [e] at h; cases h
 | some j =>
  rw [e] at h
  obtain ⟨v,hv,q⟩:=al.get (i:=j) h
  exact ⟨v,hv,q⟩
def B6 (x y : R) (Q : R -> Prop) : Prop:=match x,y with
 | .st (.lst ds),.st (.int i)=>∃ d,K7 ds i = some d /\ Q (.st d)
 | .nw ds,.st (.int i)=>∃ d,K7 ds i = some d /\ Q (.st d)
 | .bw ds,.st (.int i)=>∃ d,K7 ds i = some d /\ Q (.st d)
 | .st (.tup ds),.st (.int i)=>∃ d,K7 ds i = some d /\ Q (.st d)
 | .st (.str z),.st (.int i)=>z.length <= sizeLine /\ ∃ c,K7 z.cps.toList i = some c /\ Q (.st (.str ⟨#[c]⟩))
 | _,_=>False
theorem W3e : W0 B6:=fun x y P Q g h=>by
 unfold B6 at h ⊢
 split at h
 case h_6=>exact h
 case h_5=>obtain ⟨z,c,h1,h2⟩:=h; exact ⟨z,c,h1,g _ h2⟩
 all_goals (obtain ⟨d,h1,h2⟩:=h; exact ⟨d,h1,g _ h2⟩)
variable {H0 : Hp} {a b c e : Expr} {pos : Pos} {wa wb wc we : WE}
theorem DE.ix (ha : DE X H0 a wa) (hb : DE X H0 b wb) (hs : Z0k b) : DE X H0 (.Subscript a b pos) (A5 B6 wa wb) where
 mono:=fun τ P Q f h=>ha.mono τ _ _ (fun x h=>hb.mono τ _ _ (fun y h=>W3e x y P Q f h) h) h
 pe:=O0 (Z8d W2m ha.pe hb.pe hs) fun σ H Q ⟨τ,hR,h⟩=>two ha hb hR h fun x y v u H' sm rx ry q=>by
  unfold B6 at q
  split at q
  ·have rx : A2 X.K H' _ v:=rx
   unfold A2 at rx
   obtain ⟨p,xs,rfl,sq,al⟩:=rx
   obtain ⟨d,hd,q⟩:=q
   obtain ⟨z,hz,iz⟩:=Q7c al hd
   exact .inl ⟨p,xs,_,z,rfl,ry,sq.sq,hz,q z H' sm iz⟩
  ·obtain ⟨p,xs,rfl,_,sq,al⟩:=rx
   obtain ⟨d,hd,q⟩:=q
   obtain ⟨z,hz,iz⟩:=Q7c al hd
   exact .inl ⟨p,xs,_,z,rfl,ry,D5.of sq,hz,q z H' sm iz⟩
  ·obtain ⟨p,xs,rfl,sq,al⟩:=rx
   obtain ⟨d,hd,q⟩:=q
   obtain ⟨z,hz,iz⟩:=Q7c al hd
   exact .inl ⟨p,xs,_,z,rfl,ry,D5.of sq,hz,q z H' sm iz⟩
  ·have rx : A2 X.K H' _ v:=rx
   unfold A2 at rx
   obtain ⟨p,xs,rfl,sq,al⟩:=rx
   obtain ⟨d,hd,q⟩:=q
   obtain ⟨z,hz,iz⟩:=Q7c al hd
   exact .inr (.inl ⟨p,xs,_,z,rfl,ry,C8.of sq,hz,q z H' sm iz⟩)
  ·obtain ⟨z,c,h1,q⟩:=q
   exact .inr (.inr ⟨_,_,c,rx,ry,z,h1,q _ H' sm Y1v⟩)
  ·exact q.elim
def Q2g (X : Cx) (f : Value) (g : List R -> (R -> Prop) -> Prop) : Prop :=
 Q1o X f (fun xs H Q=>∃ rs,L6 X.K (fun _=>none) H rs xs /\ g rs fun r=>∀ v H',A6 H H' -> E1 X.K H H' r v -> Q v H')
def Q2i (g : List R -> (R -> Prop) -> Prop) : Prop:=∀ x (P Q : R -> Prop),(∀ r,P r -> Q r) -> g x P -> g x Q
variable {es : List Expr} {wr : WA} {x : Str} {p : Pos} {id T : String} {g : List R -> (R -> Prop) -> Prop}
def D4 (g : List R -> (R -> Prop) -> Prop) (wr : WA) : WE:=fun τ Q=>wr τ fun rs=>g rs Q
theorem DE.callB (hc : Q2g X (.builtin id) g) (mg : Q2i g) (hg : Gl X x) (hm : X.mg x = none) (hv : bootBuiltins x = some (.builtin id)) (ha : DA X H0 (e :: es) wr) (hn : x ≠ "__name__":=by decide) (hdb : (x == ("__debug__" : Str)) = false:=by decide)
  (he : starEach (e :: es) X.env = (false,eval e X.env) :: starEach es X.env:=by rfl) (hpl : (backTo pos (starEach es X.env)).any (·.1) = false:=by rfl) : DE X H0 (.Call (.Name x p) (e :: es) [] pos) (D4 g wr) where
 mono:=fun τ P Q f h=>ha.mono τ _ _ (fun rs h=>mg rs P Q f h) h
 pe:=O0 (Z3r hc hg hm hv ha.pa hn hdb he hpl) fun σ H Q ⟨τ,hR,h⟩=>⟨τ,hR,ha.mono τ _ _ (fun rs h vs H1 s1 irs=>⟨rs,irs.v,mg rs _ _ (fun r h v H' s2 ir=>h v H' (s1.trans s2) (ir.older s1)) h⟩) h⟩
theorem DE.callTy (hc : Q2g X (.type T) g) (mg : Q2i g) (hg : Gl X x) (hm : X.mg x = none) (hv : bootBuiltins x = some (.type T)) (ha : DA X H0 (e :: es) wr) (hn : x ≠ "__name__":=by decide) (hdb : (x == ("__debug__" : Str)) = false:=by decide)
  (he : starEach (e :: es) X.env = (false,eval e X.env) :: starEach es X.env:=by rfl) (hpl : (backTo pos (starEach es X.env)).any (·.1) = false:=by rfl) : DE X H0 (.Call (.Name x p) (e :: es) [] pos) (D4 g wr) where
 mono:=fun τ P Q f h=>ha.mono τ _ _ (fun rs h=>mg rs P Q f h) h
 pe:=O0 (Y4d hc hg hm hv ha.pa hn hdb he hpl) fun σ H Q ⟨τ,hR,h⟩=>⟨τ,hR,ha.mono τ _ _ (fun rs h vs H1 s1 irs=>⟨rs,irs.v,mg rs _ _ (fun r h v H' s2 ir=>h v H' (s1.trans s2) (ir.older s1)) h⟩) h⟩
theorem W7 {K : Fg9} {H0 H : Hp} {r : R} {vs : List V} (h : L6 K H0 H [r] vs) : ∃ v,vs = [v] /\ E1 K H0 H r v:=by
 obtain ⟨v,t,rfl,q,z⟩:=h
 cases (show t = [] from z)
 exact ⟨v,rfl,q⟩
noncomputable def Z0i : R -> (Nat -> Prop) -> Prop
 | .st (.str z),Q=>z.length <= sizeLine /\ Q z.length
 | .st (.tup ds),Q=>Q ds.length
 | .st (.lst ds),Q=>Q ds.length
 | .nw ds,Q=>Q ds.length
 | .bw ds,Q=>Q ds.length
 | _,_=>False
noncomputable def F2 : List R -> (R -> Prop) -> Prop
 | [r],Q=>Z0i r fun n=>Q (.st (.int n))
 | _,_=>False
theorem Y8f : Q2i F2:=fun x P Q g h=>by
 unfold F2 at h ⊢
 split at h
 ·unfold Z0i at h ⊢
  split at h <;> first | exact g _ h | exact ⟨h.1,g _ h.2⟩ | exact h
 ·exact h
theorem Y6a : Q2g X (.builtin "len") F2:=by
 intro pins s σ H xs us Q I rv ⟨rs,irs,h⟩
 unfold F2 at h
 split at h
 ·obtain ⟨v,rfl,ir⟩:=W7 irs
  unfold Z0i at h
  split at h
  ·cases (show v = .str _ from ir)
   exact Q4v pins s σ H _ us Q I rv ⟨_,_,rfl,⟨h.1,rfl⟩,h.2 _ _ (A6.refl H) X6⟩
  ·have ir : A2 X.K H _ v:=ir
   unfold A2 at ir
   obtain ⟨p,xs,rfl,sq,al⟩:=ir
   exact Q4v pins s σ H _ us Q I rv ⟨_,_,rfl,.inr ⟨xs,C8.of sq,rfl⟩,by rw [<- al.length]; exact h _ _ (A6.refl H) X6⟩
  ·have ir : A2 X.K H _ v:=ir
   unfold A2 at ir
   obtain ⟨p,xs,rfl,sq,al⟩:=ir
   exact Q4v pins s σ H _ us Q I rv ⟨_,_,rfl,.inl ⟨xs,sq.sq,rfl⟩,by rw [<- al.length]; exact h _ _ (A6.refl H) X6⟩
  ·obtain ⟨p,xs,rfl,_,sq,al⟩:=ir
   exact Q4v pins s σ H _ us Q I rv ⟨_,_,rfl,.inl ⟨xs,D5.of sq,rfl⟩,by rw [<- al.length]; exact h _ _ (A6.refl H) X6⟩
  ·obtain ⟨p,xs,rfl,sq,al⟩:=ir
   exact Q4v pins s σ H _ us Q I rv ⟨_,_,rfl,.inl ⟨xs,D5.of sq,rfl⟩,by rw [<- al.length]; exact h _ _ (A6.refl H) X6⟩
  ·exact h.elim
 ·exact h.elim
noncomputable def Q0p : List R -> (R -> Prop) -> Prop
 | [.st (.bl k)],Q=>Q (.st (.int (if k then 1 else 0)))
 | [.st (.int i)],Q=>Q (.st (.int i))
 | _,_=>False
theorem Y2k : Q2i Q0p:=fun x P Q g h=>by
 unfold Q0p at h ⊢
 split at h <;> first | exact g _ h | exact h
theorem Z7c : Q2g X (.type "int") Q0p:=by
 intro pins s σ H xs us Q I rv ⟨rs,irs,h⟩
 unfold Q0p at h
 split at h
 ·obtain ⟨v,rfl,ir⟩:=W7 irs
  cases (show v = .bl _ from ir)
  exact Z7o pins s σ H _ us Q I rv (.inr ⟨_,rfl,h _ _ (A6.refl H) X6⟩)
 ·obtain ⟨v,rfl,ir⟩:=W7 irs
  cases (show v = .int _ from ir)
  exact Z7o pins s σ H _ us Q I rv (.inl ⟨_,rfl,h _ _ (A6.refl H) X6⟩)
 ·exact h.elim
noncomputable def Q6a : R -> Option (List D)
 | .st (.tup ds)=>some ds
 | .st (.lst ds)=>some ds
 | .nw ds=>some ds
 | .bw ds=>some ds
 | _=>none
theorem W3q {K : Fg9} {H0 H : Hp} : ∀ {r : R} {ds : List D} {v : V},Q6a r = some ds -> E1 K H0 H r v -> ∃ a xs,v = .ref a /\ (D5 K H a xs \/ H a = some (.tup xs)) /\ AllS K H ds xs
 | .st (.tup ds),_,v,e,h=>by cases e; have h : A2 K H (.tup ds) v:=h; unfold A2 at h; obtain ⟨a,xs,e,q,t⟩:=h; exact ⟨a,xs,e,.inr q,t⟩
 | .st (.lst ds),_,v,e,h=>by cases e; have h : A2 K H (.lst ds) v:=h; unfold A2 at h; obtain ⟨a,xs,e,q,t⟩:=h; exact ⟨a,xs,e,.inl q.sq,t⟩
 | .nw ds,_,v,e,h=>by cases e; obtain ⟨a,xs,e,n,q,t⟩:=h; exact ⟨a,xs,e,.inl (D5.of q),t⟩
 | .bw ds,_,v,e,h=>by cases e; obtain ⟨a,xs,e,q,t⟩:=h; exact ⟨a,xs,e,.inl (D5.of q),t⟩
 | .st .non,_,_,e,_=>by cases e
 | .st (.bl _),_,_,e,_=>by cases e
 | .st (.int _),_,_,e,_=>by cases e
 | .st (.str _),_,_,e,_=>by cases e
 | .dk _,_,_,e,_=>by cases e
 | .dt _,_,_,e,_=>by cases e
 | .ob _,_,_,e,_=>by cases e
 | .cl _ _,_,_,e,_=>by cases e
 | .ms _ _ _ _,_,_,e,_=>by cases e
noncomputable def Q2 : List R -> (R -> Prop) -> Prop
 | [r],Q=>∃ ds,Q6a r = some ds /\ Q (.st (.tup ds))
 | _,_=>False
theorem Y9u : Q2i Q2:=fun x P Q g h=>by
 unfold Q2 at h ⊢
 split at h
 ·obtain ⟨ds,e,q⟩:=h; exact ⟨ds,e,g _ q⟩
 ·exact h
theorem W3y : Q2g X (.type "tuple") Q2:=by
 intro pins s σ H xs us Q I rv ⟨rs,irs,h⟩
 unfold Q2 at h
 split at h
 ·obtain ⟨v,rfl,ir⟩:=W7 irs
  obtain ⟨ds,e,q⟩:=h
  obtain ⟨a,xs,rfl,sq,al⟩:=W3q e ir
  refine W3l pins s σ H _ us Q I rv ⟨a,xs,rfl,?_⟩
  rcases sq with sq | sq
  ·exact .inl ⟨sq,fun l hl=>q _ _ (F7 hl _) (A2.s_tup (K:=X.K) upd_same (al.mono (Kp.of (F7 hl _)) _ _))⟩
  ·exact .inr ⟨C8.of sq,q _ _ (A6.refl H) (A2.s_tup (K:=X.K) (H:=H) sq al)⟩
 ·exact h.elim
noncomputable def Q5c : R -> Option String
 | .st .non=>some "NoneType"
 | .st (.bl _)=>some "bool"
 | .st (.int _)=>some "int"
 | .st (.str _)=>some "str"
 | .st (.tup _)=>some "tuple"
 | .nw _=>some "list"
 | .bw _=>some "list"
 | .st (.lst _)=>some "list"
 | _=>none
theorem Y4l {K : Fg9} {H0 H : Hp} : ∀ {r : R} {t : String} {v : V},Q5c r = some t -> E1 K H0 H r v -> V8 K H v (.type t) \/ (t = "list" /\ ∃ a xs,v = .ref a /\ D5 K H a xs)
 | .st .non,_,v,e,h=>by cases e; cases (show v = .non from h); exact .inl (.non)
 | .st (.bl b),_,v,e,h=>by cases e; cases (show v = .bl b from h); exact .inl (.bl b)
 | .st (.int b),_,v,e,h=>by cases e; cases (show v = .int b from h); exact .inl (.int b)
 | .st (.str b),_,v,e,h=>by cases e; cases (show v = .str b from h); exact .inl (.str b)
 | .st (.tup ds),_,v,e,h=>by cases e; have h : A2 K H (.tup ds) v:=h; unfold A2 at h; obtain ⟨a,xs,rfl,q,t⟩:=h; exact .inl (.tup q)
 | .nw ds,_,v,e,h=>by cases e; obtain ⟨a,xs,rfl,n,q,t⟩:=h; exact .inl (.lst q)
 | .bw ds,_,v,e,h=>by cases e; obtain ⟨a,xs,rfl,q,t⟩:=h; exact .inl (.lst q)
 | .st (.lst ds),_,v,e,h=>by cases e; have h : A2 K H (.lst ds) v:=h; unfold A2 at h; obtain ⟨a,xs,rfl,q,t⟩:=h; exact .inr ⟨rfl,a,xs,rfl,q.sq⟩
 | .dk _,_,_,e,_=>by cases e
 | .dt _,_,_,e,_=>by cases e
 | .ob _,_,_,e,_=>by cases e
 | .cl _ _,_,_,e,_=>by cases e
 | .ms _ _ _ _,_,_,e,_=>by cases e
noncomputable def Q4d (T : String) (t : String) : Bool:=t == T || (T == "int" && t == "bool")
def Q8s (T : String) (we : WE) : WE:=fun τ Q=>we τ fun r=>∃ t,Q5c r = some t /\ Q (.st (.bl (Q4d T t)))
theorem DE.isi {p2 : Pos} {y : Str} (he : DE X H0 e we) (hg : Gl X "isinstance") (hm : X.mg "isinstance" = none) (hv : bootBuiltins "isinstance" = some (.builtin "isinstance")) (hg2 : Gl X y) (hm2 : X.mg y = none) (hv2 : bootBuiltins y = some (.type T))
  (hk : ∀ K t,t ∈ ["NoneType","bool","int","str","tuple","list"] -> PySem.W.kitOne K (.type t) (.type T) = some (Q4d T t))
  (hs1 : starEach [e,.Name y p2] X.env = (false,eval e X.env) :: starEach [.Name y p2] X.env:=by rfl) (hs2 : starEach [.Name y p2] X.env = (false,eval (.Name y p2) X.env) :: starEach [] X.env:=by rfl)
  (hpl : (backTo pos (starEach [.Name y p2] X.env)).any (·.1) = false:=by rfl) (hn : y ≠ "__name__":=by decide) (hd : (y == ("__debug__" : Str)) = false:=by decide) :
  DE X H0 (.Call (.Name "isinstance" p) [e,.Name y p2] [] pos) (Q8s T we) where
 mono:=fun τ P Q f h=>he.mono τ _ _ (fun r ⟨t,h1,h2⟩=>⟨t,h1,f _ h2⟩) h
 pe:=by
  have hc : Q1o X (.builtin "isinstance") (fun xs H Q=>∃ v t,xs = [v,.ty T] /\ (V8 X.K H v (.type t) \/ (t = "list" /\ ∃ a ys,v = .ref a /\ D5 X.K H a ys)) /\ t ∈ ["NoneType","bool","int","str","tuple","list"] /\ Q (.bl (Q4d T t)) H):=by
   intro pins s σ H xs us Q I rv ⟨v,t,e,ty,ht,q⟩
   subst e
   obtain ⟨u,w',rfl,r1,r2⟩:=W1f rv
   cases (show w' = Value.type T from r2)
   rcases ty with ty | ⟨rfl,a,ys,rfl,sq⟩
   ·exact Y5y I r1 ty (hk _ t ht) fun tk=>⟨.bl _,H,I.tok tk,rfl,q⟩
   ·cases (show u = Value.ref a from r1)
    obtain ⟨its,_,⟨o,n,h1,h2,_⟩,_⟩:=I.list sq
    exact PySem.W.kia_one PySem.W.kitx_list I.kIn ⟨o,h1,h2⟩ (hk _ _ ht) (fun z=>nomatch z) fun tk=>⟨.bl _,H,I.tok tk,rfl,q⟩
  refine O0 (Z3r hc hg hm hv (Q2f he.pe (Q2f (Y4j (v:=.ty T) hg2 hm2 hv2 rfl hn hd) Q4s hs2) hs1) (by decide) (by decide) hs1 hpl) fun σ H Q ⟨τ,hR,h⟩=>⟨τ,hR,he.mono τ _ _ (fun r h v H1 s1 ir=>?_) h⟩
  obtain ⟨t,h1,h2⟩:=h
  refine ⟨v,t,rfl,Y4l h1 ir,?_,h2 _ _ s1 Q5h⟩
  unfold Q5c at h1
  split at h1 <;> first | (cases h1; simp) | cases h1
end
noncomputable abbrev WG:=D -> A8 -> (A8 -> Prop) -> Prop
noncomputable def Y4w (K : Fg9) (H0 : Hp) (g : WG) : TG:=fun v σ H Q=>∃ τ d,B5 K H0 τ σ H /\ A2 K H d v /\ g d τ fun τ'=>∀ σ' H',A6 H H' -> B5 K H0 τ' σ' H' -> Q σ' H'
structure DG (X : Cx) (H0 : Hp) (tg : Expr) (g : WG) : Prop where
 mono : ∀ d τ (P Q : A8 -> Prop),(∀ τ,P τ -> Q τ) -> g d τ P -> g d τ Q
 pg : PG X tg (Y4w X.K H0 g)
noncomputable abbrev WGs:=List D -> A8 -> (A8 -> Prop) -> Prop
noncomputable def Y3x (K : Fg9) (H0 : Hp) (g : WGs) : TGs:=fun vs σ H Q=>∃ τ ds,B5 K H0 τ σ H /\ AllS K H ds vs /\ g ds τ fun τ'=>∀ σ' H',A6 H H' -> B5 K H0 τ' σ' H' -> Q σ' H'
structure G5 (X : Cx) (H0 : Hp) (tg : List Expr) (g : WGs) : Prop where
 mono : ∀ d τ (P Q : A8 -> Prop),(∀ τ,P τ -> Q τ) -> g d τ P -> g d τ Q
 pg : PGs X tg (Y3x X.K H0 g)
theorem pgW {X : Cx} {e : Expr} {t t' : TG} (h : PG X e t) (f : ∀ v σ H Q,t' v σ H Q -> t v σ H Q) : PG X e t':=fun pins s σ H v u Q I r q=>h pins s σ H v u Q I r (f v σ H Q q)
theorem pgsW {X : Cx} {e : List Expr} {t t' : TGs} (h : PGs X e t) (f : ∀ v σ H Q,t' v σ H Q -> t v σ H Q) : PGs X e t':=fun pins s σ H v u Q I r q=>h pins s σ H v u Q I r (f v σ H Q q)
section
variable {X : Cx} {H0 : Hp} {a b c e iter tg : Expr} {pos : Pos} {wa wb we : WE} {es : List Expr}
def C2 (i : Nat) : WG:=fun d τ Q=>Q (τ.set i (some (.dat d)))
theorem DG.nm {i : Nat} {x : Str} (hN : X.N.Nodup) (hi : X.N[i]? = some x) (hx : Loc X.env.scope x) (hf : X.fn x = true \/ X.env.scope.names.lookup x = some .local:=by first | exact .inl rfl | exact .inr rfl | assumption) : DG X H0 (.Name x pos) (C2 i) where
 mono:=fun d τ P Q f h=>f _ h
 pg:=pgW (Z5k hN hi hx hf) fun v σ H Q ⟨τ,d,hR,iv,h⟩=>h _ _ (A6.refl H) (hR.set iv fun m=>by cases m)
def O1 : WGs:=fun ds τ Q=>ds = [] /\ Q τ
def E8 (g : WG) (gs : WGs) : WGs:=fun ds τ Q=>∃ d r,ds = d :: r /\ g d τ fun τ'=>gs r τ' Q
theorem G5.nil : G5 X H0 [] O1 where
 mono:=fun d τ P Q f h=>⟨h.1,f _ h.2⟩
 pg:=pgsW Y8d fun vs σ H Q ⟨τ,ds,hR,al,h1,h2⟩=>by
  subst h1
  unfold AllS at al
  exact ⟨al,h2 σ H (A6.refl H) hR⟩
theorem G5.cons {g : WG} {gs : WGs} (h1 : DG X H0 e g) (h2 : G5 X H0 es gs) (hs : (assignEach (e :: es) X.env).map (·.2) = assign e X.env :: (assignEach es X.env).map (·.2):=by rfl) : G5 X H0 (e :: es) (E8 g gs) where
 mono:=fun d τ P Q f ⟨x,r,e1,h⟩=>⟨x,r,e1,h1.mono x τ _ _ (fun τ' h=>h2.mono r τ' P Q f h) h⟩
 pg:=pgsW (W4a h1.pg h2.pg hs) fun vs σ H Q ⟨τ,ds,hR,al,d,r,e1,h⟩=>by
  subst e1
  unfold AllS at al
  obtain ⟨v,t,rfl,iv,al⟩:=al
  exact ⟨v,t,rfl,τ,d,hR,iv,h1.mono d τ _ _ (fun τ' h σ' H' sm hR'=>⟨τ',r,hR',al.mono (Kp.of sm) _ _,h2.mono r τ' _ _ (fun τ2 h σ2 H2 s2 hR2=>h σ2 H2 (sm.trans s2) hR2) h⟩) h⟩
def N5 (n : Nat) (gs : WGs) : WG:=fun d τ Q=>∃ ds,d = .tup ds /\ ds.length = n /\ gs ds τ Q
theorem DG.tp {k n : Nat} {gs : WGs} (hc : X.calm = true) (h : G5 X H0 es gs) (hn : (assignEach es X.env).length = n:=by rfl) (hst : (assignEach es X.env).findIdx? (·.1) = none:=by rfl) : DG X H0 (.Tuple es k pos) (N5 n gs) where
 mono:=fun d τ P Q f ⟨ds,e1,e2,q⟩=>⟨ds,e1,e2,h.mono ds τ P Q f q⟩
 pg:=pgW (W3d hc h.pg hn hst) fun v σ H Q ⟨τ,d,hR,iv,ds,e1,e2,q⟩=>by
  subst e1
  unfold A2 at iv
  obtain ⟨p,xs,rfl,sq,al⟩:=iv
  exact ⟨p,xs,rfl,C8.of sq,by rw [<- al.length]; exact e2,τ,ds,hR,al,q⟩
theorem DS.asg {g : WG} (he : DE X H0 e we) (hg : DG X H0 tg g) (hs : swapsWithSole [tg] e pos.line X.env = pure false:=by rfl) (hw : swappedStores [tg] e X.env = pure none:=by rfl)
  (h1 : (assignEach [tg] X.env).map (·.2) = [assign tg X.env]:=by rfl) : DS X H0 (.Assign [tg] e pos) (fun E τ=>we τ fun r=>∃ d,r = .st d /\ g d τ E.nx) where
 mono:=fun τ E F le h=>he.mono τ _ _ (fun r ⟨d,e1,h⟩=>⟨d,e1,hg.mono d τ _ _ le.nx h⟩) h
 ps:=P4 (W5a he.pe hg.pg hs hw h1) fun D σ H ⟨τ,hR,h⟩=>⟨τ,hR,he.mono τ _ _ (fun r ⟨d,e1,h⟩ v H1 s1 ir=>by
  subst e1
  exact ⟨τ,d,hR.mono s1,ir,hg.mono d τ _ _ (fun τ' h σ' H' s2 hR'=>h σ' H' (Kp.of (s1.trans s2)) hR') h⟩) h⟩
structure Yl (K : Fg9) (H0 : Hp) (J : It) (ds : List D) (H : Hp) : Prop where
 go : ∀ H',Kp H H' -> A6 H0 H' -> ∀ i,i < ds.length -> J.go i H'
 yld : ∀ H',Kp H H' -> A6 H0 H' -> ∀ i x H'' d,ds[i]? = some d -> J.yld i H' x H'' -> A6 H' H'' /\ A2 K H'' d x
 stop : ∀ H',Kp H H' -> A6 H0 H' -> J.stop ds.length H'
noncomputable abbrev WI:=A8 -> (List D -> A8 -> Prop) -> Prop
noncomputable def Y8n (K : Fg9) (H0 : Hp) (wi : WI) : TI:=fun σ H R=>∃ τ,B5 K H0 τ σ H /\ wi τ fun ds τ'=>∀ J H',Kp H H' -> B5 K H0 τ' σ H' -> Yl K H0 J ds H' -> R J H'
structure DI (X : Cx) (H0 : Hp) (tg iter : Expr) (wi : WI) : Prop where
 mono : ∀ τ (P Q : List D -> A8 -> Prop),(∀ ds τ,P ds τ -> Q ds τ) -> wi τ P -> wi τ Q
 pi : PI X tg iter (Y8n X.K H0 wi)
theorem piW {X : Cx} {tg e : Expr} {t t' : TI} (h : PI X tg e t) (f : ∀ σ H Q,t' σ H Q -> t σ H Q) : PI X tg e t':=fun pins s σ H R I q=>h pins s σ H R I (f σ H R q)
theorem Y5l {K : Fg9} {H0 H : Hp} {a : Addr} {xs : List V} {ds : List D} (hq : ∀ H',Kp H H' -> A6 H0 H' -> D5 K H' a xs) (al : AllS K H ds xs) : Yl K H0 (Itl K a) ds H where
 go:=fun H' k s i hi=>⟨xs,xs[i]'(by rw [<- al.length]; exact hi),hq H' k s,List.getElem?_eq_getElem _⟩
 yld:=fun H' k s i x H'' d hd ⟨e,y⟩=>by
  subst e
  have hx:=y xs (hq _ k s)
  obtain ⟨v,hv,q⟩:=(al.mono k _ _).get hd
  rw [hx] at hv; cases hv
  exact ⟨A6.refl _,q⟩
 stop:=fun H' k s=>⟨xs,hq H' k s,by rw [al.length]; exact Nat.le_refl _⟩
theorem DI.lst (he : DE X H0 e we) : DI X H0 tg e (fun τ Q=>we τ fun r=>∃ ds,r = .st (.lst ds) /\ Q ds τ) where
 mono:=fun τ P Q f h=>he.mono τ _ _ (fun r ⟨ds,e1,q⟩=>⟨ds,e1,f _ _ q⟩) h
 pi:=piW (Z7h he.pe) fun σ H R ⟨τ,hR,h⟩=>⟨τ,hR,he.mono τ _ _ (fun r ⟨ds,e1,q⟩ v H1 s1 ir=>by
  subst e1
  have ir : A2 X.K H1 (.lst ds) v:=ir
  unfold A2 at ir
  obtain ⟨a,xs,rfl,sq,al⟩:=ir
  exact ⟨a,rfl,⟨xs,sq.sq⟩,q _ _ (Kp.of s1) (hR.mono s1) (Y5l (fun H' k _=>(k.fzL sq).sq) al)⟩) h⟩
theorem B5.freeze {K : Fg9} {H : Hp} {τ : A8} {σ : St} {i : Nat} {ds : List D} {a : Addr} {o : Obj} {xs : List V} (hR : B5 K H0 τ σ H) (e1 : τ[i]? = some (some (.own ds))) (hv : σ[i]? = some (some (.ref a))) (h0 : H0 a = none) (sq : H a = some (.lst xs)) (al : AllS K H ds xs) :
  B5 K H0 (τ.set i (some (.dat (.lst ds)))) σ (upd H a (.frz o (.lst xs))):=by
 have kp : Kp H (upd H a (.frz o (.lst xs))):=Kp.upd sq _
 have hl : i < τ.length:=by
  rcases Nat.lt_or_ge i τ.length with h | h
  ·exact h
  ·rw [List.getElem?_eq_none_iff.mpr h] at e1; cases e1
 refine ⟨by rw [List.length_set]; exact hR.len,fun b ob hb=>?_,fun j s e=>?_,fun j k s t v hne e2 e3 m1 m2 q1 q2=>?_⟩
 ·rw [A9 (T2 hb h0)]; exact hR.same b ob hb
 ·by_cases hj : j = i
  ·subst hj
   rw [Z0 hl] at e; cases e
   exact ⟨_,hv,A2.s_lst (K:=K) (.inl ⟨o,upd_same⟩) (al.mono kp _ _)⟩
  ·rw [List.getElem?_set_ne (fun z=>hj z.symm)] at e
   obtain ⟨v,q,r⟩:=hR.here j s e
   refine ⟨v,q,?_⟩
   have ap : s.mut = true -> v ≠ .ref a:=fun m z=>by
    subst z
    exact hR.apart i j _ s (.ref a) (fun z=>hj z.symm) e1 e rfl m hv q
   cases s with
   | dat d=>exact A2.mono kp _ _ r
   | own es=>obtain ⟨b,ys,e,n,q,t⟩:=r; exact ⟨b,ys,e,n,by rw [A9 (fun z=>ap rfl (by rw [e,z]))]; exact q,t.mono kp _ _⟩
   | bor es=>obtain ⟨b,ys,e,q,t⟩:=r; exact ⟨b,ys,e,q,t.mono kp _ _⟩
   | dk es=>obtain ⟨b,ys,e,n,q,t⟩:=r; exact ⟨b,ys,e,n,by rw [A9 (fun z=>ap rfl (by rw [e,z]))]; exact q,t.mono kp _ _⟩
   | dt es=>obtain ⟨b,ys,e,n,q,t⟩:=r; exact ⟨b,ys,e,n,by rw [A9 (fun z=>ap rfl (by rw [e,z]))]; exact q,t.mono kp _ _⟩
   | ob _=>exact r
   | cl _ _=>exact ⟨r.1,r.2.2 _ _ kp r.2.1,r.2.2⟩
   | ll _ _=>exact ⟨r.1,r.2.keep kp fun b φ q=>by rw [A9 (W9 q sq (by intro z; cases z))]; exact q⟩
   | ins _ _ _=>obtain ⟨e,n,dx,ys,q,t⟩:=r; exact ⟨e,n,dx,ys,by rw [A9 (fun z=>ap rfl (by rw [e,z]))]; exact q,t.mono kp _ _⟩
 ·by_cases hj : j = i
  ·subst hj; rw [Z0 hl] at e2; cases e2; cases m1
  ·by_cases hk : k = i
   ·subst hk; rw [Z0 hl] at e3; cases e3; cases m2
   ·rw [List.getElem?_set_ne (fun z=>hj z.symm)] at e2
    rw [List.getElem?_set_ne (fun z=>hk z.symm)] at e3
    exact hR.apart j k s t v hne e2 e3 m1 m2 q1 q2
theorem DI.tup (he : DE X H0 e we) : DI X H0 tg e (fun τ Q=>we τ fun r=>∃ ds,r = .st (.tup ds) /\ Q ds τ) where
 mono:=fun τ P Q f h=>he.mono τ _ _ (fun r ⟨ds,e1,q⟩=>⟨ds,e1,f _ _ q⟩) h
 pi:=piW (Z8i he.pe) fun σ H R ⟨τ,hR,h⟩=>⟨τ,hR,he.mono τ _ _ (fun r ⟨ds,e1,q⟩ v H1 s1 ir=>by
  subst e1
  have ir : A2 X.K H1 (.tup ds) v:=ir
  unfold A2 at ir
  obtain ⟨a,xs,rfl,sq,al⟩:=ir
  refine ⟨a,rfl,⟨xs,C8.of sq⟩,q _ _ (Kp.of s1) (hR.mono s1) ⟨fun H' k _ i hi=>⟨xs,xs[i]'(by rw [<- al.length]; exact hi),C8.of (k.tup _ _ sq),List.getElem?_eq_getElem _⟩,fun H' k _ i x H'' d hd ⟨e,y⟩=>?_,fun H' k _=>⟨xs,C8.of (k.tup _ _ sq),by rw [al.length]; exact Nat.le_refl _⟩⟩⟩
  subst e
  have hx:=y xs (C8.of (k.tup _ _ sq))
  obtain ⟨v,hv,q⟩:=(al.mono k _ _).get hd
  rw [hx] at hv; cases hv
  exact ⟨A6.refl _,q⟩) h⟩
noncomputable def Q4 (lo : Int) (n : Nat) : List D:=(List.range n).map fun (i : Nat)=>.int (lo + (i : Int))
theorem Q6j {K : Fg9} {H0 H : Hp} {lo : Int} {n : Nat} : Yl K H0 (Itr lo n) (Q4 lo n) H where
 go:=fun H' _ _ i hi=>by
  have : i < n:=by simpa [Q4] using hi
  exact this
 yld:=fun H' _ _ i x H'' d hd ⟨e,y⟩=>by
  subst e
  refine ⟨A6.refl _,?_⟩
  unfold Q4 at hd
  rw [List.getElem?_map] at hd
  rcases Nat.lt_or_ge i n with hi | hi
  ·rw [List.getElem?_range hi] at hd
   have e : D.int (lo + i) = d:=Option.some.inj hd
   subst e y
   exact A2.s_int
  ·rw [List.getElem?_eq_none_iff.mpr (by simpa using hi)] at hd; cases hd
 stop:=fun H' _ _=>by
  show n <= (Q4 lo n).length
  simp [Q4]
variable {wr : WA}
theorem DI.rng1 {p : Pos} (hg : Gl X "range") (hm : X.mg "range" = none) (ha : DA X H0 [a] wr) (hs : starEach [a] X.env = [(false,eval a X.env)]:=by rfl) :
  DI X H0 tg (.Call (.Name "range" p) [a] [] pos) (fun τ Q=>wr τ fun rs=>∃ j : Int,rs = [.st (.int j)] /\ -(2 ^ 62) <= j /\ j < 2 ^ 62 /\ Q (Q4 0 j.toNat) τ) where
 mono:=fun τ P Q f h=>ha.mono τ _ _ (fun r ⟨j,e1,h1,h2,q⟩=>⟨j,e1,h1,h2,f _ _ q⟩) h
 pi:=piW (Z6q hg hm ha.pa hs) fun σ H R ⟨τ,hR,h⟩=>⟨τ,hR,ha.mono τ _ _ (fun r ⟨j,e1,h1,h2,q⟩ vs H1 s1 irs=>by
  subst e1
  obtain ⟨v,rfl,ir⟩:=W7 irs
  cases (show v = .int j from ir)
  exact ⟨j,rfl,h1,h2,q _ _ (Kp.of s1) (hR.mono s1) Q6j⟩) h⟩
theorem Y0m {K : Fg9} {H0 H : Hp} {r r' : R} {vs : List V} (h : L6 K H0 H [r,r'] vs) : ∃ v u,vs = [v,u] /\ E1 K H0 H r v /\ E1 K H0 H r' u:=by
 obtain ⟨v,t,rfl,q,z⟩:=h
 obtain ⟨u,rfl,q'⟩:=W7 z
 exact ⟨v,u,rfl,q,q'⟩
noncomputable def E2 (g : WG) (wb : WS) (E : E6) : List D -> A8 -> Prop
 | [],τ=>E.nx τ
 | d :: ds,τ=>g d τ fun τ'=>wb { E with nx:=E2 g wb E ds,ct:=E2 g wb E ds,bk:=E.nx } τ'
theorem Q9p {g : WG} {wb : WS} (hg : ∀ d τ (P Q : A8 -> Prop),(∀ τ,P τ -> Q τ) -> g d τ P -> g d τ Q) (hb : ∀ (τ : A8) (E F : E6),E.Le F -> wb E τ -> wb F τ) {E F : E6} (le : E.Le F) : ∀ (ds : List D) (τ : A8),E2 g wb E ds τ -> E2 g wb F ds τ
 | [],τ,h=>le.nx τ h
 | d :: ds,τ,h=>hg d τ _ _ (fun τ' h=>hb τ' { E with nx:=E2 g wb E ds,ct:=E2 g wb E ds,bk:=E.nx } { F with nx:=E2 g wb F ds,ct:=E2 g wb F ds,bk:=F.nx } ⟨fun τ h=>Q9p hg hb le ds τ h,le.rt,le.nx,fun τ h=>Q9p hg hb le ds τ h⟩ h) h
theorem DS.for {body : List Stmt} {wi : WI} {g : WG} {wb : WS} (hp : PassesOwn (model X.prog X.w) X.A X.env X.xe) (hc : X.calm = true) (hi : DI X H0 tg iter wi) (hg : DG X H0 tg g) (hb : A4 X H0 body wb)
  (hs : ∀ x,foldedSetIterable iter X.env x = pure x:=by intro _; rfl) : DS X H0 (.For tg iter body [] pos) (fun E τ=>wi τ fun ds τ'=>E2 g wb E ds τ') where
 mono:=fun τ E F le h=>hi.mono τ _ _ (fun ds τ' h=>Q9p hg.mono hb.mono le ds τ' h) h
 ps:=P4 (Y6y hp hc hi.pi hg.pg hb.ps hs) fun D σ H ⟨τ,hR,h⟩=>⟨τ,hR,hi.mono τ _ _ (fun ds τ' h J H1 k1 hR1 yl=>by
  refine ⟨fun i m σ H2=>∃ τ,B5 X.K H0 τ σ H2 /\ Kp H1 H2 /\ i <= ds.length /\ m = ds.length - i /\ E2 g wb (K9 X.K H0 H D) (ds.drop i) τ,⟨ds.length,τ',hR1,Kp.refl _,Nat.zero_le _,rfl,h⟩,?_⟩
  rintro i m σ2 H2 ⟨τ2,hR2,k2,hi2,rfl,h2⟩
  by_cases hlt : i < ds.length
  ·refine .inr ⟨yl.go H2 k2 hR2.same i hlt,fun σ' H'=>∃ τ,B5 X.K H0 τ σ' H' /\ Kp H1 H' /\ i + 1 <= ds.length /\ E2 g wb (K9 X.K H0 H D) (ds.drop (i + 1)) τ,fun σ' H' ⟨τ3,a3,b3,c3,d3⟩=>⟨ds.length - (i + 1),by omega,τ3,a3,b3,c3,rfl,d3⟩,fun x H3 y=>?_⟩
   obtain ⟨s3,ix⟩:=yl.yld H2 k2 hR2.same i x H3 _ (List.getElem?_eq_getElem hlt) y
   rw [List.drop_eq_getElem_cons hlt] at h2
   have k3:=k2.trans (Kp.of s3)
   refine ⟨τ2,ds[i],hR2.mono s3,ix,hg.mono _ _ _ _ (fun τ4 h4 σ4 H4 s4 hR4=>⟨τ4,hR4,?_⟩) h2⟩
   have k4:=k3.trans (Kp.of s4)
   have k5:=k1.trans k4
   exact hb.mono τ4 { K9 X.K H0 H D with nx:=E2 g wb (K9 X.K H0 H D) (ds.drop (i + 1)),ct:=E2 g wb (K9 X.K H0 H D) (ds.drop (i + 1)),bk:=(K9 X.K H0 H D).nx } _
    ⟨fun τ5 h5 σ5 H5 kk hR5=>⟨τ5,hR5,k4.trans kk,hlt,h5⟩,fun _ h=>h,fun τ5 h5 σ5 H5 kk hR5=>h5 σ5 H5 (k5.trans kk) hR5,fun τ5 h5 σ5 H5 kk hR5=>⟨τ5,hR5,k4.trans kk,hlt,h5⟩⟩ h4
  ·have e : i = ds.length:=by omega
   subst e
   rw [List.drop_length] at h2
   exact .inl ⟨yl.stop H2 k2 hR2.same,h2 σ2 H2 (k1.trans k2) hR2⟩) h⟩
end
noncomputable def Q1 (env : Env) : List (Str × NameKind) -> List (Str × Addr) -> List (Str × Addr)
 | [],acc=>acc
 | (n,k) :: r,acc=>Q1 env r (if (k == NameKind.free) = true then (n,(env.cells.lookup n).getD 0) :: acc else acc)
theorem Q8e {scope : Scope} {env : Env} (h : ∀ y ∈ scope.names,y.2 = .free -> ∃ c,env.cells.lookup y.1 = some c) : closureFor scope env = pure (Q1 env scope.names []):=by
 have key : ∀ (l : List (Str × NameKind)) (acc : List (Str × Addr)),(∀ y ∈ l,y.2 = .free -> ∃ c,env.cells.lookup y.1 = some c) ->
   (forIn l acc fun x r=>(if (x.2 == NameKind.free) = true then cellOf env x.1 >>= fun c=>pure (ForInStep.yield ((x.1,c) :: r)) else pure (ForInStep.yield r) : Sem (ForInStep (List (Str × Addr))))) = pure (Q1 env l acc):=by
  intro l
  induction l with
  | nil=>intro acc _; rfl
  | cons x r ih =>
   intro acc hl
   obtain ⟨n,k⟩:=x
   have hr : ∀ y ∈ r,y.2 = .free -> ∃ c,env.cells.lookup y.1 = some c:=fun y hy=>hl y (List.mem_cons_of_mem _ hy)
   rw [List.forIn_cons]
   by_cases hk : (k == NameKind.free) = true
   ·obtain ⟨c,hc⟩:=hl (n,k) List.mem_cons_self (eq_of_beq hk)
    have hc : env.cells.lookup n = some c:=hc
    have e : cellOf env n = pure c:=by unfold cellOf; rw [hc]
    show ((if (k == NameKind.free) = true then cellOf env n >>= fun c=>pure (ForInStep.yield ((n,c) :: acc)) else pure (ForInStep.yield acc)) >>= _) = _
    rw [if_pos hk,e]
    show _ = pure (Q1 env r (if (k == NameKind.free) = true then (n,(env.cells.lookup n).getD 0) :: acc else acc))
    rw [if_pos hk,hc]
    exact ih _ hr
   ·show ((if (k == NameKind.free) = true then cellOf env n >>= fun c=>pure (ForInStep.yield ((n,c) :: acc)) else pure (ForInStep.yield acc)) >>= _) = _
    rw [if_neg hk]
    show _ = pure (Q1 env r (if (k == NameKind.free) = true then (n,(env.cells.lookup n).getD 0) :: acc else acc))
    rw [if_neg hk]
    exact ih _ hr
 simp only [closureFor]
 rw [key scope.names [] h]
 rfl
theorem Z5l {env : Env} : ∀ (l : List (Str × NameKind)) (acc : List (Str × Addr)) (p : Str × Addr),p ∈ Q1 env l acc -> p ∈ acc \/ ((p.1,NameKind.free) ∈ l /\ p.2 = (env.cells.lookup p.1).getD 0)
 | [],acc,p,h=>.inl h
 | (n,k) :: r,acc,p,h=>by
  rcases Z5l r _ p h with q | ⟨q1,q2⟩
  ·by_cases hk : (k == NameKind.free) = true
   ·rw [if_pos hk] at q
    rcases List.mem_cons.mp q with q | q
    ·refine .inr ⟨?_,by rw [q]⟩
     have : k = NameKind.free:=eq_of_beq hk
     rw [q,this]; exact List.mem_cons_self
    ·exact .inl q
   ·rw [if_neg hk] at q; exact .inl q
  ·exact .inr ⟨List.mem_cons_of_mem _ q1,q2⟩
theorem Y1p {env : Env} : ∀ (l : List (Str × NameKind)) (acc : List (Str × Addr)) (n : Str),((n,NameKind.free) ∈ l \/ ∃ c,(n,c) ∈ acc) -> ∃ c,(n,c) ∈ Q1 env l acc
 | [],acc,n,h=>by
  rcases h with h | h
  ·cases h
  ·exact h
 | (m,k) :: r,acc,n,h=>by
  refine Y1p r _ n ?_
  rcases h with h | ⟨c,h⟩
  ·rcases List.mem_cons.mp h with e | h
   ·cases e
    refine .inr ⟨(env.cells.lookup m).getD 0,?_⟩
    rw [if_pos (by rfl)]
    exact List.mem_cons_self
   ·exact .inl h
  ·refine .inr ⟨c,?_⟩
   split
   ·exact List.mem_cons_of_mem _ h
   ·exact h
theorem Q6z {α : Type} : ∀ {l : List (Str × α)} {x : Str} {c : α},l.lookup x = some c -> (x,c) ∈ l
 | [],_,_,h=>by simp at h
 | (n,d) :: r,x,c,h=>by
  rw [List.lookup_cons] at h
  cases e : x == n with
  | true=>rw [e] at h; cases h; rw [eq_of_beq e]; exact List.mem_cons_self
  | false=>rw [e] at h; exact List.mem_cons_of_mem _ (Q6z h)
theorem Z8o {α : Type} : ∀ {l : List (Str × α)} {x : Str} {c : α},(x,c) ∈ l -> ∃ d,l.lookup x = some d
 | [],_,_,h=>by cases h
 | (n,d) :: r,x,c,h=>by
  rw [List.lookup_cons]
  cases e : x == n with
  | true=>exact ⟨d,rfl⟩
  | false =>
   rcases List.mem_cons.mp h with q | q
   ·cases q; simp at e
   ·exact Z8o q
noncomputable def C1 (X : Cx) (scope : Scope) (C : Addr) (s : Shared) (H : Hp) (fp : List Addr) (N : List Str) : Cx :=
 { X with N:=N,s₀:=s,H₀:=H,env:=compEnvC scope (Q1 X.env scope.names []) C X.env,outer:=X.stack,ex:=fp,fn:=fun _=>false,pn:=[],xe:=fun _ _=>False }
structure K8 (X : Cx) (scope : Scope) (N : List Str) (nt : Nat) (cap : List Nat) : Prop where
 kind : scope.kind = .function
 cell : ∀ y ∈ scope.names,y.2 ≠ .cell
 names : ∀ y ∈ scope.names,y.2 = .local -> scope.names.lookup y.1 = some .local
 only : ∀ y ∈ scope.names,y.2 = .free -> scope.names.lookup y.1 = some .free
 free : ∀ y ∈ scope.names,y.2 = .free -> X.env.kindOf y.1 = some .cell \/ X.env.kindOf y.1 = some .free
 len : N.length = nt + cap.length
 caps : ∀ (j i : Nat) (x : Str),cap[j]? = some i -> N[nt + j]? = some x -> X.N[i]? = some x /\ (x,NameKind.free) ∈ scope.names
section
variable {X : Cx} {scope : Scope} {N : List Str} {nt : Nat} {cap : List Nat} {pins : Pn9} {σ : St} {H : Hp} {s : Shared}
theorem U3 (I : A1 X pins σ H s) (B : K8 X scope N nt cap) {x : Str} {c : Addr} (h : (Q1 X.env scope.names []).lookup x = some c) : X.env.cells.lookup x = some c:=by
 rcases Z5l _ _ _ (Q6z h) with q | ⟨q1,q2⟩
 ·cases q
 ·obtain ⟨d,hd⟩:=I.ok.has x (B.free _ q1 rfl)
  have q2 : c = (X.env.cells.lookup x).getD 0:=q2
  rw [hd] at q2 ⊢
  rw [q2]; rfl
theorem Z2o (I : A1 X pins σ H s) (B : K8 X scope N nt cap) {x : Str} (h : (x,NameKind.free) ∈ scope.names) : ∃ c,(Q1 X.env scope.names []).lookup x = some c:=by
 obtain ⟨c,hc⟩:=Y1p (env:=X.env) scope.names [] x (.inl h)
 exact Z8o hc
theorem Z9t {env : Env} {x : Str} {k : NameKind} (h : (relabel scope env).names.lookup x = some k) (hk : k = .cell \/ k = .free) (nc : ∀ y ∈ scope.names,y.2 ≠ .cell) : (x,NameKind.free) ∈ scope.names:=by
 have m:=Q6z h
 unfold relabel at m
 obtain ⟨⟨n,k'⟩,hm,e⟩:=List.mem_map.mp m
 dsimp only at e
 split at e
 ·rename_i hc
  cases e
  simp only [Bool.and_eq_true] at hc
  have : k' = NameKind.free:=eq_of_beq hc.1.1
  rw [<- this]; exact hm
 ·cases e
  rcases hk with rfl | rfl
  ·exact absurd rfl (nc _ hm)
  ·exact hm
theorem Y9j (I : A1 X pins σ H s) (B : K8 X scope N nt cap) {C : Addr} {fp : List Addr} (hC : s.heap.objs.size <= C) (hf : ∀ b ∈ fp,K3 X pins H b) (hfl : ∀ b ∈ fp,b < s.heap.objs.size) : (C1 X scope C s H fp N).Ok where
 mod:=I.ok.mod
 kind:=B.kind
 glob:=I.ok.glob
 blt:=I.ok.blt
 above:=hC
 inj:=fun x y c h1 h2=>I.ok.inj x y c (U3 I B h1) (U3 I B h2)
 has:=fun x h=>by
  rcases h with h | h
  ·exact Z2o I B (Z9t h (.inl rfl) B.cell)
  ·exact Z2o I B (Z9t h (.inr rfl) B.cell)
 cab:=fun x c h=>by cases h
 hd:=I.ok.hd
 frames:=I.ok.frames
 stk:=.inl rfl
 exf:=fun b hb=>⟨Nat.ne_of_lt (Nat.lt_of_lt_of_le (hfl b hb) hC),fun x c h=>(hf b hb).2.2.2.2.1 x c (U3 I B h)⟩
 bs:=I.bs
 bsz:=Nat.le_trans I.ok.bsz I.sz
 noex:=fun b o e hb=>by
  rcases (hf b hb).2.2.2.1 with z | z
  ·exact I.ok.noex b o e z
  ·exact absurd (Nat.lt_of_lt_of_le (Heap.lt_size e) (Nat.le_trans I.ok.bsz z)) (Nat.lt_irrefl _)
 exfs:=fun b hb z=>by
  rcases List.mem_cons.mp (I.stkSub b z) with e | e
  ·exact (hf b hb).2.1 e
  ·exact (hf b hb).2.2.1 e
 funs:=I.stack
 frf:=I.stkFree
theorem Q7k (I : A1 X pins σ H s) (B : K8 X scope N nt cap) {C : Addr} {fp : List Addr} (hf : ∀ b ∈ fp,K3 X pins H b) (hfl : ∀ b ∈ fp,b < s.heap.objs.size) {h' : Heap} {t' : Nat} {m : Str -> Option Value}
  (hC : s.heap.objs.size <= C) (hns : h'.Ns C m) (k : ∀ b o,s.heap.get? b = some o -> h'.get? b = some o) :
  A1 (C1 X scope C s H fp N) [] (List.replicate nt none ++ cap.map fun i=>(σ[i]?).join) H { s with heap:=h',toks:=t' }:=by
 refine ⟨Y9j I B hC hf hfl,rfl,I.bare,Un.kept k,⟨m,hns,fun i x v h1 h2 h3=>?_⟩,fun x c h=>?_,I.hok.fresh hC,fun x c h=>I.freeC x c (U3 I B h),(fun p hp=>by cases hp),I.hok.kept k,?_⟩
 ·have h1 : N[i]? = some x:=h1
  by_cases hi : i < nt
  ·rw [List.getElem?_append_left (by rw [List.length_replicate]; exact hi)] at h2
   have:=List.mem_of_getElem? h2
   rw [List.mem_replicate] at this
   cases this.2
  ·rw [List.getElem?_append_right (by rw [List.length_replicate]; omega),List.length_replicate,List.getElem?_map] at h2
   cases e : cap[i - nt]? with
   | none=>rw [e] at h2; cases h2
   | some j =>
    rw [e] at h2
    have h2 : (σ[j]?).join = some v:=Option.some.inj h2
    have hσ : σ[j]? = some (some v):=by
     cases q : σ[j]? with
     | none=>rw [q] at h2; cases h2
     | some o=>rw [q] at h2; exact congrArg some h2
    obtain ⟨hN,hx⟩:=B.caps (i - nt) j x e (by rw [show nt + (i - nt) = i by omega]; exact h1)
    obtain ⟨m0,hn0,hl⟩:=I.loc
    have kd:=B.free _ hx rfl
    obtain ⟨u,r,l⟩:=hl j x v hN hσ (.inr kd)
    refine ⟨u,r,?_⟩
    obtain ⟨c,hc⟩:=Z2o I B hx
    have hcell : ∃ c',X.env.cells.lookup x = some c' /\ s.heap.IsCell c' (some u):=by
     rcases l with ⟨l1,_⟩ | ⟨_,l2⟩
     ·rcases kd with kd | kd
      ·rw [kd] at l1; cases l1
      ·rw [kd] at l1; cases l1
     ·exact l2
    obtain ⟨c',hc',o,ho,hd⟩:=hcell
    rw [U3 I B hc] at hc'; cases hc'
    have h3 : Vis (relabel scope X.env) x:=h3
    refine .inr ⟨?_,c,hc,o,k _ _ ho,hd⟩
    rcases h3 with h3 | h3 | h3
    ·exfalso
     have m1:=Q6z h3
     unfold relabel at m1
     obtain ⟨⟨n,k'⟩,hm,e'⟩:=List.mem_map.mp m1
     dsimp only at e'
     split at e'
     ·cases e'
     ·cases e'
      have a1:=B.names _ hm rfl
      have a1 : scope.names.lookup x = some .local:=a1
      rw [B.only _ hx rfl] at a1; cases a1
    ·exact .inl h3
    ·exact .inr h3
 ·obtain ⟨v,o,ho,hd⟩:=I.cell x c (U3 I B h)
  exact ⟨v,o,k _ _ ho,hd⟩
 ·rw [List.length_append,List.length_replicate,List.length_map]; exact B.len.symm
end
section
variable {prog : Program} {w : World} {A : Around} {RR : Result -> Shared -> Prop} {s : Shared}
theorem Z1c {elt target iter : Expr} {ifs : List Expr} {scope : Scope} {pos : Pos} {it acc : Value} {env : Env} (I : Nat -> Shared -> Prop)
  (turn : ∀ n s,I n s -> wpAny (model prog w) A (pyNext it) (fun r s₁=>match r with
   | none=>RR (.ok .next) s₁
   | some v=>wpAny (model prog w) A (letOwnedTupleGo target it v) (fun _ sa=>wpAny (model prog w) A (assign target env v) (fun _ s₂ =>
     wpAny (model prog w) A (forIn ifs true fun c r=>if r = true then do let ok <- isTrue c env (eval c env); pure (ForInStep.yield ok) else pure (ForInStep.yield r)) (fun ok s₃ =>
      if ok = true then wpAny (model prog w) A (eval elt env) (fun x s₄ =>
       wpAny (model prog w) A (call (.builtin "list.append") [acc,x]) (fun _ s₅=>∃ m,m < n /\ I m s₅) (fun _ _=>False) s₄) (fun _ _=>False) s₃
      else ∃ m,m < n /\ I m s₃) (fun _ _=>False) s₂) (fun _ _=>False) sa) (fun _ _=>False) s₁) (fun _ _=>False) s)
  (n : Nat) (h : I n s) : codeAny (model prog w) A (.compLoop (.ListComp elt [⟨target,iter,ifs,0⟩] scope pos) 0 it acc env) RR s:=by
 refine codeAny_loop rfl I (fun n s hI=>?_) n h
 show wpAny _ _ ((compTurn (.ListComp elt [⟨target,iter,ifs,0⟩] scope pos) 0 it acc env).onRaise (fun x=>do noteFrame x env; theTreesLotGoes x)) _ _ s
 refine wpAny_noted ?_
 rw [compTurn_list]
 refine wpAny_bind (wpAny_standAt (wpAny_bind (wpAny_mono (turn n s hI) (fun r s₁ h₁=>?_) fun _ _ h'=>h'.elim)))
 cases r with
 | none=>exact wpAny_pure h₁
 | some v =>
  refine wpAny_bind (wpAny_mono h₁ (fun _ sa ha=>?_) fun _ _ h'=>h'.elim)
  refine wpAny_bind (wpAny_mono ha (fun _ s₂ h₂=>wpAny_bind (wpAny_mono h₂ (fun ok s₃ h₃=>?_) fun _ _ h'=>h'.elim)) fun _ _ h'=>h'.elim)
  cases ok with
  | false=>exact wpAny_pure ⟨rfl,h₃⟩
  | true =>
   exact wpAny_bind (wpAny_bind (wpAny_mono h₃ (fun x s₄ h₄=>wpAny_bind (wpAny_mono h₄ (fun _ s₅ h₅=>wpAny_pure (wpAny_pure ⟨rfl,h₅⟩)) fun _ _ h'=>h'.elim)) fun _ _ h'=>h'.elim))
end
structure YlS (K : Fg9) (J : It) (ds : List D) (H : Hp) : Prop where
 go : ∀ H',A6 H H' -> ∀ i,i < ds.length -> J.go i H'
 yld : ∀ H',A6 H H' -> ∀ i x H'' d,ds[i]? = some d -> J.yld i H' x H'' -> A6 H' H'' /\ A2 K H'' d x
 stop : ∀ H',A6 H H' -> J.stop ds.length H'
noncomputable abbrev WIE:=A8 -> (List D -> Prop) -> Prop
noncomputable def W3r (K : Fg9) (H0 : Hp) (wi : WIE) : TI:=fun σ H R=>∃ τ,B5 K H0 τ σ H /\ wi τ fun ds=>∀ J H',A6 H H' -> YlS K J ds H' -> R J H'
structure J8 (X : Cx) (H0 : Hp) (tg iter : Expr) (wi : WIE) : Prop where
 mono : ∀ τ (P Q : List D -> Prop),(∀ ds,P ds -> Q ds) -> wi τ P -> wi τ Q
 pi : PI X tg iter (W3r X.K H0 wi)
def IfsR (X : Cx) (ifs : List Expr) (t : TT) : Prop :=
 ∀ (pins : Pn9) (s : Shared) (σ : St) (H : Hp) (Q : Bool -> Hp -> Prop),A1 X pins σ H s -> t σ H Q ->
  wpAny (model X.prog X.w) X.A (forIn ifs true fun c r=>if r = true then do let ok <- isTrue c X.env (eval c X.env); pure (ForInStep.yield ok) else pure (ForInStep.yield r)) (TP X pins σ Q) X.xe s
structure DIf (X : Cx) (H0 : Hp) (ifs : List Expr) (t : WT) : Prop where
 mono : ∀ (τ : A8) (P Q : Bool -> Prop),(∀ r,P r -> Q r) -> t τ P -> t τ Q
 pt : IfsR X ifs (Z0o X.K H0 t)
theorem DIf.nil {X : Cx} {H0 : Hp} : DIf X H0 [] (fun _ Q=>Q true) where
 mono:=fun τ P Q f h=>f _ h
 pt:=fun pins s σ H Q I ⟨τ,hR,h⟩=>wpAny_tests_nil ⟨H,I,h H (A6.refl H)⟩
theorem DIf.one {X : Cx} {H0 : Hp} {c : Expr} {t : WT} (hc : DT X H0 c t) : DIf X H0 [c] t where
 mono:=hc.mono
 pt:=fun pins s σ H Q I h=>wpAny_tests_one (hc.pt pins s σ H Q I h)
noncomputable def M4 (g : WG) (t : WT) (we : WE) : List D -> A8 -> (List D -> Prop) -> Prop
 | [],_,Q=>Q []
 | d :: ds,τ,Q=>g d τ fun τ'=>t τ' fun k=>if k = true then we τ' fun r=>∃ e,r = .st e /\ M4 g t we ds τ' fun es=>Q (e :: es) else M4 g t we ds τ' Q
theorem Z2d {g : WG} {t : WT} {we : WE} (hg : ∀ d τ (P Q : A8 -> Prop),(∀ τ,P τ -> Q τ) -> g d τ P -> g d τ Q) (ht : ∀ (τ : A8) (P Q : Bool -> Prop),(∀ r,P r -> Q r) -> t τ P -> t τ Q) (he : ∀ (τ : A8) (P Q : R -> Prop),(∀ r,P r -> Q r) -> we τ P -> we τ Q) :
  ∀ (ds : List D) (τ : A8) (P Q : List D -> Prop),(∀ es,P es -> Q es) -> M4 g t we ds τ P -> M4 g t we ds τ Q
 | [],_,_,_,f,h=>f _ h
 | d :: ds,τ,P,Q,f,h=>hg d τ _ _ (fun τ' h=>ht τ' _ _ (fun k h=>U6 (fun h=>he τ' _ _ (fun r ⟨e,e1,h⟩=>⟨e,e1,Z2d hg ht he ds τ' _ _ (fun es h=>f _ h) h⟩) h) (fun h=>Z2d hg ht he ds τ' _ _ f h) h) h) h
noncomputable def Q5l : Sl -> Option Sl
 | .dat d=>some (.dat d)
 | .own ds=>some (.bor ds)
 | .bor ds=>some (.bor ds)
 | .cl a Φ=>some (.cl a Φ)
 | _=>none
noncomputable def Q0 (nt : Nat) (cap : List Nat) (τ : A8) : A8:=List.replicate nt none ++ cap.map fun i=>((τ[i]?).join).bind Q5l
theorem Z3i {K : Fg9} {H0 H : Hp} {τ : A8} {σ : St} (hR : B5 K H0 τ σ H) (nt : Nat) (cap : List Nat) : B5 K H (Q0 nt cap τ) (List.replicate nt none ++ cap.map fun i=>(σ[i]?).join) H:=by
 have at_ : ∀ (i : Nat) (s : Sl),(Q0 nt cap τ)[i]? = some (some s) -> nt <= i /\ ∃ j t,cap[i - nt]? = some j /\ τ[j]? = some (some t) /\ Q5l t = some s:=fun i s e=>by
  unfold Q0 at e
  by_cases hi : i < nt
  ·rw [List.getElem?_append_left (by rw [List.length_replicate]; exact hi)] at e
   have:=List.mem_of_getElem? e
   rw [List.mem_replicate] at this
   cases this.2
  ·rw [List.getElem?_append_right (by rw [List.length_replicate]; omega),List.length_replicate,List.getElem?_map] at e
   cases q : cap[i - nt]? with
   | none=>rw [q] at e; cases e
   | some j =>
    rw [q] at e
    have e : ((τ[j]?).join).bind Q5l = some s:=Option.some.inj e
    cases q2 : τ[j]? with
    | none=>rw [q2] at e; cases e
    | some o =>
     rw [q2] at e
     cases o with
     | none=>cases e
     | some t=>exact ⟨by omega,j,t,rfl,q2,e⟩
 refine ⟨?_,A6.refl H,fun i s e=>?_,fun i j s t v _ e1 _ m _ _ _=>?_⟩
 ·unfold Q0
  rw [List.length_append,List.length_append,List.length_map,List.length_map,List.length_replicate,List.length_replicate]
 ·obtain ⟨hi,j,t,hc,ht,hb⟩:=at_ i s e
  obtain ⟨v,hv,q⟩:=hR.here j t ht
  refine ⟨v,?_,?_⟩
  ·rw [List.getElem?_append_right (by rw [List.length_replicate]; omega),List.length_replicate,List.getElem?_map,hc]
   show some ((σ[j]?).join) = _
   rw [hv]; rfl
  ·cases t with
   | dat d=>cases hb; exact q
   | own ds=>cases hb; obtain ⟨a,xs,e,_,q,al⟩:=q; exact ⟨a,xs,e,q,al⟩
   | bor ds=>cases hb; obtain ⟨a,xs,e,q,al⟩:=q; exact ⟨a,xs,e,hR.same _ _ q,al⟩
   | dk _=>cases hb
   | dt _=>cases hb
   | ob _=>cases hb
   | cl _ _=>cases hb; exact q
   | ll _ _=>cases hb
   | ins _ _ _=>cases hb
 ·obtain ⟨hi,j',t',hc,ht,hb⟩:=at_ i s e1
  cases t' with
  | dat d=>cases hb; cases m
  | own ds=>cases hb; cases m
  | bor ds=>cases hb; cases m
  | dk _=>cases hb
  | dt _=>cases hb
  | ob _=>cases hb
  | cl _ _=>cases hb; cases m
  | ll _ _=>cases hb
  | ins _ _ _=>cases hb
theorem Z6s {C : Addr} {h h' : Heap} (sb : Heap.SameBut C h h') : ∀ b o,b ≠ C -> h.get? b = some o -> h'.get? b = some o:=fun b o hb e=>(sb.2 b hb).trans e
theorem Y0e {X : Cx} {pins : Pn9} {σ : St} {H2 H' : Hp} {s2 s1 : Shared} {scope : Scope} {C D0 : Addr} {fp : List Addr} {N : List Str} {pb : Pn9} {σ' : St} {vs : List V} {ys : Array Value} {h' : Heap}
  (I2 : A1 X pins σ H2 s2) (Ib : A1 (C1 X scope C s2 H2 fp N) pb σ' H' s1) (f2 : ∀ b ∈ fp,K3 X pins H2 b) (hC : s2.heap.objs.size <= C) (hD : s2.heap.objs.size <= D0) (hDC : D0 ≠ C) (hD' : H' D0 = none)
  (hl : s1.heap.PlainList D0 ys) (rv : C4 vs ys.toList) (hz : vs.length <= sizeLine) (sb : Heap.SameBut C s1.heap h') : A1 X pins σ (upd H' D0 (.lst vs)) { s1 with heap:=h' }:=by
 have ltC : ∀ b o,s2.heap.get? b = some o -> b ≠ C:=fun b o e=>Nat.ne_of_lt (Nat.lt_of_lt_of_le (Heap.lt_size e) hC)
 have ltD : ∀ b o,s2.heap.get? b = some o -> b ≠ D0:=fun b o e=>Nat.ne_of_lt (Nat.lt_of_lt_of_le (Heap.lt_size e) hD)
 have keep:=Z6s sb
 have base : Un (frs X.stack) fp H2 H' s2.heap s1.heap:=Ib.base
 have hC' : H' C = none:=Ib.free
 have neC : ∀ b u,H' b = some u -> b ≠ C:=fun b u e z=>by rw [z,hC'] at e; cases e
 have G9 : ∀ b u,H' b = some u -> b ≠ D0:=fun b u e z=>by rw [z,hD'] at e; cases e
 refine I2.call' (s':={ s1 with heap:=h' }) (ch:=fp) Ib.os ⟨fun b o e n hb hx=>keep b o (ltC b o e) (base.keep b o e n hb hx),fun b o e n hb hx=>?_,fun b o e n hx=>?_,fun b o e hx=>?_,fun b xs e=>?_,fun b o u e=>?_,fun b ps e=>?_⟩ (fun b u e=>?_) Ib.bare (fun b hb=>?_)
 ·obtain ⟨sl,q⟩:=base.slot b o e n hb hx
  exact ⟨sl,keep b _ (ltC b o e) q⟩
 ·rw [A9 (ltD b o e)]; exact base.free b o e n hx
 ·obtain ⟨o',q⟩:=base.there b o e hx
  exact ⟨o',keep b o' (ltC b o e) q⟩
 ·have q:=base.tups b xs e
  rw [A9 (G9 b _ q)]; exact q
 ·have q:=base.frzs b o u e
  rw [A9 (G9 b _ q)]; exact q
 ·obtain ⟨more,q⟩:=base.tbls b ps e
  exact ⟨more,by rw [A9 (G9 b _ q)]; exact q⟩
 ·by_cases hb : b = D0
  ·subst hb
   rw [upd_same] at e; cases e
   obtain ⟨n,ho⟩:=hl
   exact ⟨hz,ys.toList,n,rv,keep b _ hDC (by rw [ho])⟩
  ·rw [A9 hb] at e
   refine (Ib.hok b u e).stay (fun c v hc q=>keep c v ?_ q) (fun c u _ q=>by rw [A9 (G9 c _ q)]; exact q) fun c xs q=>by rw [A9 (G9 c _ q)]; exact q
   rcases hc with z | z
   ·rw [z]; exact neC b u e
   ·exact neC c _ z
 ·obtain ⟨_,a2,a3,a4,a5,a6⟩:=f2 b hb
  exact ⟨a4,a2,a5,a6⟩
section
variable {X : Cx} {H0 : Hp} {tg iter elt : Expr} {ifs : List Expr} {scope : Scope} {pos : Pos} {N : List Str} {nt : Nat} {cap : List Nat} {wi : WIE} {g : WG} {t : WT} {we : WE}
def W4 (nt : Nat) (cap : List Nat) (wi : WIE) (g : WG) (t : WT) (we : WE) : WE:=fun τ Q=>wi τ fun ds=>ds.length <= sizeLine /\ M4 g t we ds (Q0 nt cap τ) fun es=>Q (.nw es)
theorem Y6f {use : Option (Value -> Sem Unit)} {QQ : VS9} {P : List D -> Prop} {npos : Pos} {pins : Pn9} {s : Shared} {σ : St} {H : Hp} {τ : A8} (hc : X.calm = true) (B : K8 X scope N nt cap) (hi : J8 X H0 tg iter wi)
  (hg : ∀ C s H fp,DG (C1 X scope C s H fp N) H tg g) (ht : ∀ C s H fp,DIf (C1 X scope C s H fp N) H ifs t) (he : ∀ C s H fp,DE (C1 X scope C s H fp N) H elt we) (hs : ∀ x,foldedSetIterable iter X.env x = pure x)
  (I : A1 X pins σ H s) (hR : B5 X.K H0 τ σ H) (hw : wi τ fun ds=>ds.length <= sizeLine /\ M4 g t we ds (Q0 nt cap τ) P)
  (fin : ∀ (C D0 : Addr) (s2 s4 : Shared) (H2 H4 : Hp) (fp : List Addr) (pb : Pn9) (σ4 : St) (vs : List V) (ys : Array Value) (es : List D) (f : Flow),A1 X pins σ H2 s2 -> A6 H H2 -> A1 (C1 X scope C s2 H2 fp N) pb σ4 H4 s4 -> (∀ b ∈ fp,K3 X pins H2 b) ->
   s2.heap.objs.size <= C -> s2.heap.objs.size <= D0 -> D0 ≠ C -> H4 D0 = none -> s4.heap.PlainList D0 ys -> C4 vs ys.toList -> vs.length <= sizeLine -> A6 H2 H4 -> AllS X.K H4 es vs -> P es -> compPost (model X.prog X.w) X.A X.xe use QQ (.ref D0) C (.ok f) s4) :
  wpAny (model X.prog X.w) X.A (comprehension (.ListComp elt [⟨tg,iter,ifs,0⟩] scope pos) scope X.env npos (newList []) false (eval iter X.env) use) QQ X.xe s:=by
 refine wpAny_comprehension_free rfl hs (Q8e fun y hy e=>I.ok.has y.1 (B.free y hy e)) B.kind B.names ?_
 refine B2 (hi.pi pins s σ H (fun J H2=>A6 H H2 /\ ∃ ds,YlS X.K J ds H2 /\ ds.length <= sizeLine /\ M4 g t we ds (Q0 nt cap τ) P) I
  ⟨τ,hR,hi.mono τ _ _ (fun ds h J H' sm yl=>⟨sm,ds,yl,h.1,h.2⟩) hw⟩) fun v s1 h1=>B2 h1 fun itv s2 h2=>?_
 obtain ⟨it,fp,tn,J,H2,e,I2,T,st2,f2,sm2,ds,yl,hz,hw2⟩:=h2
 subst e
 have hfl : ∀ b ∈ fp,b < s2.heap.objs.size:=fun b hb=>by
  obtain ⟨o,ho,_⟩:=T.obj _ _ st2 b hb
  exact Heap.lt_size ho
 have hR2:=hR.mono sm2
 refine wpAny_newObj_type (wpAny_newFunctionEnv B.cell (by intro y hy; simp at hy) (fun h₁ hns₁ hsb₁=>?_) B.kind)
 dsimp only at hns₁ hsb₁ ⊢
 generalize hH2 : s2.heap.push { cls:=.type "list",dict:=none,data:=.seq ([] : List Value).toArray } = Hq at hns₁ hsb₁ ⊢
 have hC : Hq.objs.size = s2.heap.objs.size + 1:=by rw [<- hH2,Heap.size_push]
 have hDC : s2.heap.objs.size ≠ Hq.objs.size:=by rw [hC]; exact Nat.ne_of_lt (Nat.lt_succ_self _)
 have hCle : s2.heap.objs.size <= Hq.objs.size:=by rw [hC]; exact Nat.le_succ _
 have old : ∀ b o,s2.heap.get? b = some o -> h₁.get? b = some o:=fun b o e=>hsb₁.extBut b o (by rw [hC]; exact Nat.ne_of_lt (Nat.lt_succ_of_lt (Heap.lt_size e))) (Heap.get?_push_of_some _ (hH2 ▸ Heap.get?_push_of_some _ e))
 have hacc : h₁.PlainList s2.heap.objs.size #[]:=⟨_,hsb₁.extBut _ _ hDC (Heap.get?_push_of_some _ (hH2 ▸ Heap.get?_push_size _ rfl))⟩
 generalize hCe : Hq.objs.size = C at hns₁ hsb₁ hC hDC hCle ⊢
 generalize hDe : s2.heap.objs.size = D0 at hC hDC hCle hacc ⊢
 have hfl' : ∀ b ∈ fp,b < D0:=fun b hb=>hDe ▸ hfl b hb
 have hst₁ : tn 0 h₁:=T.keep _ _ _ st2 fun b _ o e=>old b o e
 have Ib0:=Q7k (C:=C) (h':=h₁) (t':=s2.toks + ([] : List (Str × Value)).length) I2 B f2 hfl (by rw [hDe]; exact hCle) hns₁ old
 have hD2 : H2 D0 = none:=I2.hok.fresh (by rw [hDe]; exact Nat.le_refl _)
 have nfs : D0 ∉ frs X.stack:=fun z=>by
  rcases List.mem_cons.mp (I2.stkSub _ z) with e | e
  ·have:=I2.lt; rw [<- e,hDe] at this; exact Nat.lt_irrefl _ this
  ·exact I2.nofs (by rw [hDe]; exact Nat.le_refl _) e
 have ncl : ∀ x c,(Q1 X.env scope.names []).lookup x = some c -> c ≠ D0:=fun x c h z=>by
  obtain ⟨v,q⟩:=I2.cell x c (U3 I2 B h)
  have:=q.lt
  rw [z,hDe] at this
  exact Nat.lt_irrefl _ this
 have pinD : ∀ {pb : Pn9} {σ' : St} {H' : Hp} {s' : Shared} {ys : Array Value} {n : Nat},A1 (C1 X scope C s2 H2 fp N) pb σ' H' s' -> H' D0 = none -> s'.heap.get? D0 = some { cls:=.type "list",data:=.seq ys n } ->
   A1 (C1 X scope C s2 H2 fp N) [(D0,{ cls:=.type "list",data:=.seq ys n })] σ' H' s':=by
  intro pb σ' H' s' ys n I' n' e
  refine I'.pins_of fun p hp=>?_
  have e' : p = (D0,{ cls:=.type "list",data:=.seq ys n }):=by simpa using hp
  subst e'
  exact ⟨e,n',hDC,nfs,fun v z=>by cases z⟩
 have fpX : ∀ {H' : Hp} {ob : Obj},(∀ b ∈ fp,H' b = none) -> ∀ b ∈ fp,K3 (C1 X scope C s2 H2 fp N) [(D0,ob)] H' b:=by
  intro H' ob hn b hb
  refine ⟨hn b hb,(Nat.ne_of_lt (Nat.lt_of_lt_of_le (hfl' b hb) hCle)),fun z=>?_,.inl hb,fun x c h=>(f2 b hb).2.2.2.2.1 x c (U3 I2 B h),fun p hp=>?_⟩
  ·rcases List.mem_cons.mp (I2.stkSub b z) with e | e
   ·exact (f2 b hb).2.1 e
   ·exact (f2 b hb).2.2.1 e
  ·have e' : p = (D0,ob):=by simpa [C1] using hp
   subst e'
   exact (Nat.ne_of_lt (hfl' b hb)).symm
 let Inn : Nat -> Shared -> Prop:=fun k s'=>∃ (i : Nat) (σ' : St) (H' : Hp) (τ' : A8) (ys : Array Value) (nn : Nat) (vs : List V) (es : List D),A1 (C1 X scope C s2 H2 fp N) [(D0,{ cls:=.type "list",data:=.seq ys nn })] σ' H' s' /\ B5 X.K H2 τ' σ' H' /\ tn i s'.heap /\
  (∀ b ∈ fp,H' b = none) /\ H' D0 = none /\ C4 vs ys.toList /\ AllS X.K H' es vs /\ i <= ds.length /\ k = ds.length - i /\ es.length <= i /\ M4 g t we (ds.drop i) τ' fun es'=>P (es ++ es')
 have loop : ∀ s₃ : Shared,s₃ = { s2 with heap:=h₁,toks:=s2.toks + ([] : List (Str × Value)).length } ->
   codeAny (model X.prog X.w) X.A (.compLoop (.ListComp elt [⟨tg,iter,ifs,0⟩] scope pos) 0 (.ref it) (.ref D0) (compEnvC scope (Q1 X.env scope.names []) C X.env))
    (compPost (model X.prog X.w) X.A X.xe use QQ (.ref D0) C) s₃:=by
  rintro s₃ rfl
  obtain ⟨nn,ho⟩:=id hacc
  refine Z1c Inn ?_ ds.length ⟨0,_,H2,Q0 nt cap τ,#[],nn,[],[],pinD Ib0 hD2 ho,Z3i hR2 nt cap,hst₁,fun b hb=>(f2 b hb).1,hD2,.nil,AllS.nil,Nat.zero_le _,rfl,Nat.le_refl _,by simpa using hw2⟩
  rintro k s3 ⟨i,σ3,H3,τ3,ys,nn,vs,es,I3,R3,st3,fr3,d3,rv3,al3,hi3,rfl,hes,w3⟩
  have hsame3 : A6 H2 H3:=R3.same
  by_cases hlt : i < ds.length
  ·refine wpAny_mono (T.item (C1 X scope C s2 H2 fp N) rfl rfl rfl hc i _ s3 σ3 H3 (fun _ _=>False) I3 (fpX fr3) st3 (yl.go H3 hsame3 i hlt)) (fun r s4 ⟨u,hr,h4⟩=>?_) fun _ _ z=>z
   subst hr
   refine wpAny_mono h4 (fun _ s5 ⟨x,H5,I5,r5,y5,st5,fr5⟩=>?_) fun _ _ z=>z
   obtain ⟨s35,ix⟩:=yl.yld H3 hsame3 i x H5 _ (List.getElem?_eq_getElem hlt) y5
   rw [List.drop_eq_getElem_cons hlt] at w3
   have I5':=I5.pinned (fpX fr5) (T.obj _ _ st5)
   have again : ∀ {σ7 : St} {H7 : Hp} {s7 : Shared} {τ7 : A8} {ys7 : Array Value} {nn7 : Nat} {vs7 : List V} {es7 : List D},A1 (C1 X scope C s2 H2 fp N) (S8 fp s5.heap) σ7 H7 s7 -> B5 X.K H2 τ7 σ7 H7 -> H7 D0 = none -> s7.heap.get? D0 = some { cls:=.type "list",data:=.seq ys7 nn7 } ->
     C4 vs7 ys7.toList -> AllS X.K H7 es7 vs7 -> es7.length <= i + 1 -> M4 g t we (ds.drop (i + 1)) τ7 (fun es'=>P (es7 ++ es')) -> ∃ m,m < ds.length - i /\ Inn m s7:=by
    intro σ7 H7 s7 τ7 ys7 nn7 vs7 es7 I7 R7 d7 o7 rv7 al7 hes7 w7
    have st7 : tn (i + 1) s7.heap:=T.keep _ _ _ st5 fun b hb o e=>(I7.pin (b,o) (List.mem_append_right _ (Q0j hb e))).1
    refine ⟨ds.length - (i + 1),by omega,i + 1,σ7,H7,τ7,ys7,nn7,vs7,es7,pinD I7 d7 o7,R7,st7,fun b hb=>?_,d7,rv7,al7,hlt,rfl,hes7,w7⟩
    obtain ⟨o,e,_⟩:=T.obj _ _ st5 b hb
    exact (I7.pin (b,o) (List.mem_append_right _ (Q0j hb e))).2.1
   refine wpAny_mono ((hg C s2 H2 fp).pg _ s5 σ3 H5 x u (fun σ6 H6=>∃ τ6,B5 X.K H2 τ6 σ6 H6 /\ A6 H5 H6 /\ t τ6 fun k=>if k = true then we τ6 fun r=>∃ e,r = .st e /\ M4 g t we (ds.drop (i + 1)) τ6 fun es'=>P (es ++ (e :: es'))
     else M4 g t we (ds.drop (i + 1)) τ6 fun es'=>P (es ++ es')) I5' r5 ⟨τ3,ds[i],R3.mono s35,ix,(hg C s2 H2 fp).mono _ _ _ _ (fun τ6 h6 σ6 H6 s56 R6=>⟨τ6,R6,s56,h6⟩) w3⟩) (fun _ s6 ⟨σ6,H6,I6,τ6,R6,s56,w6⟩=>?_) fun _ _ z=>z
   refine wpAny_mono ((ht C s2 H2 fp).pt _ s6 σ6 H6 (fun k H7=>A6 H6 H7 /\ if k = true then we τ6 fun r=>∃ e,r = .st e /\ M4 g t we (ds.drop (i + 1)) τ6 fun es'=>P (es ++ (e :: es'))
     else M4 g t we (ds.drop (i + 1)) τ6 fun es'=>P (es ++ es')) I6 ⟨τ6,R6,(ht C s2 H2 fp).mono τ6 _ _ (fun k h H7 s67=>⟨s67,h⟩) w6⟩) (fun ok s7 ⟨H7,I7,s67,w7⟩=>?_) fun _ _ z=>z
   have pd : ∀ {σ' : St} {H' : Hp} {s' : Shared},A1 (C1 X scope C s2 H2 fp N) ([(D0,{ cls:=.type "list",data:=.seq ys nn })] ++ S8 fp s5.heap) σ' H' s' -> s'.heap.get? D0 = some { cls:=.type "list",data:=.seq ys nn } /\ H' D0 = none:=fun I' =>
    ⟨(I'.pin (D0,_) (List.mem_append_right _ (List.mem_append_left _ List.mem_cons_self))).1,(I'.pin (D0,_) (List.mem_append_right _ (List.mem_append_left _ List.mem_cons_self))).2.1⟩
   have pf : ∀ {σ' : St} {H' : Hp} {s' : Shared},A1 (C1 X scope C s2 H2 fp N) ([(D0,{ cls:=.type "list",data:=.seq ys nn })] ++ S8 fp s5.heap) σ' H' s' -> A1 (C1 X scope C s2 H2 fp N) (S8 fp s5.heap) σ' H' s':=fun I' =>
    I'.pins_of fun p hp=>I'.pin p (List.mem_append_right _ (List.mem_append_right _ hp))
   have s37 : A6 H3 H7:=s35.trans (s56.trans s67)
   cases ok with
   | false =>
    rw [if_neg Bool.false_ne_true] at w7 ⊢
    exact again (pf I7) (R6.mono s67) (pd I7).2 (pd I7).1 rv3 (al3.mono (Kp.of s37) _ _) (by omega) w7
   | true =>
    rw [if_pos rfl] at w7 ⊢
    refine wpAny_mono ((he C s2 H2 fp).pe _ s7 σ6 H7 (fun v H8=>A6 H7 H8 /\ ∃ e,A2 X.K H8 e v /\ M4 g t we (ds.drop (i + 1)) τ6 fun es'=>P (es ++ (e :: es'))) I7
     ⟨τ6,R6.mono s67,(he C s2 H2 fp).mono τ6 _ _ (fun r ⟨e,e1,h⟩ v H8 s78 ir=>⟨s78,e,by subst e1; exact ir,h⟩) w7⟩) (fun y s8 ⟨v8,H8,I8,rv8,s78,e8,ie8,w8⟩=>?_) fun _ _ z=>z
    obtain ⟨o8,d8⟩:=pd I8
    have hys : ys.size <= sizeLine:=by
     have e1:=rv3.length
     have e2:=al3.length
     have e4 : ys.toList.length = ys.size:=by simp
     omega
    refine wpAny_list_append_plain (hsz:=hys) ⟨nn,o8⟩ fun h₅ hl₅ hs₅=>?_
    have I9 : A1 (C1 X scope C s2 H2 fp N) (S8 fp s5.heap) σ6 H8 { s8 with heap:=h₅ }:=by
     refine (pf I8).turned (t':=s8.toks) (it:=D0) (fun b o hb e=>(hs₅.2 b hb).trans e) d8 hDC (.inr (by rw [<- hDe]; exact Nat.le_refl _)) ncl (fun p hp z=>?_)
     obtain ⟨q1,_⟩:=Q5i (by simpa [C1] using hp)
     exact Nat.ne_of_lt (hfl' _ q1) z
    obtain ⟨nn9,o9⟩:=hl₅
    refine again I9 (R6.mono (s67.trans s78)) d8 o9 (vs7:=vs ++ [v8]) (es7:=es ++ [e8]) ?_ ((al3.mono (Kp.of (s37.trans s78)) _ _).append (AllS.cons ie8 AllS.nil)) (by rw [List.length_append]; simpa using hes) ?_
    ·have : (ys.push y).toList = ys.toList ++ [y]:=by simp
     rw [this]
     exact rv3.append (.cons rv8 .nil)
    ·simpa using w8
  ·have e : i = ds.length:=by omega
   subst e
   refine wpAny_mono (T.done (C1 X scope C s2 H2 fp N) rfl rfl rfl hc ds.length _ s3 σ3 H3 (fun _ _=>False) I3 (fpX fr3) st3 (yl.stop H3 hsame3)) (fun r s4 ⟨hr,I4⟩=>?_) fun _ _ z=>z
   subst hr
   have o4:=(I4.pin (D0,_) (List.mem_append_right _ List.mem_cons_self)).1
   rw [List.drop_length] at w3
   have w3 : P (es ++ []):=w3
   rw [List.append_nil] at w3
   have hvs : vs.length <= sizeLine:=by rw [<- al3.length]; omega
   exact fin C D0 s2 s4 H2 H3 fp _ σ3 vs ys es _ I2 sm2 I4 f2 (by rw [hDe]; exact hCle) (by rw [hDe]; exact Nat.le_refl _) hDC d3 ⟨nn,o4⟩ rv3 hvs hsame3 al3 w3
 exact codeAny_compStart_list (loop _ rfl) (T.self _ 0 _ _ _ hst₁ (loop _ rfl))
theorem DE.comp (hc : X.calm = true) (B : K8 X scope N nt cap) (hi : J8 X H0 tg iter wi) (hg : ∀ C s H fp,DG (C1 X scope C s H fp N) H tg g) (ht : ∀ C s H fp,DIf (C1 X scope C s H fp N) H ifs t)
  (he : ∀ C s H fp,DE (C1 X scope C s H fp N) H elt we) (hs : ∀ x,foldedSetIterable iter X.env x = pure x:=by intro _; rfl) :
  DE X H0 (.ListComp elt [⟨tg,iter,ifs,0⟩] scope pos) (W4 nt cap wi g t we) where
 mono:=fun τ P Q f h=>hi.mono τ _ _ (fun ds h=>⟨h.1,Z2d (hg 0 X.s₀ X.H₀ []).mono (ht 0 X.s₀ X.H₀ []).mono (he 0 X.s₀ X.H₀ []).mono ds _ _ _ (fun es h=>f _ h) h.2⟩) h
 pe:=by
  intro pins s σ H Q I ⟨τ,hR,hw⟩
  rw [eval_ListComp]
  refine Y6f hc B hi hg ht he hs I hR hw fun C D0 s2 s4 H2 H4 fp pb σ4 vs ys es f I2 sm2 I4 f2 hC hD hDC hn hl rv hz sm4 al w3=>?_
  obtain ⟨m4,hn4,_⟩:=id I4.loc
  refine ⟨m4,hn4,fun h' sb=>?_⟩
  exact ⟨.ref D0,_,Y0e I2 I4 f2 hC hD hDC hn hl rv hz sb,rfl,w3 _ _ (sm2.trans (sm4.trans (F7 hn _))) ⟨D0,vs,rfl,sm2.free (I2.hok.fresh hD),upd_same,al.mono (Kp.of (F7 hn _)) _ _⟩⟩
end
section
variable {X : Cx} {H0 : Hp} {tg iter elt : Expr} {ifs : List Expr} {scope : Scope} {pos pos' spos : Pos} {N : List Str} {nt : Nat} {cap : List Nat} {wi : WIE} {g : WG} {t : WT} {we : WE}
end
section
variable {X : Cx} {H0 : Hp} {a b c e tg : Expr} {pos : Pos} {wa wb we : WE} {wr : WA}
theorem J8.lst (he : DE X H0 e we) : J8 X H0 tg e (fun τ Q=>we τ fun r=>∃ ds,S7 r = some ds /\ Q ds) where
 mono:=fun τ P Q f h=>he.mono τ _ _ (fun r ⟨ds,e1,q⟩=>⟨ds,e1,f _ q⟩) h
 pi:=piW (Z7h he.pe) fun σ H R ⟨τ,hR,h⟩=>⟨τ,hR,he.mono τ _ _ (fun r ⟨ds,e1,q⟩ v H1 s1 ir=>by
  obtain ⟨a,xs,rfl,sq,al⟩:=Q1w e1 ir
  refine ⟨a,rfl,⟨xs,sq⟩,q _ _ s1 ⟨fun H' s i hi=>⟨xs,xs[i]'(by rw [<- al.length]; exact hi),s.seq sq,List.getElem?_eq_getElem _⟩,fun H' s i x H'' d hd ⟨e,y⟩=>?_,fun H' s=>⟨xs,s.seq sq,by rw [al.length]; exact Nat.le_refl _⟩⟩⟩
  subst e
  have hx:=y xs (s.seq sq)
  obtain ⟨v,hv,q⟩:=(al.mono (Kp.of s) _ _).get hd
  rw [hx] at hv; cases hv
  exact ⟨A6.refl _,q⟩) h⟩
theorem J8.tup (he : DE X H0 e we) : J8 X H0 tg e (fun τ Q=>we τ fun r=>∃ ds,r = .st (.tup ds) /\ Q ds) where
 mono:=fun τ P Q f h=>he.mono τ _ _ (fun r ⟨ds,e1,q⟩=>⟨ds,e1,f _ q⟩) h
 pi:=piW (Z8i he.pe) fun σ H R ⟨τ,hR,h⟩=>⟨τ,hR,he.mono τ _ _ (fun r ⟨ds,e1,q⟩ v H1 s1 ir=>by
  subst e1
  have ir : A2 X.K H1 (.tup ds) v:=ir
  unfold A2 at ir
  obtain ⟨a,xs,rfl,sq,al⟩:=ir
  refine ⟨a,rfl,⟨xs,C8.of sq⟩,q _ _ s1 ⟨fun H' s i hi=>⟨xs,xs[i]'(by rw [<- al.length]; exact hi),C8.of (s _ _ sq),List.getElem?_eq_getElem _⟩,fun H' s i x H'' d hd ⟨e,y⟩=>?_,fun H' s=>⟨xs,C8.of (s _ _ sq),by rw [al.length]; exact Nat.le_refl _⟩⟩⟩
  subst e
  have hx:=y xs (C8.of (s _ _ sq))
  obtain ⟨v,hv,q⟩:=(al.mono (Kp.of s) _ _).get hd
  rw [hx] at hv; cases hv
  exact ⟨A6.refl _,q⟩) h⟩
theorem Y2n {K : Fg9} {H : Hp} {lo : Int} {n : Nat} : YlS K (Itr lo n) (Q4 lo n) H :=
 ⟨fun H' s=>(Q6j (K:=K) (H0:=H) (H:=H)).go H' (Kp.of s) s,fun H' s=>(Q6j (K:=K) (H0:=H) (H:=H)).yld H' (Kp.of s) s,fun H' s=>(Q6j (K:=K) (H0:=H) (H:=H)).stop H' (Kp.of s) s⟩
theorem J8.rng1 {p : Pos} (hg : Gl X "range") (hm : X.mg "range" = none) (ha : DA X H0 [a] wr) (hs : starEach [a] X.env = [(false,eval a X.env)]:=by rfl) :
  J8 X H0 tg (.Call (.Name "range" p) [a] [] pos) (fun τ Q=>wr τ fun rs=>∃ j : Int,rs = [.st (.int j)] /\ -(2 ^ 62) <= j /\ j < 2 ^ 62 /\ Q (Q4 0 j.toNat)) where
 mono:=fun τ P Q f h=>ha.mono τ _ _ (fun r ⟨j,e1,h1,h2,q⟩=>⟨j,e1,h1,h2,f _ q⟩) h
 pi:=piW (Z6q hg hm ha.pa hs) fun σ H R ⟨τ,hR,h⟩=>⟨τ,hR,ha.mono τ _ _ (fun r ⟨j,e1,h1,h2,q⟩ vs H1 s1 irs=>by
  subst e1
  obtain ⟨v,rfl,ir⟩:=W7 irs
  cases (show v = .int j from ir)
  exact ⟨j,rfl,h1,h2,q _ _ s1 Y2n⟩) h⟩
theorem Q7t {pins : Pn9} {σ : St} {H : Hp} {s : Shared} {h' : Heap} {t' : Nat} {wr : List Addr} (I : A1 X pins σ H s) (k : ∀ b o,b ∉ wr -> s.heap.get? b = some o -> h'.get? b = some o) (hf : ∀ b ∈ wr,K3 X pins H b) :
  A1 X pins σ H { s with heap:=h',toks:=t' }:=by
 have nit : ∀ b u,H b = some u -> b ∉ wr:=fun b u e z=>by have:=(hf b z).1; rw [e] at this; cases this
 refine I.step (g':=s.gens) (d':=s.drawn) (ch:=wr) (fun b hb=>?_) (fun b o _ _ hc e _=>k b o hc e) (fun b o _ _ hc e _=>⟨o.slots,k b o hc e⟩) (fun _ _ _ _ n=>n)
  (fun b o hc e=>⟨o,k b o hc e⟩) (fun _ _ e=>e) (fun _ _ _ e=>e) (fun b ps e=>⟨#[],by rw [e]; simp⟩) (fun m hm=>?_) (fun b u e=>?_) I.bare
 ·obtain ⟨_,f1,_,f3,f4,f5⟩:=hf b hb
  exact ⟨f3,f1,f4,f5⟩
 ·obtain ⟨o,es,ep,ho,r⟩:=hm
  exact ⟨o,es,ep,k _ o (fun z=>(hf _ z).2.1 rfl) ho,r⟩
 ·refine (I.hok b u e).stay (fun c v hc q=>k c v ?_ q) (fun _ _ _ q=>q) fun _ _ q=>q
  rcases hc with z | z
  ·rw [z]; exact nit b u e
  ·exact nit c _ z
noncomputable def Z9 (x : Str) : List D:=x.cps.toList.map fun c=>.str ⟨#[c]⟩
end
section
variable {X : Cx} {H0 : Hp} {a b c e tg : Expr} {pos : Pos} {wa wb we : WE} {wr : WA}
theorem Q6l {pins : Pn9} {σ : St} {H : Hp} {s : Shared} {h' : Heap} {t' : Nat} {wr : List Addr} {T : Addr} {xs : List V} {its : List Value} (I : A1 X pins σ H s) (k : ∀ b o,b ∉ wr -> s.heap.get? b = some o -> h'.get? b = some o) (hf : ∀ b ∈ wr,K3 X pins H b)
  (hT : s.heap.objs.size <= T) (ht : IsTup h' T its.toArray) (rv : C4 xs its) (hz : xs.length <= sizeLine) : A1 X pins σ (upd H T (.tup xs)) { s with heap:=h',toks:=t' }:=by
 have nit : ∀ b u,H b = some u -> b ∉ wr:=fun b u e z=>by have:=(hf b z).1; rw [e] at this; cases this
 have hTn : H T = none:=I.hok.fresh hT
 have neT : ∀ b u,H b = some u -> b ≠ T:=fun b u e z=>by rw [z,hTn] at e; cases e
 refine I.step (g':=s.gens) (d':=s.drawn) (ch:=wr) (fun b hb=>?_) (fun b o _ _ hc e _=>k b o hc e) (fun b o _ _ hc e _=>⟨o.slots,k b o hc e⟩) (fun b o _ e n=>by rw [A9 (Nat.ne_of_lt (Nat.lt_of_lt_of_le (Heap.lt_size e) hT))]; exact n)
  (fun b o hc e=>⟨o,k b o hc e⟩) (fun b _ e=>by rw [A9 (neT b _ e)]; exact e) (fun b _ _ e=>by rw [A9 (neT b _ e)]; exact e) (fun b ps e=>⟨#[],by rw [A9 (neT b _ e),e]; simp⟩) (fun m hm=>?_) (fun b u e=>?_) I.bare
 ·obtain ⟨_,f1,_,f3,f4,f5⟩:=hf b hb
  exact ⟨f3,f1,f4,f5⟩
 ·obtain ⟨o,es,ep,ho,r⟩:=hm
  exact ⟨o,es,ep,k _ o (fun z=>(hf _ z).2.1 rfl) ho,r⟩
 ·by_cases hb : b = T
  ·subst hb
   rw [upd_same] at e; cases e
   exact ⟨hz,its,rv,ht⟩
  ·rw [A9 hb] at e
   refine (I.hok b u e).stay (fun c v hc q=>k c v ?_ q) (fun c u _ q=>by rw [A9 (neT c _ q)]; exact q) fun c xs q=>by rw [A9 (neT c _ q)]; exact q
   rcases hc with z | z
   ·rw [z]; exact nit b u e
   ·exact nit c _ z
noncomputable def G6 (ds : List D) : List D:=ds.zipIdx.map fun (p : D × Nat)=>.tup [.int (p.2 : Int),p.1]
theorem Q7x {ds : List D} {i : Nat} {d : D} (h : (G6 ds)[i]? = some d) : ∃ x,ds[i]? = some x /\ d = .tup [.int (i : Int),x]:=by
 unfold G6 at h
 rw [List.getElem?_map,List.getElem?_zipIdx] at h
 cases e : ds[i]? with
 | none=>rw [e] at h; cases h
 | some x =>
  rw [e] at h
  have h : D.tup [.int ((0 + i : Nat) : Int),x] = d:=Option.some.inj h
  exact ⟨x,rfl,by rw [<- h,Nat.zero_add]⟩
theorem Q1d (ds : List D) : (G6 ds).length = ds.length:=by simp [G6]
noncomputable def Ies (x : Str) : It:=⟨fun i _=>i < x.cps.size,fun i H v H'=>∃ T c,x.cps[i]? = some c /\ H T = none /\ v = .ref T /\ H' = upd H T (.tup [.int (i : Int),.str ⟨#[c]⟩]),fun i _=>i = x.cps.size⟩
theorem Y3a {P : Program} {w : World} {K : Fg9} {elts : List Expr} {kk : Nat} {pt : Pos} {en it : Addr} {x : Str} {t : Tok} (hne : en ≠ it) :
  Q1k P w K (.Tuple elts kk pt) (Ies x) [en,it] en (fun i h=>(∃ old,IsEnum h en it i old) /\ h.IsStrIter it (strIterType x) x t i) where
 mem:=by simp
 obj:=fun i h st b hb=>by
  obtain ⟨⟨old,he⟩,o,ho,_,d⟩:=st
  rcases List.mem_cons.mp hb with rfl | hb
  ·exact ⟨_,he,fun v z=>by cases z⟩
  ·have e : b = it:=by simpa using hb
   subst e
   exact ⟨o,ho,fun v z=>by rw [d] at z; cases z⟩
 keep:=fun i h h' ⟨⟨old,he⟩,o,ho,r⟩ k=>⟨⟨old,k en (by simp) _ he⟩,o,k it (by simp) o ho,r⟩
 item:=by
  intro X hP hw hK hc i pins s σ H E I hf st hg
  subst hP hw hK
  have Dr : Draws X.prog X.w X.A.in1 it [it] x.cps.size (fun i v=>∃ c u,x.cps[i]? = some c /\ v = .str ⟨#[c]⟩ u) (fun i h=>h.IsStrIter it (strIterType x) x t i):=by
   unfold strIterType
   split
   ·exact Draws.strAscii (A:=X.A.in1) (show X.A.in1.handled = none from I.ok.hd hc) it x t
   ·exact Draws.strWide (A:=X.A.in1) (show X.A.in1.handled = none from I.ok.hd hc) it x t
  have W:=WalksT.enumerateD Dr en hne (by simpa using hne) (by simp)
  have hfw : ∀ b ∈ [en,it],K3 X pins H b:=hf
  refine W.item i s _ _ hg st fun T vals h' tk hv hT hIT mid k=>?_
  obtain ⟨t1,y,⟨c,u,hc',rfl⟩,rfl⟩:=hv
  refine ⟨_,rfl,W.go elts kk pt i T { s with heap:=h',toks:=tk } _ _ mid fun h2 st2 k2=>?_⟩
  have kk2 : ∀ b o,b ∉ [en,it] -> s.heap.get? b = some o -> h2.get? b = some o:=fun b o hb e=>k2 b o hb (k b o hb e)
  have hap:=W.apart i T h' mid
  have hIT2 : IsTup h2 T ([Value.int (i : Int) t1,Value.str ⟨#[c]⟩ u]).toArray:=by
   obtain ⟨o,ho,r⟩:=hIT
   exact ⟨o,k2 T o hap ho,r⟩
  have I2:=Q6l (t':=tk) (xs:=[.int (i : Int),.str ⟨#[c]⟩]) I kk2 hfw hT hIT2 (.cons ⟨t1,rfl⟩ (.cons ⟨u,rfl⟩ .nil)) (by show 2 <= sizeLine; decide)
  refine ⟨.ref T,_,I2,rfl,⟨T,c,hc',I.hok.fresh hT,rfl,rfl⟩,st2,fun b hb=>?_⟩
  rw [A9 (show b ≠ T from fun z=>hap (by rw [<- z]; exact hb))]
  exact (hf b hb).1
 done:=by
  intro X hP hw hK hc i pins s σ H E I hf st hg
  subst hP hw hK
  have hg : i = x.cps.size:=hg
  subst hg
  have Dr : Draws X.prog X.w X.A.in1 it [it] x.cps.size (fun i v=>∃ c u,x.cps[i]? = some c /\ v = .str ⟨#[c]⟩ u) (fun i h=>h.IsStrIter it (strIterType x) x t i):=by
   unfold strIterType
   split
   ·exact Draws.strAscii (A:=X.A.in1) (show X.A.in1.handled = none from I.ok.hd hc) it x t
   ·exact Draws.strWide (A:=X.A.in1) (show X.A.in1.handled = none from I.ok.hd hc) it x t
  have W:=WalksT.enumerateD Dr en hne (by simpa using hne) (by simp)
  exact W.done s _ _ st fun h' tk k=>⟨rfl,Q7t I k hf⟩
 self:=fun A i s Q E ⟨⟨old,he⟩,_⟩ h=>wpAny_pyIter_enum he h
theorem Z1z {K : Fg9} {H : Hp} {x : Str} : YlS K (Ies x) (G6 (Z9 x)) H where
 go:=fun H' _ i hi=>by
  have : i < x.cps.size:=by rw [Q1d] at hi; simpa [Z9] using hi
  exact this
 yld:=fun H' _ i v H'' d hd ⟨T,c,hc,hT,hv,hH⟩=>by
  subst hH hv
  refine ⟨F7 hT _,?_⟩
  obtain ⟨y,hy,rfl⟩:=Q7x hd
  unfold Z9 at hy
  rw [List.getElem?_map] at hy
  have : x.cps.toList[i]? = some c:=by simpa using hc
  rw [this] at hy
  have e : D.str ⟨#[c]⟩ = y:=Option.some.inj hy
  subst e
  exact A2.s_tup upd_same (AllS.cons A2.s_int (AllS.cons A2.s_str AllS.nil))
 stop:=fun H' _=>by
  show (G6 (Z9 x)).length = x.cps.size
  rw [Q1d]; simp [Z9]
noncomputable def Iel (K : Fg9) (l : Addr) : It:=⟨fun i H=>∃ xs x,D5 K H l xs /\ xs[i]? = some x,fun i H v H'=>∃ T x,(∀ xs,D5 K H l xs -> xs[i]? = some x) /\ H T = none /\ v = .ref T /\ H' = upd H T (.tup [.int (i : Int),x]),fun i H=>∃ xs,D5 K H l xs /\ xs.length = i⟩
theorem Y2g {P : Program} {w : World} {K : Fg9} {elts : List Expr} {kk : Nat} {pt : Pos} {en it l : Addr} (hne : en ≠ it) (hle : l ≠ en) (hli : l ≠ it) :
  Q1k P w K (.Tuple elts kk pt) (Iel K l) [en,it] en (fun i h=>(∃ old,IsEnum h en it i old) /\ h.IsListIter it l i) where
 mem:=by simp
 obj:=fun i h st b hb=>by
  obtain ⟨⟨old,he⟩,o,ho,_,d⟩:=st
  rcases List.mem_cons.mp hb with rfl | hb
  ·exact ⟨_,he,fun v z=>by cases z⟩
  ·have e : b = it:=by simpa using hb
   subst e
   exact ⟨o,ho,fun v z=>by rw [d] at z; cases z⟩
 keep:=fun i h h' ⟨⟨old,he⟩,hi⟩ k=>⟨⟨old,k en (by simp) _ he⟩,hi.at fun o e=>k it (by simp) o e⟩
 item:=by
  intro X hP hw hK hc i pins s σ H E I hf st hg
  subst hP hw hK
  obtain ⟨xs,x,hq,hx⟩:=hg
  obtain ⟨its,rv,p,hz⟩:=I.list hq
  have W:=WalksT.enumerate (prog:=X.prog) (w:=X.w) (A:=X.A) (I.ok.hd hc) en it l hne hle hli its.toArray
  obtain ⟨u,hu,ru⟩:=rv.get hx
  have hlt : i < its.toArray.size:=by
   rcases Nat.lt_or_ge i its.length with h | h
   ·simpa using h
   ·rw [List.getElem?_eq_none_iff.mpr h] at hu; cases hu
  refine W.item i s _ _ hlt ⟨st.1,st.2,p.isList⟩ fun T vals h' tk hv hT hIT mid k=>?_
  obtain ⟨t1,y,hy,rfl⟩:=hv
  have ey : y = u:=by
   have : its[i]? = some y:=by simpa using hy
   rw [hu] at this; exact (Option.some.inj this).symm
  subst ey
  refine ⟨_,rfl,W.go elts kk pt i T { s with heap:=h',toks:=tk } _ _ mid fun h2 st2 k2=>?_⟩
  have kk2 : ∀ b o,b ∉ [en,it] -> s.heap.get? b = some o -> h2.get? b = some o:=fun b o hb e=>k2 b o hb (k b o hb e)
  have hap:=W.apart i T h' mid
  have hIT2 : IsTup h2 T ([Value.int (i : Int) t1,y]).toArray:=by
   obtain ⟨o,ho,r⟩:=hIT
   exact ⟨o,k2 T o hap ho,r⟩
  have I2:=Q6l (t':=tk) (xs:=[.int (i : Int),x]) I kk2 hf hT hIT2 (.cons ⟨t1,rfl⟩ (.cons ru .nil)) (by show 2 <= sizeLine; decide)
  refine ⟨.ref T,_,I2,rfl,⟨T,x,fun ys hy=>by rw [I.list_inj hy hq]; exact hx,I.hok.fresh hT,rfl,rfl⟩,⟨st2.1,st2.2.1⟩,fun b hb=>?_⟩
  rw [A9 (show b ≠ T from fun z=>hap (by rw [<- z]; exact hb))]
  exact (hf b hb).1
 done:=by
  intro X hP hw hK hc i pins s σ H E I hf st hg
  subst hP hw hK
  obtain ⟨xs,hq,hx⟩:=hg
  obtain ⟨its,rv,p,hz⟩:=I.list hq
  have W:=WalksT.enumerate (prog:=X.prog) (w:=X.w) (A:=X.A) (I.ok.hd hc) en it l hne hle hli its.toArray
  have hl:=rv.length
  have e : i = its.toArray.size:=by simp; omega
  subst e
  exact W.done s _ _ ⟨st.1,st.2,p.isList⟩ fun h' tk k=>⟨rfl,Q7t I k hf⟩
 self:=fun A i s Q E ⟨⟨old,he⟩,_⟩ h=>wpAny_pyIter_enum he h
theorem W3c {K : Fg9} {H : Hp} {l : Addr} {xs : List V} {ds : List D} (sq : D5 K H l xs) (al : AllS K H ds xs) : YlS K (Iel K l) (G6 ds) H where
 go:=fun H' s i hi=>by
  rw [Q1d] at hi
  exact ⟨xs,xs[i]'(by rw [<- al.length]; exact hi),s.seq sq,List.getElem?_eq_getElem _⟩
 yld:=fun H' s i v H'' d hd ⟨T,x,hx,hT,hv,hH⟩=>by
  subst hH hv
  refine ⟨F7 hT _,?_⟩
  obtain ⟨y,hy,rfl⟩:=Q7x hd
  obtain ⟨v,hv,q⟩:=al.get hy
  rw [hx xs (s.seq sq)] at hv; cases hv
  exact A2.s_tup upd_same (AllS.cons A2.s_int (AllS.cons (q.mono (Kp.of (s.trans (F7 hT _))) _ _) AllS.nil))
 stop:=fun H' s=>⟨xs,s.seq sq,by rw [Q1d]; exact al.length.symm⟩
end
section
variable {X : Cx} {H0 : Hp} {a b c e o tg : Expr} {pos apos cpos : Pos} {wa wb we : WE} {wr : WA}
theorem B5.mutate {K : Fg9} {H : Hp} {τ : A8} {σ : St} {i : Nat} {ds ds' : List D} {a : Addr} {xs xs' : List V} (hR : B5 K H0 τ σ H) (e1 : τ[i]? = some (some (.own ds))) (hv : σ[i]? = some (some (.ref a))) (h0 : H0 a = none) (sq : H a = some (.lst xs)) (al : AllS K H ds' xs') :
  B5 K H0 (τ.set i (some (.own ds'))) σ (upd H a (.lst xs')):=by
 have kp : Kp H (upd H a (.lst xs')):=Kp.upd sq _
 have hl : i < τ.length:=by
  rcases Nat.lt_or_ge i τ.length with h | h
  ·exact h
  ·rw [List.getElem?_eq_none_iff.mpr h] at e1; cases e1
 have old : ∀ (j : Nat) (s : Sl),(τ.set i (some (.own ds')))[j]? = some (some s) -> j ≠ i -> τ[j]? = some (some s):=fun j s e hj=>by rw [List.getElem?_set_ne (fun z=>hj z.symm)] at e; exact e
 have mutAt : ∀ (j : Nat) (s : Sl),(τ.set i (some (.own ds')))[j]? = some (some s) -> s.mut = true -> ∃ t,τ[j]? = some (some t) /\ t.mut = true:=fun j s e m=>by
  by_cases hj : j = i
  ·subst hj; exact ⟨_,e1,rfl⟩
  ·exact ⟨s,old j s e hj,m⟩
 refine ⟨by rw [List.length_set]; exact hR.len,fun b ob hb=>?_,fun j s e=>?_,fun j k s t v hne e2 e3 m1 m2 q1 q2=>?_⟩
 ·rw [A9 (T2 hb h0)]; exact hR.same b ob hb
 ·by_cases hj : j = i
  ·subst hj
   rw [Z0 hl] at e; cases e
   exact ⟨_,hv,a,xs',rfl,h0,upd_same,al.mono kp _ _⟩
  ·have e:=old j s e hj
   obtain ⟨v,q,r⟩:=hR.here j s e
   refine ⟨v,q,?_⟩
   have ap : s.mut = true -> v ≠ .ref a:=fun m z=>by
    subst z
    exact hR.apart i j _ s (.ref a) (fun z=>hj z.symm) e1 e rfl m hv q
   cases s with
   | dat d=>exact A2.mono kp _ _ r
   | own es=>obtain ⟨b,ys,e,n,q,t⟩:=r; exact ⟨b,ys,e,n,by rw [A9 (fun z=>ap rfl (by rw [e,z]))]; exact q,t.mono kp _ _⟩
   | bor es=>obtain ⟨b,ys,e,q,t⟩:=r; exact ⟨b,ys,e,q,t.mono kp _ _⟩
   | dk es=>obtain ⟨b,ys,e,n,q,t⟩:=r; exact ⟨b,ys,e,n,by rw [A9 (fun z=>ap rfl (by rw [e,z]))]; exact q,t.mono kp _ _⟩
   | dt es=>obtain ⟨b,ys,e,n,q,t⟩:=r; exact ⟨b,ys,e,n,by rw [A9 (fun z=>ap rfl (by rw [e,z]))]; exact q,t.mono kp _ _⟩
   | ob _=>exact r
   | cl _ _=>exact ⟨r.1,r.2.2 _ _ kp r.2.1,r.2.2⟩
   | ll _ _=>exact ⟨r.1,r.2.keep kp fun b φ q=>by rw [A9 (W9 q sq (by intro z; cases z))]; exact q⟩
   | ins _ _ _=>obtain ⟨e,n,dx,ys,q,t⟩:=r; exact ⟨e,n,dx,ys,by rw [A9 (fun z=>ap rfl (by rw [e,z]))]; exact q,t.mono kp _ _⟩
 ·obtain ⟨s',e2',m1'⟩:=mutAt j s e2 m1
  obtain ⟨t',e3',m2'⟩:=mutAt k t e3 m2
  exact hR.apart j k s' t' v hne e2' e3' m1' m2' q1 q2
theorem B5.ownAt {K : Fg9} {H : Hp} {τ : A8} {σ : St} {i : Nat} {ds : List D} (hR : B5 K H0 τ σ H) (e1 : τ[i]? = some (some (.own ds))) : ∃ a xs,σ[i]? = some (some (.ref a)) /\ H0 a = none /\ H a = some (.lst xs) /\ AllS K H ds xs:=by
 obtain ⟨v,hv,a,xs,rfl,h0,sq,al⟩:=hR.here i _ e1
 exact ⟨a,xs,hv,h0,sq,al⟩
def L9 (i : Nat) (we : WE) : WS:=fun E τ=>∃ ds,τ[i]? = some (some (.own ds)) /\ we τ fun r=>∃ d,r = .st d /\ ds.length < sizeLine /\ E.nx (τ.set i (some (.own (ds ++ [d]))))
theorem DS.append {i : Nat} (ho : PE X o (O4 i)) (he : DE X H0 e we) (hbase : attributeBase o "append" X.env (eval o X.env) = eval o X.env:=by rfl)
  (hfew : ((backTo cpos (starEach [e] X.env)).all (fun x=>!x.1) && (backToKw cpos (keywordEach [] X.env)).all (fun x=>x.1.isSome) && decide ([e].length + ([] : List Keyword).length + (if ([] : List Keyword).isEmpty then 0 else 1) < 30)) = true:=by rfl)
  (hline : (apos.endLine == cpos.line) = true:=by rfl) (hs : starEach [e] X.env = (false,eval e X.env) :: starEach [] X.env:=by rfl) (hplain : (backTo cpos (starEach [] X.env)).any (·.1) = false:=by rfl)
  (hsw : swapsWith (.Call (.Attribute o "append" apos) [e] [] cpos) none pos.line X.env = pure false:=by rfl) : DS X H0 (.Expr (.Call (.Attribute o "append" apos) [e] [] cpos) pos) (L9 i we) where
 mono:=fun τ E F le ⟨ds,e1,h⟩=>⟨ds,e1,he.mono τ _ _ (fun r ⟨d,e2,h1,h2⟩=>⟨d,e2,h1,le.nx _ h2⟩) h⟩
 ps:=P4 (Z3f (Y5t PySem.F.plainAttrs_list PySem.F.slot_list_append PySem.F.type_list_append W3p ho (Q2f he.pe Q4s hs) hbase hfew hline hs hplain) hsw) fun D σ H ⟨τ,hR,ds,e1,h⟩=>by
  obtain ⟨a,xs,hv,h0,sq,al⟩:=hR.ownAt e1
  refine ⟨_,hv,.inl ⟨rfl,_,D5.of sq⟩,τ,hR,he.mono τ _ _ (fun r ⟨d,e2,h1,h2⟩ v H1 s1 ir=>?_) h⟩
  subst e2
  have hR1:=hR.mono s1
  refine ⟨a,xs,v,rfl,rfl,s1 _ _ sq,by rw [<- al.length]; exact h1,h2 σ _ ((Kp.of s1).trans (Kp.upd (s1 _ _ sq) _)) ?_⟩
  exact hR1.mutate e1 hv h0 (s1 _ _ sq) ((al.mono (Kp.of s1) _ _).append (AllS.cons ir AllS.nil))
end
end TK
end
section
namespace HT
open PySem PyProof.Rows
section
variable {prog : Program} {w : World} {A : Around} {E : VS9} {s : Shared}
end
end HT
namespace TK
open PySem PySem.Spec PyProof.Rows L2
section
variable {X : Cx} {H0 : Hp} {a b c e o tg : Expr} {pos p2 : Pos} {wa wb we : WE} {lo hi : Option Expr}
variable {wl wh : WO}
end
end TK
end
section
namespace TK
open PySem PySem.Spec PyProof.Rows L2
section
variable {X : Cx} {H0 : Hp} {a b c e o tg : Expr} {pos pos' p p2 : Pos} {wa wb we : WE} {x : Str} {d : Addr} {kvs : List (Str × Int)}
theorem DE.gstr {z : Str} (hg : Gl X x) (hm : ∃ t,X.mg x = some (.str z t)) (hd : (x == ("__debug__" : Str)) = false:=by decide) : DE X H0 (.Name x pos) (wC (.str z)):=by
 obtain ⟨t,hm⟩:=hm
 exact DE.con (Y5g (v:=.str z) hg hm ⟨t,rfl⟩ hd) fun _ _=>A2.s_str
def Q3b (i : Nat) (g : R -> R -> (R -> Prop) -> Prop) (we : WE) : WS:=fun E τ=>∃ s,τ[i]? = some (some s) /\ we τ fun y=>g (rdS s) y fun r=>Q0b r fun s'=>E.nx (τ.set i (some s'))
theorem DS.aug {i : Nat} {op : Operator} {g : R -> R -> (R -> Prop) -> Prop} (ho : OpD X (inplaceOp op) g) (mg : W0 g) (he : DE X H0 e we) (hN : X.N.Nodup) (hi : X.N[i]? = some x) (hx : Loc X.env.scope x)
  (hf : X.fn x = true \/ X.env.scope.names.lookup x = some .local:=by first | exact .inl rfl | exact .inr rfl | assumption) : DS X H0 (.AugAssign (.Name x pos') op e pos) (Q3b i g we) where
 mono:=fun τ E F le ⟨s,e1,h⟩=>⟨s,e1,he.mono τ _ _ (fun y h=>mg _ _ _ _ (fun r h=>Z9c (fun s h=>le.nx _ h) h) h) h⟩
 ps:=P4 (Y2p hN hi hx he.pe ho hf) fun D σ H ⟨τ,hR,s,e1,h⟩=>by
  obtain ⟨v,hv,q⟩:=hR.here i s e1
  refine ⟨v,hv,τ,hR,he.mono τ _ _ (fun y h u H1 s1 iu=>?_) h⟩
  have iv : IsV X.K H1 (rdS s) v:=(SlR.rd (Hs:=fun _=>none) hR.same q).mono s1
  refine ⟨rdS s,y,iv,iu.v,mg _ _ _ _ (fun r h z H2 s2 iz=>?_) h⟩
  obtain ⟨s',p,hR'⟩:=(hR.mono s1).store (i:=i) s2 iz h
  exact p _ _ (Kp.of (s1.trans s2)) hR'
theorem Z9e : OpD X (inplaceOp .Add) (N3 NoC fun i j=>i + j):=OpD.ints0 Y5p
noncomputable def blkB (sc : Scope) (N0 : List Str) (scope : Scope) (N : List Str) (nt : Nat) (cap : List Nat) : Bool :=
 decide (scope.kind = .function) && scope.names.all (fun y=>y.2 != .cell) && scope.names.all (fun y=>y.2 != .local || scope.names.lookup y.1 == some .local) &&
 scope.names.all (fun y=>y.2 != .free || scope.names.lookup y.1 == some .free) && scope.names.all (fun y=>y.2 != .free || sc.names.lookup y.1 == some .cell || sc.names.lookup y.1 == some .free) &&
 decide (N.length = nt + cap.length) && (List.range cap.length).all (fun j=>match cap[j]?,N[nt + j]? with | some i,some x=>N0[i]? == some x && scope.names.contains (x,NameKind.free) | _,_=>false)
theorem Y0 {sc : Scope} {N0 : List Str} {scope : Scope} {N : List Str} {nt : Nat} {cap : List Nat} (h1 : X.env.scope = sc) (h2 : X.N = N0) (h : blkB sc N0 scope N nt cap = true) : K8 X scope N nt cap:=by
 subst h1 h2
 unfold blkB at h
 simp only [Bool.and_eq_true] at h
 obtain ⟨⟨⟨⟨⟨⟨a1,a2⟩,a3⟩,a4⟩,a5⟩,a6⟩,a7⟩:=h
 refine ⟨of_decide_eq_true a1,fun y hy=>?_,fun y hy e=>?_,fun y hy e=>?_,fun y hy e=>?_,of_decide_eq_true a6,fun j i x hj hx=>?_⟩
 ·simpa using List.all_eq_true.mp a2 y hy
 ·have:=List.all_eq_true.mp a3 y hy
  rw [e] at this
  simpa using this
 ·have:=List.all_eq_true.mp a4 y hy
  rw [e] at this
  simpa using this
 ·have:=List.all_eq_true.mp a5 y hy
  rw [e] at this
  have this : X.env.scope.names.lookup y.1 = some .cell \/ X.env.scope.names.lookup y.1 = some .free:=by simpa using this
  exact this
 ·have hlt : j < cap.length:=by
   rcases Nat.lt_or_ge j cap.length with h | h
   ·exact h
   ·rw [List.getElem?_eq_none_iff.mpr h] at hj; cases hj
  have:=List.all_eq_true.mp a7 j (List.mem_range.mpr hlt)
  rw [hj,hx] at this
  simpa using this
theorem Q3c {A : Around} {k : Nat} (hr : C5 k A) : A.units + 60 < cLine:=by have:=hr.units; omega
theorem C5.hu1 {A : Around} {k : Nat} (hr : C5 k A) : A.units + 1 < cLine:=by have:=hr.units; omega
theorem Y2y (T : String) (h : T ∈ ["bool","int","str","tuple","list"]) : ∀ K t,t ∈ ["NoneType","bool","int","str","tuple","list"] -> PySem.W.kitOne K (.type t) (.type T) = some (Q4d T t):=by
 intro K t ht
 simp only [List.mem_cons,List.not_mem_nil,or_false] at h ht
 rcases h with rfl | rfl | rfl | rfl | rfl <;> rcases ht with rfl | rfl | rfl | rfl | rfl | rfl <;> rfl
end
end TK
end
section
namespace HT
open PySem PySem.Spec PyProof.Rows
open AutoSeq1 (wpAny_loadPart')
section
variable {prog : Program} {w : World} {A : Around} {E : VS9} {s : Shared}
end
end HT
namespace TK
open PySem PySem.Spec PyProof.Rows L2
section
variable {X : Cx} {H0 : Hp} {a b c e o tg : Expr} {pos pos' p p2 p3 p4 : Pos} {wa wb we : WE}
end
end TK
end
section
namespace TK
open PySem PySem.Spec PyProof.Rows L2
def B1 (we : WE) : WE:=fun τ Q=>we τ fun r=>fzR r fun d=>Q (.st d)
def wB (t : WT) : WE:=fun τ Q=>t τ fun k=>Q (.st (.bl k))
def Z7 (we : WE) : WT:=fun τ Q=>we τ fun r=>Y7 r Q
def U1 : WT:=fun _ Q=>Q true
def Q4o (we : WE) : WI:=fun τ Q=>we τ fun r=>∃ ds,r = .st (.lst ds) /\ Q ds τ
def Q5g (we : WE) : WI:=fun τ Q=>we τ fun r=>∃ ds,r = .st (.tup ds) /\ Q ds τ
def Q0x (wr : WA) : WI:=fun τ Q=>wr τ fun rs=>∃ j : Int,rs = [.st (.int j)] /\ -(2 ^ 62) <= j /\ j < 2 ^ 62 /\ Q (Q4 0 j.toNat) τ
def Q5p (we : WE) : WIE:=fun τ Q=>we τ fun r=>∃ ds,S7 r = some ds /\ Q ds
def Q8u (we : WE) : WIE:=fun τ Q=>we τ fun r=>∃ ds,r = .st (.tup ds) /\ Q ds
def Q5n (wr : WA) : WIE:=fun τ Q=>wr τ fun rs=>∃ j : Int,rs = [.st (.int j)] /\ -(2 ^ 62) <= j /\ j < 2 ^ 62 /\ Q (Q4 0 j.toNat)
def Q8 (wi : WI) (g : WG) (wb : WS) : WS:=fun E τ=>wi τ fun ds τ'=>E2 g wb E ds τ'
def Z1r (we : WE) (g : WG) : WS:=fun E τ=>we τ fun r=>∃ d,r = .st d /\ g d τ E.nx
def Q6q (i : Nat) : WS:=fun E τ=>∃ s,τ[i]? = some (some s) /\ Q2l s E.rt
structure Df (K : Fg9) (mg : Str -> Option Value) (name : Str) (st : Stmt) (ps : List Str) (f : Addr) (fd : FuncData) : Prop where
 F : O5 K name name st f fd
 b : V6 K fd ps []
 k : PySem.W.keepIn K (.ref f) = true
 m : mg name = some (.ref f)
abbrev FnD (P : Program) (w : World) (K : Fg9) (mg : Str -> Option Value) (base : Heap) (k : Nat) (f : Addr) (fd : FuncData) (ps : List Str) (sp : D8) : Prop:=P8 P w K mg base K6 k f fd ps (Q4y K ps.length sp)
noncomputable def Y8 (r : R) : E6:={ nx:=fun _=>r = .st .non,rt:=fun r'=>r' = r,bk:=fun _=>False,ct:=fun _=>False }
section
variable {P : Program} {w : World} {K : Fg9} {mg : Str -> Option Value} {base : Heap}
theorem Df.ok {x : Str} {st : Stmt} {f : Addr} {fd : FuncData} {N ps : List Str} {k : Nat} {sp : D8} {ws : WS} (F : Df K mg x st ps f fd) (S : G2 N ps (C0 st))
  (hbody : ∀ (cdv : Value) (A : Around) (outer : List Env) (s : Shared) (H : Hp) (E : XK),C5 k (A.deeper (envOfC x (C0 st) s.heap.objs.size f cdv)) -> A4 (V0 K6 P w K mg base N x (C0 st) f cdv A outer s H E).nox H (Q3 st) ws)
  (hr : ∀ rs r,rs.length = ps.length -> sp rs r -> ws (Y8 r) (E4 N rs)) : FnD P w K mg base (k + 1) f fd ps sp :=
 O5.okD F.F S fun cdv A outer s H E hr'=>⟨ws,hbody cdv A outer s H E hr',hr⟩
end
section
variable {τ : A8} {E : E6} {Q : R -> Prop} {QB : Bool -> Prop} {wa wb we : WE} {wr : WA} {t u : WT} {ws wt : WS} {i j : Int} {n : Nat} {x y : Str} {ds es : List D} {d e : D}
@[simp] theorem G4 : A7 ws wt E τ = ws { E with nx:=wt E } τ:=rfl
@[simp] theorem U9 : G0 E τ = E.nx τ:=rfl
@[simp] theorem V7 : F9 t ws wt E τ = t τ fun k=>if k = true then ws E τ else wt E τ:=rfl
@[simp] theorem S9 : F4 we E τ = we τ fun r=>Q4i r E.rt:=rfl
@[simp] theorem Z4m : Q6q n E τ = ∃ s,τ[n]? = some (some s) /\ Q2l s E.rt:=rfl
@[simp] theorem K2 : B7 n we E τ = we τ fun r=>Q0b r fun s=>E.nx (τ.set n (some s)):=rfl
@[simp] theorem Y2b {g : R -> R -> (R -> Prop) -> Prop} : Q3b n g we E τ = ∃ s,τ[n]? = some (some s) /\ we τ fun y=>g (rdS s) y fun r=>Q0b r fun s'=>E.nx (τ.set n (some s')):=rfl
@[simp] theorem Z9k {g : WG} : Z1r we g E τ = we τ fun r=>∃ d,r = .st d /\ g d τ E.nx:=rfl
@[simp] theorem Q1h : L9 n we E τ = ∃ ds,τ[n]? = some (some (.own ds)) /\ we τ fun r=>∃ d,r = .st d /\ ds.length < sizeLine /\ E.nx (τ.set n (some (.own (ds ++ [d])))):=rfl
@[simp] theorem Q0h {wi : WI} {g : WG} : Q8 wi g ws E τ = wi τ fun ds τ'=>E2 g ws E ds τ':=rfl
@[simp] theorem C3 : wV n τ Q = ∃ s,τ[n]? = some (some s) /\ Q (rdS s):=rfl
@[simp] theorem F3 : wC d τ Q = Q (.st d):=rfl
@[simp] theorem E3 {α : Type} {g : R -> R -> (α -> Prop) -> Prop} {Q : α -> Prop} : A5 g wa wb τ Q = wa τ fun x=>wb τ fun y=>g x y Q:=rfl
@[simp] theorem s_b : wB t τ Q = t τ fun k=>Q (.st (.bl k)):=rfl
@[simp] theorem Q7j : Z7 we τ QB = we τ fun r=>Y7 r QB:=rfl
@[simp] theorem Y3p : Q8p t u τ QB = t τ fun k=>if k = true then u τ QB else QB false:=rfl
@[simp] theorem Z0v : wOr t u τ QB = t τ fun k=>if k = true then QB true else u τ QB:=rfl
@[simp] theorem W2f : Q6w t τ QB = t τ fun k=>QB (!k):=rfl
@[simp] theorem W2p : Z2 wa wb τ Q = wa τ fun r=>blR r fun k=>if k = true then wb τ Q else Q (.st (.bl false)):=rfl
@[simp] theorem s_orV : Z1f wa wb τ Q = wa τ fun r=>blR r fun k=>if k = true then Q (.st (.bl true)) else wb τ Q:=rfl
@[simp] theorem Y5k : Q3g wa τ Q = wa τ fun r=>blR r fun k=>Q (.st (.bl (!k))):=rfl
@[simp] theorem W0l : wIf t wa wb τ Q = t τ fun k=>if k = true then wa τ Q else wb τ Q:=rfl
@[simp] theorem C6 {Q : List R -> Prop} : A3 τ Q = Q []:=rfl
@[simp] theorem D6 {Q : List R -> Prop} : A0 we wr τ Q = we τ fun r=>wr τ fun rs=>Q (r :: rs):=rfl
@[simp] theorem s_tup : Q9 wr τ Q = wr τ fun rs=>∃ ds,Y5 rs = some ds /\ ds.length <= sizeLine /\ Q (.st (.tup ds)):=rfl
@[simp] theorem s_lst : K1 wr τ Q = wr τ fun rs=>∃ ds,Y5 rs = some ds /\ ds.length <= sizeLine /\ Q (.nw ds):=rfl
@[simp] theorem G1 : B1 we τ Q = we τ fun r=>fzR r fun d=>Q (.st d):=rfl
@[simp] theorem L5 {g : List R -> (R -> Prop) -> Prop} : D4 g wr τ Q = wr τ fun rs=>g rs Q:=rfl
@[simp] theorem W1 {sp : D8} : J7 sp wr τ Q = wr τ fun rs=>rs.all M7 = true /\ ∃ r,sp (rs.map nrm) r /\ Q r:=rfl
@[simp] theorem W0n {T : String} : Q8s T we τ Q = we τ fun r=>∃ t,Q5c r = some t /\ Q (.st (.bl (Q4d T t))):=rfl
@[simp] theorem W4t : U1 τ QB = QB true:=rfl
@[simp] theorem Q1z {cap : List Nat} {wi : WIE} {g : WG} : W4 n cap wi g t we τ Q = wi τ fun ds=>ds.length <= sizeLine /\ M4 g t we ds (Q0 n cap τ) fun es=>Q (.nw es):=rfl
@[simp] theorem S0 {Q : A8 -> Prop} : C2 n d τ Q = Q (τ.set n (some (.dat d))):=rfl
@[simp] theorem Q1b {Q : A8 -> Prop} : O1 ds τ Q = (ds = [] /\ Q τ):=rfl
@[simp] theorem Q1i {g : WG} {gs : WGs} {Q : A8 -> Prop} : E8 g gs ds τ Q = ∃ d r,ds = d :: r /\ g d τ fun τ'=>gs r τ' Q:=rfl
@[simp] theorem Q1u {gs : WGs} {Q : A8 -> Prop} : N5 n gs d τ Q = ∃ ds,d = .tup ds /\ ds.length = n /\ gs ds τ Q:=rfl
@[simp] theorem Z6m {Q : List D -> A8 -> Prop} : Q4o we τ Q = we τ fun r=>∃ ds,r = .st (.lst ds) /\ Q ds τ:=rfl
@[simp] theorem W5b {Q : List D -> A8 -> Prop} : Q5g we τ Q = we τ fun r=>∃ ds,r = .st (.tup ds) /\ Q ds τ:=rfl
@[simp] theorem Z0p {Q : List D -> A8 -> Prop} : Q0x wr τ Q = wr τ fun rs=>∃ j : Int,rs = [.st (.int j)] /\ -(2 ^ 62) <= j /\ j < 2 ^ 62 /\ Q (Q4 0 j.toNat) τ:=rfl
@[simp] theorem Q7o {Q : List D -> Prop} : Q5p we τ Q = we τ fun r=>∃ ds,S7 r = some ds /\ Q ds:=rfl
@[simp] theorem Z2t {Q : List D -> Prop} : Q5n wr τ Q = wr τ fun rs=>∃ j : Int,rs = [.st (.int j)] /\ -(2 ^ 62) <= j /\ j < 2 ^ 62 /\ Q (Q4 0 j.toNat):=rfl
@[simp] theorem G3 : rdS (.dat d) = .st d:=rfl
@[simp] theorem T3 : rdS (.own ds) = .bw ds:=rfl
@[simp] theorem o_sl1 : M8 (.st d) = .dat d:=rfl
@[simp] theorem o_sl2 : M8 (.bw ds) = .bor ds:=rfl
@[simp] theorem W1u : Q4i (.st d) Q = Q (.st d):=rfl
@[simp] theorem N1 {P : Sl -> Prop} : Q0b (.st d) P = P (.dat d):=rfl
@[simp] theorem Q2o {P : Sl -> Prop} : Q0b (.nw ds) P = P (.own ds):=rfl
@[simp] theorem Q4x {P : D -> Prop} : fzR (.st d) P = P d:=rfl
@[simp] theorem o_bl {b : Bool} : blR (.st (.bl b)) QB = QB b:=rfl
@[simp] theorem o_d1 : R.d (.st d) = some d:=rfl
@[simp] theorem o_d2 : R.d (.nw ds) = some (.lst ds):=rfl
@[simp] theorem o_d3 : R.d (.bw ds) = some (.lst ds):=rfl
@[simp] theorem o_nrm1 : nrm (.st d) = .st d:=rfl
@[simp] theorem o_nrm2 : nrm (.nw ds) = .bw ds:=rfl
@[simp] theorem o_nrm3 : nrm (.bw ds) = .bw ds:=rfl
@[simp] theorem o_arg1 : M7 (.st d) = true:=rfl
@[simp] theorem o_arg2 : M7 (.nw ds) = true:=rfl
@[simp] theorem o_arg3 : M7 (.bw ds) = true:=rfl
@[simp] theorem Y7x : S7 (.st (.lst ds)) = some ds:=rfl
@[simp] theorem o_sa0 : Y5 [] = some []:=rfl
@[simp] theorem o_sa1 {rs : List R} : Y5 (.st d :: rs) = (Y5 rs).map (d :: ·):=rfl
@[simp] theorem o_ty1 {b : Bool} : Q5c (.st (.bl b)) = some "bool":=rfl
@[simp] theorem Q1n : J9 (.st (.int i)) (.st (.int j)) Q = Q (.st (.int (i + j))):=rfl
@[simp] theorem Y1h : J9 (.st (.str x)) (.st (.str y)) Q = (x.length + y.length <= sizeLine /\ Q (.st (.str (x ++ y)))):=rfl
@[simp] theorem Z6t : V4 (.st (.int i)) (.st (.int j)) Q = (Q1s i j /\ Q (.st (.int (i * j)))):=rfl
@[simp] theorem Y9q {C : Int -> Int -> Prop} {f : Int -> Int -> Int} : TK.N3 C f (.st (.int i)) (.st (.int j)) Q = (C i j /\ Q (.st (.int (f i j)))):=rfl
@[simp] theorem Q0d {f : Int -> Int -> Bool} : R1 f (.st (.int i)) (.st (.int j)) QB = QB (f i j):=rfl
@[simp] theorem Z1p : B6 (.st (.lst ds)) (.st (.int i)) Q = ∃ d,K7 ds i = some d /\ Q (.st d):=rfl
@[simp] theorem Z5d : B6 (.nw ds) (.st (.int i)) Q = ∃ d,K7 ds i = some d /\ Q (.st d):=rfl
@[simp] theorem Q5s : B6 (.bw ds) (.st (.int i)) Q = ∃ d,K7 ds i = some d /\ Q (.st d):=rfl
@[simp] theorem Q6e : B6 (.st (.tup ds)) (.st (.int i)) Q = ∃ d,K7 ds i = some d /\ Q (.st d):=rfl
@[simp] theorem o_len1 : F2 [.st (.lst ds)] Q = Q (.st (.int ds.length)):=rfl
@[simp] theorem W0m : F2 [.st (.tup ds)] Q = Q (.st (.int ds.length)):=rfl
@[simp] theorem o_len3 : F2 [.nw ds] Q = Q (.st (.int ds.length)):=rfl
@[simp] theorem Y1 : F2 [.bw ds] Q = Q (.st (.int ds.length)):=rfl
@[simp] theorem Z6p : F2 [.st (.str x)] Q = (x.length <= sizeLine /\ Q (.st (.int x.length))):=rfl
@[simp] theorem Q1q {r1 r2 : R} {b : Bool} : eqD n b r1 r2 QB = ∃ d e,r1.d = some d /\ r2.d = some e /\ d.depth <= n /\ QB (if b then !D.eq d e else D.eq d e):=rfl
@[simp] theorem Q4q {b : Bool} : Y7 (.st (.bl b)) QB = QB b:=rfl
@[simp] theorem Q7f {b : Bool} : Q0p [.st (.bl b)] Q = Q (.st (.int (if b then 1 else 0))):=rfl
@[simp] theorem Q7u : D.eq (.int i) (.int j) = (i == j):=by simp [D.eq]
@[simp] theorem o_e2 : D.eq (.str x) (.str y) = (x == y):=by simp [D.eq]
@[simp] theorem o_e3 {b c : Bool} : D.eq (.bl b) (.bl c) = (b == c):=by simp [D.eq]
@[simp] theorem o_e4 : D.eq (.lst ds) (.lst es) = D.eqs ds es:=by simp [D.eq]
@[simp] theorem o_e5 : D.eq (.tup ds) (.tup es) = D.eqs ds es:=by simp [D.eq]
@[simp] theorem o_eN : D.eqs ds [] = ds.isEmpty:=by cases ds <;> simp [D.eqs]
@[simp] theorem W4j {r r' : R} : (Y8 r).rt r' = (r' = r):=rfl
@[simp] theorem o_endn {r : R} : (Y8 r).nx τ = (r = .st .non):=rfl
@[simp] theorem o_dep0 : D.depth (.int i) = 0:=by simp [D.depth]
@[simp] theorem o_dep1 : D.depth (.str x) = 0:=by simp [D.depth]
@[simp] theorem o_zl : (0 : Nat) <= sizeLine:=Nat.zero_le _
@[simp] theorem W5q {N : List Str} {rs : List R} : E4 N rs = rs.map (fun r=>some (M8 r)) ++ List.replicate (N.length - rs.length) none:=rfl
end
section
variable {X : Cx} {pins : Pn9} {σ : St} {H : Hp} {s : Shared}
open PySem.SeqAt
theorem W0p {d1 d2 : D} {u1 u2 : Value} {A : Around} (h1 : Vw X H s d1 u1) (h2 : Vw X H s d2 u2) (hu : A.units < cLine) (hb : ¬ Q1y d1 d2) : RcNeAt A s u1 u2 (!D.eq d1 d2):=by
 cases h1 <;> cases h2 <;> first | exact absurd (.inl ⟨_,_,rfl,rfl⟩) hb | exact absurd (.inr ⟨_,_,rfl,rfl⟩) hb | (unfold D.eq; (try simp only [Bool.not_true,Bool.not_false]); (with_reducible first | exact RcNeAt.none_none | exact RcNeAt.none_bool _ | exact RcNeAt.none_int _ _ | exact RcNeAt.none_str _ _ | exact RcNeAt.none_tuple (by assumption) hu | exact RcNeAt.none_list (by assumption) hu | exact RcNeAt.bool_none _ | exact RcNeAt.bool_bool _ _ | exact RcNeAt.bool_int _ _ _ | exact RcNeAt.bool_str _ _ _ | exact RcNeAt.bool_tuple _ (by assumption) hu | exact RcNeAt.bool_list _ (by assumption) hu | exact RcNeAt.int_none _ _ | exact RcNeAt.int_bool _ _ _ | exact RcNeAt.int_int _ _ _ _ | exact RcNeAt.int_str _ _ _ _ | exact RcNeAt.int_tuple _ _ (by assumption) hu | exact RcNeAt.int_list _ _ (by assumption) hu | exact RcNeAt.str_none _ _ | exact RcNeAt.str_bool _ _ _ | exact RcNeAt.str_int _ _ _ _ | exact RcNeAt.str_str _ _ _ _ | exact RcNeAt.str_tuple _ _ (by assumption) hu | exact RcNeAt.str_list _ _ (by assumption) hu | exact RcNeAt.tuple_none (by assumption) hu | exact RcNeAt.tuple_bool _ (by assumption) hu | exact RcNeAt.tuple_int _ _ (by assumption) hu | exact RcNeAt.tuple_str _ _ (by assumption) hu | exact RcNeAt.tuple_list (by assumption) (by assumption) hu | exact RcNeAt.list_none (by assumption) hu | exact RcNeAt.list_bool _ (by assumption) hu | exact RcNeAt.list_int _ _ (by assumption) hu | exact RcNeAt.list_str _ _ (by assumption) hu | exact RcNeAt.list_tuple (by assumption) (by assumption) hu))
theorem W2r (I : A1 X pins σ H s) (n : Nat) (d1 d2 : D) (v1 v2 : V) (u1 u2 : Value) (A : Around) (hd : d1.depth <= n) (h1 : IsW X.K H d1 v1) (h2 : IsW X.K H d2 v2) (r1 : B4 v1 u1) (r2 : B4 v2 u2) (hu : A.units + n + 1 < cLine) : RcNeAt A s u1 u2 (!D.eq d1 d2):=by
 have w1:=Q3a I h1 r1
 have w2:=Q3a I h2 r2
 by_cases hb : Q1y d1 d2
 ·obtain ⟨p,q,rfl,rfl⟩ | ⟨p,q,rfl,rfl⟩:=hb
  ·cases w1; cases w2
   rename_i a1 xs1 its1 rv1 pl1 al1 a2 xs2 its2 rv2 pl2 al2
   have hd : D.depths p + 1 <= n:=by unfold D.depth at hd; exact hd
   have l1 : its1.toArray.size = p.length:=by have:=al1.length; have:=rv1.length; simp; omega
   have l2 : its2.toArray.size = q.length:=by have:=al2.length; have:=rv2.length; simp; omega
   have k:=RcNeAt.tuples (A:=A) (s:=s) (e:=fun i=>match p[i]?,q[i]? with | some x,some y=>D.eq x y | _,_=>true) pl1 pl2 (by omega) (fun j hj1 hj2=>by
    obtain ⟨d1,v1,e1,i1,w1⟩:=Q1e al1 rv1 hj1
    obtain ⟨d2,v2,e2,i2,w2⟩:=Q1e al2 rv2 hj2
    simp only [e1,e2]
    exact Q4w I (fun A=>Q8n I n d1 d2 v1 v2 _ _ A (by have:=D.depths_get e1; omega) i1.w i2.w w1 w2) i1 i2 w1 w2 (by simp only [Around.in1_units]; omega))
   rw [l1,l2] at k
   unfold D.eq; rw [D.eqs_range]; exact k
  ·cases w1; cases w2
   rename_i a1 xs1 its1 rv1 pl1 al1 a2 xs2 its2 rv2 pl2 al2
   have hd : D.depths p + 1 <= n:=by unfold D.depth at hd; exact hd
   have l1 : its1.toArray.size = p.length:=by have:=al1.length; have:=rv1.length; simp; omega
   have l2 : its2.toArray.size = q.length:=by have:=al2.length; have:=rv2.length; simp; omega
   have kk : RcNeAt A s (.ref a1) (.ref a2) (!D.eqs p q):=by
    rw [D.eqs_range]
    by_cases hlen : p.length = q.length
    ·have k:=RcNeAt.lists (A:=A) (s:=s) (e:=fun i=>match p[i]?,q[i]? with | some x,some y=>D.eq x y | _,_=>true) pl1 pl2 (by omega) (by omega) (fun j hj1 hj2=>by
      obtain ⟨d1,v1,e1,i1,w1⟩:=Q1e al1 rv1 hj1
      obtain ⟨d2,v2,e2,i2,w2⟩:=Q1e al2 rv2 hj2
      simp only [e1,e2]
      exact Q4w I (fun A=>Q8n I n d1 d2 v1 v2 _ _ A (by have:=D.depths_get e1; omega) i1.w i2.w w1 w2) i1 i2 w1 w2 (by simp only [Around.in1_units]; omega))
     rw [l1] at k
     rw [<- hlen,Nat.min_self,beq_self_eq_true,Bool.and_true]
     exact k
    ·rw [beq_eq_false_iff_ne.mpr hlen,Bool.and_false]
     exact RcNeAt.lists_lengths pl1 pl2 (by rw [l1,l2]; simpa using hlen) (by omega)
   unfold D.eq; exact kk
 ·exact W0p w1 w2 (by omega) hb
theorem Y6j {n : Nat} (hu : X.A.units + n + 1 < cLine) : W6 X .NotEq (eqD n true):=by
 intro pins s σ H x y v u Q I rx ry ⟨r1,r2,h1,h2,d,e,e1,e2,hd,q⟩
 exact W2r I n d e x y v u X.A hd (h1.w e1) (h2.w e2) rx ry hu _ _ _ _ ⟨.bl _,H,I,rfl,q⟩
theorem hu59 {A : Around} {k : Nat} (hr : C5 k A) : A.units + 59 + 1 < cLine:=by have:=hr.units; omega
end
section
variable {X : Cx} {H0 : Hp} {a b c e o tg : Expr} {pos apos cpos : Pos} {wa wb wc we : WE} {wr : WA}
end
def Z4a (ds : List D) (P : D -> List D -> Prop) : Prop:=match ds with
 | []=>False
 | d :: r=>P d r
def tupR (d : D) (P : List D -> Prop) : Prop:=match d with
 | .tup ds=>P ds
 | _=>False
section
variable {τ : A8} {Q : R -> Prop} {QB : Bool -> Prop} {wa wb wc we : WE} {wr : WA} {n : Nat} {d e : D} {ds es : List D} {i j : Int} {x y : Str}
@[simp] theorem Z9f {Q : List D -> Prop} : Q8u we τ Q = we τ fun r=>∃ ds,r = .st (.tup ds) /\ Q ds:=rfl
@[simp] theorem Q1c {r : R} : Q2 [r] Q = ∃ ds,Q6a r = some ds /\ Q (.st (.tup ds)):=rfl
@[simp] theorem o_sq2 : Q6a (.nw ds) = some ds:=rfl
@[simp] theorem Q7w : Q6a (.bw ds) = some ds:=rfl
@[simp] theorem Q3l {d e : D} : G9 (.st d) (.st e) QB ↔ (scD d e = true /\ QB (!D.eq d e)):=by
 constructor
 ·rintro ⟨a,b,h1,h2,h3,h4⟩
  cases h1; cases h2
  exact ⟨h3,h4⟩
 ·rintro ⟨h3,h4⟩
  exact ⟨d,e,rfl,rfl,h3,h4⟩
@[simp high] theorem s_gCn2 {g : WG} {gs : WGs} {Q : A8 -> Prop} : E8 g gs ds τ Q ↔ Z4a ds fun d r=>g d τ fun τ'=>gs r τ' Q:=by
 constructor
 ·rintro ⟨a,b,h,q⟩
  cases h; exact q
 ·intro h
  cases ds with
  | nil=>exact h.elim
  | cons d r=>exact ⟨d,r,rfl,h⟩
@[simp high] theorem s_gTp2 {gs : WGs} {Q : A8 -> Prop} : N5 n gs d τ Q ↔ tupR d fun ds=>ds.length = n /\ gs ds τ Q:=by
 constructor
 ·rintro ⟨a,h,q⟩
  cases h; exact q
 ·intro h
  cases d with
  | tup ds=>exact ⟨ds,rfl,h⟩
  | _=>exact h.elim
@[simp] theorem W5p {P : D -> List D -> Prop} : Z4a (d :: ds) P = P d ds:=rfl
@[simp] theorem o_tupR {P : List D -> Prop} : tupR (.tup ds) P = P ds:=rfl
@[simp] theorem o_sc1 : scD (.int i) (.int j) = true:=rfl
@[simp] theorem o_sc2 {k l : Bool} : scD (.bl k) (.bl l) = true:=rfl
@[simp] theorem o_sc3 : scD (.str x) (.str y) = true:=rfl
end
theorem Q2v {we : WE} {f : D -> D} {rest : A8} : ∀ (ds : List D) (o : Option Sl) (Q : List D -> Prop),(∀ d ∈ ds,∀ Q' : R -> Prop,Q' (.st (f d)) -> we (some (.dat d) :: rest) Q') -> Q (ds.map f) -> M4 (C2 0) U1 we ds (o :: rest) Q
 | [],o,Q,h,q=>q
 | d :: ds,o,Q,h,q=>by
  simp only [M4]
  simp
  refine h d List.mem_cons_self _ ⟨_,rfl,?_⟩
  exact Q2v ds _ _ (fun d hd=>h d (List.mem_cons_of_mem _ hd)) q
end TK
end
section
namespace HT
open PySem PySem.Spec PyProof.Rows
open AutoSeq1 (wpAny_loadPart')
section
variable {prog : Program} {w : World} {A : Around} {E : VS9} {s : Shared}
end
end HT
namespace TK
open PySem PySem.Spec PyProof.Rows L2
section
variable {X : Cx}
end
end TK
end
section
namespace HT
open PySem PySem.Spec PyProof.Rows
section
variable {prog : Program} {w : World} {A : Around} {E : VS9} {s : Shared}
end
end HT
namespace TK
open PySem PySem.Spec PyProof.Rows L2
section
variable {X : Cx} {H0 : Hp} {a b c e tg : Expr} {pos p p2 pos2 : Pos} {wa wb we : WE} {wr : WA}
noncomputable def R0 (ds es : List D) : List D:=(ds.zip es).map fun p=>.tup [p.1,p.2]
theorem Z3y {ds es : List D} {i : Nat} {d : D} (h : (R0 ds es)[i]? = some d) : ∃ x y,ds[i]? = some x /\ es[i]? = some y /\ d = .tup [x,y]:=by
 unfold R0 at h
 rw [List.getElem?_map] at h
 cases e : (ds.zip es)[i]? with
 | none=>rw [e] at h; cases h
 | some q =>
  rw [e] at h
  have h : D.tup [q.1,q.2] = d:=Option.some.inj h
  rw [List.getElem?_zip_eq_some] at e
  exact ⟨q.1,q.2,e.1,e.2,h.symm⟩
theorem Z1n (ds es : List D) : (R0 ds es).length = min ds.length es.length:=by simp [R0]
end
end TK
end
section
namespace HT
open PySem PySem.Spec PyProof.Rows L2
section
variable {prog : Program} {w : World} {A : Around} {E : VS9} {s : Shared}
end
end HT
end
section
namespace TK
open PySem PySem.Spec PyProof.Rows L2
theorem Kp.updM {H : Hp} {a : Addr} {old : HO} (h : H a = some old) (nt : ∀ xs,old ≠ .tup xs) (nf : ∀ o u,old ≠ .frz o u) (o : HO) : Kp H (L2.upd H a o) :=
 ⟨fun c ys q=>by rw [A9 (W9 q h (fun z=>nt _ z.symm))]; exact q,fun c ob u q=>by rw [A9 (W9 q h (fun z=>nf _ _ z.symm))]; exact q⟩
theorem B5.mutG {K : Fg9} {H0 H : Hp} {τ : A8} {σ : St} {i : Nat} {s s' : Sl} {a : Addr} {old new : HO} (hR : B5 K H0 τ σ H) (e1 : τ[i]? = some (some s)) (m : s.mut = true) (hv : σ[i]? = some (some (.ref a))) (h0 : H0 a = none)
  (sq : H a = some old) (nt : ∀ xs,old ≠ .tup xs) (nf : ∀ o u,old ≠ .frz o u) (hs' : SlR K H0 (upd H a new) s' (.ref a)) (ne : ∀ φ,old ≠ .ext φ:=by intro φ z; cases z) : B5 K H0 (τ.set i (some s')) σ (upd H a new):=by
 have kp : Kp H (upd H a new):=Kp.updM sq nt nf _
 have hl : i < τ.length:=by
  rcases Nat.lt_or_ge i τ.length with h | h
  ·exact h
  ·rw [List.getElem?_eq_none_iff.mpr h] at e1; cases e1
 have oldE : ∀ (j : Nat) (t : Sl),(τ.set i (some s'))[j]? = some (some t) -> j ≠ i -> τ[j]? = some (some t):=fun j t e hj=>by rw [List.getElem?_set_ne (fun z=>hj z.symm)] at e; exact e
 have mutAt : ∀ (j : Nat) (t : Sl),(τ.set i (some s'))[j]? = some (some t) -> t.mut = true -> ∃ t',τ[j]? = some (some t') /\ t'.mut = true:=fun j t e mm=>by
  by_cases hj : j = i
  ·subst hj; exact ⟨_,e1,m⟩
  ·exact ⟨t,oldE j t e hj,mm⟩
 refine ⟨by rw [List.length_set]; exact hR.len,fun b ob hb=>?_,fun j t e=>?_,fun j k t u v hne e2 e3 m1 m2 q1 q2=>?_⟩
 ·rw [A9 (T2 hb h0)]; exact hR.same b ob hb
 ·by_cases hj : j = i
  ·subst hj
   rw [Z0 hl] at e; cases e
   exact ⟨_,hv,hs'⟩
  ·have e:=oldE j t e hj
   obtain ⟨v,q,r⟩:=hR.here j t e
   refine ⟨v,q,?_⟩
   have ap : t.mut = true -> v ≠ .ref a:=fun mm z=>by
    subst z
    exact hR.apart i j _ t (.ref a) (fun z=>hj z.symm) e1 e m mm hv q
   cases t with
   | dat d=>exact A2.mono kp _ _ r
   | own es=>obtain ⟨b,ys,e,n,q,t⟩:=r; exact ⟨b,ys,e,n,by rw [A9 (fun z=>ap rfl (by rw [e,z]))]; exact q,t.mono kp _ _⟩
   | bor es=>obtain ⟨b,ys,e,q,t⟩:=r; exact ⟨b,ys,e,q,t.mono kp _ _⟩
   | dk es=>obtain ⟨b,ys,e,n,q,t⟩:=r; exact ⟨b,ys,e,n,by rw [A9 (fun z=>ap rfl (by rw [e,z]))]; exact q,t.mono kp _ _⟩
   | dt es=>obtain ⟨b,ys,e,n,q,t⟩:=r; exact ⟨b,ys,e,n,by rw [A9 (fun z=>ap rfl (by rw [e,z]))]; exact q,t.mono kp _ _⟩
   | ob _=>exact r
   | cl _ _=>exact ⟨r.1,r.2.2 _ _ kp r.2.1,r.2.2⟩
   | ll _ _=>exact ⟨r.1,r.2.keep kp fun b φ q=>by rw [A9 (W9 q sq (fun z=>ne _ z.symm))]; exact q⟩
   | ins _ _ _=>obtain ⟨e,n,dx,ys,q,t⟩:=r; exact ⟨e,n,dx,ys,by rw [A9 (fun z=>ap rfl (by rw [e,z]))]; exact q,t.mono kp _ _⟩
 ·obtain ⟨s1,e2',m1'⟩:=mutAt j t e2 m1
  obtain ⟨t1,e3',m2'⟩:=mutAt k u e3 m2
  exact hR.apart j k s1 t1 v hne e2' e3' m1' m2' q1 q2
noncomputable def N9 : D -> Option B0
 | .int i=>some (.inl i)
 | .str x=>some (.inr x)
 | _=>none
noncomputable def P6 : List D -> Option (List B0)
 | []=>some []
 | d :: r=>(N9 d).bind fun k=>(P6 r).map (k :: ·)
theorem Q3e {K : Fg9} {H : Hp} : ∀ {ds : List D} {ks : List B0} {xs : List V},P6 ds = some ks -> AllS K H ds xs -> xs = ks.map kV
 | [],ks,xs,h,al=>by cases h; unfold AllS at al; exact al
 | d :: r,ks,xs,h,al=>by
  unfold P6 at h
  unfold AllS at al
  obtain ⟨v,t,rfl,iv,al⟩:=al
  cases d with
  | int i =>
   cases e : P6 r with
   | none=>rw [e] at h; cases h
   | some k2 =>
    rw [e] at h
    have h : some (Sum.inl i :: k2) = some ks:=h
    cases h
    rw [Q3e e al]
    unfold A2 at iv
    rw [iv]; rfl
  | str i =>
   cases e : P6 r with
   | none=>rw [e] at h; cases h
   | some k2 =>
    rw [e] at h
    have h : some (Sum.inr i :: k2) = some ks:=h
    cases h
    rw [Q3e e al]
    unfold A2 at iv
    rw [iv]; rfl
  | non=>cases h
  | bl _=>cases h
  | tup _=>cases h
  | lst _=>cases h
section
variable {κ : Type} [DecidableEq κ]
noncomputable def D7 (kvs : List (κ × D)) (k : κ) : Option D:=(kvs.find? fun kv=>decide (kv.1 = k)).map (·.2)
noncomputable def L4 (kvs : List (κ × D)) (k : κ) (v : D) : List (κ × D):=if (kvs.any fun kv=>decide (kv.1 = k)) = true then kvs.map (fun kv=>if kv.1 = k then (kv.1,v) else kv) else kvs ++ [(k,v)]
theorem B8.val {K : Fg9} {H : Hp} {k : κ} : ∀ {kvs : List (κ × D)} {ps : List (κ × V)},B8 K H kvs ps -> (D7 kvs k = none /\ P3 ps k = none) \/ ∃ d v,D7 kvs k = some d /\ P3 ps k = some v /\ A2 K H d v
 | [],ps,h=>by unfold B8 at h; subst h; exact .inl ⟨rfl,rfl⟩
 | p :: kvs,ps,h=>by
  unfold B8 at h
  obtain ⟨v,r,rfl,iv,h⟩:=h
  by_cases e : p.1 = k
  ·exact .inr ⟨p.2,v,by simp [D7,List.find?_cons,e],Q8g e,iv⟩
  ·rw [Q7a (p:=(p.1,v)) e]
   have : D7 (p :: kvs) k = D7 kvs k:=by simp [D7,List.find?_cons,e]
   rw [this]
   exact B8.val h
theorem B8.any {K : Fg9} {H : Hp} {k : κ} : ∀ {kvs : List (κ × D)} {ps : List (κ × V)},B8 K H kvs ps -> (kvs.any fun kv=>decide (kv.1 = k)) = (ps.any fun kv=>decide (kv.1 = k))
 | [],ps,h=>by unfold B8 at h; subst h; rfl
 | p :: kvs,ps,h=>by
  unfold B8 at h
  obtain ⟨v,r,rfl,iv,h⟩:=h
  rw [List.any_cons,List.any_cons,B8.any h]
theorem B8.length {K : Fg9} {H : Hp} : ∀ {kvs : List (κ × D)} {ps : List (κ × V)},B8 K H kvs ps -> kvs.length = ps.length
 | [],ps,h=>by unfold B8 at h; subst h; rfl
 | p :: kvs,ps,h=>by
  unfold B8 at h
  obtain ⟨v,r,rfl,iv,h⟩:=h
  rw [List.length_cons,List.length_cons,B8.length h]
theorem B8.app {K : Fg9} {H : Hp} {k : κ} {d : D} {v : V} (q : A2 K H d v) : ∀ {kvs : List (κ × D)} {ps : List (κ × V)},B8 K H kvs ps -> B8 K H (kvs ++ [(k,d)]) (ps ++ [(k,v)])
 | [],ps,h=>by unfold B8 at h; subst h; exact ⟨v,[],rfl,q,rfl⟩
 | p :: kvs,ps,h=>by
  unfold B8 at h
  obtain ⟨v',r,rfl,iv,h⟩:=h
  exact ⟨v',_,rfl,iv,B8.app q h⟩
theorem B8.repl {K : Fg9} {H : Hp} {k : κ} {d : D} {v : V} (q : A2 K H d v) : ∀ {kvs : List (κ × D)} {ps : List (κ × V)},B8 K H kvs ps -> B8 K H (kvs.map fun kv=>if kv.1 = k then (kv.1,d) else kv) (ps.map fun kv=>if kv.1 = k then (kv.1,v) else kv)
 | [],ps,h=>by unfold B8 at h; subst h; rfl
 | p :: kvs,ps,h=>by
  unfold B8 at h
  obtain ⟨v',r,rfl,iv,h⟩:=h
  have ih:=B8.repl (k:=k) q h
  by_cases e : p.1 = k
  ·simp only [List.map_cons,e,if_true]
   exact ⟨v,_,rfl,q,ih⟩
  ·simp only [List.map_cons,e,if_false]
   exact ⟨v',_,rfl,iv,ih⟩
theorem B8.put {K : Fg9} {H : Hp} {k : κ} {d : D} {v : V} (q : A2 K H d v) {kvs : List (κ × D)} {ps : List (κ × V)} (h : B8 K H kvs ps) : B8 K H (L4 kvs k d) (M5 ps k v):=by
 unfold L4 M5
 rw [B8.any h]
 split
 ·exact B8.repl (k:=k) q h
 ·exact B8.app q h
end
section
variable {X : Cx} {H0 : Hp} {a b c e o tg : Expr} {pos pos' p2 apos cpos : Pos} {wa wb wi we : WE} {x : Str}
theorem B5.dtAt {K : Fg9} {H : Hp} {τ : A8} {σ : St} {i : Nat} {kvs : List (List B0 × D)} (hR : B5 K H0 τ σ H) (e1 : τ[i]? = some (some (.dt kvs))) : ∃ a ps,σ[i]? = some (some (.ref a)) /\ H0 a = none /\ H a = some (.dT ps) /\ B8 K H kvs ps:=by
 obtain ⟨v,hv,a,xs,rfl,h0,sq,al⟩:=hR.here i _ e1
 exact ⟨a,xs,hv,h0,sq,al⟩
def Q1t (i : Nat) (we : WE) : WE:=fun τ Q=>∃ kvs,τ[i]? = some (some (.dt kvs)) /\ we τ fun r=>∃ ds ks d,r = .st (.tup ds) /\ P6 ds = some ks /\ D7 kvs ks = some d /\ Q (.st d)
theorem DE.dgetT {i : Nat} (hu : X.A.units + 1 < cLine) (ho : PE X o (O4 i)) (he : DE X H0 e we) (hs : Q5y e) : DE X H0 (.Subscript o e pos) (Q1t i we) where
 mono:=fun τ P Q f ⟨kvs,e1,h⟩=>⟨kvs,e1,he.mono τ _ _ (fun r ⟨ds,ks,d,a1,a2,a3,a4⟩=>⟨ds,ks,d,a1,a2,a3,f _ a4⟩) h⟩
 pe:=O0 (Z1v hu ho he.pe hs) fun σ H Q ⟨τ,hR,kvs,e1,h⟩=>by
  obtain ⟨a,ps,hv,h0,sq,kv⟩:=hR.dtAt e1
  refine ⟨_,hv,τ,hR,he.mono τ _ _ (fun r ⟨ds,ks,d,a1,a2,a3,a4⟩ v H1 s1 ir=>?_) h⟩
  subst a1
  have ir : A2 X.K H1 (.tup ds) v:=ir
  unfold A2 at ir
  obtain ⟨b,xs,rfl,sb,al⟩:=ir
  rw [Q3e a2 al] at sb
  rcases B8.val (k:=ks) (kv.mono (Kp.of s1) _ _) with ⟨n1,_⟩ | ⟨d',v',n1,n2,n3⟩
  ·rw [a3] at n1; cases n1
  ·rw [a3] at n1; cases n1
   refine ⟨a,v',rfl,?_,a4 _ _ s1 n3⟩
   have g:=T7.t (s1 _ _ sq) sb
   rw [n2] at g
   exact g
def Q3t (i : Nat) (we : WE) : WT:=fun τ Q=>∃ kvs,τ[i]? = some (some (.dt kvs)) /\ we τ fun r=>∃ ds ks,r = .st (.tup ds) /\ P6 ds = some ks /\ Q (!(D7 kvs ks).isSome)
theorem DT.dnotin {i : Nat} (hu : X.A.units + 1 < cLine) (he : DE X H0 e we) (ho : PE X o (O4 i)) (h1 : behindInMarks .NotIn o = false:=by rfl) : DT X H0 (.Compare e [.NotIn] [o] pos) (Q3t i we) where
 mono:=fun τ P Q f ⟨kvs,e1,h⟩=>⟨kvs,e1,he.mono τ _ _ (fun r ⟨ds,ks,a1,a2,a4⟩=>⟨ds,ks,a1,a2,f _ a4⟩) h⟩
 pt:=ptW (Z7x (Z8w hu he.pe ho) h1) fun σ H Q ⟨τ,hR,kvs,e1,h⟩=>by
  refine ⟨τ,hR,he.mono τ _ _ (fun r ⟨ds,ks,a1,a2,a4⟩ v H1 s1 ir=>?_) h⟩
  obtain ⟨a,ps,hv,h0,sq,kv⟩:=(hR.mono s1).dtAt e1
  subst a1
  have ir : A2 X.K H1 (.tup ds) v:=ir
  unfold A2 at ir
  obtain ⟨b,xs,rfl,sb,al⟩:=ir
  rw [Q3e a2 al] at sb
  refine ⟨_,hv,a,_,rfl,T7.t sq sb,?_⟩
  have e : (P3 ps ks).isSome = (D7 kvs ks).isSome:=by
   rcases B8.val (k:=ks) kv with ⟨n1,n2⟩ | ⟨d',v',n1,n2,n3⟩ <;> rw [n1,n2] <;> rfl
  rw [e]
  exact ⟨_,rfl,a4 _ s1⟩
def Q3n (i : Nat) (we wv : WE) : WS:=fun E τ=>wv τ fun r=>∃ d,r = .st d /\ ∃ kvs,τ[i]? = some (some (.dt kvs)) /\ we τ fun rk=>∃ ds ks,rk = .st (.tup ds) /\ P6 ds = some ks /\ kvs.length < sizeLine /\ E.nx (τ.set i (some (.dt (L4 kvs ks d))))
theorem DS.dput {i : Nat} {v : Expr} {wv : WE} (hu : X.A.units + 1 < cLine) (ho : PE X o (O4 i)) (he : DE X H0 e we) (hv : DE X H0 v wv) (hs : swapsWith v (some (.Subscript o e pos')) pos.line X.env = pure false:=by rfl) :
  DS X H0 (.Assign [.Subscript o e pos'] v pos) (Q3n i we wv) where
 mono:=fun τ E F le h=>hv.mono τ _ _ (fun r ⟨d,e1,kvs,e2,h⟩=>⟨d,e1,kvs,e2,he.mono τ _ _ (fun r ⟨ds,ks,a1,a2,a3,a4⟩=>⟨ds,ks,a1,a2,a3,le.nx _ a4⟩) h⟩) h
 ps:=P4 (Z4u hu ho he.pe hv.pe hs) fun D σ H ⟨τ,hR,h⟩=>by
  refine ⟨τ,hR,hv.mono τ _ _ (fun r ⟨d,e1,kvs,e2,h⟩ u H1 s1 ir=>?_) h⟩
  subst e1
  have hR1:=hR.mono s1
  obtain ⟨a,ps,hva,h0,sq,kv⟩:=hR1.dtAt e2
  refine ⟨_,hva,τ,hR1,he.mono τ _ _ (fun rk ⟨ds,ks,a1,a2,a3,a4⟩ y H2 s2 ik=>?_) h⟩
  subst a1
  have ik : A2 X.K H2 (.tup ds) y:=ik
  unfold A2 at ik
  obtain ⟨b,xs,rfl,sb,al⟩:=ik
  rw [Q3e a2 al] at sb
  have sq2:=s2 _ _ sq
  have kv2:=kv.mono (Kp.of s2) _ _
  refine ⟨a,_,rfl,Q1f.t sq2 sb (by rw [<- B8.length kv2]; exact a3),?_⟩
  have kp : Kp H2 (upd H2 a (.dT (M5 ps ks u))):=Kp.updM sq2 (by intro xs z; cases z) (by intro o u z; cases z) _
  have iv : A2 X.K H2 d u:=A2.mono (Kp.of s2) _ _ ir
  refine a4 σ _ ((Kp.of (s1.trans s2)).trans kp) ((hR1.mono s2).mutG e2 rfl hva h0 sq2 (by intro xs z; cases z) (by intro o u z; cases z) ⟨a,_,rfl,h0,upd_same,?_⟩)
  exact B8.mono kp _ _ (B8.put iv kv2)
end
section
variable {τ : A8} {E : E6} {Q : R -> Prop} {QB : Bool -> Prop} {wa wb wc we : WE} {wr : WA} {n : Nat} {d e : D} {ds es : List D} {i j : Int} {x y : Str}
@[simp] theorem Q9d : Q1t n we τ Q = ∃ kvs,τ[n]? = some (some (.dt kvs)) /\ we τ fun r=>∃ ds ks d,r = .st (.tup ds) /\ P6 ds = some ks /\ D7 kvs ks = some d /\ Q (.st d):=rfl
@[simp] theorem Z9l : Q3t n we τ QB = ∃ kvs,τ[n]? = some (some (.dt kvs)) /\ we τ fun r=>∃ ds ks,r = .st (.tup ds) /\ P6 ds = some ks /\ QB (!(D7 kvs ks).isSome):=rfl
@[simp] theorem Z7s : Q3n n wa wb E τ = wb τ fun r=>∃ d,r = .st d /\ ∃ kvs,τ[n]? = some (some (.dt kvs)) /\ wa τ fun rk=>∃ ds ks,rk = .st (.tup ds) /\ P6 ds = some ks /\ kvs.length < sizeLine /\ E.nx (τ.set n (some (.dt (L4 kvs ks d)))):=rfl
end
theorem Z8p {we : WE} {f : D -> D -> D} {rest : A8} : ∀ (ps : List (D × D)) (o1 o2 : Option Sl) (Q : List D -> Prop),(∀ p ∈ ps,∀ Q' : R -> Prop,Q' (.st (f p.1 p.2)) -> we (some (.dat p.1) :: some (.dat p.2) :: rest) Q') ->
  Q (ps.map fun p=>f p.1 p.2) -> M4 (N5 2 (E8 (C2 0) (E8 (C2 1) O1))) U1 we (ps.map fun p=>.tup [p.1,p.2]) (o1 :: o2 :: rest) Q
 | [],o1,o2,Q,h,q=>q
 | p :: ps,o1,o2,Q,h,q=>by
  simp only [List.map_cons,M4]
  simp
  refine h p List.mem_cons_self _ ⟨_,rfl,?_⟩
  exact Z8p ps _ _ _ (fun p hp=>h p (List.mem_cons_of_mem _ hp)) q
theorem W1w {K : Fg9} {H0 H : Hp} {l : Addr} {xs : List V} {ds : List D} (hq : ∀ H',Kp H H' -> A6 H0 H' -> D5 K H' l xs) (al : AllS K H ds xs) : Yl K H0 (Iel K l) (G6 ds) H where
 go:=fun H' k s i hi=>by
  rw [Q1d] at hi
  exact ⟨xs,xs[i]'(by rw [<- al.length]; exact hi),hq H' k s,List.getElem?_eq_getElem _⟩
 yld:=fun H' k s i v H'' d hd ⟨T,x,hx,hT,hv,hH⟩=>by
  subst hH hv
  refine ⟨F7 hT _,?_⟩
  obtain ⟨y,hy,rfl⟩:=Q7x hd
  obtain ⟨v,hv,q⟩:=al.get hy
  rw [hx xs (hq H' k s)] at hv; cases hv
  exact A2.s_tup upd_same (AllS.cons A2.s_int (AllS.cons (q.mono (k.trans (Kp.of (F7 hT _))) _ _) AllS.nil))
 stop:=fun H' k s=>⟨xs,hq H' k s,by rw [Q1d]; exact al.length.symm⟩
section
variable {X : Cx} {H0 : Hp} {a : Expr} {p pos : Pos} {wr : WA}
def Z3b (wr : WA) : WI:=fun τ Q=>wr τ fun rs=>∃ ds,rs = [.st (.lst ds)] /\ Q (G6 ds) τ
theorem DI.enumF {elts : List Expr} {kk : Nat} {pt : Pos} (hg : Gl X "enumerate") (hm : X.mg "enumerate" = none) (hv : bootBuiltins "enumerate" = some (.type "enumerate")) (ha : DA X H0 [a] wr) (he : starEach [a] X.env = (false,eval a X.env) :: starEach [] X.env:=by rfl) (hpl : (backTo pos (starEach [] X.env)).any (·.1) = false:=by rfl) :
  DI X H0 (.Tuple elts kk pt) (.Call (.Name "enumerate" p) [a] [] pos) (Z3b wr) where
 mono:=fun τ P Q f h=>ha.mono τ _ _ (fun r ⟨ds,e1,q⟩=>⟨ds,e1,f _ _ q⟩) h
 pi:=by
  intro pins s σ H R I ⟨τ,hR,h⟩
  refine wpAny_Call_Name_kw (Q0c I hg hm hv ?_ (by decide) (by decide))
  refine PyProof.Rows.callWith_type1 (B2 (ha.pa pos pins s σ H (fun vs H1=>A6 H H1 /\ ∃ l xs ds,vs = [.ref l] /\ FzL X.K H1 l xs /\ AllS X.K H1 ds xs /\ ∀ J H',Kp H H' -> B5 X.K H0 τ σ H' -> Yl X.K H0 J (G6 ds) H' -> R J H') I
   ⟨τ,hR,ha.mono τ _ _ (fun rs ⟨ds,e1,q⟩ vs H1 s1 irs=>⟨s1,by
    subst e1
    obtain ⟨v,rfl,ir⟩:=W7 irs
    have ir : A2 X.K H1 (.lst ds) v:=ir
    unfold A2 at ir
    obtain ⟨l,xs,rfl,sq,al⟩:=ir
    exact ⟨l,xs,ds,rfl,sq,al,q⟩⟩) h⟩) fun us s1 ⟨vs,H1,I1,rv,sm,l,xs,ds,e1,sq,al,q⟩=>?_) he hpl
  subst e1
  have big : ∀ b ∈ [s1.heap.objs.size + 1,s1.heap.objs.size],K3 X pins H1 b:=fun b hb=>by
   have hb : s1.heap.objs.size <= b:=by
    rcases List.mem_cons.mp hb with rfl | hb
    ·exact Nat.le_succ _
    ·have e : b = s1.heap.objs.size:=by simpa using hb
     rw [e]; exact Nat.le_refl _
   exact I1.fpOk hb (I1.hok.fresh hb)
  obtain ⟨u,rfl,ru⟩:=V2 rv
  cases (show u = Value.ref l from ru)
  obtain ⟨its,rv',pl,hz'⟩:=I1.list sq.sq
  obtain ⟨o,n,ho,_⟩:=id pl
  have hl : l < s1.heap.objs.size:=Heap.lt_size ho
  refine call_enumerate_list pl.isList fun h' he hi hz k=>?_
  refine wpAny_pyIter_enum he ⟨s1.heap.objs.size + 1,[s1.heap.objs.size + 1,s1.heap.objs.size],_,_,H1,rfl,I1.kept (t':=s1.toks) k,Y2g (l:=l) (Nat.succ_ne_self _) (Nat.ne_of_lt (Nat.lt_succ_of_lt hl)) (Nat.ne_of_lt hl),⟨⟨_,he⟩,hi⟩,big,q _ _ (Kp.of sm) (hR.mono sm) (W1w (xs:=xs) (fun H' k _=>(k.fzL sq).sq) al)⟩
end
section
variable {τ : A8} {wr : WA} {QB : Bool -> Prop}
@[simp] theorem Y8g {Q : List D -> A8 -> Prop} : Z3b wr τ Q = wr τ fun rs=>∃ ds,rs = [.st (.lst ds)] /\ Q (G6 ds) τ:=rfl
@[simp] theorem W4g {n : Bool} {r r' : R} : M9 n r r' QB = ∃ d,r.d = some d /\ r' = .st .non /\ QB (match d with | .non=>!n | _=>n):=rfl
end
end TK
end
section
namespace L2
open PySem PySem.Spec PyProof.Rows
variable {X : Cx} {CX : CXT} {k i : Nat} {f : Addr} {fd : FuncData} {ps : List Str} {sp : Sp} {ds : List Value} {dvs : List V} {E : XK} {x : Str} {e : Expr} {es : List Expr} {t : TA} {p pos : Pos}
end L2
namespace TK
open PySem PySem.Spec PyProof.Rows L2
section
variable {X : Cx} {H0 : Hp} {e : Expr} {es : List Expr} {wr : WA} {k i : Nat} {f : Addr} {fd : FuncData} {ps : List Str} {sp : D8} {x : Str} {p pos : Pos}
end
end TK
end
section
namespace L2
open PySem PySem.Spec PyProof.Rows
theorem Y7n {pos : Pos} {a b : Int} {c cv : Value} (l : List Value) (t : TriplesOk l) (h : codeAmong pos (l ++ [rawInt a,rawInt b,c]) = some cv) : codeAmong pos l = some cv \/ cv = c:=by
 fun_induction TriplesOk l with
 | case1 =>
  right
  have h : (if (a == (pos.line : Int) && b == (pos.col : Int)) = true then some c else codeAmong pos []) = some cv:=h
  split at h
  ·exact (Option.some.inj h).symm
  ·cases h
 | case2 i ti j tj x rest ih =>
  have h : (if (i == (pos.line : Int) && j == (pos.col : Int)) = true then some x else codeAmong pos (rest ++ [rawInt a,rawInt b,c])) = some cv:=h
  show (if (i == (pos.line : Int) && j == (pos.col : Int)) = true then some x else codeAmong pos rest) = some cv \/ _
  split at h
  ·rename_i hc; rw [if_pos hc]; exact .inl h
  ·rename_i hc; rw [if_neg hc]; exact ih t h
 | case3=>exact t.elim
noncomputable def U0 : HO:=.ext fun _=>True
theorem Q6b {P : Program} {w : World} {H : Hp} {h : Heap} {a : Addr} {o : Obj} (e : h.get? a = some o) : F6 P w H h a (.frz o U0):=⟨e,trivial,⟨o,e⟩,fun _ _ _ _=>trivial⟩
def X8 (mg : Str -> Option Value) (base : Heap) : Prop:=∃ bm ob,mg "__builtins__" = some (.ref bm) /\ bm ≠ builtinsNs /\ base.get? bm = some ob /\ ob.cls = .type "module" /\ ob.dict = some builtinsNs /\ ob.data = .plain
noncomputable abbrev V3 (X : Cx) (params : Arguments) (body : Expr) (sc : Scope) (clos : List (Str × Addr)) (c' : Addr) (ctv : Value) : Obj :=
 PySem.W.kla_obj "<lambda>" (X.env.qual ++ "<lambda>") params body sc clos ((X.mg "__name__").getD .none) c' ctv
def tLam (P : Addr) (ob : Addr -> Value -> Obj) : TE:=fun _ H Q=>∀ f c' oc ctv H',A6 H H' -> Q4l oc -> H f = none -> H' c' = some (.frz oc (.own P)) -> H' f = some (.frz (ob c' ctv) U0) -> (∀ b,H' b ≠ none -> H b = none -> b = f \/ b = c') -> Q (.ref f) H'
section
variable {X : Cx} {params : Arguments} {body : Expr} {sc : Scope} {pos : Pos} {c P : Addr} {clos : List (Str × Addr)}
theorem Z1o (hB : X8 X.mg X.base) (hcode : X.env.code = .ref c) (hC : PySem.W.codeHdIn X.K c P = true) (hcl : closureFor sc X.env = pure clos) (hd : defaultsOf params X.env = ([],[]):=by rfl) :
  PE X (.Lambda params body sc pos) (fun σ H Q=>H P = some .tab /\ tLam P (fun c' ctv=>V3 X params body sc clos c' ctv) σ H Q):=by
 intro pins s σ H Q I ⟨hP,h⟩
 refine PySem.W.kla_eval hd ?_
 have hgs : s.heap.Ns mainGlobals X.mg:=I.mod.glob.keeps I.bk
 have C:=PySem.W.codeHd_of_K I.kIn hC
 obtain ⟨ps,eP,ht,en⟩:=(show F6 X.prog X.w H s.heap P .tab from I.hok P _ hP)
 obtain ⟨bm,ob,b1,b2,b3,b4,b5,b6⟩:=hB
 have bH : ∀ b o,X.base.get? b = some o -> b ≠ P:=fun b o e z=>by
  have:=(I.bs b o e).2
  rw [z,hP] at this; cases this
 have hgP : mainGlobals ≠ P:=by
  obtain ⟨o,es,ep,e,hd,_⟩:=I.mod.glob
  exact bH _ _ e
 have notGlob : bm ≠ mainGlobals:=fun same=>by
  obtain ⟨go,_,_,ge,gd,_⟩:=I.mod.glob
  rw [same,ge] at b3
  cases b3
  rw [gd] at b6
  cases b6
 have hbs : s.heap.BuiltinsAt X.mg P:=⟨bm,ob,b1,b2,notGlob,bH _ _ b3,I.bk _ _ b3,b4,b5,b6⟩
 cases hf : codeAmong pos ps.toList with
 | some cv =>
  obtain ⟨c',oc,rfl,hc',hoc⟩:=en pos cv hf
  refine PySem.W.kla_makeFunctionHit (mg:=X.mg) hcl I.ok.glob hgs hcode C eP ht hf hbs fun ctv h' tk hk hsz=>?_
  have hfr : H h'.objs.size = none:=I.hok.fresh hsz
  have ne : ∀ b u,H b = some u -> b ≠ h'.objs.size:=fun b u e z=>by rw [z,hfr] at e; cases e
  have kp : ∀ b o,s.heap.get? b = some o -> (h'.push (V3 X params body sc clos c' ctv)).get? b = some o:=fun b o e=>Heap.get?_push_of_some _ (hk b o e)
  have lt : ∀ b o,s.heap.get? b = some o -> b ≠ h'.objs.size:=fun b o e=>Nat.ne_of_lt (Nat.lt_of_lt_of_le (Heap.lt_size e) hsz)
  refine ⟨.ref h'.objs.size,upd H h'.objs.size (.frz (V3 X params body sc clos c' ctv) U0),I.un (t':=tk) ⟨fun b o e _ _ _=>kp b o e,fun b o e _ _ _=>⟨o.slots,kp b o e⟩,fun b o e n _=>by rw [A9 (lt b o e)]; exact n,fun b o e _=>⟨o,kp b o e⟩,
   fun b xs e=>by rw [A9 (ne b _ e)]; exact e,fun b o u e=>by rw [A9 (ne b _ e)]; exact e,fun b ps e=>⟨#[],by rw [A9 (ne b _ e),e]; simp⟩⟩ ?_,rfl,?_⟩
  ·refine F1.laid (h:=s.heap) I.hok kp hsz (Q6b (Heap.get?_push_size _ rfl))
  ·exact h _ c' oc ctv _ (fun b u e=>by rw [A9 (ne b _ e)]; exact e) hoc hfr (by rw [A9 (ne _ _ hc')]; exact hc') upd_same fun b n1 n2=>by
    by_cases hb : b = h'.objs.size
    ·exact .inl hb
    ·rw [A9 hb] at n1; exact absurd n2 n1
 | none =>
  refine PySem.W.kla_makeFunction (mg:=X.mg) hcl I.ok.glob hgs hcode C eP ht hf hgP hbs fun c' ctv h' tk hx hge hlt hrec htb=>?_
  obtain ⟨c₂,oc,vs,tq,e2,hoc,hdv,hv⟩:=hrec
  cases e2
  have hcn : H c' = none:=I.hok.fresh hge
  have hfn : H h'.objs.size = none:=I.hok.fresh (Nat.le_trans hge (Nat.le_of_lt hlt))
  have hcf : c' ≠ h'.objs.size:=Nat.ne_of_lt hlt
  have hPc : P ≠ c':=fun z=>by rw [<- z,hP] at hcn; cases hcn
  have hPf : P ≠ h'.objs.size:=fun z=>by rw [<- z,hP] at hfn; cases hfn
  have ltc : ∀ b o,s.heap.get? b = some o -> b ≠ c':=fun b o e=>Nat.ne_of_lt (Nat.lt_of_lt_of_le (Heap.lt_size e) hge)
  have ltf : ∀ b o,s.heap.get? b = some o -> b ≠ h'.objs.size:=fun b o e=>Nat.ne_of_lt (Nat.lt_of_lt_of_le (Heap.lt_size e) (Nat.le_trans hge (Nat.le_of_lt hlt)))
  have nec : ∀ b u,H b = some u -> b ≠ c':=fun b u e z=>by rw [z,hcn] at e; cases e
  have nef : ∀ b u,H b = some u -> b ≠ h'.objs.size:=fun b u e z=>by rw [z,hfn] at e; cases e
  have hH : ∀ b,b ≠ c' -> b ≠ h'.objs.size -> upd (upd H c' (.frz oc (.own P))) h'.objs.size (.frz (V3 X params body sc clos c' ctv) U0) b = H b:=fun b n1 n2=>by rw [A9 n2,A9 n1]
  have hHc : upd (upd H c' (.frz oc (.own P))) h'.objs.size (.frz (V3 X params body sc clos c' ctv) U0) c' = some (.frz oc (.own P)):=by rw [A9 hcf,upd_same]
  have kp : ∀ b o,b ≠ P -> s.heap.get? b = some o -> (h'.push (V3 X params body sc clos c' ctv)).get? b = some o:=fun b o n e=>Heap.get?_push_of_some _ (hx b o n e)
  have nP : ∀ b,H b = none -> b ≠ P:=fun b n z=>by rw [z,hP] at n; cases n
  have sm : A6 H (upd (upd H c' (.frz oc (.own P))) h'.objs.size (.frz (V3 X params body sc clos c' ctv) U0)):=fun b u e=>by rw [hH b (nec b u e) (nef b u e)]; exact e
  refine ⟨.ref h'.objs.size,upd (upd H c' (.frz oc (.own P))) h'.objs.size (.frz (V3 X params body sc clos c' ctv) U0),I.un (t':=tk) ⟨fun b o e n _ _=>kp b o (nP b n) e,fun b o e n _ _=>⟨o.slots,kp b o (nP b n) e⟩,fun b o e n _=>by rw [hH b (ltc b o e) (ltf b o e)]; exact n,fun b o e _=>?_,
   fun b xs e=>sm _ _ e,fun b o u e=>sm _ _ e,fun b ps e=>⟨#[],by rw [sm _ _ e]; simp⟩⟩ ?_,rfl,?_⟩
  ·by_cases hb : b = P
   ·exact ⟨_,Heap.get?_push_of_some _ (hb ▸ htb)⟩
   ·exact ⟨o,kp b o hb e⟩
  ·intro b u e
   by_cases hbf : b = h'.objs.size
   ·subst hbf; rw [upd_same] at e; cases e
    exact Q6b (Heap.get?_push_size _ rfl)
   by_cases hbc : b = c'
   ·subst hbc; rw [hHc] at e; cases e
    exact ⟨Heap.get?_push_of_some _ hoc,⟨_,Heap.get?_push_of_some _ hoc⟩⟩
   rw [hH b hbc hbf] at e
   by_cases hbP : b = P
   ·subst hbP; rw [hP] at e; cases e
    refine ⟨_,Heap.get?_push_of_some _ htb,?_,fun pos' cv q=>?_⟩
    ·have:=TriplesOk_snoc (pos.line : Int) (pos.col : Int) (.ref c') ps.toList ht
     simpa using this
    ·have q : codeAmong pos' (ps.toList ++ [rawInt (pos.line : Int),rawInt (pos.col : Int),.ref c']) = some cv:=by simpa using q
     rcases Y7n _ ht q with q | q
     ·obtain ⟨c2,o2,e1,e2,e3⟩:=en pos' cv q
      exact ⟨c2,o2,e1,sm _ _ e2,e3⟩
     ·exact ⟨c',oc,q,hHc,⟨vs,_,tq,hdv,hv⟩⟩
   ·refine (I.hok b u e).stay (fun d v hc q=>kp d v ?_ q) (fun d v _ q=>sm _ _ q) fun d xs q=>sm _ _ q
    rcases hc with z | z
    ·rw [z]; exact hbP
    ·intro z2
     rw [z2,hP] at z; cases z
  ·exact h _ c' oc ctv _ sm ⟨vs,_,tq,hdv,hv⟩ hfn hHc upd_same fun b n1 n2=>by
    by_cases hb : b = h'.objs.size
    ·exact .inl hb
    by_cases hb2 : b = c'
    ·exact .inr hb2
    ·rw [hH b hb2 hb] at n1; exact absurd n2 n1
end
end L2
end
section
namespace L2
open PySem PySem.Spec PyProof.Rows
structure L3 where
 name : Str
 addr : Addr
 obj : Obj
 val : V
 slot : TK.Sl
noncomputable def J6 (S : List Addr) (H : Hp) : Hp:=fun b=>if b ∈ S then none else H b
theorem Q4u {S : List Addr} {H : Hp} {b : Addr} (h : b ∈ S) : J6 S H b = none:=if_pos h
theorem X0 {S : List Addr} {H : Hp} {b : Addr} (h : b ∉ S) : J6 S H b = H b:=if_neg h
theorem Y3b {S : List Addr} {H : Hp} {b : Addr} {u : HO} (h : J6 S H b = some u) : b ∉ S /\ H b = some u:=by
 by_cases hb : b ∈ S
 ·rw [Q4u hb] at h; cases h
 ·exact ⟨hb,by rw [X0 hb] at h; exact h⟩
noncomputable def showS (S : List Addr) (H H' : Hp) : Hp:=fun b=>if b ∈ S then H b else H' b
theorem Z7m {S : List Addr} {H H' : Hp} {b : Addr} (h : b ∈ S) : showS S H H' b = H b:=if_pos h
theorem Q6p {S : List Addr} {H H' : Hp} {b : Addr} (h : b ∉ S) : showS S H H' b = H' b:=if_neg h
def Q6 (S : List Addr) (H : Hp) : Prop:=∀ c ∈ S,∃ o u,H c = some (.frz o U0) /\ o.data = .cell u
section
variable {P : Program} {w : World} {S : List Addr} {H H' : Hp} {h h' : Heap}
theorem Q6.out (hS : Q6 S H) {b : Addr} {u : HO} (e : H b = some u) (n : ∀ o,u ≠ .frz o U0) : b ∉ S:=fun hb=>by
 obtain ⟨o,_,q,_⟩:=hS b hb
 rw [e] at q; exact n o (Option.some.inj q)
theorem Q6.tup (hS : Q6 S H) {b : Addr} {xs : List V} (e : H b = some (.tup xs)) : J6 S H b = some (.tup xs):=by
 rw [X0 (hS.out e (by intro o z; cases z))]; exact e
theorem Q6.own (hS : Q6 S H) {a b : Addr} {u : HO} (ow : Q7v a u) (e : H b = some u) : J6 S H b = some u:=by
 rw [X0 (hS.out e (by
  intro o z
  rcases ow with rfl | ⟨o',rfl⟩
  ·cases z
  ·injection z with _ z; cases z))]
 exact e
theorem F1.hid (x : F1 P w H h) (hS : Q6 S H) (k : ∀ b u,h.get? b = some u -> h'.get? b = some u) : F1 P w (J6 S H) h':=fun b u e=>by
 obtain ⟨hb,e⟩:=Y3b e
 exact (x b u e).stay (fun c v _ q=>k c v q) (fun c v ow q=>hS.own ow q) fun c xs q=>hS.tup q
end
end L2
namespace TK
open PySem PySem.Spec PyProof.Rows L2
def Q0n (Φ : Hp -> Prop) : Prop:=∀ (S : List Addr) (H : Hp),Q6 S H -> Φ H -> Φ (J6 S H)
mutual
theorem A2.hid {K : Fg9} {S : List Addr} {H : Hp} (hS : Q6 S H) : ∀ (d : D) (v : V),A2 K H d v -> A2 K (J6 S H) d v
 | .non,v,h=>by unfold A2 at h ⊢; exact h
 | .bl _,v,h=>by unfold A2 at h ⊢; exact h
 | .int _,v,h=>by unfold A2 at h ⊢; exact h
 | .str _,v,h=>by unfold A2 at h ⊢; exact h
 | .tup ds,v,h=>by
  unfold A2 at h ⊢
  obtain ⟨a,xs,e,q,t⟩:=h
  exact ⟨a,xs,e,hS.tup q,AllS.hid hS ds xs t⟩
 | .lst ds,v,h=>by
  unfold A2 at h ⊢
  obtain ⟨a,xs,e,q,t⟩:=h
  refine ⟨a,xs,e,?_,AllS.hid hS ds xs t⟩
  rcases q with ⟨o,q⟩ | q
  ·exact .inl ⟨o,by rw [X0 (hS.out q (by intro o z; injection z with _ z; cases z))]; exact q⟩
  ·exact .inr q
theorem AllS.hid {K : Fg9} {S : List Addr} {H : Hp} (hS : Q6 S H) : ∀ (ds : List D) (xs : List V),AllS K H ds xs -> AllS K (J6 S H) ds xs
 | [],xs,h=>by unfold AllS at h ⊢; exact h
 | d :: ds,xs,h=>by
  unfold AllS at h ⊢
  obtain ⟨v,r,e,q,t⟩:=h
  exact ⟨v,r,e,A2.hid hS d v q,AllS.hid hS ds r t⟩
end
noncomputable def Q1v (K : Fg9) (H : Hp) : Sl -> V -> Prop
 | .dat d,v=>A2 K H d v
 | .cl a Φ,v=>v = .ref a /\ Φ H /\ Q3j Φ /\ Q0n Φ
 | _,_=>False
theorem Q1v.mono {K : Fg9} {H H' : Hp} (k : Kp H H') : ∀ {s : Sl} {v : V},Q1v K H s v -> Q1v K H' s v
 | .dat d,v,h=>A2.mono k d v h
 | .cl a Φ,v,h=>⟨h.1,h.2.2.1 _ _ k h.2.1,h.2.2⟩
 | .own _,_,h=>h.elim
 | .bor _,_,h=>h.elim
 | .dk _,_,h=>h.elim
 | .dt _,_,h=>h.elim
 | .ob _,_,h=>h.elim
 | .ins _ _ _,_,h=>h.elim
 | .ll _ _,_,h=>h.elim
theorem Q1v.slot {K : Fg9} {S : List Addr} {H : Hp} (hS : Q6 S H) : ∀ {s : Sl} {v : V},Q1v K H s v -> SlR K (J6 S H) (J6 S H) s v /\ s.mut = false
 | .dat d,v,h=>⟨A2.hid hS d v h,rfl⟩
 | .cl a Φ,v,h=>⟨⟨h.1,h.2.2.2 _ _ hS h.2.1,h.2.2.1⟩,rfl⟩
 | .own _,_,h=>h.elim
 | .bor _,_,h=>h.elim
 | .dk _,_,h=>h.elim
 | .dt _,_,h=>h.elim
 | .ob _,_,h=>h.elim
 | .ins _ _ _,_,h=>h.elim
 | .ll _ _,_,h=>h.elim
structure Y0v (K : Fg9) (H : Hp) (p : L3) : Prop where
 at_ : H p.addr = some (.frz p.obj U0)
 cell : ∃ u,p.obj.data = .cell (some u) /\ B4 p.val u
 rel : Q1v K H p.slot p.val
def W3 (K : Fg9) (caps : List L3) (f c' : Addr) (fo : Obj) (H : Hp) : Prop :=
 H f = some (.frz fo U0) /\ (∃ oc Pt,H c' = some (.frz oc (.own Pt)) /\ Q4l oc) /\ ∀ p ∈ caps,Y0v K H p
theorem W3.mono {K : Fg9} {caps : List L3} {f c' : Addr} {fo : Obj} : Q3j (W3 K caps f c' fo):=fun H H' k ⟨h1,⟨oc,Pt,h2,h3⟩,h4⟩ =>
 ⟨k.frz _ _ _ h1,⟨oc,Pt,k.frz _ _ _ h2,h3⟩,fun p hp=>⟨k.frz _ _ _ (h4 p hp).at_,(h4 p hp).cell,(h4 p hp).rel.mono k⟩⟩
theorem W3.hid0 {K : Fg9} {f c' : Addr} {fo : Obj} (hf : ∀ u,fo.data ≠ .cell u) : Q0n (W3 K [] f c' fo):=fun S H hS ⟨h1,⟨oc,Pt,h2,h3⟩,_⟩=>by
 refine ⟨?_,⟨oc,Pt,?_,h3⟩,fun p hp=>absurd hp (by simp)⟩
 ·rw [X0]
  ·exact h1
  ·intro hb
   obtain ⟨o,u,q,d⟩:=hS _ hb
   rw [h1] at q
   injection q with q
   injection q with q
   exact hf u (q ▸ d)
 ·rw [X0 (hS.out h2 (by intro o z; injection z with _ z; cases z))]; exact h2
noncomputable def Q5e (K : Fg9) (n : Nat) (Φ : Hp -> Prop) (sp : D8) : Sp:=fun vs H Q _=>∃ (rs : List R) (r : R),rs.length = n /\ L6 K (fun _=>none) H rs vs /\ rs.all M7 = true /\ Φ H /\ sp (rs.map nrm) r /\ ∀ v H',A6 H H' -> E1 K H H' r v -> Q v H'
end TK
namespace L2
open PySem PySem.Spec PyProof.Rows TK
noncomputable abbrev O8 (caps : List L3) : List (Str × Addr):=caps.map fun p=>(p.name,p.addr)
structure Q2x (ps fr : List Str) (sc : Scope) : Prop where
 kind : sc.kind = .function
 co : sc.isCoroutine = false
 gen : sc.isGenerator = false
 nd : (ps ++ fr).Nodup
 par : ∀ x ∈ ps,sc.names.lookup x = some .local
 fre : ∀ x ∈ fr,sc.names.lookup x = some .free
 nocell : ∀ y ∈ sc.names,y.2 ≠ .cell
 all : ∀ y ∈ sc.names,y.2 = .free -> y.1 ∈ fr
noncomputable def cxL (P : Program) (w : World) (K : Fg9) (mg : Str -> Option Value) (base : Heap) (N : List Str) (q : Str) (sc : Scope) (f c' : Addr) (caps : List L3) (A : Around) (outer : List Env) (s : Shared) (H : Hp) : Cx where
 prog:=P
 w:=w
 K:=K
 mg:=mg
 base:=base
 A:=A.deeper (PySem.W.envX q sc s.heap.objs.size f (.ref c') (O8 caps))
 N:=N
 s₀:=s
 H₀:=H
 env:=PySem.W.envX q sc s.heap.objs.size f (.ref c') (O8 caps)
 outer:=outer
 stack:=PySem.W.envX q sc s.heap.objs.size f (.ref c') (O8 caps) :: outer
 ex:=[]
 calm:=true
 fn:=fun _=>false
 pn:=[]
 xe:=fun _ _=>False
theorem Q6g {caps : List L3} {x : Str} {c : Addr} (h : (O8 caps).lookup x = some c) : ∃ p ∈ caps,p.name = x /\ p.addr = c:=by
 have:=PySem.mem_of_lookup h
 obtain ⟨p,hp,e⟩:=List.mem_map.mp this
 cases e
 exact ⟨p,hp,rfl,rfl⟩
theorem Z1t : ∀ {caps : List L3} {p : L3},(caps.map (·.name)).Nodup -> p ∈ caps -> (O8 caps).lookup p.name = some p.addr
 | [],_,_,mem=>absurd mem (by simp)
 | q :: r,p,nd,mem=>by
  rw [List.map_cons,List.nodup_cons] at nd
  show List.lookup p.name ((q.name,q.addr) :: O8 r) = _
  rcases List.mem_cons.mp mem with rfl | mem
  ·simp [List.lookup]
  ·have hne : p.name ≠ q.name:=fun z=>nd.1 (z ▸ List.mem_map_of_mem mem)
   rw [List.lookup_cons]
   have : (p.name == q.name) = false:=by simpa using hne
   rw [this]
   exact Z1t nd.2 mem
theorem Z3m : ∀ {caps : List L3} {p q : L3},(caps.map (·.addr)).Nodup -> p ∈ caps -> q ∈ caps -> p.addr = q.addr -> p = q
 | [],_,_,_,h,_,_=>absurd h (by simp)
 | r :: l,p,q,nd,h1,h2,e=>by
  rw [List.map_cons,List.nodup_cons] at nd
  rcases List.mem_cons.mp h1 with a1 | a1
  ·rcases List.mem_cons.mp h2 with a2 | a2
   ·rw [a1,a2]
   ·exact absurd (List.mem_map.mpr ⟨q,a2,by rw [<- e,a1]⟩) nd.1
  ·rcases List.mem_cons.mp h2 with a2 | a2
   ·exact absurd (List.mem_map.mpr ⟨p,a1,by rw [e,a2]⟩) nd.1
   ·exact Z3m nd.2 a1 a2 e
end L2
end
section
namespace L2
open PySem PySem.Spec PyProof.Rows TK
section
variable {Pg : Program} {Wd : World} {Ar : Around} {Rs : Result -> Shared -> Prop} {s : Shared}
theorem Y4x {a : Addr} {args : Args} {o : Obj} {fd : FuncData} {body : Expr} {q : Str} (deep : Ar.depth < recursionLimit) (at_ : s.heap.get? a = some o) (is : o.data = .func fd) (c0 : fd.scope.isCoroutine = false) (g0 : fd.scope.isGenerator = false) (bd : fd.body = .expr body) (cd : s.heap.CodeRec fd.code q)
  (go : wpAny (model Pg Wd) Ar.in1 (bindArgs fd args)
   (fun bs s1=>wpAny (model Pg Wd) Ar.in1 (newFunctionEnv fd.scope fd.globals fd.closure bs (q ++ ".<locals>.") (some a) fd.code none fd.builtins) (fun ev s2=>s2.heap.NoLimit /\ codeAny (model Pg Wd) Ar (.expr body ev) Rs s2) (fun x s1=>Rs (.error x) s1) s1)
   (fun x s1=>Rs (.error x) s1) s) : codeAny (model Pg Wd) Ar (.call (.ref a) args) Rs s:=by
 obtain ⟨c,oc,fs,tk,hc,hoc,hfs,hn⟩:=cd
 have run : wpAny (model Pg Wd) Ar.in1 (callAny (.ref a) args) (fun fin s1=>match fin with | .done fl=>Rs (.ok fl) s1 | .again c'=>c'.quiet = true /\ codeAny (model Pg Wd) Ar c' Rs s1) (fun x s1=>Rs (.error x) s1) s:=by
  unfold callAny
  refine wpAny_bind (wpAny_load at_ ?_)
  rw [is]
  dsimp only
  rw [hc] at go
  unfold callFunction
  simp only [c0,g0,bd,hc]
  refine wpAny_bind (m:=field (.ref c) 1) (wpAny_field hoc hfs hn (wpAny_bind (wpAny_pure (wpAny_bind (B2 go fun bs s1 h1=>?_)))))
  exact wpAny_bind (B2 h1 fun ev s2 ⟨lim,h2⟩=>wpAny_bind (wpAny_enterFrame lim deep (wpAny_pure ⟨rfl,h2⟩)))
 exact codeAny_of_tree run
end
theorem Y9v {x : Str} {u : Value} : ∀ {ps : List Str} {us : List Value} {i : Nat},ps.Nodup -> ps[i]? = some x -> us[i]? = some u -> (ps.zip us).reverse.lookup x = some u:=by
 intro ps us i nd h1 h2
 have hm : (x,u) ∈ (ps.zip us).reverse:=by
  rw [List.mem_reverse]
  refine List.mem_of_getElem? (i:=i) ?_
  rw [List.getElem?_zip_eq_some]
  exact ⟨h1,h2⟩
 have un : ∀ v,(x,v) ∈ (ps.zip us).reverse -> v = u:=fun v hv=>by
  rw [List.mem_reverse] at hv
  obtain ⟨j,hj⟩:=List.getElem?_of_mem hv
  rw [List.getElem?_zip_eq_some] at hj
  have hi : i < ps.length:=(List.getElem?_eq_some_iff.mp h1).1
  have hij : i = j:=(List.getElem?_inj hi nd).mp (h1.trans hj.1.symm)
  subst hij
  rw [h2] at hj; exact (Option.some.inj hj.2).symm
 cases hl : (ps.zip us).reverse.lookup x with
 | none =>
  have:=List.lookup_eq_none_iff.mp hl _ hm
  simp at this
 | some v=>rw [un v (PySem.mem_of_lookup hl)]
section
variable {P : Program} {w : World} {K : Fg9} {mg : Str -> Option Value} {base : Heap} {ps : List Str} {q : Str} {sc : Scope} {f c' : Addr} {caps : List L3} {A : Around} {outer : List Env} {s s1 : Shared} {H : Hp} {us : List Value} {vs : List V}
theorem Y6b (S : Q2x ps (caps.map (·.name)) sc) (hnd : (caps.map (·.addr)).Nodup) (hd : A.handled = none) (e0 : Q4e P w K mg base A outer s H) (hl : vs.length = ps.length) (r : C4 vs us) (hc : ∀ p ∈ caps,Y0v K H p)
  {h1 : Heap} {tk : Nat} (hns : h1.Ns s.heap.objs.size fun x=>(ps.zip us).reverse.lookup x) (hk : ∀ b o,s.heap.get? b = some o -> h1.get? b = some o) :
  A1 (cxL P w K mg base (ps ++ caps.map (·.name)) q sc f c' caps A outer s (J6 (caps.map (·.addr)) H)) [] ((vs ++ caps.map (·.val)).map some) (J6 (caps.map (·.addr)) H) { s with heap:=h1,toks:=tk }:=by
 have hS : Q6 (caps.map (·.addr)) H:=fun c hc'=>by
  obtain ⟨p,hp,rfl⟩:=List.mem_map.mp hc'
  obtain ⟨u,hu,_⟩:=(hc p hp).cell
  exact ⟨_,_,(hc p hp).at_,hu⟩
 have hidn : ∀ b,H b = none -> J6 (caps.map (·.addr)) H b = none:=fun b n=>by
  unfold J6; split
  ·rfl
  ·exact n
 have ndn : (caps.map (·.name)).Nodup:=(List.nodup_append.mp S.nd).2.1
 have cget : ∀ p ∈ caps,∃ u,h1.IsCell p.addr (some u) /\ B4 p.val u:=fun p hp=>by
  obtain ⟨u,hu,ru⟩:=(hc p hp).cell
  exact ⟨u,⟨p.obj,hk _ _ (e0.hok _ _ (hc p hp).at_).1,hu⟩,ru⟩
 have noA : ∀ b : Addr,b ∉ (cxL P w K mg base (ps ++ caps.map (·.name)) q sc f c' caps A outer s (J6 (caps.map (·.addr)) H)).ex:=fun b z=>absurd (show b ∈ ([] : List Addr) from z) (by simp)
 refine ⟨⟨e0.mod,S.kind,rfl,rfl,Nat.le_refl _,fun y z c h1 h2=>?_,fun y hy=>?_,fun y c hf _=>absurd (show false = true from hf) (by decide),fun _=>hd,Around.frames_deeper e0.frames,.inr ⟨rfl,rfl⟩,fun b z=>absurd z (noA b),fun b o e=>⟨(e0.bs b o e).1,hidn _ (e0.bs b o e).2⟩,e0.bsz,fun b _ _=>noA b,fun b z=>absurd z (noA b),e0.funs,fun b hb=>hidn _ (e0.frf b hb)⟩,
  rfl,e0.bare,Un.kept hk,⟨_,hns,fun i y v h1 h2 h3=>?_⟩,fun y c h=>?_,hidn _ (e0.hok.fresh (Nat.le_refl _)),fun y c h=>?_,fun p hp=>absurd (show p ∈ ([] : Pn9) from hp) (by simp),e0.hok.hid hS hk,?_⟩
 ·obtain ⟨p,hp,rfl,e1⟩:=Q6g h1
  obtain ⟨p',hp',rfl,e2⟩:=Q6g h2
  rw [Z3m hnd hp hp' (e1.trans e2.symm)]
 ·have hy : sc.names.lookup y = some .cell \/ sc.names.lookup y = some .free:=hy
  rcases hy with hy | hy
  ·exact absurd rfl (S.nocell _ (PySem.mem_of_lookup hy))
  ·have:=S.all _ (PySem.mem_of_lookup hy) rfl
   obtain ⟨p,hp,e⟩:=List.mem_map.mp this
   have e : p.name = y:=e
   exact ⟨p.addr,by rw [<- e]; exact Z1t ndn hp⟩
 ·by_cases hi : i < ps.length
  ·have hp : ps[i]? = some y:=by rw [show (cxL P w K mg base (ps ++ caps.map (·.name)) q sc f c' caps A outer s (J6 (caps.map (·.addr)) H)).N = ps ++ caps.map (·.name) from rfl,List.getElem?_append_left hi] at h1; exact h1
   have hv : vs[i]? = some v:=by
    rw [List.getElem?_map,List.getElem?_append_left (by omega)] at h2
    cases e : vs[i]? with
    | none=>rw [e] at h2; cases h2
    | some a=>rw [e] at h2; cases h2; rfl
   obtain ⟨u,hu,rv⟩:=r.get hv
   exact ⟨u,rv,.inl ⟨S.par y (List.mem_of_getElem? hp),Y9v (List.nodup_append.mp S.nd).1 hp hu⟩⟩
  ·have hp : (caps.map (·.name))[i - ps.length]? = some y:=by rw [show (cxL P w K mg base (ps ++ caps.map (·.name)) q sc f c' caps A outer s (J6 (caps.map (·.addr)) H)).N = ps ++ caps.map (·.name) from rfl,List.getElem?_append_right (by omega)] at h1; exact h1
   have hv : (caps.map (·.val))[i - ps.length]? = some v:=by
    rw [List.getElem?_map,List.getElem?_append_right (by omega),hl] at h2
    cases e : (caps.map (·.val))[i - ps.length]? with
    | none=>rw [e] at h2; cases h2
    | some a=>rw [e] at h2; cases h2; rfl
   rw [List.getElem?_map] at hp hv
   cases e : caps[i - ps.length]? with
   | none=>rw [e] at hp; cases hp
   | some p =>
    rw [e] at hp hv
    cases hp; cases hv
    have hpm:=List.mem_of_getElem? e
    obtain ⟨u,hcell,ru⟩:=cget p hpm
    exact ⟨u,ru,.inr ⟨.inr (S.fre _ (List.mem_map_of_mem hpm)),p.addr,Z1t ndn hpm,hcell⟩⟩
 ·obtain ⟨p,hp,rfl,rfl⟩:=Q6g h
  obtain ⟨u,hcell,_⟩:=cget p hp
  exact ⟨_,hcell⟩
 ·obtain ⟨p,hp,rfl,rfl⟩:=Q6g h
  exact Q4u (List.mem_map_of_mem hp)
 ·rw [List.length_map,List.length_append,List.length_map,hl]
  show _ = (ps ++ caps.map (·.name)).length
  rw [List.length_append,List.length_map]
end
theorem A6.showS {S : List Addr} {H H' : Hp} (hS : Q6 S H) (sm : A6 (J6 S H) H') : A6 H (L2.showS S H H'):=fun b u e=>by
 by_cases hb : b ∈ S
 ·rw [Z7m hb]; exact e
 ·rw [Q6p hb]; exact sm b u (by rw [X0 hb]; exact e)
theorem Z2g {P : Program} {w : World} {K : Fg9} {mg : Str -> Option Value} {base : Heap} {k : Nat} {f c' : Addr} {name qual : Str} {params : Arguments} {body : Expr} {sc : Scope} {pm ctv : Value} {ps : List Str} {caps : List L3} {sp : D8} {wb : WE}
  (S : Q2x ps (caps.map (·.name)) sc) (hnd : (caps.map (·.addr)).Nodup)
  (hbody : ∀ (A : Around) (outer : List Env) (s : Shared) (H : Hp) (q : Str),C5 k (A.deeper (PySem.W.envX q sc s.heap.objs.size f (.ref c') (O8 caps))) -> DE (cxL P w K mg base (ps ++ caps.map (·.name)) q sc f c' caps A outer s H) H body wb)
  (hw : ∀ rs r,rs.length = ps.length -> sp rs r -> ∃ (ds : List D) (d : D),rs = ds.map R.st /\ r = .st d /\ wb (ds.map (fun d=>some (Sl.dat d)) ++ caps.map fun p=>some p.slot) fun r'=>r' = .st d) :
  P8 P w K mg base K6 (k + 1) f (PySem.W.kla_fn name qual params body sc (O8 caps) pm (.ref c') ctv) ps (Q5e K ps.length (W3 K caps f c' (PySem.W.kla_obj name qual params body sc (O8 caps) pm c' ctv)) sp):=by
 refine ⟨fun vs H Q E h=>?_,fun A outer s H args us vs Q E hr e0 hb r hsp=>?_⟩
 ·obtain ⟨rs,r,hl,al,_⟩:=h
  rw [<- al.length]; exact hl
 obtain ⟨rs,r0,hl,al,ok,⟨hf,⟨oc,Pt,hc,qc⟩,hcaps⟩,h1,h2⟩:=hsp
 have hlv : vs.length = ps.length:=by rw [<- al.length]; exact hl
 have lim : s.heap.NoLimit:=e0.mod.nolimit.keeps fun b o e=>(e0.bs b o e).1
 have gf : s.heap.get? f = some _:=(e0.hok _ _ hf).1
 have gc : s.heap.get? c' = some oc:=(e0.hok _ _ hc).1
 obtain ⟨cvs,q,tq,hcd,hq⟩:=qc
 obtain ⟨ds,d,hds,rfl,hwb⟩:=hw (rs.map nrm) r0 (by rw [List.length_map]; exact hl) h1
 have hS : Q6 (caps.map (·.addr)) H:=fun c hc'=>by
  obtain ⟨p,hp,rfl⟩:=List.mem_map.mp hc'
  obtain ⟨u,hu,_⟩:=(hcaps p hp).cell
  exact ⟨_,_,(hcaps p hp).at_,hu⟩
 refine Y4x (fd:=PySem.W.kla_fn name qual params body sc (O8 caps) pm (.ref c') ctv) hr.depth gf rfl S.co S.gen rfl ⟨c',oc,cvs,tq,rfl,gc,hcd,hq⟩ (hb _ _ _ _ ?_)
 refine wpAny_newFunctionEnv S.nocell (fun y hy=>S.par _ (List.of_mem_zip hy).1) (fun h1 hns hsb=>⟨(lim).fresh _ hsb,?_⟩) S.kind
 have hk : ∀ b o,s.heap.get? b = some o -> h1.get? b = some o:=fun b o e=>(hsb.2 b (Nat.ne_of_lt (Heap.lt_size e))).trans (Heap.get?_push_of_some _ e)
 show codeAny _ _ (.expr body (PySem.W.envX q sc s.heap.objs.size f (.ref c') (O8 caps))) _ _
 have I:=Y6b (q:=q) (f:=f) (c':=c') (tk:=s.toks + (ps.zip us).length) S hnd hr.hd e0 hlv r hcaps hns hk
 have hD:=hbody A outer s (J6 (caps.map (·.addr)) H) q (hr.deeper _)
 have rep : B5 K (J6 (caps.map (·.addr)) H) (ds.map (fun d=>some (Sl.dat d)) ++ caps.map fun p=>some p.slot) ((vs ++ caps.map (·.val)).map some) (J6 (caps.map (·.addr)) H):=by
  have hlen : ds.length = vs.length:=by
   have:=congrArg List.length hds
   rw [List.length_map,List.length_map] at this
   rw [<- this,al.length]
  have args : ∀ (i : Nat) (d : D),ds[i]? = some d -> ∃ v,vs[i]? = some v /\ A2 K H d v:=fun i d e=>by
   have : (rs.map nrm)[i]? = some (.st d):=by rw [hds,List.getElem?_map,e]; rfl
   rw [List.getElem?_map] at this
   cases e2 : rs[i]? with
   | none=>rw [e2] at this; cases this
   | some x =>
    rw [e2] at this
    have hx : nrm x = .st d:=Option.some.inj this
    obtain ⟨v,hv,q⟩:=al.get e2
    refine ⟨v,hv,?_⟩
    cases x with
    | st y=>cases hx; exact q
    | nw _=>cases hx
    | bw _=>cases hx
    | dk _=>cases hx
    | dt _=>cases hx
    | ob _=>cases hx
    | cl _ _=>cases hx
    | ms _ _ _ _=>cases hx
  have Q1y : ∀ (i : Nat) (sl : Sl),(ds.map (fun d=>some (Sl.dat d)) ++ caps.map fun p=>some p.slot)[i]? = some (some sl) -> ∃ v,((vs ++ caps.map (·.val)).map some)[i]? = some (some v) /\ TK.SlR K (J6 (caps.map (·.addr)) H) (J6 (caps.map (·.addr)) H) sl v /\ sl.mut = false:=fun i sl e=>by
   by_cases hi : i < ds.length
   ·rw [List.getElem?_append_left (by rw [List.length_map]; exact hi),List.getElem?_map] at e
    cases e1 : ds[i]? with
    | none=>rw [e1] at e; cases e
    | some y =>
     rw [e1] at e
     cases e
     obtain ⟨v,hv,q⟩:=args i y e1
     refine ⟨v,?_,A2.hid hS _ _ q,rfl⟩
     rw [List.getElem?_map,List.getElem?_append_left (by omega),hv]; rfl
   ·rw [List.getElem?_append_right (by rw [List.length_map]; omega),List.length_map,List.getElem?_map] at e
    cases e1 : caps[i - ds.length]? with
    | none=>rw [e1] at e; cases e
    | some p =>
     rw [e1] at e
     cases e
     obtain ⟨q1,q2⟩:=(hcaps p (List.mem_of_getElem? e1)).rel.slot hS
     refine ⟨p.val,?_,q1,q2⟩
     rw [List.getElem?_map,List.getElem?_append_right (by omega),List.getElem?_map,<- hlen,e1]; rfl
  refine ⟨by simp [hlen],A6.refl _,fun i sl e=>let ⟨v,a,b,_⟩:=Q1y i sl e; ⟨v,a,b⟩,fun i j s t v _ e1 _ m _ _ _=>?_⟩
  obtain ⟨_,_,_,z⟩:=Q1y i s e1
  rw [z] at m; cases m
 refine PySem.W.kla_codeExpr (wpAny_mono (hD.pe [] _ _ _ (fun v H'=>A6 (J6 (caps.map (·.addr)) H) H' /\ A2 K H' d v) I ⟨_,rep,hD.mono _ _ _ (fun r' hr' v H' sm ir=>by subst hr'; exact ⟨sm,ir⟩) hwb⟩) (fun u s' hs=>?_) fun e s' hs=>(show False from hs).elim)
 obtain ⟨v,H',J,rv,sm,q⟩:=hs
 have out : ∀ b u,H' b = some u -> b ∉ caps.map (·.addr):=fun b u e hbS=>by
  obtain ⟨o,u',hb1,_⟩:=hS b hbS
  have:=J.base.free b o (e0.hok _ _ hb1).1 (Q4u hbS) (by show b ∉ ([] : List Addr); simp)
  rw [this] at e; cases e
 have sm2 : A6 H' (L2.showS (caps.map (·.addr)) H H'):=fun b u e=>by rw [Q6p (out b u e)]; exact e
 have smH:=A6.showS hS sm
 show CE outer P w H s Q u s'
 refine ⟨v,L2.showS (caps.map (·.addr)) H H',J.os,J.bare,?_,?_,rv,h2 v (L2.showS (caps.map (·.addr)) H H') smH (show E1 K H (L2.showS (caps.map (·.addr)) H H') (.st d) v from A2.mono (Kp.of sm2) d v q)⟩
 ·have hn : ∀ b,H b = none -> b ∉ caps.map (·.addr):=fun b n hb=>by obtain ⟨o,u,q,_⟩:=hS b hb; rw [n] at q; cases q
  have hid0 : ∀ b,H b = none -> J6 (caps.map (·.addr)) H b = none:=fun b n=>by rw [X0 (hn b n)]; exact n
  refine ⟨fun b o e n hb hx=>J.base.keep b o e (hid0 b n) hb hx,fun b o e n hb hx=>J.base.slot b o e (hid0 b n) hb hx,fun b o e n hx=>?_,fun b o e hx=>J.base.there b o e hx,fun b xs e=>smH _ _ e,fun b o u e=>smH _ _ e,fun b ps e=>⟨#[],by rw [smH _ _ e]; simp⟩⟩
  rw [Q6p (hn b n)]
  exact J.base.free b o e (hid0 b n) hx
 ·intro b u e
  by_cases hbS : b ∈ caps.map (·.addr)
  ·rw [Z7m hbS] at e
   obtain ⟨o,u',hb1,_⟩:=hS b hbS
   rw [hb1] at e; cases e
   have g:=(e0.hok _ _ hb1).1
   have : b ∉ frs outer:=fun z=>by have:=e0.frf b z; rw [hb1] at this; cases this
   exact Q6b (J.base.keep b o g (Q4u hbS) this (by show b ∉ ([] : List Addr); simp))
  ·rw [Q6p hbS] at e
   exact (J.hok b u e).stay (fun c v _ q=>q) (fun c v _ q=>sm2 _ _ q) fun c xs q=>sm2 _ _ q
end L2
end
section
namespace L2
open PySem PySem.Spec PyProof.Rows TK
structure E7 (P : Program) (w : World) (K : Fg9) (mg : Str -> Option Value) (base : Heap) (k n : Nat) (f : Addr) (Φ : Hp -> Prop) (sp : D8) : Prop where
 ex : ∃ (fd : FuncData) (ps : List Str),P8 P w K mg base K6 k f fd ps (Q5e K n Φ sp) /\ ps.length = n /\ V6 K fd ps [] /\ ∀ (h : Heap) (H : Hp),F1 P w H h -> K.In h -> Φ H -> ∃ o,h.get? f = some o /\ o.data = .func fd
section
variable {X : Cx} {k n i : Nat} {x : Str} {e : Expr} {es : List Expr} {t : TA} {p pos : Pos}
theorem Y4u (hr : C5 k X.A) (hv : PE X (.Name x p) (O4 i)) (ha : PA X (e :: es) t) (he : starEach (e :: es) X.env = (false,eval e X.env) :: starEach es X.env:=by rfl) (hpl : (backTo pos (starEach es X.env)).any (·.1) = false:=by rfl) :
  PE X (.Call (.Name x p) (e :: es) [] pos) (fun σ H Q=>∃ f Φ sp,σ[i]? = some (some (.ref f)) /\ E7 X.prog X.w X.K X.mg X.base k n f Φ sp /\ t σ H fun vs H1=>Q5e X.K n Φ sp vs H1 Q E0):=by
 intro pins s σ H Q I ⟨f,Φ,sp,h0,F,h⟩
 obtain ⟨fd,ps,F,hn,hb,here⟩:=F.ex
 refine wpAny_Call_Name_kw (B2 (hv pins s σ H (fun v H'=>v = .ref f /\ t σ H' fun vs H1=>Q5e X.K n Φ sp vs H1 Q E0) I ⟨.ref f,h0,rfl,h⟩) fun u s1 ⟨v,H1,I1,r,ev,q⟩=>?_)
 subst ev
 obtain rfl : u = Value.ref f:=r
 refine PySem.W.callWith_of (P:=fun h=>∃ o,h.get? f = some o /\ o.data = .func fd) (by rw [he]; show ((false || (backTo pos (starEach es X.env)).any (·.1)) || false) = false; rw [hpl]; rfl) (fun h ⟨o,e1,e2⟩=>⟨.frame,.inl rfl,?_⟩) ?_
 ·obtain ⟨oc,od,dt,sl⟩:=o
  have e2 : dt = .func fd:=e2
  subst e2
  exact (PySem.W.Looks.ld (part:=none) e1).andThen .now
 rw [he]
 refine Calls.evalArgs_plain ?_
 have h2:=ha pos pins s1 σ H1 _ I1 q
 rw [he] at h2
 refine B2 h2 fun us s2 ⟨vs,H2,I2,r,q⟩=>⟨?_,?_⟩
 ·obtain ⟨rs,r0,_,_,_,hΦ,_⟩:=q
  exact here _ _ I2.hok I2.kIn hΦ
 ·have:=Z8g F hr hb .nil Q9e I2 r (show Q5e X.K n Φ sp (vs ++ []) H2 Q E0 by rw [List.append_nil]; exact q)
  exact this
end
end L2
namespace TK
open PySem PySem.Spec PyProof.Rows L2
noncomputable abbrev C7:=Nat -> Addr -> (Hp -> Prop) -> D8 -> Prop
section
variable {X : Cx} {H0 : Hp} {e : Expr} {es : List Expr} {wr : WA} {k i n : Nat} {x : Str} {p pos : Pos}
def W5 (FC : C7) (n i : Nat) (wr : WA) : WE:=fun τ Q=>∃ f Φ sp,τ[i]? = some (some (.cl f Φ)) /\ FC n f Φ sp /\ wr τ fun rs=>rs.all M7 = true /\ ∃ r,sp (rs.map nrm) r /\ Q r
theorem DE.callC (hr : C5 k X.A) (hv : PE X (.Name x p) (O4 i)) (ha : DA X H0 (e :: es) wr) (he : starEach (e :: es) X.env = (false,eval e X.env) :: starEach es X.env:=by rfl) (hpl : (backTo pos (starEach es X.env)).any (·.1) = false:=by rfl) :
  DE X H0 (.Call (.Name x p) (e :: es) [] pos) (W5 (E7 X.prog X.w X.K X.mg X.base k) (e :: es).length i wr) where
 mono:=fun τ P Q f ⟨g,Φ,sp,h0,F,h⟩=>⟨g,Φ,sp,h0,F,ha.mono τ _ _ (fun rs ⟨ok,r,h1,h2⟩=>⟨ok,r,h1,f r h2⟩) h⟩
 pe:=O0 (Y4u (n:=(e :: es).length) hr hv ha.pa he hpl) fun σ H Q ⟨τ,hR,f,Φ,sp,h0,F,h⟩=>by
  obtain ⟨v,hv,rv⟩:=hR.here i _ h0
  obtain ⟨rfl,hΦ,hM⟩ : v = .ref f /\ Φ H /\ Q3j Φ:=rv
  exact ⟨f,Φ,sp,hv,F,τ,hR,ha.mono τ _ _ (fun rs ⟨hln,ok,r,h1,h2⟩ vs H1 s1 irs=>⟨rs,r,hln,irs.v,ok,hM _ _ (Kp.of s1) hΦ,h1,fun v H' s2 ir=>h2 v H' (s1.trans s2) (ir.older s1)⟩) (ha.len τ _ h)⟩
@[simp] theorem Q3p {FC : C7} {τ : A8} {Q : R -> Prop} : W5 FC n i wr τ Q = ∃ f Φ sp,τ[i]? = some (some (.cl f Φ)) /\ FC n f Φ sp /\ wr τ fun rs=>rs.all M7 = true /\ ∃ r,sp (rs.map nrm) r /\ Q r:=rfl
end
section
variable {X : Cx} {H0 : Hp} {params : Arguments} {body : Expr} {sc : Scope} {pos : Pos} {c Pt : Addr} {k : Nat} {ps : List Str} {sp : D8} {wb : WE}
def Q0t (FC : C7) (n : Nat) (sp : D8) : WE:=fun _ Q=>∀ f Φ,FC n f Φ sp -> Q0n Φ -> Q (.cl f Φ)
theorem DE.lam0 (hT : H0 Pt = some .tab) (hB : X8 X.mg X.base) (hcode : X.env.code = .ref c) (hC : PySem.W.codeHdIn X.K c Pt = true) (hcl : closureFor sc X.env = pure []) (S : Q2x ps [] sc)
  (hbind : ∀ (qual : Str) (pm cd ct : Value) (us : List Value),us.length = ps.length -> bindArgs (PySem.W.kla_fn "<lambda>" qual params body sc [] pm cd ct) ⟨us,[]⟩ = pure (ps.zip us))
  (hbody : ∀ (f c' : Addr) (A : Around) (outer : List Env) (s : Shared) (H : Hp) (q : Str),C5 k (A.deeper (PySem.W.envX q sc s.heap.objs.size f (.ref c') [])) -> DE (cxL X.prog X.w X.K X.mg X.base ps q sc f c' [] A outer s H) H body wb)
  (hw : ∀ rs r,rs.length = ps.length -> sp rs r -> ∃ (ds : List D) (d : D),rs = ds.map R.st /\ r = .st d /\ wb (ds.map (fun d=>some (Sl.dat d))) fun r'=>r' = .st d) (hd : defaultsOf params X.env = ([],[]):=by rfl) :
  DE X H0 (.Lambda params body sc pos) (Q0t (E7 X.prog X.w X.K X.mg X.base (k + 1)) ps.length sp) where
 mono:=fun τ P Q g h f Φ F hH=>g _ (h f Φ F hH)
 pe:=O0 (Z1o hB hcode hC hcl hd) fun σ H Q ⟨τ,hR,h⟩=>by
  refine ⟨hR.same _ _ hT,fun f c' oc ctv H' sm hoc hf hc' hfo _=>?_⟩
  have LP : W3 X.K [] f c' (V3 X params body sc [] c' ctv) H':=⟨hfo,⟨oc,Pt,hc',hoc⟩,fun p hp=>absurd hp (by simp)⟩
  have F0:=Z2g (P:=X.prog) (w:=X.w) (K:=X.K) (mg:=X.mg) (base:=X.base) (k:=k) (f:=f) (c':=c') (name:="<lambda>") (qual:=X.env.qual ++ "<lambda>") (params:=params) (body:=body) (sc:=sc) (pm:=(X.mg "__name__").getD .none) (ctv:=ctv) (ps:=ps) (caps:=[]) (sp:=sp) (wb:=wb) S List.nodup_nil
   (fun A outer s H q hr=>by rw [List.map_nil,List.append_nil]; exact hbody f c' A outer s H q hr) (fun rs r hl hs=>by obtain ⟨ds,d,e1,e2,e3⟩:=hw rs r hl hs; exact ⟨ds,d,e1,e2,by rw [List.map_nil,List.append_nil]; exact e3⟩)
  refine h f (W3 X.K [] f c' (V3 X params body sc [] c' ctv)) ⟨_,ps,F0,rfl,V6.all (hbind _ _ _ _),fun hh Hh hok _ hΦ=>⟨_,(hok _ _ hΦ.1).1,rfl⟩⟩ (W3.hid0 (fun u z=>by cases z)) (.ref f) H' sm ⟨rfl,LP,W3.mono⟩
@[simp] theorem Z4o {FC : C7} {n : Nat} {τ : A8} {Q : R -> Prop} : Q0t FC n sp τ Q = ∀ f Φ,FC n f Φ sp -> Q0n Φ -> Q (.cl f Φ):=rfl
end
end TK
end
section
namespace L2
open PySem PySem.Spec PyProof.Rows TK
noncomputable def S6 (caps : List L3) (H : Hp) : Hp:=fun b=>match caps.find? (fun p=>p.addr == b) with
 | some p=>some (.frz p.obj U0)
 | none=>H b
theorem Q4n {caps : List L3} {H : Hp} {p : L3} (nd : (caps.map (·.addr)).Nodup) (hp : p ∈ caps) : S6 caps H p.addr = some (.frz p.obj U0):=by
 unfold S6
 cases e : caps.find? (fun q=>q.addr == p.addr) with
 | none =>
  have:=List.find?_eq_none.mp e p hp
  simp at this
 | some q =>
  have h1 : (q.addr == p.addr) = true:=List.find?_some (p:=fun q : L3=>q.addr == p.addr) e
  have h2:=List.mem_of_find?_eq_some e
  rw [Z3m nd h2 hp (by simpa using h1)]
theorem Q5q {caps : List L3} {H : Hp} {b : Addr} (h : b ∉ caps.map (·.addr)) : S6 caps H b = H b:=by
 unfold S6
 cases e : caps.find? (fun q=>q.addr == b) with
 | none=>rfl
 | some q =>
  have h1 : (q.addr == b) = true:=List.find?_some (p:=fun q : L3=>q.addr == b) e
  have h2:=List.mem_of_find?_eq_some e
  exact absurd (List.mem_map.mpr ⟨q,h2,by simpa using h1⟩) h
structure Q1g (X : Cx) (s : Shared) (p : L3) : Prop where
 look : X.env.cells.lookup p.name = some p.addr
 own : X.fn p.name = true
 get : s.heap.get? p.addr = some p.obj
 cell : ∃ u,p.obj.data = .cell (some u) /\ B4 p.val u
section
variable {X : Cx} {pins : Pn9} {σ : St} {H : Hp} {s : Shared} {caps : List L3}
theorem Z0q (I : A1 X pins σ H s) : ∀ {caps : List L3},(caps.map (·.name)).Nodup -> (∀ p ∈ caps,Q1g X s p) -> (caps.map (·.addr)).Nodup
 | [],_,_=>List.nodup_nil
 | p :: r,nd,h=>by
  rw [List.map_cons,List.nodup_cons] at nd ⊢
  refine ⟨fun hm=>?_,Z0q I nd.2 fun q hq=>h q (List.mem_cons_of_mem _ hq)⟩
  obtain ⟨q,hq,e⟩:=List.mem_map.mp hm
  have e : q.addr = p.addr:=e
  have h1:=(h p List.mem_cons_self).look
  have h2:=(h q (List.mem_cons_of_mem _ hq)).look
  rw [e] at h2
  exact nd.1 (List.mem_map.mpr ⟨q,hq,I.ok.inj _ _ _ h2 h1⟩)
theorem Q4t (I : A1 X pins σ H s) (hc : ∀ p ∈ caps,Q1g X s p) : A6 H (S6 caps H):=fun b u e=>by
 rw [Q5q]
 ·exact e
 ·intro hb
  obtain ⟨p,hp,rfl⟩:=List.mem_map.mp hb
  rw [I.freeC _ _ (hc p hp).look] at e; cases e
theorem Z5g (nd : (caps.map (·.addr)).Nodup) (hc : ∀ p ∈ caps,Q1g X s p) : Q6 (caps.map (·.addr)) (S6 caps H):=fun c hcm=>by
 obtain ⟨p,hp,rfl⟩:=List.mem_map.mp hcm
 obtain ⟨u,hu,_⟩:=(hc p hp).cell
 exact ⟨p.obj,some u,Q4n nd hp,hu⟩
theorem Z6r (I : A1 X pins σ H s) (nd : (caps.map (·.addr)).Nodup) (hc : ∀ p ∈ caps,Q1g X s p) : Q4e X.prog X.w X.K X.mg X.base X.A X.stack s (S6 caps H):=by
 have e0:=I.env0
 have ge : ∀ p ∈ caps,X.s₀.heap.objs.size <= p.addr:=fun p hp=>I.ok.cab _ _ (hc p hp).own (hc p hp).look
 have keep : ∀ b,b ∉ caps.map (·.addr) -> H b = none -> S6 caps H b = none:=fun b hb n=>by rw [Q5q hb]; exact n
 refine ⟨e0.frames,e0.mod,fun b o e=>⟨(e0.bs b o e).1,keep b (fun hb=>?_) (e0.bs b o e).2⟩,e0.bsz,e0.funs,fun b hb=>keep b (fun hb'=>?_) (e0.frf b hb),fun b u e=>?_,e0.bare⟩
 ·obtain ⟨p,hp,rfl⟩:=List.mem_map.mp hb
  exact absurd (Nat.lt_of_lt_of_le (Heap.lt_size e) I.ok.bsz) (Nat.not_lt.mpr (ge p hp))
 ·obtain ⟨p,hp,rfl⟩:=List.mem_map.mp hb'
  rcases List.mem_cons.mp (I.stkSub _ hb) with z | z
  ·exact I.cne _ _ (hc p hp).look z
  ·obtain ⟨_,o,ho,_⟩:=I.ok.funs.mem z
   exact absurd (Heap.lt_size ho) (Nat.not_lt.mpr (ge p hp))
 ·by_cases hb : b ∈ caps.map (·.addr)
  ·obtain ⟨p,hp,rfl⟩:=List.mem_map.mp hb
   rw [Q4n nd hp] at e; cases e
   exact Q6b (hc p hp).get
  ·rw [Q5q hb] at e
   exact (I.hok b u e).stay (fun c v _ q=>q) (fun c v _ q=>Q4t I hc _ _ q) fun c xs q=>Q4t I hc _ _ q
theorem W1g {CX : CXT} {k : Nat} {f : Addr} {fd : FuncData} {ps : List Str} {sp : Sp} {Q : VK} {E : XK} {us : List Value} {vs : List V} (F : P8 X.prog X.w X.K X.mg X.base K6 k f fd ps sp) (hr : C5 k X.A) (hb : V6 X.K fd ps [])
  (I : A1 X pins σ H s) (nd : (caps.map (·.addr)).Nodup) (hc : ∀ p ∈ caps,Q1g X s p) (r : C4 vs us) (h : sp vs (S6 caps H) (fun v H'=>A6 (S6 caps H) H' /\ Q v (J6 (caps.map (·.addr)) H')) E) : wpAny (model X.prog X.w) X.A (call (.ref f) us) (EP X pins σ Q) X.xe s:=by
 have hl : us.length = ps.length:=by rw [<- r.length]; exact F.len _ _ _ _ h
 have hb' : BindsTo s fd ⟨us,[]⟩ (ps.zip us):=by have:=hb s us I.kIn (by rw [List.append_nil]; exact hl); rw [List.append_nil] at this; exact this
 refine wpAny_call (codeAny_mono (F.run X.A X.stack s (S6 caps H) ⟨us,[]⟩ us vs _ E hr (Z6r I nd hc) hb' r h) fun r s' hq=>?_)
 cases r with
 | error e=>exact (show False from hq).elim
 | ok fl =>
  cases fl with
  | next=>exact False.elim hq
  | brk=>exact False.elim hq
  | cont=>exact False.elim hq
  | ret u =>
   obtain ⟨v,H',os,bare,un,hok,rv,sm,q⟩:=hq
   have hS : Q6 (caps.map (·.addr)) H':=fun c hcm=>by
    obtain ⟨o,u,e1,e2⟩:=Z5g (H:=H) nd hc c hcm
    exact ⟨o,u,un.frzs _ _ _ e1,e2⟩
   have outN : ∀ b,H b = none -> b ∉ caps.map (·.addr) -> S6 caps H b = none:=fun b n hb=>by rw [Q5q hb]; exact n
   have kept : ∀ p ∈ caps,s'.heap.get? p.addr = some p.obj:=fun p hp=>(hok _ _ (un.frzs _ _ _ (Q4n nd hp))).1
   have Q2l : ∀ b u,H b = some u -> b ∉ caps.map (·.addr):=fun b u e hb=>by
    obtain ⟨p,hp,rfl⟩:=List.mem_map.mp hb
    rw [I.freeC _ _ (hc p hp).look] at e; cases e
   have back : ∀ b u,H b = some u -> J6 (caps.map (·.addr)) H' b = some u:=fun b u e=>by
    rw [X0 (Q2l b u e)]
    exact sm _ _ (Q4t I hc _ _ e)
   refine I.after ⟨v,J6 (caps.map (·.addr)) H',os,bare,⟨fun b o e n hb hx=>?_,fun b o e n hb hx=>?_,fun b o e n hx=>?_,fun b o e hx=>un.there b o e hx,fun b xs e=>back _ _ e,fun b o u e=>back _ _ e,fun b ps e=>⟨#[],by rw [back _ _ e]; simp⟩⟩,F1.hid hok hS fun _ _ q=>q,rv,q⟩
   ·by_cases hbS : b ∈ caps.map (·.addr)
    ·obtain ⟨p,hp,rfl⟩:=List.mem_map.mp hbS
     rw [(hc p hp).get] at e; cases e
     exact kept p hp
    ·exact un.keep b o e (outN b n hbS) hb hx
   ·by_cases hbS : b ∈ caps.map (·.addr)
    ·obtain ⟨p,hp,rfl⟩:=List.mem_map.mp hbS
     rw [(hc p hp).get] at e; cases e
     exact ⟨_,kept p hp⟩
    ·exact un.slot b o e (outN b n hbS) hb hx
   ·by_cases hbS : b ∈ caps.map (·.addr)
    ·exact Q4u hbS
    ·rw [X0 hbS]
     exact un.free b o e (outN b n hbS) hx
end
end L2
end
section
namespace TK
open PySem PySem.Spec PyProof.Rows L2
noncomputable def J5 (wb : WE) (sls : List Sl) : D8:=fun rs r=>∃ (ds : List D) (d : D),rs = ds.map R.st /\ r = .st d /\ wb (ds.map (fun d=>some (Sl.dat d)) ++ sls.map some) fun r'=>r' = .st d
noncomputable def capS : Sl -> Prop
 | .dat _=>True
 | .cl _ Φ=>Q0n Φ
 | _=>False
noncomputable def Q1j (τ : A8) : List (Str × Nat) -> List Sl -> Prop
 | [],sls=>sls = []
 | c :: cs,sls=>∃ s r,sls = s :: r /\ τ[c.2]? = some (some s) /\ capS s /\ Q1j τ cs r
section
variable {X : Cx} {H0 : Hp} {pins : Pn9} {σ : St} {H : Hp} {s : Shared} {τ : A8}
theorem Z2y (I : A1 X pins σ H s) (hR : B5 X.K H0 τ σ H) : ∀ {cs : List (Str × Nat)} {sls : List Sl},(∀ c ∈ cs,X.N[c.2]? = some c.1 /\ X.env.kindOf c.1 = some .cell /\ X.fn c.1 = true) -> Q1j τ cs sls ->
  ∃ caps : List L3,caps.map (·.name) = cs.map (·.1) /\ caps.map (·.slot) = sls /\ ∀ p ∈ caps,Q1g X s p /\ Q1v X.K H p.slot p.val
 | [],sls,_,h=>by
  have h : sls = []:=h
  subst h
  exact ⟨[],rfl,rfl,fun p hp=>absurd hp (by simp)⟩
 | c :: cs,sls,hk,h=>by
  obtain ⟨sl,r,rfl,e,hc,h⟩:=h
  obtain ⟨caps,h1,h2,h3⟩:=Z2y I hR (fun c hc=>hk c (List.mem_cons_of_mem _ hc)) h
  obtain ⟨k1,k2,k3⟩:=hk c List.mem_cons_self
  obtain ⟨v,hv,rv⟩:=hR.here c.2 sl e
  obtain ⟨m,hn,hl⟩:=I.loc
  obtain ⟨u,ru,lk⟩:=hl c.2 c.1 v k1 hv (.inr (.inl k2))
  rcases lk with ⟨z,_⟩ | ⟨_,ca,hca,o,ho,hd⟩
  ·rw [k2] at z; cases z
  refine ⟨⟨c.1,ca,o,v,sl⟩ :: caps,by rw [List.map_cons,List.map_cons,h1],by rw [List.map_cons,h2],fun p hp=>?_⟩
  rcases List.mem_cons.mp hp with rfl | hp
  ·refine ⟨⟨hca,k3,ho,⟨u,hd,ru⟩⟩,?_⟩
   cases sl with
   | dat d=>exact rv
   | cl a Φ=>exact ⟨rv.1,rv.2.1,rv.2.2,hc⟩
   | own _=>exact hc.elim
   | bor _=>exact hc.elim
   | dk _=>exact hc.elim
   | dt _=>exact hc.elim
   | ob _=>exact hc.elim
   | ins _ _ _=>exact hc.elim
   | ll _ _=>exact hc.elim
  ·exact h3 p hp
theorem Z0b {cs : List (Str × Addr)} : ∀ {caps : List L3} {cs : List (Str × Addr)},caps.map (·.name) = cs.map (·.1) -> (∀ p ∈ caps,X.env.cells.lookup p.name = some p.addr) -> (∀ y ∈ cs,X.env.cells.lookup y.1 = some y.2) -> O8 caps = cs
 | [],[],_,_,_=>rfl
 | [],_ :: _,h,_,_=>by cases h
 | _ :: _,[],h,_,_=>by cases h
 | p :: r,y :: cs,h,h1,h2=>by
  rw [List.map_cons,List.map_cons,List.cons.injEq] at h
  have e1:=h1 p List.mem_cons_self
  have e2:=h2 y List.mem_cons_self
  rw [h.1,e2] at e1
  show (p.name,p.addr) :: O8 r = y :: cs
  rw [Z0b (cs:=cs) h.2 (fun q hq=>h1 q (List.mem_cons_of_mem _ hq)) fun z hz=>h2 z (List.mem_cons_of_mem _ hz),h.1,<- Option.some.inj e1]
end
def Z3t (FC : C7) (n : Nat) (cs : List (Str × Nat)) (wb : WE) (sp : D8) (we : WE) : WE:=fun τ Q=>we τ fun r1=>M7 r1 = true /\ ∃ sls,Q1j τ cs sls /\ ∀ f Φ,FC n f Φ (J5 wb sls) -> ∃ d,sp [nrm r1,.cl f Φ] (.st d) /\ Q (.st d)
section
variable {X : Cx} {H0 : Hp} {e : Expr} {we wb : WE} {k kl : Nat} {f : Addr} {fd : FuncData} {psg ps : List Str} {sp : D8} {x : Str} {p pos lpos : Pos} {params : Arguments} {body : Expr} {sc : Scope} {c Pt : Addr} {cs : List (Str × Nat)} {clos : List (Str × Addr)}
theorem DE.callW (F : P8 X.prog X.w X.K X.mg X.base K6 k f fd psg (Q4y X.K 2 sp)) (hr : C5 k X.A) (hg : Gl X x) (hm : X.mg x = some (.ref f)) (hk : PySem.W.keepIn X.K (.ref f) = true) (hb : V6 X.K fd psg []) (ha : DE X H0 e we)
  (hT : H0 Pt = some .tab) (hB : X8 X.mg X.base) (hcode : X.env.code = .ref c) (hC : PySem.W.codeHdIn X.K c Pt = true) (hcl : closureFor sc X.env = pure clos) (hcn : cs.map (·.1) = clos.map (·.1)) (hcc : ∀ y ∈ clos,X.env.cells.lookup y.1 = some y.2)
  (hcs : ∀ c ∈ cs,X.N[c.2]? = some c.1 /\ X.env.kindOf c.1 = some .cell /\ X.fn c.1 = true) (S : Q2x ps (cs.map (·.1)) sc)
  (hbind : ∀ (qual : Str) (cl : List (Str × Addr)) (pm cd ct : Value) (us : List Value),us.length = ps.length -> bindArgs (PySem.W.kla_fn "<lambda>" qual params body sc cl pm cd ct) ⟨us,[]⟩ = pure (ps.zip us))
  (hbody : ∀ (caps : List L3) (f c' : Addr) (A : Around) (outer : List Env) (s : Shared) (H : Hp) (q : Str),caps.map (·.name) = cs.map (·.1) -> C5 kl (A.deeper (PySem.W.envX q sc s.heap.objs.size f (.ref c') (O8 caps))) -> DE (cxL X.prog X.w X.K X.mg X.base (ps ++ cs.map (·.1)) q sc f c' caps A outer s H) H body wb)
  (hdb : (x == ("__debug__" : Str)) = false:=by decide) (he : starEach [e,.Lambda params body sc lpos] X.env = (false,eval e X.env) :: starEach [.Lambda params body sc lpos] X.env:=by rfl) (he2 : starEach [.Lambda params body sc lpos] X.env = (false,eval (.Lambda params body sc lpos) X.env) :: starEach [] X.env:=by rfl)
  (hpl : (backTo pos (starEach [.Lambda params body sc lpos] X.env)).any (·.1) = false:=by rfl) (hd : defaultsOf params X.env = ([],[]):=by rfl) :
  DE X H0 (.Call (.Name x p) [e,.Lambda params body sc lpos] [] pos) (Z3t (E7 X.prog X.w X.K X.mg X.base (kl + 1)) ps.length cs wb sp we) where
 mono:=fun τ P Q g h=>ha.mono τ _ _ (fun r1 ⟨ok,sls,h1,h2⟩=>⟨ok,sls,h1,fun f Φ F=>let ⟨d,a,b⟩:=h2 f Φ F; ⟨d,a,g _ b⟩⟩) h
 pe:=by
  intro pins s σ H Q I ⟨τ,hR,h⟩
  refine wpAny_Call_Name_kw (Q9r I hg hm ?_ hdb)
  have hPA : PA X [e,.Lambda params body sc lpos] (Q9k _ (Q9k _ tNil)):=Q2f (es:=[.Lambda params body sc lpos]) ha.pe (Q2f (es:=[]) (Z1o (pos:=lpos) hB hcode hC hcl hd) Q4s he2) he
  refine PySem.W.callWith_K (h₀:=X.base) I.ok.mod.kin hk (B2 (hPA pos pins s σ H (fun vs H1=>A6 H H1 /\ ∃ v1 fa c' oc ctv r1,vs = [v1,.ref fa] /\ E1 X.K H H1 r1 v1 /\ M7 r1 = true /\ Q4l oc /\ H1 c' = some (.frz oc (.own Pt)) /\ H1 fa = some (.frz (V3 X params body sc clos c' ctv) U0) /\
   ∃ sls,Q1j τ cs sls /\ ∀ f Φ,E7 X.prog X.w X.K X.mg X.base (kl + 1) ps.length f Φ (J5 wb sls) -> ∃ d,sp [nrm r1,.cl f Φ] (.st d) /\ ∀ v H',A6 H H' -> E1 X.K H H' (.st d) v -> Q v H') I ?_) fun us s1 ⟨vs,H1,I1,r,sm1,q⟩=>⟨I1.kIn,?_⟩) he hpl
  ·refine ⟨τ,hR,ha.mono τ _ _ (fun r1 ⟨ok,sls,h1,h2⟩ v1 H1 s1 ir=>?_) h⟩
   refine ⟨s1 _ _ (hR.same _ _ hT),fun fa c' oc ctv H' sm hoc hf hc' hfo _=>?_⟩
   exact ⟨s1.trans sm,v1,fa,c',oc,ctv,r1,rfl,ir.mono sm,ok,hoc,hc',hfo,sls,h1,h2⟩
  ·obtain ⟨v1,fa,c',oc,ctv,r1,rfl,ir,ok,hoc,hc',hfo,sls,h1,h2⟩:=q
   obtain ⟨caps,n1,n2,hcp⟩:=Z2y I1 (hR.mono sm1) hcs h1
   have hca : ∀ p ∈ caps,Q1g X s1 p:=fun p hp=>(hcp p hp).1
   have ndn : (caps.map (·.name)).Nodup:=by rw [n1]; exact (List.nodup_append.mp S.nd).2.1
   have nd:=Z0q I1 ndn hca
   have hL : O8 caps = clos:=Z0b (cs:=clos) (n1.trans hcn) (fun p hp=>(hca p hp).look) hcc
   have smC:=Q4t I1 hca
   subst hL
   have LP : W3 X.K caps fa c' (V3 X params body sc (O8 caps) c' ctv) (S6 caps H1):=⟨smC _ _ hfo,⟨oc,Pt,smC _ _ hc',hoc⟩,fun p hp=>⟨Q4n nd hp,(hca p hp).cell,(hcp p hp).2.mono (Kp.of smC)⟩⟩
   have F0:=Z2g (P:=X.prog) (w:=X.w) (K:=X.K) (mg:=X.mg) (base:=X.base) (k:=kl) (f:=fa) (c':=c') (name:="<lambda>") (qual:=X.env.qual ++ "<lambda>") (params:=params) (body:=body) (sc:=sc) (pm:=(X.mg "__name__").getD .none) (ctv:=ctv) (ps:=ps) (caps:=caps) (sp:=J5 wb sls) (wb:=wb) (by rw [n1]; exact S) nd
    (fun A outer s H q hr=>by rw [n1]; exact hbody caps fa c' A outer s H q n1 hr) (fun rs r _ hs=>by
     obtain ⟨ds,d,e1,e2,e3⟩:=hs
     refine ⟨ds,d,e1,e2,?_⟩
     have : sls.map some = caps.map fun p=>some p.slot:=by rw [<- n2,List.map_map]; rfl
     rw [<- this]; exact e3)
   obtain ⟨d,g1,g2⟩:=h2 fa _ ⟨_,ps,F0,rfl,V6.all (hbind _ _ _ _ _),fun hh Hh hok _ hΦ=>⟨_,(hok _ _ hΦ.1).1,rfl⟩⟩
   refine W1g (CX:=K6) (E:=E0) F hr hb I1 nd hca r ⟨[r1,.cl fa _],.st d,rfl,⟨v1,_,rfl,(ir.mono smC).v,_,_,rfl,⟨rfl,LP,W3.mono⟩,rfl⟩,by rw [List.all_cons,ok]; rfl,g1,fun v H' sm2 iv=>⟨sm2,?_⟩⟩
   have hS : Q6 (caps.map (·.addr)) H':=fun c hcm=>by
    obtain ⟨o,u,e1,e2⟩:=Z5g (H:=H1) nd hca c hcm
    exact ⟨o,u,sm2 _ _ e1,e2⟩
   have Q2l : ∀ b u,H1 b = some u -> b ∉ caps.map (·.addr):=fun b u e hb=>by
    obtain ⟨p,hp,rfl⟩:=List.mem_map.mp hb
    rw [I1.freeC _ _ (hca p hp).look] at e; cases e
   exact g2 v _ (fun b u e=>by rw [X0 (Q2l b u (sm1 _ _ e))]; exact sm2 _ _ (smC _ _ (sm1 _ _ e))) (show A2 X.K _ d v from A2.hid hS d v iv)
@[simp] theorem Y7m {FC : C7} {n : Nat} {τ : A8} {Q : R -> Prop} : Z3t FC n cs wb sp we τ Q = we τ fun r1=>M7 r1 = true /\ ∃ sls,Q1j τ cs sls /\ ∀ f Φ,FC n f Φ (J5 wb sls) -> ∃ d,sp [nrm r1,.cl f Φ] (.st d) /\ Q (.st d):=rfl
end
end TK
end
section
namespace L2
open PySem PySem.Spec PyProof.Rows TK
theorem Y8w {P : Program} {w : World} {K : Fg9} {mg mb : Str -> Option Value} {k : Nat} {fa a : Addr} {fd : FuncData} {x : Str} {sp : Sp} {s₁ : Shared} {vs : List Value} {ns : List Int} {ts : List Addr}
  (KX : K.In s₁.heap) (hns : s₁.heap.Ns mainGlobals mg) (hb : s₁.heap.Ns builtinsNs mb) (hbb : ∀ x : Str,x ≠ "__name__" -> mb x = bootBuiltins x) (hlim : s₁.heap.NoLimit) (hbm : X8 mg s₁.heap) (hg : s₁.gens = #[])
  (hts : ∀ Pt ∈ ts,s₁.heap.get? Pt = some (PySem.W.tabObj #[])) (hcd : ∀ Pt ∈ ts,∃ c,PySem.W.codeHdIn K c Pt = true) (hKt : ∀ Pt ∈ ts,K.lookup Pt = none)
  (ha : s₁.heap.get? a = some { cls:=.type "list",data:=.seq vs.toArray }) (hi : IntsAre vs ns) (hl : ns.length <= sizeLine) (hr : C5 k callerA)
  (F : ∀ base : Heap,K.In base -> base.Ns mainGlobals mg -> X8 mg base -> P8 P w K mg base K6 k fa fd [x] sp) (hbind : ∀ (s : Shared) (u : Value),BindsTo s fd ⟨[u],[]⟩ [(x,u)])
  (hsp : ∀ H : Hp,(∀ Pt ∈ ts,H Pt = some .tab) -> FzL K H a (ns.map V.int) -> sp [.ref a] H (fun v H'=>v = .bl true /\ ∀ Pt ∈ ts,H' Pt = some .tab) fun _ _ _=>False) :
  codeAny (model P w) callerA (.call (.ref fa) ⟨[.ref a],[]⟩) (fun r s'=>r = .ok (.ret (.bool true)) /\ OldK s₁.heap s'.heap /\ s'.os = s₁.os /\ AllBare s'.gens) s₁:=by
 have rv:=Y1l hi
 have lenV:=hi.length
 have core : ∀ H : Hp,(∀ b u,H b = some u -> (b ∈ ts /\ u = .tab) \/ (b = a /\ K.lookup a = none /\ u = .frz { cls:=.type "list",data:=.seq vs.toArray } (.lst (ns.map V.int)))) -> (∀ Pt ∈ ts,H Pt = some .tab) -> FzL K H a (ns.map V.int) ->
   codeAny (model P w) callerA (.call (.ref fa) ⟨[.ref a],[]⟩) (fun r s'=>r = .ok (.ret (.bool true)) /\ OldK s₁.heap s'.heap /\ s'.os = s₁.os /\ AllBare s'.gens) s₁:=by
  intro H hO hT hS
  have hok : F1 P w H s₁.heap:=fun b u e=>by
   rcases hO b u e with ⟨hb,rfl⟩ | ⟨rfl,_,rfl⟩
   ·exact ⟨#[],hts b hb,trivial,fun pos cv q=>by cases q⟩
   ·exact ⟨ha,by rw [List.length_map]; exact hl,vs,_,rv,ha⟩
  have base_of : ∀ {b : Addr} {o : Obj},s₁.heap.get? b = some o -> H b = none -> (Z6 s₁.heap H).get? b = some o:=fun e n=>W0c e n
  have noA : ∀ {b : Addr} {o : Obj},s₁.heap.get? b = some o -> (∀ xs,o.data ≠ .fields xs) -> (∀ xs n,o.data ≠ .seq xs n) -> H b = none:=fun {b o} e d1 d2=>by
   cases q : H b with
   | none=>rfl
   | some u =>
    rcases hO b u q with ⟨hb,rfl⟩ | ⟨rfl,_,rfl⟩
    ·rw [hts b hb] at e; cases e; exact absurd rfl (d1 _)
    ·rw [ha] at e; cases e; exact absurd rfl (d2 _ _)
  have nsK : ∀ {b : Addr} {m : Str -> Option Value},s₁.heap.Ns b m -> (Z6 s₁.heap H).Ns b m:=fun {b m} ⟨o,es,ep,e,d,r⟩=>⟨o,es,ep,base_of e (noA e (fun xs z=>by rw [d] at z; cases z) (fun xs n z=>by rw [d] at z; cases z)),d,r⟩
  have hKb : K.In (Z6 s₁.heap H):=fun b o e=>base_of (KX b o e) (by
   cases q : H b with
   | none=>rfl
   | some u =>
    rcases hO b u q with ⟨hb,rfl⟩ | ⟨rfl,hk,rfl⟩
    ·rw [hKt b hb] at e; cases e
    ·rw [hk] at e; cases e)
  have hM : Mod K mg (Z6 s₁.heap H):=⟨hKb,nsK hns,⟨mb,nsK hb,hbb⟩,let ⟨mc,h1,h2⟩:=hlim; ⟨mc,nsK h1,h2⟩⟩
  have hBM : X8 mg (Z6 s₁.heap H):=by
   obtain ⟨bm,ob,b1,b2,b3,b4,b5,b6⟩:=hbm
   exact ⟨bm,ob,b1,b2,base_of b3 (noA b3 (fun xs z=>by rw [b6] at z; cases z) (fun xs n z=>by rw [b6] at z; cases z)),b4,b5,b6⟩
  have e0 : Q4e P w K mg (Z6 s₁.heap H) callerA [] s₁ H:=⟨rfl,hM,fun b o e=>W3w e,Nat.le_of_eq (Y5c _ _),trivial,fun b hb=>absurd (show b ∈ ([] : List Addr) from hb) (by simp),hok,.of_eq hg⟩
  refine codeAny_mono ((F _ hKb (nsK hns) hBM).run callerA [] s₁ H ⟨[.ref a],[]⟩ [.ref a] [.ref a] _ _ hr e0 (hbind s₁ (.ref a)) (.cons rfl .nil) (hsp H hT hS)) fun r s' h=>?_
  cases r with
  | error e=>exact (show False from h).elim
  | ok fl =>
   cases fl with
   | next=>exact False.elim h
   | brk=>exact False.elim h
   | cont=>exact False.elim h
   | ret u =>
    obtain ⟨v,H',os,bare,un,hok',r',q,hT'⟩:=h
    have q' : v = .bl true:=q
    subst q'
    obtain rfl : u = Value.bool true:=r'
    refine ⟨rfl,⟨fun b o e=>?_,fun b o e=>un.there b o e (by simp)⟩,os,bare⟩
    cases q : H b with
    | none=>exact .inl (un.keep b o e q (by intro z; exact absurd (show b ∈ ([] : List Addr) from z) (by simp)) (by simp))
    | some u =>
     rcases hO b u q with ⟨hb,rfl⟩ | ⟨rfl,hk,rfl⟩
     ·obtain ⟨ps,g1,_⟩:=(show F6 P w H' s'.heap b .tab from hok' b _ (hT' b hb))
      obtain ⟨c,hc⟩:=hcd b hb
      have e1:=hts b hb
      rw [e] at e1; cases e1
      refine .inr (.inl ⟨((PySem.W.codeHd_of_K KX hc).tab (hts b hb)).isCodeTable,rfl,#[],ps,rfl,?_⟩)
      rw [g1]; simp
     ·have z2:=un.frzs b _ _ q
      obtain ⟨e2,_⟩:=hok' b _ z2
      rw [ha] at e; cases e
      exact .inl e2
 have nta : a ∉ ts:=fun hb=>by
  have:=hts a hb
  rw [ha] at this; cases this
 cases hk : K.lookup a with
 | some o =>
  have e:=KX a o hk
  rw [ha] at e
  cases e
  refine core (fun b=>if b ∈ ts then some .tab else none) (fun b u e=>?_) (fun Pt h=>if_pos h) (.inr ⟨_,vs.toArray,_,hk,rfl,rfl,rfl,by rw [List.size_toArray,lenV]; exact hl,by simpa using rv⟩)
  by_cases hb : b ∈ ts
  ·have e:=(if_pos hb).symm.trans e; cases e; exact .inl ⟨hb,rfl⟩
  ·have e:=(if_neg hb).symm.trans e; cases e
 | none =>
  refine core (fun b=>if b ∈ ts then some .tab else if b = a then some (.frz { cls:=.type "list",data:=.seq vs.toArray } (.lst (ns.map V.int))) else none) (fun b u e=>?_) (fun Pt h=>if_pos h) (.inl ⟨_,(if_neg nta).trans (if_pos rfl)⟩)
  by_cases hb : b ∈ ts
  ·have e:=(if_pos hb).symm.trans e; cases e; exact .inl ⟨hb,rfl⟩
  ·have e:=(if_neg hb).symm.trans e
   by_cases ha : b = a
   ·have e:=(if_pos ha).symm.trans e; cases e; exact .inr ⟨ha,hk,rfl⟩
   ·have e:=(if_neg ha).symm.trans e; cases e
theorem Y7r {l : PySem.W.OpenLaw} {n k : Nat} {q : Program} {loose : List Str} {XP : (Str -> Option Value) -> Heap -> Prop} {YP : World -> Heap -> Prop} {d : DefRec} {K : Params -> Fg9} {sp : World -> Sp} {x : Str} {ts : List Addr}
  (hn : l.most = some n) (hn2 : n <= sizeLine) (hdf : d.params.defaults = []) (hr : C5 k callerA)
  (hY : ∀ (w : World) (h : Heap),YP w h -> (K w.params).In h) (hYt : ∀ (w : World) (h : Heap),YP w h -> ∀ Pt ∈ ts,h.get? Pt = some (PySem.W.tabObj #[]))
  (F : ∀ (w : World) (mg : Str -> Option Value) (fa : Addr) (h : Heap),(K w.params).In h -> h.Ns mainGlobals mg -> mg d.name = some (.ref fa) ->
   (∀ Pt ∈ ts,(∃ c,PySem.W.codeHdIn (K w.params) c Pt = true) /\ (K w.params).lookup Pt = none) /\
   ∃ fd : FuncData,(∀ (s : Shared) (u : Value),BindsTo s fd ⟨[u],[]⟩ [(x,u)]) /\
    ∀ base : Heap,(K w.params).In base -> base.Ns mainGlobals mg -> X8 mg base -> P8 l.prog w (K w.params) mg base K6 k fa fd [x] (sp w))
  (hsp : ∀ (w : World) (H : Hp) (a : Addr) (ns : List Int),ns.length <= n -> (∀ Pt ∈ ts,H Pt = some .tab) -> FzL (K w.params) H a (ns.map V.int) -> sp w [.ref a] H (fun v H'=>v = .bl true /\ ∀ Pt ∈ ts,H' Pt = some .tab) fun _ _ _=>False) :
  PySem.W.WalkO q loose XP YP l.row.toRowW d [] (fun f vs=>PySem.call f vs):=by
 refine Att.attach_call hn hdf fun w s₀ s₁ mg mb fa o pm cd doc a vs ns G Y ho hd hcd hmg hobj hints hlen hg=>?_
 have KX:=hY w _ Y
 obtain ⟨hts,fd,hb,hF⟩:=F w mg fa _ KX G.T.g hmg
 exact Y8w KX G.T.g G.T.b G.T.builtins G.T.nolimit G.T.bmain hg (hYt w _ Y) (fun Pt h=>(hts Pt h).1) (fun Pt h=>(hts Pt h).2) hobj hints (Nat.le_trans hlen hn2) hr hF hb fun H hT hS=>hsp w H a ns hlen hT hS
end L2
namespace TK
open PySem PySem.Spec PyProof.Rows L2
def Q5z (ts : List Addr) (H : Hp) : Prop:=∀ Pt ∈ ts,H Pt = some .tab
noncomputable abbrev D9:=List R -> (R -> Prop) -> Prop
noncomputable def Q3m (K : Fg9) (ts : List Addr) (n : Nat) (sp : D9) : Sp:=fun vs H Q _=>∃ (rs : List R) (P : R -> Prop),rs.length = n /\ L6 K (fun _=>none) H rs vs /\ rs.all M7 = true /\ Q5z ts H /\ sp (rs.map nrm) P /\ ∀ r v H',P r -> A6 H H' -> E1 K H H' r v -> Q v H'
abbrev P0 (P : Program) (w : World) (K : Fg9) (mg : Str -> Option Value) (base : Heap) (ts : List Addr) (k : Nat) (f : Addr) (fd : FuncData) (ps : List Str) (sp : D9) : Prop:=P8 P w K mg base K6 k f fd ps (Q3m K ts ps.length sp)
end TK
end
section
namespace TK
open PySem PySem.Spec PyProof.Rows L2
structure O6 (K : Fg9) (x qual : Str) (st : Stmt) (f : Addr) (fd : FuncData) (c Pt : Addr) : Prop where
 ex : ∃ (oc : Value) (od : Option Addr) (kV doc pm : Value) (an : Option Addr) (ct : Value) (osl : Array (Option Value)),
  fd = PySem.W.fnOf x qual (X9 st) (Q3 st) (C0 st) .none kV doc pm an (.ref c) ct /\ K.lookup f = some ⟨oc,od,.func fd,osl⟩ /\ PySem.W.codeIn K (.ref c) qual = true
 hd : PySem.W.codeHdIn K c Pt = true
noncomputable abbrev L8 (P : R -> Prop) : E6:={ nx:=fun _=>P (.st .non),rt:=P,bk:=fun _=>False,ct:=fun _=>False }
section
variable {P : Program} {w : World} {K : Fg9} {mg : Str -> Option Value} {base : Heap} {ts : List Addr} {x qual : Str} {st : Stmt} {f : Addr} {fd : FuncData} {N ps : List Str} {k : Nat} {sp : D9}
theorem Z7b {cdv : Value} {A : Around} {outer : List Env} {s : Shared} {H : Hp} {E : XK} {ws : WS} {rs : List R} {vs : List V} {Q : VK} {Pr : R -> Prop} {X : Cx} (hX : X.K = K) (hd : A4 X H (Q3 st) ws) (hl : rs.length = ps.length) (al : L6 K (fun _=>none) H rs vs) (ok : rs.all M7 = true)
  (h1 : sp (rs.map nrm) Pr) (h2 : ∀ r v H',Pr r -> A6 H H' -> E1 K H H' r v -> Q v H') (hw : ∀ rs Pr,rs.length = ps.length -> sp rs Pr -> ws (L8 Pr) (E4 N rs)) :
  ∃ t,PSs X (Q3 st) t /\ t { nx:=fun _ H'=>Q .non H',rt:=Q } (start N vs) H:=by
 subst hX
 refine ⟨_,hd.ps,E4 N rs,Z3l al ok,?_⟩
 have hw:=hw (rs.map nrm) Pr (by rw [List.length_map]; exact hl) h1
 rw [Z1d] at hw
 refine hd.mono _ _ _ ⟨fun τ h σ H' _ hR=>?_,fun r' h v H' sm ir=>?_,fun _ h=>False.elim h,fun _ h=>False.elim h⟩ hw
 ·exact h2 (.st .non) .non H' h hR.same (A2.s_non (K:=X.K) (H:=H'))
 ·exact h2 r' v H' h sm ir
theorem O5.okP {ws : WS} (F : O5 K x qual st f fd) (S : G2 N ps (C0 st))
  (hbody : ∀ (cdv : Value) (A : Around) (outer : List Env) (s : Shared) (H : Hp) (E : XK),Q5z ts H -> C5 k (A.deeper (envOfC qual (C0 st) s.heap.objs.size f cdv)) -> A4 (V0 K6 P w K mg base N qual (C0 st) f cdv A outer s H E).nox H (Q3 st) ws)
  (hw : ∀ rs Pr,rs.length = ps.length -> sp rs Pr -> ws (L8 Pr) (E4 N rs)) : P0 P w K mg base ts (k + 1) f fd ps sp:=by
 refine F.ok S (fun vs H Q E h=>?_) (fun cdv A outer s H vs Q E hr h=>?_)
 ·obtain ⟨rs,r,hl,al,_⟩:=h
  rw [<- al.length]; exact hl
 obtain ⟨rs,Pr,hl,al,ok,hT,h1,h2⟩:=h
 exact Z7b (st:=st) (cdv:=cdv) (A:=A) (outer:=outer) (s:=s) (E:=E) rfl (hbody cdv A outer s H E hT hr) hl al ok h1 h2 hw
theorem O6.okP {c Pt : Addr} {ws : WS} (F : O6 K x qual st f fd c Pt) (S : G2 N ps (C0 st))
  (hbody : ∀ (A : Around) (outer : List Env) (s : Shared) (H : Hp) (E : XK),Q5z ts H -> C5 k (A.deeper (envOfC qual (C0 st) s.heap.objs.size f (.ref c))) -> A4 (V0 K6 P w K mg base N qual (C0 st) f (.ref c) A outer s H E).nox H (Q3 st) ws)
  (hw : ∀ rs Pr,rs.length = ps.length -> sp rs Pr -> ws (L8 Pr) (E4 N rs)) : P0 P w K mg base ts (k + 1) f fd ps sp:=by
 obtain ⟨oc,od,kV,doc,pm,an,ct,osl,rfl,lk,hcd⟩:=F.ex
 refine Y0g lk hcd S (fun vs H Q E h=>?_) fun A outer s H vs Q E hr h=>?_
 ·obtain ⟨rs,r,hl,al,_⟩:=h
  rw [<- al.length]; exact hl
 obtain ⟨rs,Pr,hl,al,ok,hT,h1,h2⟩:=h
 obtain ⟨t,ht,q⟩:=Z7b (st:=st) (cdv:=.ref c) (A:=A) (outer:=outer) (s:=s) (E:=E) rfl (hbody A outer s H E hT hr) hl al ok h1 h2 hw
 exact ⟨t,ht.nox,q⟩
end
section
variable {X : Cx} {H0 : Hp} {e : Expr} {es : List Expr} {wr : WA} {k : Nat} {f : Addr} {fd : FuncData} {ps : List Str} {sp : D9} {x : Str} {p pos : Pos} {ts : List Addr}
def T8 (sp : D9) : Prop:=∀ rs P Q,(∀ r,P r -> Q r) -> sp rs P -> sp rs Q
def E9 (sp : D9) (wr : WA) : WE:=fun τ Q=>wr τ fun rs=>rs.all M7 = true /\ sp (rs.map nrm) Q
theorem DE.callP (hm0 : T8 sp) (F : P8 X.prog X.w X.K X.mg X.base K6 k f fd ps (Q3m X.K ts (e :: es).length sp)) (hr : C5 k X.A) (hT : Q5z ts H0) (hg : Gl X x) (hm : X.mg x = some (.ref f)) (hk : PySem.W.keepIn X.K (.ref f) = true) (hb : V6 X.K fd ps [])
  (ha : DA X H0 (e :: es) wr) (hdb : (x == ("__debug__" : Str)) = false:=by decide) (he : starEach (e :: es) X.env = (false,eval e X.env) :: starEach es X.env:=by rfl) (hpl : (backTo pos (starEach es X.env)).any (·.1) = false:=by rfl) :
  DE X H0 (.Call (.Name x p) (e :: es) [] pos) (E9 sp wr) where
 mono:=fun τ P Q g h=>ha.mono τ _ _ (fun rs ⟨ok,h1⟩=>⟨ok,hm0 _ _ _ g h1⟩) h
 pe:=O0 (Z9v F hr hg hm hk hb .nil Q9e ha.pa hdb he hpl) fun σ H Q ⟨τ,hR,h⟩=>⟨τ,hR,ha.mono τ _ _ (fun rs ⟨hln,ok,h1⟩ vs H1 s1 irs=>by
  refine ⟨rs,_,hln,?_,ok,fun Pt hp=>s1 _ _ (hR.same _ _ (hT Pt hp)),h1,fun r v H' q s2 ir=>q v H' (s1.trans s2) (ir.older s1)⟩
  rw [List.append_nil]
  exact irs.v) (ha.len τ _ h)⟩
@[simp] theorem S4 {τ : A8} {Q : R -> Prop} : E9 sp wr τ Q = wr τ fun rs=>rs.all M7 = true /\ sp (rs.map nrm) Q:=rfl
end
section
variable {P : Program} {w : World} {K : Fg9} {mg : Str -> Option Value} {base : Heap} {ts : List Addr} {x qual : Str} {st : Stmt} {f : Addr} {fd : FuncData} {N ps : List Str} {k kl : Nat} {sp : D9} {c Pt : Addr}
 {st1 st2 : Stmt} {params : Arguments} {body : Expr} {sc : Scope} {lpos rpos : Pos} {cs : List (Str × Nat)} {lps : List Str} {w1 w2 : WS} {wb : WE}
def Q3x (FC : C7) (n : Nat) (cs : List (Str × Nat)) (wb : WE) (w1 w2 : WS) (Pr : R -> Prop) (τ : A8) : Prop :=
 w1 { nx:=w2 { nx:=fun τ'=>∃ sls,Q1j τ' cs sls /\ ∀ g Φ,FC n g Φ (J5 wb sls) -> Pr (.cl g Φ),rt:=fun _=>False,bk:=fun _=>False,ct:=fun _=>False },rt:=fun _=>False,bk:=fun _=>False,ct:=fun _=>False } τ
theorem W2v {X : Cx} {σ0 : St} {τ0 : A8} {s1 : Shared} {st1 st2 : Stmt} {params : Arguments} {body : Expr} {sc : Scope} {lpos rpos : Pos} {cs : List (Str × Nat)} {lps : List Str} {w1 w2 : WS} {wb : WE} {kl : Nat} {c Pt : Addr} {clos : List (Str × Addr)} {Pr : R -> Prop} {Q : VK}
  (I0 : A1 X.nox [] σ0 X.H₀ s1) (hR0 : B5 X.K X.H₀ τ0 σ0 X.H₀) (hex : X.ex = []) (d1 : DS X.nox X.H₀ st1 w1) (d2 : DS X.nox X.H₀ st2 w2)
  (hT : X.H₀ Pt = some .tab) (hB : X8 X.mg X.base) (hcode : X.env.code = .ref c) (hC : PySem.W.codeHdIn X.K c Pt = true) (hcl : closureFor sc X.env = pure clos) (hcn : cs.map (·.1) = clos.map (·.1)) (hcc : ∀ y ∈ clos,X.env.cells.lookup y.1 = some y.2)
  (hcs : ∀ y ∈ cs,X.N[y.2]? = some y.1 /\ X.env.kindOf y.1 = some .cell /\ X.fn y.1 = true) (S : Q2x lps (cs.map (·.1)) sc)
  (hbind : ∀ (qual : Str) (cl : List (Str × Addr)) (pm cd ct : Value) (us : List Value),us.length = lps.length -> bindArgs (PySem.W.kla_fn "<lambda>" qual params body sc cl pm cd ct) ⟨us,[]⟩ = pure (lps.zip us))
  (hbody : ∀ (caps : List L3) (g c' : Addr) (A : Around) (outer : List Env) (s : Shared) (H : Hp) (q : Str),caps.map (·.name) = cs.map (·.1) -> C5 kl (A.deeper (PySem.W.envX q sc s.heap.objs.size g (.ref c') (O8 caps))) -> DE (cxL X.prog X.w X.K X.mg X.base (lps ++ cs.map (·.1)) q sc g c' caps A outer s H) H body wb)
  (hdf : defaultsOf params X.env = ([],[])) (hw : Q3x (E7 X.prog X.w X.K X.mg X.base (kl + 1)) lps.length cs wb w1 w2 Pr τ0) (hQ : ∀ r v H',Pr r -> A6 X.H₀ H' -> E1 X.K X.H₀ H' r v -> Q v H') :
  wpAny (model X.prog X.w) X.A (execs [st1,st2,.Return (some (.Lambda params body sc lpos)) rpos] X.env) (fun fl s'=>∃ u,fl = .ret u /\ CE X.outer X.prog X.w X.H₀ X.s₀ Q u s') (fun _ _=>False) s1:=by
 refine wpAny_execs_cons (B2 (d1.ps [] s1 σ0 X.H₀ { nx:=fun σ' H'=>∃ τ',B5 X.K X.H₀ τ' σ' H' /\ w2 { nx:=fun τ'=>∃ sls,Q1j τ' cs sls /\ ∀ g Φ,E7 X.prog X.w X.K X.mg X.base (kl + 1) lps.length g Φ (J5 wb sls) -> Pr (.cl g Φ),rt:=fun _=>False,bk:=fun _=>False,ct:=fun _=>False } τ',rt:=fun _ _=>False,bk:=fun _ _=>False,ct:=fun _ _=>False } I0
  ⟨τ0,hR0,d1.mono _ _ _ (by exact ⟨fun τ h σ H' _ hR=>⟨τ,hR,h⟩,fun _ h=>False.elim h,fun _ h=>False.elim h,fun _ h=>False.elim h⟩) hw⟩) fun fl s2 q=>?_)
 cases fl with
 | ret v=>obtain ⟨_,_,_,_,_,q⟩:=q; exact False.elim q
 | brk=>obtain ⟨_,_,_,q⟩:=q; exact False.elim q
 | cont=>obtain ⟨_,_,_,q⟩:=q; exact False.elim q
 | next =>
 obtain ⟨σ2,H2,I2,τ2,hR2,hw2⟩:=q
 refine wpAny_execs_cons (B2 (d2.ps [] s2 σ2 H2 { nx:=fun σ' H'=>∃ τ',B5 X.K X.H₀ τ' σ' H' /\ ∃ sls,Q1j τ' cs sls /\ ∀ g Φ,E7 X.prog X.w X.K X.mg X.base (kl + 1) lps.length g Φ (J5 wb sls) -> Pr (.cl g Φ),rt:=fun _ _=>False,bk:=fun _ _=>False,ct:=fun _ _=>False } I2
  ⟨τ2,hR2,d2.mono _ _ _ (by exact ⟨fun τ h σ H' _ hR=>⟨τ,hR,h⟩,fun _ h=>False.elim h,fun _ h=>False.elim h,fun _ h=>False.elim h⟩) hw2⟩) fun fl s3 q=>?_)
 cases fl with
 | ret v=>obtain ⟨_,_,_,_,_,q⟩:=q; exact False.elim q
 | brk=>obtain ⟨_,_,_,q⟩:=q; exact False.elim q
 | cont=>obtain ⟨_,_,_,q⟩:=q; exact False.elim q
 | next =>
 obtain ⟨σ3,H3,I3,τ3,hR3,sls,h1,h2⟩:=q
 refine wpAny_execs_cons (wpAny_Return_some (B2 (Z1o (X:=X.nox) (pos:=lpos) (P:=Pt) (c:=c) hB hcode hC hcl hdf [] s3 σ3 H3 (fun v H4=>A6 H3 H4 /\ ∃ g c' oc ctv,v = .ref g /\ Q4l oc /\ H4 c' = some (.frz oc (.own Pt)) /\ H4 g = some (.frz (V3 X.nox params body sc clos c' ctv) U0)) I3 ⟨hR3.same _ _ hT,fun g c' oc ctv H' sm hoc _ hc' hfo _=>⟨sm,g,c',oc,ctv,rfl,hoc,hc',hfo⟩⟩) fun u s4 ⟨v,H4,I4,rv,sm,g,c',oc,ctv,ev,hoc,hc',hfo⟩=>?_))
 subst ev
 obtain rfl : u = Value.ref g:=rv
 have hR4:=hR3.mono sm
 obtain ⟨caps,n1,n2,hcp⟩:=Z2y (X:=X.nox) I4 hR4 hcs h1
 have hca : ∀ p ∈ caps,Q1g X.nox s4 p:=fun p hp=>(hcp p hp).1
 have ndn : (caps.map (·.name)).Nodup:=by rw [n1]; exact (List.nodup_append.mp S.nd).2.1
 have nd:=Z0q I4 ndn hca
 have hL : O8 caps = clos:=Z0b (X:=X) (cs:=clos) (n1.trans hcn) (fun p hp=>(hca p hp).look) hcc
 have smC:=Q4t I4 hca
 subst hL
 have LP : W3 X.K caps g c' (V3 X.nox params body sc (O8 caps) c' ctv) (S6 caps H4):=⟨smC _ _ hfo,⟨oc,Pt,smC _ _ hc',hoc⟩,fun p hp=>⟨Q4n nd hp,(hca p hp).cell,(hcp p hp).2.mono (Kp.of smC)⟩⟩
 have F0:=Z2g (P:=X.prog) (w:=X.w) (K:=X.K) (mg:=X.mg) (base:=X.base) (k:=kl) (f:=g) (c':=c') (name:="<lambda>") (qual:=X.env.qual ++ "<lambda>") (params:=params) (body:=body) (sc:=sc) (pm:=(X.mg "__name__").getD .none) (ctv:=ctv) (ps:=lps) (caps:=caps) (sp:=J5 wb sls) (wb:=wb) (by rw [n1]; exact S) nd
  (fun A outer s H q hr=>by rw [n1]; exact hbody caps g c' A outer s H q n1 hr) (fun rs r _ hs=>by
   obtain ⟨ds,d,e1,e2,e3⟩:=hs
   refine ⟨ds,d,e1,e2,?_⟩
   have : sls.map some = caps.map fun p=>some p.slot:=by rw [<- n2,List.map_map]; rfl
   rw [<- this]; exact e3)
 have hPr:=h2 g _ ⟨_,lps,F0,rfl,V6.all (hbind _ _ _ _ _),fun hh Hh hok _ hΦ=>⟨_,(hok _ _ hΦ.1).1,rfl⟩⟩
 have smA : A6 X.H₀ (S6 caps H4):=(hR4.same).trans smC
 have ge : ∀ p ∈ caps,X.s₀.heap.objs.size <= p.addr:=fun p hp=>I4.ok.cab _ _ (hca p hp).own (hca p hp).look
 have nex : ∀ b : Addr,b ∉ X.nox.ex:=fun b=>by show b ∉ X.ex; rw [hex]; simp
 have B:=I4.base
 refine ⟨_,rfl,.ref g,S6 caps H4,I4.os,I4.bare,⟨fun b o e n hb _=>B.keep b o e n hb (nex b),fun b o e n hb _=>B.slot b o e n hb (nex b),fun b o e n _=>?_,fun b o e _=>B.there b o e (nex b),fun b xs e=>smA _ _ e,fun b o u e=>smA _ _ e,fun b ps e=>⟨#[],by rw [smA _ _ e]; simp⟩⟩,(Z6r I4 nd hca).hok,rfl,hQ _ _ _ hPr smA ⟨rfl,LP,W3.mono⟩⟩
 rw [Q5q]
 ·exact B.free b o e n (nex b)
 ·intro hb
  obtain ⟨p,hp,rfl⟩:=List.mem_map.mp hb
  exact absurd (Heap.lt_size e) (Nat.not_lt.mpr (ge p hp))
theorem O6.okL (F : O6 K x qual st f fd c Pt) (S : G2 N ps (C0 st)) (hbd : Q3 st = [st1,st2,.Return (some (.Lambda params body sc lpos)) rpos]) (hBM : X8 mg base) (hPt : Pt ∈ ts)
  (h1 : ∀ (A : Around) (outer : List Env) (s : Shared) (H : Hp) (E : XK),C5 k (A.deeper (envOfC qual (C0 st) s.heap.objs.size f (.ref c))) -> DS (V0 K6 P w K mg base N qual (C0 st) f (.ref c) A outer s H E).nox H st1 w1)
  (h2 : ∀ (A : Around) (outer : List Env) (s : Shared) (H : Hp) (E : XK),C5 k (A.deeper (envOfC qual (C0 st) s.heap.objs.size f (.ref c))) -> DS (V0 K6 P w K mg base N qual (C0 st) f (.ref c) A outer s H E).nox H st2 w2)
  (clos : Nat -> List (Str × Addr)) (hcl : ∀ n : Nat,closureFor sc (envOfC qual (C0 st) n f (.ref c)) = pure (clos n)) (hcn : ∀ n,cs.map (·.1) = (clos n).map (·.1)) (hcc : ∀ n,∀ y ∈ clos n,(envOfC qual (C0 st) n f (.ref c)).cells.lookup y.1 = some y.2)
  (hcs : ∀ y ∈ cs,N[y.2]? = some y.1 /\ (C0 st).names.lookup y.1 = some .cell) (SL : Q2x lps (cs.map (·.1)) sc)
  (hbind : ∀ (qual : Str) (cl : List (Str × Addr)) (pm cd ct : Value) (us : List Value),us.length = lps.length -> bindArgs (PySem.W.kla_fn "<lambda>" qual params body sc cl pm cd ct) ⟨us,[]⟩ = pure (lps.zip us))
  (hbody : ∀ (caps : List L3) (g c' : Addr) (A : Around) (outer : List Env) (s : Shared) (H : Hp) (q : Str),caps.map (·.name) = cs.map (·.1) -> C5 kl (A.deeper (PySem.W.envX q sc s.heap.objs.size g (.ref c') (O8 caps))) -> DE (cxL P w K mg base (lps ++ cs.map (·.1)) q sc g c' caps A outer s H) H body wb)
  (hdf : ∀ n : Nat,defaultsOf params (envOfC qual (C0 st) n f (.ref c)) = ([],[]))
  (hw : ∀ rs Pr,rs.length = ps.length -> sp rs Pr -> Q3x (E7 P w K mg base (kl + 1)) lps.length cs wb w1 w2 Pr (E4 N rs)) : P0 P w K mg base ts (k + 1) f fd ps sp:=by
 obtain ⟨oc,od,kV,doc,pm,an,ct,osl,rfl,lk,hcd⟩:=F.ex
 refine ⟨fun vs H Q E h=>?_,fun A outer s H args us vs Q E hr e0 hb r hsp=>?_⟩
 ·obtain ⟨rs,Pr,hl,al,_⟩:=h
  rw [<- al.length]; exact hl
 obtain ⟨rs,Pr,hl0,al,ok,hT,hs1,hs2⟩:=hsp
 have hl : vs.length = ps.length:=by rw [<- al.length]; exact hl0
 have KX : K.In s.heap:=e0.mod.kin.keeps fun b o e=>(e0.bs b o e).1
 have lim : s.heap.NoLimit:=e0.mod.nolimit.keeps fun b o e=>(e0.bs b o e).1
 have hkind : ∀ y ∈ ps.zip us,(C0 st).names.lookup y.1 = some .local \/ ((C0 st).names.lookup y.1 = some .cell /\ ((cellsFrom (s.heap.objs.size + 1) (C0 st).names []).lookup y.1).isSome = true):=fun ⟨n,v⟩ hy=>by
  rcases S.par n (List.of_mem_zip hy).1 with q | q
  ·exact .inl q
  ·exact .inr ⟨q,PySem.W.cellsFrom_some _ _ _ (.inl q)⟩
 refine codeAny_call_function hr.depth (KX _ _ lk) rfl S.co S.gen rfl (PySem.W.codeRec_of KX hcd) (hb _ _ _ _ ?_)
 refine wpAny_newFunctionEnv_cells S.kind hkind fun env he s1 x1=>?_
 subst he
 refine ⟨lim.keeps x1.toInCall.keep,codeAny_func ?_⟩
 have I0 : A1 (V0 K6 P w K mg base N qual (C0 st) f (.ref c) A outer s H E) [] (start N vs) H s1:=Z5t S hr.hd e0 hl r x1
 have hw0:=hw (rs.map nrm) Pr (by rw [List.length_map]; exact hl0) hs1
 rw [Z1d] at hw0
 rw [hbd]
 refine wpAny_mono (W2v (X:=V0 K6 P w K mg base N qual (C0 st) f (.ref c) A outer s H E) (kl:=kl) (c:=c) (Pt:=Pt) (clos:=clos s.heap.objs.size) (I0.wish _) (Z3l al ok) rfl (h1 A outer s H E (hr.deeper _)) (h2 A outer s H E (hr.deeper _)) (hT Pt hPt) hBM rfl F.hd (hcl _) (hcn _) (hcc _)
  (fun y hy=>⟨(hcs y hy).1,(hcs y hy).2,rfl⟩) SL hbind hbody (hdf _) hw0 hs2) (fun fl s' ⟨u,e,q⟩=>by subst e; exact q) fun _ _ h=>False.elim h
end
end TK
end
section
namespace L2
open PySem PySem.Spec PyProof.Rows
section
variable {X : Cx} {k v : Expr} {tk tv : TE} {pos : Pos}
theorem W1c (hu : X.A.units < cLine) (hk : PE X k tk) (hv : PE X v tv) : PE X (.Dict [some k] [v] pos) (fun σ H Q=>∀ p,H p = none -> tk σ (upd H p (.dT [])) fun x H1=>tv σ H1 fun y H2 =>
  H2 p = some (.dT []) /\ ∃ b ks,x = .ref b /\ H2 b = some (.tup (ks.map kV)) /\ Q (.ref p) (upd H2 p (.dT [(ks,y)]))):=by
 intro pins s σ H Q I q
 have hn:=I.hok.fresh (Nat.le_refl s.heap.objs.size)
 have I1:=I.laid (a:=s.heap.objs.size) (o:=.dT []) (h':=s.heap.push { cls:=.type "dict",data:=.dict #[] }) (t':=s.toks) (fun _ _ q=>Heap.get?_push_of_some _ q) (Nat.le_refl _) (Y9z s.heap I.big)
 refine wpAny_Dict_any rfl rfl (by simp) (by simp) (pairTrees_cons_walk (B2 (hk pins _ σ _ _ I1 (q _ hn)) fun u s1 ⟨x,H1,I2,rx,q1⟩=>B2 (hv pins s1 σ H1 _ I2 q1) fun w2 s2 ⟨y,H2,I3,ry,e,b,ks,ex,eb,q2⟩=>?_))
 refine pairTrees_nil_walk ?_
 subst ex
 obtain rfl : u = Value.ref b:=rx
 obtain ⟨z,hd,xs,rel,dd⟩:=Y0f I3.hok e
 cases rel
 unfold storeAll
 rw [List.forIn_cons]
 refine wpAny_bind (wpAny_bind (wpAny_dictSet_heap (hsz:=by simp) (knd:=tupleKind (J2 X.prog X.w)) hu (Q3i I3.hok eb) dd fun h' dd' hs=>?_))
 refine wpAny_pure ?_
 show wpAny _ _ (forIn [] PUnit.unit _) _ _ _
 rw [List.forIn_nil]
 refine wpAny_pure ⟨.ref s.heap.objs.size,_,?_,rfl,q2⟩
 obtain ⟨q,es,ep,hq,h2,h3,h4,_,h5⟩:=dd'
 refine Q2t I3 (by rw [e]; exact True.intro) hs ⟨q,hq⟩ ⟨by simp [sizeLine_eq],hd,[(ks,b,w2)],.cons ⟨rfl,?_,ry⟩ .nil,q,es,ep,hq,h2,h3,h4,h5⟩
 rw [A9 (W9 eb e (fun z=>nomatch z))]
 exact eb
end
end L2
namespace TK
open PySem PySem.Spec PyProof.Rows L2
theorem Q1l {K : Fg9} {H : Hp} : ∀ {d : D} {k : B0} {v : V},N9 d = some k -> A2 K H d v -> v = kV k
 | .int i,k,v,h,q=>by cases h; unfold A2 at q; rw [q]; rfl
 | .str x,k,v,h,q=>by cases h; unfold A2 at q; rw [q]; rfl
 | .non,_,_,h,_=>by cases h
 | .bl _,_,_,h,_=>by cases h
 | .tup _,_,_,h,_=>by cases h
 | .lst _,_,_,h,_=>by cases h
section
variable {X : Cx} {H0 : Hp} {a b c e o tg : Expr} {pos pos' p2 apos cpos : Pos} {wa wb wi we : WE} {x : Str}
def Q6h (i : Nat) (we wv : WE) : WS:=fun E τ=>we τ fun rk=>∃ ds ks,rk = .st (.tup ds) /\ P6 ds = some ks /\ wv τ fun r=>∃ d,r = .st d /\ E.nx (τ.set i (some (.dt [(ks,d)])))
theorem DS.dnew1 {i : Nat} {v : Expr} {wv : WE} (hu : X.A.units < cLine) (he : DE X H0 e we) (hv : DE X H0 v wv) (hN : X.N.Nodup) (hi : X.N[i]? = some x) (hx : Loc X.env.scope x) (hs : swapsWith (.Dict [some e] [v] p2) (some (.Name x pos')) pos.line X.env = pure false:=by rfl)
  (hf : X.fn x = true \/ X.env.scope.names.lookup x = some .local:=by first | exact .inl rfl | exact .inr rfl | assumption) : DS X H0 (.Assign [.Name x pos'] (.Dict [some e] [v] p2) pos) (Q6h i we wv) where
 mono:=fun τ E F le h=>he.mono τ _ _ (fun r ⟨ds,ks,a1,a2,h⟩=>⟨ds,ks,a1,a2,hv.mono τ _ _ (fun r ⟨d,b1,b2⟩=>⟨d,b1,le.nx _ b2⟩) h⟩) h
 ps:=P4 (Q4f hN hi hx (W1c hu he.pe hv.pe) hs hf) fun D σ H ⟨τ,hR,h⟩ p hp=>by
  have sm : A6 H (upd H p (.dT [])):=F7 hp _
  have hR1:=hR.mono sm
  refine ⟨τ,hR1,he.mono τ _ _ (fun rk ⟨ds,ks,a1,a2,h⟩ y H1 s1 ik=>?_) h⟩
  subst a1
  have hR2:=hR1.mono s1
  refine ⟨τ,hR2,hv.mono τ _ _ (fun r ⟨d,b1,b2⟩ u H2 s2 iv=>?_) h⟩
  subst b1
  have ik : A2 X.K H1 (.tup ds) y:=ik
  unfold A2 at ik
  obtain ⟨b,xs,rfl,sb,al⟩:=ik
  rw [Q3e a2 al] at sb
  have ep:=s2 _ _ (s1 _ _ (upd_same (H:=H) (a:=p) (o:=.dT [])))
  refine ⟨ep,b,ks,rfl,s2 _ _ sb,?_⟩
  have kp : Kp H2 (upd H2 p (.dT [(ks,u)])):=Kp.updM ep (by intro xs z; cases z) (by intro o u z; cases z) _
  have hR3:=hR2.mono s2
  have h0 : H0 p = none:=hR.same.free hp
  have hin : ∀ (j : Nat) (t : Sl),τ[j]? = some (some t) -> t.mut = true -> σ[j]? ≠ some (some (.ref p)):=fun j t e m q=>by
   obtain ⟨o,ho⟩:=hR.tracked e m q
   rw [hp] at ho; cases ho
  have hR4 : B5 X.K H0 τ σ (upd H2 p (.dT [(ks,u)])):=by
   refine ⟨hR3.len,fun b o q=>?_,fun j t e=>?_,hR3.apart⟩
   ·rw [A9 (fun z=>by rw [z,h0] at q; cases q)]; exact hR3.same _ _ q
   ·obtain ⟨v,q,r⟩:=hR3.here j t e
    refine ⟨v,q,?_⟩
    have ap : t.mut = true -> v ≠ .ref p:=fun mm z=>hin j t e mm (by rw [q,z])
    cases t with
    | dat d=>exact A2.mono kp _ _ r
    | own es=>obtain ⟨b,ys,e,n,q,t⟩:=r; exact ⟨b,ys,e,n,by rw [A9 (fun z=>ap rfl (by rw [e,z]))]; exact q,t.mono kp _ _⟩
    | bor es=>obtain ⟨b,ys,e,q,t⟩:=r; exact ⟨b,ys,e,q,t.mono kp _ _⟩
    | dk es=>obtain ⟨b,ys,e,n,q,t⟩:=r; exact ⟨b,ys,e,n,by rw [A9 (fun z=>ap rfl (by rw [e,z]))]; exact q,t.mono kp _ _⟩
    | dt es=>obtain ⟨b,ys,e,n,q,t⟩:=r; exact ⟨b,ys,e,n,by rw [A9 (fun z=>ap rfl (by rw [e,z]))]; exact q,t.mono kp _ _⟩
    | ob _=>exact r
    | cl _ _=>exact ⟨r.1,r.2.2 _ _ kp r.2.1,r.2.2⟩
    | ll _ _=>exact ⟨r.1,r.2.keep kp fun b φ q=>by rw [A9 (W9 q ep (by intro z; cases z))]; exact q⟩
    | ins _ _ _=>obtain ⟨e,n,dx,ys,q,t⟩:=r; exact ⟨e,n,dx,ys,by rw [A9 (fun z=>ap rfl (by rw [e,z]))]; exact q,t.mono kp _ _⟩
  have kpa : Kp H (upd H2 p (.dT [(ks,u)])):=(Kp.of ((sm.trans s1).trans s2)).trans kp
  refine b2 _ _ kpa (hR4.set (s:=.dt [(ks,d)]) ⟨p,[(ks,u)],rfl,h0,upd_same,⟨u,[],rfl,A2.mono kp _ _ iv,rfl⟩⟩ fun _ j t hj e m q=>hin j t e m q)
@[simp] theorem Z8h {i : Nat} {wv : WE} {E : E6} {τ : A8} : Q6h i we wv E τ = we τ fun rk=>∃ ds ks,rk = .st (.tup ds) /\ P6 ds = some ks /\ wv τ fun r=>∃ d,r = .st d /\ E.nx (τ.set i (some (.dt [(ks,d)]))):=rfl
theorem B5.dkAt {K : Fg9} {H : Hp} {τ : A8} {σ : St} {i : Nat} {kvs : List (B0 × D)} (hR : B5 K H0 τ σ H) (e1 : τ[i]? = some (some (.dk kvs))) : ∃ a ps,σ[i]? = some (some (.ref a)) /\ H0 a = none /\ H a = some (.dK ps) /\ B8 K H kvs ps:=by
 obtain ⟨v,hv,a,xs,rfl,h0,sq,al⟩:=hR.here i _ e1
 exact ⟨a,xs,hv,h0,sq,al⟩
def Q4a (i : Nat) (we : WE) : WE:=fun τ Q=>∃ kvs,τ[i]? = some (some (.dk kvs)) /\ we τ fun r=>∃ kd k d,r = .st kd /\ N9 kd = some k /\ D7 kvs k = some d /\ Q (.st d)
theorem DE.kget {i : Nat} (hu : X.A.units + 1 < cLine) (ho : PE X o (O4 i)) (he : DE X H0 e we) (hs : Q5y e) : DE X H0 (.Subscript o e pos) (Q4a i we) where
 mono:=fun τ P Q f ⟨kvs,e1,h⟩=>⟨kvs,e1,he.mono τ _ _ (fun r ⟨ds,ks,d,a1,a2,a3,a4⟩=>⟨ds,ks,d,a1,a2,a3,f _ a4⟩) h⟩
 pe:=O0 (Z1v hu ho he.pe hs) fun σ H Q ⟨τ,hR,kvs,e1,h⟩=>by
  obtain ⟨a,ps,hv,h0,sq,kv⟩:=hR.dkAt e1
  refine ⟨_,hv,τ,hR,he.mono τ _ _ (fun r ⟨kd,k,d,a1,a2,a3,a4⟩ v H1 s1 ir=>?_) h⟩
  subst a1
  cases Q1l a2 (show A2 X.K H1 kd v from ir)
  rcases B8.val (k:=k) (kv.mono (Kp.of s1) _ _) with ⟨n1,_⟩ | ⟨d',v',n1,n2,n3⟩
  ·rw [a3] at n1; cases n1
  ·rw [a3] at n1; cases n1
   refine ⟨a,v',rfl,?_,a4 _ _ s1 n3⟩
   have g:=T7.k (k:=k) (s1 _ _ sq)
   rw [n2] at g
   exact g
def Q3k (i : Nat) (we : WE) : WT:=fun τ Q=>∃ kvs,τ[i]? = some (some (.dk kvs)) /\ we τ fun r=>∃ kd k,r = .st kd /\ N9 kd = some k /\ Q (!(D7 kvs k).isSome)
theorem DT.knotin {i : Nat} (hu : X.A.units + 1 < cLine) (he : DE X H0 e we) (ho : PE X o (O4 i)) (h1 : behindInMarks .NotIn o = false:=by rfl) : DT X H0 (.Compare e [.NotIn] [o] pos) (Q3k i we) where
 mono:=fun τ P Q f ⟨kvs,e1,h⟩=>⟨kvs,e1,he.mono τ _ _ (fun r ⟨ds,ks,a1,a2,a4⟩=>⟨ds,ks,a1,a2,f _ a4⟩) h⟩
 pt:=ptW (Z7x (Z8w hu he.pe ho) h1) fun σ H Q ⟨τ,hR,kvs,e1,h⟩=>by
  refine ⟨τ,hR,he.mono τ _ _ (fun r ⟨kd,k,a1,a2,a4⟩ v H1 s1 ir=>?_) h⟩
  obtain ⟨a,ps,hv,h0,sq,kv⟩:=(hR.mono s1).dkAt e1
  subst a1
  cases Q1l a2 (show A2 X.K H1 kd v from ir)
  refine ⟨_,hv,a,_,rfl,T7.k (k:=k) sq,?_⟩
  have e : (P3 ps k).isSome = (D7 kvs k).isSome:=by
   rcases B8.val (k:=k) kv with ⟨n1,n2⟩ | ⟨d',v',n1,n2,n3⟩ <;> rw [n1,n2] <;> rfl
  rw [e]
  exact ⟨_,rfl,a4 _ s1⟩
def Q2z (i : Nat) (we wv : WE) : WS:=fun E τ=>wv τ fun r=>∃ d,r = .st d /\ ∃ kvs,τ[i]? = some (some (.dk kvs)) /\ we τ fun rk=>∃ kd k,rk = .st kd /\ N9 kd = some k /\ kvs.length < sizeLine /\ E.nx (τ.set i (some (.dk (L4 kvs k d))))
theorem DS.kput {i : Nat} {v : Expr} {wv : WE} (hu : X.A.units + 1 < cLine) (ho : PE X o (O4 i)) (he : DE X H0 e we) (hv : DE X H0 v wv) (hs : swapsWith v (some (.Subscript o e pos')) pos.line X.env = pure false:=by rfl) :
  DS X H0 (.Assign [.Subscript o e pos'] v pos) (Q2z i we wv) where
 mono:=fun τ E F le h=>hv.mono τ _ _ (fun r ⟨d,e1,kvs,e2,h⟩=>⟨d,e1,kvs,e2,he.mono τ _ _ (fun r ⟨ds,ks,a1,a2,a3,a4⟩=>⟨ds,ks,a1,a2,a3,le.nx _ a4⟩) h⟩) h
 ps:=P4 (Z4u hu ho he.pe hv.pe hs) fun D σ H ⟨τ,hR,h⟩=>by
  refine ⟨τ,hR,hv.mono τ _ _ (fun r ⟨d,e1,kvs,e2,h⟩ u H1 s1 ir=>?_) h⟩
  subst e1
  have hR1:=hR.mono s1
  obtain ⟨a,ps,hva,h0,sq,kv⟩:=hR1.dkAt e2
  refine ⟨_,hva,τ,hR1,he.mono τ _ _ (fun rk ⟨kd,k,a1,a2,a3,a4⟩ y H2 s2 ik=>?_) h⟩
  subst a1
  cases Q1l a2 (show A2 X.K H2 kd y from ik)
  have sq2:=s2 _ _ sq
  have kv2:=kv.mono (Kp.of s2) _ _
  refine ⟨a,_,rfl,Q1f.k sq2 (by rw [<- B8.length kv2]; exact a3),?_⟩
  have kp : Kp H2 (upd H2 a (.dK (M5 ps k u))):=Kp.updM sq2 (by intro xs z; cases z) (by intro o u z; cases z) _
  have iv : A2 X.K H2 d u:=A2.mono (Kp.of s2) _ _ ir
  refine a4 σ _ ((Kp.of (s1.trans s2)).trans kp) ((hR1.mono s2).mutG e2 rfl hva h0 sq2 (by intro xs z; cases z) (by intro o u z; cases z) ⟨a,_,rfl,h0,upd_same,?_⟩)
  exact B8.mono kp _ _ (B8.put iv kv2)
@[simp] theorem Z7i {i : Nat} {τ : A8} {Q : R -> Prop} : Q4a i we τ Q = ∃ kvs,τ[i]? = some (some (.dk kvs)) /\ we τ fun r=>∃ kd k d,r = .st kd /\ N9 kd = some k /\ D7 kvs k = some d /\ Q (.st d):=rfl
@[simp] theorem Y1x {i : Nat} {τ : A8} {Q : Bool -> Prop} : Q3k i we τ Q = ∃ kvs,τ[i]? = some (some (.dk kvs)) /\ we τ fun r=>∃ kd k,r = .st kd /\ N9 kd = some k /\ Q (!(D7 kvs k).isSome):=rfl
@[simp] theorem Y2c {i : Nat} {wv : WE} {E : E6} {τ : A8} : Q2z i we wv E τ = wv τ fun r=>∃ d,r = .st d /\ ∃ kvs,τ[i]? = some (some (.dk kvs)) /\ we τ fun rk=>∃ kd k,rk = .st kd /\ N9 kd = some k /\ kvs.length < sizeLine /\ E.nx (τ.set i (some (.dk (L4 kvs k d)))):=rfl
end
end TK
end
section
namespace TK
open PySem PySem.Spec PyProof.Rows L2
noncomputable instance decD : DecidableEq D:=fun a b=>Classical.propDecidable (a = b)
noncomputable def P9 {α β : Type} (p : α -> β -> Prop) : List α -> List β -> Prop
 | [],vs=>vs = []
 | k :: ks,vs=>∃ v r,vs = v :: r /\ p k v /\ P9 p ks r
theorem P9.len {α β : Type} {p : α -> β -> Prop} : ∀ {ks : List α} {vs : List β},P9 p ks vs -> ks.length = vs.length
 | [],vs,h=>by rw [show vs = [] from h]; rfl
 | k :: ks,vs,h=>by obtain ⟨v,r,rfl,_,t⟩:=h; rw [List.length_cons,List.length_cons,t.len]
theorem P9.imp {α β : Type} {p q : α -> β -> Prop} (f : ∀ a b,p a b -> q a b) : ∀ {ks : List α} {vs : List β},P9 p ks vs -> P9 q ks vs
 | [],vs,h=>h
 | k :: ks,vs,h=>by obtain ⟨v,r,rfl,i,t⟩:=h; exact ⟨v,r,rfl,f _ _ i,t.imp f⟩
theorem P9.at {α β : Type} {p : α -> β -> Prop} : ∀ {ks : List α} {vs : List β} {j : Nat} {k : α} {v : β},P9 p ks vs -> ks[j]? = some k -> vs[j]? = some v -> p k v
 | [],vs,j,k,v,h,e,_=>by simp at e
 | k :: ks,vs,0,k',v',h,e,e'=>by
  obtain ⟨v,r,rfl,i,t⟩:=h
  simp at e e'; subst e e'; exact i
 | k :: ks,vs,j + 1,k',v',h,e,e'=>by
  obtain ⟨v,r,rfl,i,t⟩:=h
  exact t.at (by simpa using e) (by simpa using e')
noncomputable def F8 (h : Heap) : Nat -> D -> Value -> Prop
 | _,.non,v=>v = .none
 | _,.int i,v=>∃ t,v = .int i t
 | _,.str x,v=>∃ t,v = .str x t
 | n + 1,.tup ks,v=>∃ a items,v = .ref a /\ h.IsTuple a items /\ P9 (F8 h n) ks items.toList
 | _,_,_=>False
noncomputable def V9 (w : World) : Nat -> D -> Int
 | _,.non=>reduceHash 0xFCA86420
 | _,.int i=>hashInt i
 | _,.str x=>hashStr w x
 | n + 1,.tup ks=>reduceHash (Builtin.Tuple.tupleHashOf (ks.map (V9 w n)))
 | _,_=>0
noncomputable def S5 : Nat -> D -> Nat
 | n + 1,.tup ks=>(ks.map (S5 n)).sum + 1
 | _,_=>1
theorem Y9a {h : Heap} {a : Addr} {i j : Array Value} (x : h.IsTuple a i) (y : h.IsTuple a j) : i = j:=by
 obtain ⟨o,e,_,n,d⟩:=x
 obtain ⟨o',e',_,n',d'⟩:=y
 rw [e] at e'; cases e'
 rw [d] at d'; cases d'; rfl
theorem Z4y {α β : Type} {p q : α -> β -> Prop} (f : ∀ x y v,p x v -> q y v -> x = y) : ∀ {xs ys : List α} {vs : List β},P9 p xs vs -> P9 q ys vs -> xs = ys
 | [],[],_,_,_=>rfl
 | [],y :: ys,vs,h1,h2=>by obtain ⟨_,_,e,_⟩:=h2; rw [show vs = [] from h1] at e; cases e
 | x :: xs,[],vs,h1,h2=>by obtain ⟨_,_,e,_⟩:=h1; rw [show vs = [] from h2] at e; cases e
 | x :: xs,y :: ys,vs,h1,h2=>by
  obtain ⟨v,r,rfl,i1,t1⟩:=h1
  obtain ⟨v',r',e,i2,t2⟩:=h2
  cases e
  rw [f _ _ _ i1 i2,Z4y f t1 t2]
theorem F8.shape {h : Heap} : ∀ {n : Nat} {x : D} {v : Value},F8 h n x v -> (x = .non /\ v = .none) \/ (∃ i t,x = .int i /\ v = .int i t) \/ (∃ i t,x = .str i /\ v = .str i t) \/ ∃ m ks a items,n = m + 1 /\ x = .tup ks /\ v = .ref a /\ h.IsTuple a items /\ P9 (F8 h m) ks items.toList
 | n,.non,v,q=>.inl ⟨rfl,by cases n <;> exact q⟩
 | n,.int i,v,q=>by
  obtain ⟨t,e⟩ : ∃ t,v = .int i t:=by cases n <;> exact q
  exact .inr (.inl ⟨i,t,rfl,e⟩)
 | n,.str i,v,q=>by
  obtain ⟨t,e⟩ : ∃ t,v = .str i t:=by cases n <;> exact q
  exact .inr (.inr (.inl ⟨i,t,rfl,e⟩))
 | 0,.tup ks,v,q=>q.elim
 | m + 1,.tup ks,v,q=>by
  obtain ⟨a,items,e,t,z⟩:=q
  exact .inr (.inr (.inr ⟨m,ks,a,items,rfl,rfl,e,t,z⟩))
 | n,.bl b,v,q=>by cases n <;> exact q.elim
 | n,.lst b,v,q=>by cases n <;> exact q.elim
theorem F8.one {h : Heap} : ∀ (n m : Nat) (x y : D) (v : Value),F8 h n x v -> F8 h m y v -> x = y:=by
 intro n
 induction n with
 | zero =>
  intro m x y v h1 h2
  rcases h1.shape with ⟨rfl,rfl⟩ | ⟨i,t,rfl,rfl⟩ | ⟨i,t,rfl,rfl⟩ | ⟨m1,ks,a,items,e0,rfl,rfl,t,z⟩ <;>
   rcases h2.shape with ⟨rfl,e⟩ | ⟨j,u,rfl,e⟩ | ⟨j,u,rfl,e⟩ | ⟨m2,ks2,a2,items2,_,rfl,e,t2,z2⟩ <;> first | rfl | (cases e; rfl) | (cases e; done) | omega
 | succ n ih =>
  intro m x y v h1 h2
  rcases h1.shape with ⟨rfl,rfl⟩ | ⟨i,t,rfl,rfl⟩ | ⟨i,t,rfl,rfl⟩ | ⟨m1,ks,a,items,e0,rfl,rfl,t,z⟩ <;>
   rcases h2.shape with ⟨rfl,e⟩ | ⟨j,u,rfl,e⟩ | ⟨j,u,rfl,e⟩ | ⟨m2,ks2,a2,items2,_,rfl,e,t2,z2⟩ <;> first | rfl | (cases e; rfl) | (cases e; done) | skip
  cases e; cases e0; cases Y9a t t2
  rw [Z4y (fun x y v=>ih m2 x y v) z z2]
theorem F8.stays {h h' : Heap} (k : ∀ a items,h.IsTuple a items -> h'.IsTuple a items) : ∀ (n : Nat) (x : D) (v : Value),F8 h n x v -> F8 h' n x v:=by
 intro n
 induction n with
 | zero=>intro x v q; cases x <;> exact q
 | succ n ih =>
  intro x v q
  cases x with
  | tup ks =>
   unfold F8 at q ⊢
   obtain ⟨a,it,e,t,z⟩:=q
   exact ⟨a,it,e,k _ _ t,z.imp ih⟩
  | _=>exact q
section
variable {E : VS9} {prog : Program} {w : World}
theorem Z8l {n : Nat} (ih : ∀ (k : D) (v : Value) (A : Around) (s : Shared) (Q : Int -> Shared -> Prop),A.units + n < cLine -> F8 s.heap n k v -> Q (V9 w n k) { s with toks:=s.toks + S5 n k } -> wpAny (model prog w) A (pyHash v) Q E s) :
  ∀ (ks : List D) (vs : List Value) (A : Around) (s : Shared) (b : Array Int) (Q : Array Int -> Shared -> Prop),A.units + n < cLine -> P9 (F8 s.heap n) ks vs ->
   Q (b ++ (ks.map (V9 w n)).toArray) { s with toks:=s.toks + (ks.map (S5 n)).sum } -> wpAny (model prog w) A (forIn vs b fun x r=>do let h <- pyHash x; pure PUnit.unit; pure (ForInStep.yield (r.push h))) Q E s
 | [],vs,A,s,b,Q,_,z,q=>by
  rw [show vs = [] from z]
  exact wpAny_pure (by simpa using q)
 | k :: ks,vs,A,s,b,Q,hu,z,q=>by
  obtain ⟨v,r,rfl,i,t⟩:=z
  rw [List.forIn_cons]
  refine wpAny_bind (wpAny_bind (ih k v A s _ hu i ?_))
  refine wpAny_bind (wpAny_pure (wpAny_pure ?z))
  refine Z8l ih ks r A { s with toks:=s.toks + S5 n k } _ Q hu t ?_
  have e : (b.push (V9 w n k)) ++ (ks.map (V9 w n)).toArray = b ++ ((k :: ks).map (V9 w n)).toArray:=by simp
  have e2 : s.toks + S5 n k + (ks.map (S5 n)).sum = s.toks + ((k :: ks).map (S5 n)).sum:=by simp [Nat.add_assoc]
  rw [e]
  show Q _ { s with toks:=s.toks + S5 n k + (ks.map (S5 n)).sum }
  rw [e2]; exact q
theorem W2a : ∀ (n : Nat) (k : D) (v : Value) (A : Around) (s : Shared) (Q : Int -> Shared -> Prop),A.units + n < cLine -> F8 s.heap n k v -> Q (V9 w n k) { s with toks:=s.toks + S5 n k } -> wpAny (model prog w) A (pyHash v) Q E s:=by
 have flat : ∀ (n : Nat) (k : D) (v : Value) (A : Around) (s : Shared) (Q : Int -> Shared -> Prop),(∀ ks,k ≠ .tup ks) -> F8 s.heap n k v -> Q (V9 w n k) { s with toks:=s.toks + S5 n k } -> wpAny (model prog w) A (pyHash v) Q E s:=by
  intro n k v A s Q nt i q
  cases k with
  | tup ks=>exact absurd rfl (nt ks)
  | bl b=>cases n <;> exact i.elim
  | lst b=>cases n <;> exact i.elim
  | non =>
   have e : v = .none:=by cases n <;> exact i
   subst e
   have e1 : V9 w n .non = reduceHash 0xFCA86420:=by cases n <;> rfl
   have e2 : S5 n .non = 1:=by cases n <;> rfl
   rw [e1,e2] at q
   exact PySem.W.pyHash_slot (T:="NoneType") rfl F.slot_NoneType_hash F.entry_NoneType_hash (F.args_NoneType_hash_1 _) (beq_builtin_none _) (.inl rfl) (wpAny_bind (wpAny_pure (wpAny_bind (wpAny_mkInt (wpAny_pure ⟨_,_,rfl,q⟩)))))
  | int j =>
   obtain ⟨t,rfl⟩ : ∃ t,v = .int j t:=by cases n <;> exact i
   have e1 : V9 w n (.int j) = hashInt j:=by cases n <;> rfl
   have e2 : S5 n (.int j) = 1:=by cases n <;> rfl
   rw [e1,e2] at q
   exact wpAny_pyHash_int q
  | str j =>
   obtain ⟨t,rfl⟩ : ∃ t,v = .str j t:=by cases n <;> exact i
   have e1 : V9 w n (.str j) = hashStr w j:=by cases n <;> rfl
   have e2 : S5 n (.str j) = 1:=by cases n <;> rfl
   rw [e1,e2] at q
   exact wpAny_pyHash_str q
 intro n
 induction n with
 | zero =>
  intro k v A s Q hu i q
  cases k with
  | tup ks=>exact i.elim
  | _=>exact flat 0 _ v A s Q (by intro ks e; cases e) i q
 | succ n ih =>
  intro k v A s Q hu i q
  cases k with
  | tup ks =>
   obtain ⟨a,items,rfl,t,z⟩:=i
   obtain ⟨o,e,c,m,d⟩:=id t
   refine PySem.W.pyHash_slot (T:="tuple") ⟨o,e,c⟩ F.slot_tuple_hash F.entry_tuple_hash (F.args_tuple_hash_1 _) (beq_builtin_none _) (.inr (by omega)) ?_
   change wpAny (model prog w) A.in1 (Builtin.Tuple.tupleItemsOf (Value.ref a) >>= _) _ _ s
   refine wpAny_bind (wpAny_tupleItemsOf e d (wpAny_bind ?_))
   rw [<- Array.forIn_toList]
   refine Z8l ih ks items.toList A.in1 s #[] _ (by simp only [Around.in1_units]; omega) z ?_
   refine wpAny_bind (wpAny_mkInt (wpAny_pure ⟨_,_,rfl,?_⟩))
   have q2 : Q (reduceHash (Builtin.Tuple.tupleHashOf (ks.map (V9 w n)))) { s with toks:=s.toks + (ks.map (S5 n)).sum + 1 }:=q
   simpa using q2
  | _=>exact flat (n + 1) _ v A s Q (by intro ks e; cases e) i q
theorem Y6p {A : Around} {s : Shared} {a b : Addr} {x y : Array Value} {xs ys : List D} {n m : Nat} (hu : A.units < cLine) (ta : s.heap.IsTuple a x) (tb : s.heap.IsTuple b y) (za : P9 (F8 s.heap n) xs x.toList) (zb : P9 (F8 s.heap m) ys y.toList)
  (he : ∀ (k l : D) (u v : Value),F8 s.heap n k u -> F8 s.heap m l v -> SeqAt.EqAt A.in1 s u v (decide (k = l))) : SeqAt.RcAt A s (.ref a) (.ref b) (decide (D.tup xs = D.tup ys)):=by
 have lx : xs.length = x.size:=by rw [za.len]; simp
 have ly : ys.length = y.size:=by rw [zb.len]; simp
 have r:=SeqAt.RcAt.tuples (e:=fun j=>decide (xs[j]? = ys[j]?)) ta tb hu fun j h1 h2=>by
  have e1 : xs[j]? = some xs[j]:=List.getElem?_eq_getElem (by omega)
  have e2 : ys[j]? = some ys[j]:=List.getElem?_eq_getElem (by omega)
  have q:=he xs[j] ys[j] x[j] y[j] (za.at e1 (by simp [h1])) (zb.at e2 (by simp [h2]))
  have : decide (xs[j]? = ys[j]?) = decide (xs[j] = ys[j]):=by rw [e1,e2]; by_cases z : xs[j] = ys[j] <;> simp [z]
  show SeqAt.EqAt A.in1 s x[j] y[j] (decide (xs[j]? = ys[j]?))
  rw [this]; exact q
 have e : ((List.range (min x.size y.size)).all (fun j=>decide (xs[j]? = ys[j]?)) && x.size == y.size) = decide (D.tup xs = D.tup ys):=by
  rw [Bool.eq_iff_iff]
  simp only [Bool.and_eq_true,List.all_eq_true,List.mem_range,decide_eq_true_eq,beq_iff_eq,D.tup.injEq]
  constructor
  ·rintro ⟨h1,h2⟩
   refine List.ext_getElem? fun j=>?_
   by_cases hj : j < x.size
   ·exact h1 j (by omega)
   ·rw [List.getElem?_eq_none (by omega),List.getElem?_eq_none (by omega)]
  ·rintro rfl
   exact ⟨fun _ _=>rfl,by omega⟩
 rw [e] at r; exact r
theorem k_eq {s : Shared} : ∀ (n m : Nat) (x y : D) (u v : Value) (A : Around),A.units + n < cLine -> F8 s.heap n x u -> F8 s.heap m y v -> SeqAt.EqAt A s u v (decide (x = y)):=by
 have flat : ∀ (n m : Nat) (x y : D) (u v : Value) (A : Around),A.units + n < cLine -> F8 s.heap n x u -> F8 s.heap m y v ->
   (∀ n' xs ys a b i j m',n = n' + 1 -> s.heap.IsTuple a i -> s.heap.IsTuple b j -> P9 (F8 s.heap n') xs i.toList -> P9 (F8 s.heap m') ys j.toList -> a ≠ b -> SeqAt.EqAt A s (.ref a) (.ref b) (decide (D.tup xs = D.tup ys))) -> SeqAt.EqAt A s u v (decide (x = y)):=by
  intro n m x y u v A hu h1 h2 tt
  have hu0 : A.units < cLine:=by omega
  rcases h1.shape with ⟨rfl,rfl⟩ | ⟨i,t,rfl,rfl⟩ | ⟨i,t,rfl,rfl⟩ | ⟨m1,ks,a,items,e0,rfl,rfl,t,z⟩ <;>
   rcases h2.shape with ⟨rfl,rfl⟩ | ⟨j,u,rfl,rfl⟩ | ⟨j,u,rfl,rfl⟩ | ⟨m2,ks2,a2,items2,_,rfl,rfl,t2,z2⟩
  ·rw [decide_eq_true rfl]; exact SeqAt.EqAt.same _
  ·rw [decide_eq_false (by intro e; cases e)]; exact SeqAt.EqAt.none_int _ _
  ·rw [decide_eq_false (by intro e; cases e)]; exact SeqAt.EqAt.none_str _ _
  ·rw [decide_eq_false (by intro e; cases e)]; exact SeqAt.EqAt.none_tuple t2 hu0
  ·rw [decide_eq_false (by intro e; cases e)]; exact SeqAt.EqAt.int_none _ _
  ·have e : decide (D.int i = D.int j) = (i == j):=by by_cases z : i = j <;> simp [z]
   rw [e]; exact SeqAt.EqAt.int_int _ _ _ _
  ·rw [decide_eq_false (by intro e; cases e)]; exact SeqAt.EqAt.int_str _ _ _ _
  ·rw [decide_eq_false (by intro e; cases e)]; exact SeqAt.EqAt.int_tuple _ _ t2 hu0
  ·rw [decide_eq_false (by intro e; cases e)]; exact SeqAt.EqAt.str_none _ _
  ·rw [decide_eq_false (by intro e; cases e)]; exact SeqAt.EqAt.str_int _ _ _ _
  ·have e : decide (D.str i = D.str j) = (i == j):=by by_cases z : i = j <;> simp [z]
   rw [e]; exact SeqAt.EqAt.str_str _ _ _ _
  ·rw [decide_eq_false (by intro e; cases e)]; exact SeqAt.EqAt.str_tuple _ _ t2 hu0
  ·rw [decide_eq_false (by intro e; cases e)]; exact SeqAt.EqAt.tuple_none t hu0
  ·rw [decide_eq_false (by intro e; cases e)]; exact SeqAt.EqAt.tuple_int _ _ t hu0
  ·rw [decide_eq_false (by intro e; cases e)]; exact SeqAt.EqAt.tuple_str _ _ t hu0
  ·by_cases ab : a = a2
   ·subst ab
    have e:=F8.one _ _ _ _ _ h1 h2
    rw [decide_eq_true e]; exact SeqAt.EqAt.same _
   ·exact tt m1 ks ks2 a a2 items items2 m2 e0 t t2 z z2 ab
 intro n
 induction n with
 | zero=>exact fun m x y u v A hu h1 h2=>flat 0 m x y u v A hu h1 h2 fun n' _ _ _ _ _ _ _ e=>by omega
 | succ n ih =>
  exact fun m x y u v A hu h1 h2=>flat (n + 1) m x y u v A hu h1 h2 fun n' xs ys a b i j m' e ta tb za zb ab=>by
   cases e
   exact SeqAt.EqAt.of_refs ab (Y6p (by omega) ta tb za zb fun k l u v h1 h2=>ih m' k l u v A.in1 (by simp only [Around.in1_units]; omega) h1 h2)
theorem Y9h {A : Around} {s : Shared} : ∀ (n f : Nat) (x : D) (v : Value) (Q : Bool -> Shared -> Prop),n <= f -> F8 s.heap n x v -> Q true s -> wpAny (model prog w) A (eqIsQuiet f v) Q E s:=by
 intro n
 induction n with
 | zero =>
  intro f x v Q hf h q
  rcases h.shape with ⟨rfl,rfl⟩ | ⟨i,t,rfl,rfl⟩ | ⟨i,t,rfl,rfl⟩ | ⟨m1,ks,a,items,e0,rfl,rfl,t,z⟩
  ·rw [eqIsQuiet_byValue f rfl]; exact wpAny_pure q
  ·rw [eqIsQuiet_byValue f rfl]; exact wpAny_pure q
  ·rw [eqIsQuiet_byValue f rfl]; exact wpAny_pure q
  ·omega
 | succ n ih =>
  intro f x v Q hf h q
  rcases h.shape with ⟨rfl,rfl⟩ | ⟨i,t,rfl,rfl⟩ | ⟨i,t,rfl,rfl⟩ | ⟨m1,ks,a,items,e0,rfl,rfl,t,z⟩
  ·rw [eqIsQuiet_byValue f rfl]; exact wpAny_pure q
  ·rw [eqIsQuiet_byValue f rfl]; exact wpAny_pure q
  ·rw [eqIsQuiet_byValue f rfl]; exact wpAny_pure q
  ·cases e0
   obtain ⟨o,e,c,m,d⟩:=id t
   have hT : s.TypeIs (.ref a) "tuple":=⟨o,e,c⟩
   cases f with
   | zero=>omega
   | succ f =>
    unfold eqIsQuiet
    refine wpAny_bind (wpAny_specialOf hT F.slot_tuple_eq.lookup (?_ : wpAny (model prog w) A (isInstance (Value.ref a) (.type "tuple") >>= _) _ _ s))
    refine wpAny_bind (wpAny_isInstance hT isSubtype_tuple_tuple (s:=s) ?_)
    rw [if_neg (by decide)]
    refine wpAny_bind (wpAny_seqItems e d (wpAny_bind ?_))
    change wpAny (model prog w) A (forIn items _ _) _ _ s
    rw [<- Array.forIn_toList]
    have loop : ∀ (ks : List D) (vs : List Value),P9 (F8 s.heap n) ks vs -> wpAny (model prog w) A (forIn vs (none,PUnit.unit) fun y (__s : Option Bool × PUnit)=>(do
      if (!(<- eqIsQuiet f y)) = true then pure (ForInStep.done (some false,PUnit.unit)) else pure (ForInStep.yield (none,PUnit.unit)))) (fun r s'=>s' = s /\ r = (none,PUnit.unit)) E s:=by
     intro ks
     induction ks with
     | nil=>intro vs z; rw [show vs = [] from z]; exact wpAny_pure ⟨rfl,rfl⟩
     | cons k ks ihk =>
      intro vs z
      obtain ⟨v,r,rfl,i,z⟩:=z
      rw [List.forIn_cons]
      refine wpAny_bind (wpAny_bind (ih f k v _ (by omega) i ?_))
      rw [if_neg (by decide)]
      exact wpAny_pure (ihk r z)
    refine wpAny_mono (loop ks items.toList z) (fun r s' ⟨e1,e2⟩=>?_) fun _ _ z=>z
    subst e1 e2
    exact wpAny_pure q
end
noncomputable def Z2f (prog : Program) (w : World) : HeapKind prog w D where
 is:=fun h k a=>F8 h 8 k (.ref a)
 hash:=V9 w 8
 draws:=S5 8
 room:=fun A=>A.units + 8 < cLine
 inj:=fun h1 h2=>F8.one _ _ _ _ _ h1 h2
 keeps:=fun h1 ho hd hs=>F8.stays (fun b it t=>by
  obtain ⟨o',e,c,m,d⟩:=t
  refine ⟨o',(hs.2 b fun z=>?_).trans e,c,m,d⟩
  subst z
  rw [ho] at e; cases e
  rw [hd] at d; cases d) _ _ _ h1
 pyHash:=fun hu hk h=>W2a 8 _ _ _ _ _ hu hk h
 eqBool:=fun hu hx hy h=>k_eq 8 8 _ _ _ _ _ hu hx hy _ _ _ _ h
 quiet:=fun hk h=>Y9h 8 8 _ _ _ (Nat.le_refl _) hk h
section
variable {κ : Type} [DecidableEq κ] {P : Program} {w : World} {knd : HeapKind P w κ} {A : Around} {E : VS9} {s : Shared} {d a : Addr} {xs : List (κ × Addr × Value)} {k : κ}
theorem Y4r {y : Value} {Q : VS9} (hu : knd.room A) (hk : knd.is s.heap k a) (D : s.heap.DictOfH knd d xs) (z : xs.length <= sizeLine)
  (h1 : ∀ (j : Nat) (p : Addr × Value),xs[j]? = some (k,p) -> Q p.2 { s with toks:=s.toks + knd.draws k })
  (h2 : k ∉ xs.map (·.1) -> ∀ h',h'.DictOfH knd d (xs ++ [(k,a,y)]) -> Heap.SameBut d s.heap h' -> Q y { s with heap:=h',toks:=s.toks + knd.draws k }) : wpAny (model P w) A (dictSetDefault d (.ref a) y) Q E s:=by
 obtain ⟨o,es,ep,ho,hc,hd,he,his,hn⟩:=D
 have hz : es.size <= sizeLine:=by rw [size_of_entries he]; exact z
 unfold dictSetDefault
 refine wpAny_holding (wpAny_bind (knd.pyHash hu hk (wpAny_bind (wpAny_dictFind_heap (s:={ s with toks:=s.toks + knd.draws k }) hu hk ho hd he his hn (fun no=>?_) fun j p hj=>?_))))
 ·have nk:=not_mem_keys_of_get no
  refine wpAny_bind (wpAny_rule (wpAny_bind (wpAny_updateDictKeys (s:={ s with toks:=s.toks + knd.draws k }) ho hd (wpAny_pure (h2 nk _ ?_ (Heap.SameBut.update ..))) (hz:=hz))))
  refine ⟨_,_,ep + 1,Heap.get?_update_self _ ho (Obj.isFreed_of_dict (Obj.data_mapDictKeys hd _)),hc.mapDictKeys _,Obj.data_mapDictKeys hd _,by simp [he,entryOfKey],fun x hx=>?_,?_⟩
  ·rcases List.mem_append.mp hx with q | q
   ·exact knd.keeps (his x q) ho hd (Heap.SameBut.update ..)
   ·rw [List.mem_singleton.mp q]; exact knd.keeps hk ho hd (Heap.SameBut.update ..)
  ·rw [List.map_append,List.nodup_append (l₁:=xs.map (·.1))]
   refine ⟨hn,by simp,fun b hb c hcc e=>?_⟩
   rw [show c = k by simpa using hcc] at e
   exact nk (e ▸ hb)
 ·refine wpAny_bind (wpAny_dictEntries (s:={ s with toks:=s.toks + knd.draws k }) ho hd ?_)
  rw [entry_at he j,hj]
  exact wpAny_bind (wpAny_rule (wpAny_pure (h1 j p hj)))
theorem W1s {y : Value} {Q : VS9} (hu : knd.room A.in1) (hs : (d == sysModules) = false) (hk : knd.is s.heap k a) (D : s.heap.DictOfH knd d xs) (z : xs.length <= sizeLine)
  (h1 : ∀ (j : Nat) (p : Addr × Value),xs[j]? = some (k,p) -> Q p.2 { s with toks:=s.toks + knd.draws k })
  (h2 : k ∉ xs.map (·.1) -> ∀ h',h'.DictOfH knd d (xs ++ [(k,a,y)]) -> Heap.SameBut d s.heap h' -> Q y { s with heap:=h',toks:=s.toks + knd.draws k }) : wpAny (model P w) A (call (.builtin "dict.setdefault") [.ref d,.ref a,y]) Q E s:=by
 refine wpAny_call_entry PySem.F.slot_dict_setdefault D.typeIs PySem.F.entry_dict_setdefault ?_ (PySem.F.args_dict_setdefault_3 _ _ _)
 unfold Builtin.«dict.setdefault» Builtin.Dict.keyAndDefault
 refine wpAny_bind (wpAny_bind (wpAny_notOrdered_dict D.typeIs ?_))
 change wpAny (model P w) A.in1 (pure (d,Value.ref a,some y)) _ _ s
 refine wpAny_pure (?_ : wpAny (model P w) A.in1 (if (d == sysModules) = true then _ else (dictSetDefault d (.ref a) y >>= fun r=>ret r)) _ _ s)
 rw [if_neg (by rw [hs]; decide)]
 exact wpAny_bind (Y4r hu hk D z (fun j p hj=>wpAny_pure ⟨_,rfl,h1 j p hj⟩) fun n h' D' sb=>wpAny_pure ⟨_,rfl,h2 n h' D' sb⟩)
theorem W0e {Q : VS9} (hs : (d == sysModules) = false) (D : s.heap.DictOfH knd d xs) (z : xs.length <= sizeLine) (h : ∀ t t',Q (.int xs.length t) { s with toks:=t' }) : wpAny (model P w) A (call (.builtin "len") [.ref d]) Q E s:=by
 have fit : ((xs.length : Nat) : Int) < 2 ^ 63:=by rw [sizeLine_eq] at z; omega
 refine Calls.call_function_entry kind_len plain_len entry_len (args_len1 (Value.ref d)) ?_
 unfold Builtin.«len»
 refine wpAny_bind (m:=oneArg "len" _) (wpAny_pure (wpAny_bind (m:=callSpecial? (.ref d) (Str.ofString "__len__")) ?_))
 have hT:=D.typeIs
 obtain ⟨o,es,ep,ho,hc,hd,he,his,hn⟩:=D
 have es1 : es.size = xs.length:=size_of_entries he
 refine wpAny_callSpecial?_slot (name:=Str.ofString "__len__") hT PySem.F.slot_dict_len (wpAny_call_entry PySem.F.slot_dict_len hT PySem.F.entry_dict_len ?_ (PySem.F.args_dict_len_1 _))
 change wpAny (model P w) _ (dictSize d >>= _) _ _ s
 unfold dictSize
 refine wpAny_bind (wpAny_bind (wpAny_dictEntries ho hd (wpAny_pure (wpAny_bind (wpAny_pendingCount_other hs (wpAny_bind (wpAny_mkInt (wpAny_pure ⟨_,rfl,?_⟩))))))))
 refine wpAny_bind (wpAny_holding (wpAny_pure (wpAny_bind (wpAny_letGo ?_))))
 rw [Nat.add_zero,es1]
 rw [if_neg (by omega),if_neg (by omega)]
 exact wpAny_bind (wpAny_mkInt (wpAny_pure ⟨_,rfl,h _ _⟩))
end
noncomputable def O2 : Nat -> D -> Bool
 | _,.non=>true
 | _,.int _=>true
 | _,.str _=>true
 | n + 1,.tup ks=>ks.all (O2 n)
 | _,_=>false
def GDh (P : Program) (w : World) (p : Addr) (ks : List (D × Addr)) (h : Heap) : Prop :=
 (p == sysModules) = false /\ ks.length <= sizeLine /\ ∃ xs : List (D × Addr × Value),xs.map (fun x=>(x.1,x.2.1)) = ks /\ (∀ (i : Nat) x,xs[i]? = some x -> ∃ t,x.2.2 = .int i t) /\
  ∃ o es ep,h.get? p = some o /\ o.ExactDict /\ o.data = .dict es ep /\ es.toList = xs.map (entryOfKey (Z2f P w)) /\ (xs.map (·.1)).Nodup
noncomputable def gD (X : Cx) (p : Addr) (ks : List (D × Addr)) : HO:=.ext (GDh X.prog X.w p ks)
section
variable {P : Program} {w : World} {H : Hp} {h h' : Heap} {p : Addr} {ks : List (D × Addr)} {K : Fg9}
theorem GDh.ok (g : GDh P w p ks h) : F6 P w H h p (.ext (GDh P w p ks)):=by
 obtain ⟨o,e⟩ : ∃ o,h.get? p = some o:=by obtain ⟨_,_,_,_,_,o,_,_,e,_⟩:=g; exact ⟨o,e⟩
 refine ⟨g,⟨o,e⟩,fun h1 h2 ⟨a,b,xs,c,d,o,es,ep,e,r⟩ k=>⟨a,b,xs,c,d,o,es,ep,k _ e,r⟩⟩
theorem Z3z (ok : F1 P w H h) {n : Nat} (ih : ∀ (d : D) (v : V) (u : Value),O2 n d = true -> A2 K H d v -> B4 v u -> F8 h n d u) :
  ∀ (ds : List D) (vs : List V) (us : List Value),ds.all (O2 n) = true -> AllS K H ds vs -> C4 vs us -> P9 (F8 h n) ds us
 | [],vs,us,_,al,r=>by
  unfold AllS at al; subst al
  cases r; exact rfl
 | d :: ds,vs,us,hk,al,r=>by
  unfold AllS at al
  obtain ⟨v,t,rfl,i,al⟩:=al
  cases r with
  | cons r1 r2 =>
   rw [List.all_cons,Bool.and_eq_true] at hk
   exact ⟨_,_,rfl,ih d v _ hk.1 i r1,Z3z ok ih ds t _ hk.2 al r2⟩
theorem Z7a (ok : F1 P w H h) : ∀ (n : Nat) (d : D) (v : V) (u : Value),O2 n d = true -> A2 K H d v -> B4 v u -> F8 h n d u:=by
 have flat : ∀ (n : Nat) (d : D) (v : V) (u : Value),(∀ ks,d ≠ .tup ks) -> O2 n d = true -> A2 K H d v -> B4 v u -> F8 h n d u:=by
  intro n d v u nt hk i r
  cases d with
  | tup ks=>exact absurd rfl (nt ks)
  | non=>unfold A2 at i; subst i; cases (show u = .none from r); cases n <;> exact rfl
  | bl b=>cases n <;> cases hk
  | lst b=>cases n <;> cases hk
  | int j=>unfold A2 at i; subst i; obtain ⟨t,rfl⟩:=(show ∃ t,u = Value.int j t from r); cases n <;> exact ⟨t,rfl⟩
  | str j=>unfold A2 at i; subst i; obtain ⟨t,rfl⟩:=(show ∃ t,u = Value.str j t from r); cases n <;> exact ⟨t,rfl⟩
 intro n
 induction n with
 | zero =>
  intro d v u hk i r
  cases d with
  | tup ks=>cases hk
  | _=>exact flat 0 _ v u (by intro ks e; cases e) hk i r
 | succ n ih =>
  intro d v u hk i r
  cases d with
  | tup ks =>
   unfold A2 at i
   obtain ⟨a,xs,rfl,e,al⟩:=i
   cases (show u = Value.ref a from r)
   obtain ⟨_,its,rv,t⟩:=(show F6 P w H h a (.tup xs) from ok a _ e)
   exact ⟨a,its.toArray,rfl,t,by simpa using Z3z ok ih ks xs its hk al rv⟩
  | _=>exact flat (n + 1) _ v u (by intro ks e; cases e) hk i r
theorem GDh.dict (ok : F1 P w H h) (g : GDh P w p ks h) (hk : ∀ x ∈ ks,O2 8 x.1 = true /\ A2 K H x.1 (.ref x.2)) :
  ∃ xs : List (D × Addr × Value),xs.map (fun x=>(x.1,x.2.1)) = ks /\ (∀ (i : Nat) x,xs[i]? = some x -> ∃ t,x.2.2 = .int i t) /\ h.DictOfH (Z2f P w) p xs:=by
 obtain ⟨_,_,xs,e,iv,o,es,ep,h1,h2,h3,h4,h5⟩:=g
 refine ⟨xs,e,iv,o,es,ep,h1,h2,h3,h4,fun x hx=>?_,h5⟩
 obtain ⟨k1,k2⟩:=hk (x.1,x.2.1) (by rw [<- e]; exact List.mem_map.mpr ⟨x,hx,rfl⟩)
 exact Z7a ok 8 _ _ _ k1 k2 rfl
end
section
variable {X : Cx} {pins : Pn9} {σ : St} {H : Hp} {s : Shared} {p : Addr}
theorem Y7a : Q1o X (.builtin "len") (fun xs H Q=>∃ p ks,xs = [V.ref p] /\ H p = some (gD X p ks) /\ (∀ x ∈ ks,O2 8 x.1 = true /\ A2 X.K H x.1 (.ref x.2)) /\ Q (.int ks.length) H):=by
 intro pins s σ H xs us Q I r ⟨p,ks,e,hp,hk,q⟩
 subst e
 obtain ⟨u,rfl,ru⟩:=V2 r
 cases ru
 have g : GDh X.prog X.w p ks s.heap:=(I.hok p _ hp).1
 obtain ⟨xs,e,iv,D⟩:=g.dict I.hok hk
 have el : xs.length = ks.length:=by rw [<- e,List.length_map]
 refine W0e g.1 D (by rw [el]; exact g.2.1) fun t t'=>⟨.int ks.length,H,I.tok _,⟨t,by rw [el]⟩,q⟩
theorem Y9r {u : HO} {o : Obj} {H' : Hp} (I : A1 X pins σ (upd H p u) s) (hn : H p = none) (nt : ∀ xs,u ≠ .tup xs) (nf : ∀ o v,u ≠ .frz o v) (no : ∀ y,¬ Q7v y u) (nb : ∀ ps,u ≠ .tbl ps) (e : s.heap.get? p = some o) (d : ∀ v,o.data ≠ .cell v) :
  A1 X ((p,o) :: pins) σ H s:=by
 have at_ : upd H p u p = some u:=upd_same
 have back : ∀ b v,H b = some v -> upd H p u b = some v:=fun b v q=>by rw [A9 (T2 q hn)]; exact q
 have none_ : ∀ b,upd H p u b = none -> H b = none /\ b ≠ p:=fun b q=>by
  by_cases z : b = p
  ·subst z; rw [upd_same] at q; cases q
  ·rw [A9 z] at q; exact ⟨q,z⟩
 have pL : p ≠ X.env.locals:=fun z=>by have:=I.free; rw [<- z,upd_same] at this; cases this
 have pF : p ∉ X.fs:=fun z=>by
  obtain ⟨_,o,ho,_⟩:=I.ok.funs.mem z
  have:=I.base.free p o ho (I.ok.frf p z) fun w=>I.ok.exfs p w z
  rw [upd_same] at this; cases this
 refine ⟨I.ok,I.os,I.bare,⟨I.base.keep,I.base.slot,fun b o q n x=>(none_ b (I.base.free b o q n x)).1,I.base.there,fun b xs q=>?_,fun b o v q=>?_,fun b ps q=>?_⟩,I.loc,I.cell,(none_ _ I.free).1,fun x c q=>(none_ _ (I.freeC x c q)).1,fun a ha=>?_,fun b v q=>?_,I.len⟩
 ·have r:=I.base.tups b xs q
  by_cases z : b = p
  ·subst z; rw [upd_same] at r; cases r; exact absurd rfl (nt _)
  ·rw [A9 z] at r; exact r
 ·have r:=I.base.frzs b o v q
  by_cases z : b = p
  ·subst z; rw [upd_same] at r; cases r; exact absurd rfl (nf _ _)
  ·rw [A9 z] at r; exact r
 ·obtain ⟨more,r⟩:=I.base.tbls b ps q
  by_cases z : b = p
  ·subst z; rw [upd_same] at r; cases r; exact absurd rfl (nb _)
  ·rw [A9 z] at r; exact ⟨more,r⟩
 ·rcases List.mem_append.mp ha with z | z
  ·obtain ⟨a1,a2,a3⟩:=I.pin a (List.mem_append_left _ z)
   exact ⟨a1,(none_ _ a2).1,a3⟩
  ·rcases List.mem_cons.mp z with z | z
   ·subst z; exact ⟨e,hn,pL,pF,d⟩
   ·obtain ⟨a1,a2,a3⟩:=I.pin a (List.mem_append_right _ z)
    exact ⟨a1,(none_ _ a2).1,a3⟩
 ·refine (I.hok b v (back b v q)).stay (fun c v _ r=>r) (fun c v ow r=>?_) fun c xs r=>?_
  ·by_cases z : c = p
   ·subst z; rw [upd_same] at r; cases r; exact absurd ow (no _)
   ·rw [A9 z] at r; exact r
  ·by_cases z : c = p
   ·subst z; rw [upd_same] at r; cases r; exact absurd rfl (nt _)
   ·rw [A9 z] at r; exact r
theorem Z2m {u : HO} (I : A1 X pins σ H s) (hn : H p = none) (hx : p ∈ X.ex \/ X.s₀.heap.objs.size <= p) (hL : p ≠ X.env.locals) (hc : ∀ x c,X.env.cells.lookup x = some c -> c ≠ p) (hp : ∀ a ∈ X.pn ++ pins,a.1 ≠ p) (new : F6 X.prog X.w (upd H p u) s.heap p u) :
  A1 X pins σ (upd H p u) s:=by
 have keep : ∀ b v,H b = some v -> upd H p u b = some v:=fun b v q=>by rw [A9 (T2 q hn)]; exact q
 refine ⟨I.ok,I.os,I.bare,⟨I.base.keep,I.base.slot,fun b o q n x=>?_,I.base.there,fun b xs q=>keep _ _ (I.base.tups b xs q),fun b o v q=>keep _ _ (I.base.frzs b o v q),fun b ps q=>let ⟨more,r⟩:=I.base.tbls b ps q; ⟨more,keep _ _ r⟩⟩,
  I.loc,I.cell,by rw [A9 (Ne.symm hL)]; exact I.free,fun x c q=>by rw [A9 (hc x c q)]; exact I.freeC x c q,fun a ha=>?_,fun b v q=>?_,I.len⟩
 ·refine (A9 (fun z=>?_)).trans (I.base.free b o q n x)
  rcases hx with hx | hx
  ·exact x (by rw [z]; exact hx)
  ·rw [z] at q; exact absurd (Heap.lt_size q) (Nat.not_lt.mpr hx)
 ·obtain ⟨a1,a2,a3⟩:=I.pin a ha
  exact ⟨a1,by rw [A9 (hp a ha)]; exact a2,a3⟩
 ·by_cases z : b = p
  ·subst z; rw [upd_same] at q; cases q; exact new
  ·rw [A9 z] at q
   exact (I.hok b v q).stay (fun _ _ _ r=>r) (fun c v _ r=>keep _ _ r) fun c xs r=>keep _ _ r
end
noncomputable def R5 (ks : List D) (d : D) : List D:=if d ∈ ks then ks else ks ++ [d]
noncomputable def Z5 : List D -> List D -> List Int
 | _,[]=>[]
 | ks,d :: r=>((ks.idxOf d : Nat) : Int) :: Z5 (R5 ks d) r
theorem Y5i {ks : List D} (hn : ks.Nodup) {j : Nat} {d : D} (e : ks[j]? = some d) : ks.idxOf d = j:=by
 obtain ⟨hj,e⟩:=List.getElem?_eq_some_iff.mp e
 subst e
 exact hn.idxOf_getElem j hj
section
variable {X : Cx} {o e x' : Expr} {apos cpos q3 q5 : Pos} {i j : Nat}
def Q9l (X : Cx) (i j : Nat) : TE:=fun σ H Q=>∃ p ks d a,σ[i]? = some (some (V.ref p)) /\ H p = some (gD X p ks) /\ σ[j]? = some (some (V.ref a)) /\ A2 X.K H d (.ref a) /\ O2 8 d = true /\ (∀ x ∈ ks,O2 8 x.1 = true /\ A2 X.K H x.1 (.ref x.2)) /\ ks.length < sizeLine /\
 (d ∈ ks.map (·.1) -> Q (.int ((ks.map (·.1)).idxOf d : Nat)) H) /\ (d ∉ ks.map (·.1) -> Q (.int ks.length) (upd H p (gD X p (ks ++ [(d,a)]))))
theorem Y5x (hu : X.A.units + 9 < cLine) (ho : PE X o (O4 i)) (he : PE X e (O4 j)) (hg : Gl X "len") (hm : X.mg "len" = none) (hx : PE X x' (O4 i)) (m : M2 X o "setdefault" apos e (.Call (.Name "len" q3) [x'] [] q5) cpos)
  (hs : starEach [x'] X.env = (false,eval x' X.env) :: starEach [] X.env:=by rfl) :
  PE X (.Call (.Attribute o "setdefault" apos) [e,.Call (.Name "len" q3) [x'] [] q5] [] cpos) (Q9l X i j):=by
 intro pins s σ H Q I ⟨p,ks,d,a,hp,Hp,ha,ia,kd,hk,hz,q1,q2⟩
 refine wpAny_Call_method m.base m.few m.line PySem.F.plainAttrs_dict PySem.F.slot_dict_setdefault PySem.F.type_dict_setdefault (B2 (ho pins s σ H (fun v H1=>v = .ref p /\ H1 = H) I ⟨_,hp,rfl,rfl⟩) fun u s1 ⟨v,H1,I1,rv,ev,eH⟩=>?_)
 subst ev eH
 obtain rfl : u = Value.ref p:=rv
 have g1 : GDh X.prog X.w p ks s1.heap:=(I1.hok p _ Hp).1
 obtain ⟨_,_,_,D1⟩:=g1.dict I1.hok hk
 refine ⟨D1.typeIs,fun b eb=>?_,?_⟩
 ·cases eb
  obtain ⟨ob,_,_,h1,h2,_⟩:=D1
  exact ⟨ob,h1,h2.2.1⟩
 rw [m.trees]
 have hlen : PE X (.Call (.Name "len" q3) [x'] [] q5) _:=Z3r Y7a hg hm rfl (Q2f hx Q4s hs) (he:=hs)
 refine Calls.callWith_builtin rfl (Calls.evalArgs_plain (Calls.spliced_cons (B2 (he pins s1 σ H1 (fun v H2=>v = .ref a /\ H2 = H1) I1 ⟨_,ha,rfl,rfl⟩) fun iv s2 ⟨y,H2,I2,ry,ey,eH⟩ =>
  Calls.spliced_cons (B2 (hlen pins s2 σ H2 (fun v H3=>v = .int ks.length /\ H3 = H2) I2 ⟨_,hp,p,ks,rfl,by rw [eH]; exact Hp,by rw [eH]; exact hk,rfl,rfl⟩) fun fv s3 ⟨z,H3,I3,rz,ez,eH3⟩=>Calls.spliced_nil ?_))))
 subst ey eH ez eH3
 obtain rfl : iv = Value.ref a:=ry
 obtain ⟨tz,rfl⟩ : ∃ t,fv = Value.int ks.length t:=rz
 have g3 : GDh X.prog X.w p ks s3.heap:=(I3.hok p _ Hp).1
 obtain ⟨xs,ex,iv,D3⟩:=g3.dict I3.hok hk
 have exk : xs.map (·.1) = ks.map (·.1):=by rw [<- ex,List.map_map]; rfl
 have el : xs.length = ks.length:=by rw [<- ex,List.length_map]
 have nd : (ks.map (·.1)).Nodup:=by obtain ⟨_,_,_,_,_,_,_,_,n⟩:=id D3; rw [<- exk]; exact n
 refine W1s (knd:=Z2f X.prog X.w) (show X.A.in1.units + 8 < cLine by simp only [Around.in1_units]; omega) g3.1 (Z7a I3.hok 8 _ _ _ kd ia rfl) D3 (by rw [el]; exact g3.2.1) (fun jj pp hj=>?_) fun hno h' D' sb=>?_
 ·obtain ⟨t,et⟩:=iv jj _ hj
  have ek : (ks.map (·.1))[jj]? = some d:=by rw [<- exk,List.getElem?_map,hj]; rfl
  have ei : (ks.map (·.1)).idxOf d = jj:=Y5i nd ek
  refine ⟨.int ((ks.map (·.1)).idxOf d : Nat),H3,I3.tok _,⟨t,by rw [ei]; exact et⟩,q1 (List.mem_of_getElem? ek)⟩
 ·rw [exk] at hno
  refine ⟨.int ks.length,_,?_,⟨tz,rfl⟩,q2 hno⟩
  obtain ⟨o',es,ep,h1,h2,h3,h4,h5,h6⟩:=D'
  refine Q2t I3 (by rw [Hp]; exact True.intro) sb ⟨o',h1⟩ (GDh.ok ⟨g3.1,by rw [List.length_append]; show ks.length + 1 <= _; omega,xs ++ [(d,a,Value.int ks.length tz)],by rw [List.map_append,ex]; rfl,fun n x hx=>?_,o',es,ep,h1,h2,h3,h4,h6⟩)
  by_cases hn : n < xs.length
  ·rw [List.getElem?_append_left hn] at hx
   exact iv n x hx
  ·rw [List.getElem?_append_right (by omega)] at hx
   have e0 : n - xs.length = 0:=by
    rcases Nat.eq_zero_or_pos (n - xs.length) with z | z
    ·exact z
    ·rw [List.getElem?_eq_none (show [(d,a,Value.int ks.length tz)].length <= n - xs.length from z)] at hx; cases hx
   rw [e0] at hx
   cases hx
   have : n = ks.length:=by omega
   subst this
   exact ⟨tz,rfl⟩
theorem W5o {pos : Pos} : PE X (.Dict [] [] pos) (fun σ H Q=>∀ p,H p = none -> X.s₀.heap.objs.size <= p -> Q (.ref p) (upd H p (gD X p []))):=by
 intro pins s σ H Q I h
 refine wpAny_Dict_empty ⟨.ref s.heap.objs.size,_,I.laid (a:=s.heap.objs.size) (o:=gD X s.heap.objs.size []) (t':=s.toks) (fun _ _ q=>Heap.get?_push_of_some _ q) (Nat.le_refl _) (GDh.ok ?_),rfl,h _ (I.hok.fresh (Nat.le_refl _)) I.sz⟩
 exact ⟨beq_eq_false_iff_ne.mpr (Ne.symm (Nat.ne_of_lt I.big)),Nat.zero_le _,[],rfl,by intro i x e; simp at e,_,#[],0,Heap.get?_push_size _ rfl,⟨rfl,rfl,rfl⟩,rfl,rfl,List.nodup_nil⟩
end
section
variable {X : Cx} {H0 : Hp} {mk x : Str} {iter : Expr} {scope : Scope} {pos p1 o1 o2 o3 apos cpos q3 q5 : Pos} {i : Nat} {wi : WIE}
noncomputable abbrev Q5t (mk x : Str) (o1 o2 o3 apos cpos q3 q5 : Pos) : Expr:=.Call (.Attribute (.Name x o1) "setdefault" apos) [.Name mk o2,.Call (.Name "len" q3) [.Name x o3] [] q5] [] cpos
def W1i (X : Cx) (H0 : Hp) (i : Nat) (wi : WIE) : TE:=fun σ H Q=>∃ p H1 τ,σ[i]? = some (some (V.ref p)) /\ H = upd H1 p (gD X p []) /\ H1 p = none /\ X.s₀.heap.objs.size <= p /\ B5 X.K H0 τ σ H1 /\
 wi τ fun ds=>ds.length <= sizeLine /\ (∀ d ∈ ds,O2 8 d = true /\ ∃ l,d = .tup l) /\ ∀ v H',A6 H1 H' -> E1 X.K H1 H' (.nw ((Z5 [] ds).map .int)) v -> Q v H'
theorem W3k (hc : X.calm = true) (hu : X.A.units + 9 < cLine) (B : K8 X scope [mk,x] 1 [i]) (hi : J8 X H0 (.Name mk p1) iter wi)
  (hg : ∀ C s H fp,PG (C1 X scope C s H fp [mk,x]) (.Name mk p1) (Q8l 0)) (he : ∀ C s H fp,PE (C1 X scope C s H fp [mk,x]) (Q5t mk x o1 o2 o3 apos cpos q3 q5) (Q9l X 1 0)) (hs : ∀ x,foldedSetIterable iter X.env x = pure x:=by intro _; rfl) :
  PE X (.ListComp (Q5t mk x o1 o2 o3 apos cpos q3 q5) [⟨.Name mk p1,iter,[],0⟩] scope pos) (W1i X H0 i wi):=by
 intro pins s σ H Q I0 ⟨p,H1,τ,hσ,eH,hn1,hps,hR,hw⟩
 subst eH
 rw [eval_ListComp]
 have g0 : GDh X.prog X.w p [] s.heap:=(I0.hok p _ upd_same).1
 obtain ⟨op,hop,hdop⟩ : ∃ o,s.heap.get? p = some o /\ ∀ v,o.data ≠ .cell v:=by
  obtain ⟨_,_,_,_,_,o,es,ep,e,_,d,_⟩:=id g0
  exact ⟨o,e,fun v z=>by rw [d] at z; cases z⟩
 have I:=Y9r I0 hn1 (by intro xs z; cases z) (by intro o v z; cases z) (by intro y z; rcases z with z | ⟨_,z⟩ <;> cases z) (by intro ps z; cases z) hop hdop (H':=H1)
 have pc : ∀ x c,X.env.cells.lookup x = some c -> c ≠ p:=fun x c q z=>by have:=I0.freeC x c q; rw [z,upd_same] at this; cases this
 have pp : ∀ a ∈ X.pn ++ pins,a.1 ≠ p:=fun a ha z=>by have:=(I0.pin a ha).2.1; rw [z,upd_same] at this; cases this
 refine wpAny_comprehension_free rfl hs (Q8e fun y hy e=>I.ok.has y.1 (B.free y hy e)) B.kind B.names ?_
 refine B2 (hi.pi ((p,op) :: pins) s σ H1 (fun J H2=>A6 H1 H2 /\ ∃ ds,YlS X.K J ds H2 /\ ds.length <= sizeLine /\ (∀ d ∈ ds,O2 8 d = true /\ ∃ l,d = .tup l) /\ ∀ v H',A6 H1 H' -> E1 X.K H1 H' (.nw ((Z5 [] ds).map .int)) v -> Q v H') I
  ⟨τ,hR,hi.mono τ _ _ (fun ds h J H' sm yl=>⟨sm,ds,yl,h⟩) hw⟩) fun v s1 h1=>B2 h1 fun itv s2 h2=>?_
 obtain ⟨it,fp0,tn,J,H2,e,I2',T,st2,f2',sm2,ds,yl,hz,hkd,hq⟩:=h2
 subst e
 obtain ⟨hp2,hpn2,hpL,hpF,_⟩:=I2'.pin (p,op) (List.mem_append_right _ List.mem_cons_self)
 have I2 : A1 X pins σ H2 s2:=I2'.pins_of fun a ha=>I2'.pin a (List.mem_append_right _ (List.mem_cons_of_mem _ ha))
 have f20 : ∀ b ∈ fp0,K3 X pins H2 b:=fun b hb=>by
  obtain ⟨a1,a2,a3,a4,a5,a6⟩:=f2' b hb
  exact ⟨a1,a2,a3,a4,a5,fun a ha=>a6 a (by rcases List.mem_append.mp ha with z | z; exact List.mem_append_left _ z; exact List.mem_append_right _ (List.mem_cons_of_mem _ z))⟩
 have np0 : ∀ b ∈ fp0,b ≠ p:=fun b hb z=>(f2' b hb).2.2.2.2.2 (p,op) (List.mem_append_right _ List.mem_cons_self) z.symm
 have fpp : K3 X pins H2 p:=⟨hpn2,hpL,hpF,.inr hps,pc,pp⟩
 generalize hfpe : p :: fp0 = fp
 have pin_fp : p ∈ fp:=by rw [<- hfpe]; exact List.mem_cons_self
 have sub_fp : ∀ b ∈ fp0,b ∈ fp:=fun b hb=>by rw [<- hfpe]; exact List.mem_cons_of_mem _ hb
 have f2 : ∀ b ∈ fp,K3 X pins H2 b:=fun b hb=>by
  rw [<- hfpe] at hb
  rcases List.mem_cons.mp hb with z | z
  ·rw [z]; exact fpp
  ·exact f20 b z
 have hfl : ∀ b ∈ fp,b < s2.heap.objs.size:=fun b hb=>by
  rw [<- hfpe] at hb
  rcases List.mem_cons.mp hb with z | z
  ·rw [z]; exact Heap.lt_size hp2
  ·obtain ⟨o,ho,_⟩:=T.obj _ _ st2 b z
   exact Heap.lt_size ho
 refine wpAny_newObj_type (wpAny_newFunctionEnv B.cell (by intro y hy; simp at hy) (fun h₁ hns₁ hsb₁=>?_) B.kind)
 dsimp only at hns₁ hsb₁ ⊢
 generalize hH2 : s2.heap.push { cls:=.type "list",dict:=none,data:=.seq ([] : List Value).toArray } = Hq at hns₁ hsb₁ ⊢
 have hC : Hq.objs.size = s2.heap.objs.size + 1:=by rw [<- hH2,Heap.size_push]
 have hDC : s2.heap.objs.size ≠ Hq.objs.size:=by rw [hC]; exact Nat.ne_of_lt (Nat.lt_succ_self _)
 have hCle : s2.heap.objs.size <= Hq.objs.size:=by rw [hC]; exact Nat.le_succ _
 have old : ∀ b o,s2.heap.get? b = some o -> h₁.get? b = some o:=fun b o e=>hsb₁.extBut b o (by rw [hC]; exact Nat.ne_of_lt (Nat.lt_succ_of_lt (Heap.lt_size e))) (Heap.get?_push_of_some _ (hH2 ▸ Heap.get?_push_of_some _ e))
 have hacc : h₁.PlainList s2.heap.objs.size #[]:=⟨_,hsb₁.extBut _ _ hDC (Heap.get?_push_of_some _ (hH2 ▸ Heap.get?_push_size _ rfl))⟩
 generalize hCe : Hq.objs.size = C at hns₁ hsb₁ hC hDC hCle ⊢
 generalize hDe : s2.heap.objs.size = D0 at hC hDC hCle hacc ⊢
 have hfl' : ∀ b ∈ fp,b < D0:=fun b hb=>hDe ▸ hfl b hb
 have hst₁ : tn 0 h₁:=T.keep _ _ _ st2 fun b _ o e=>old b o e
 have Ib0:=Q7k (C:=C) (h':=h₁) (t':=s2.toks + ([] : List (Str × Value)).length) I2 B f2 hfl (by rw [hDe]; exact hCle) hns₁ old
 have hpC : p ≠ C:=Nat.ne_of_lt (Nat.lt_of_lt_of_le (hfl' p pin_fp) hCle)
 have hD2 : H2 D0 = none:=I2.hok.fresh (by rw [hDe]; exact Nat.le_refl _)
 have hDp : D0 ≠ p:=fun z=>by have:=hfl' p pin_fp; rw [z] at this; exact Nat.lt_irrefl _ this
 have ncp : ∀ x c,(Q1 X.env scope.names []).lookup x = some c -> c ≠ p:=fun x c h=>pc x c (U3 I2 B h)
 have Ib1:=Z2m Ib0 (p:=p) (u:=gD X p []) hpn2 (.inl pin_fp) hpC ncp (by intro a ha; simp [C1] at ha) (by
  obtain ⟨a,b,xs,c,d,o,es,ep,e,r⟩:=id g0
  have eo : o = op:=by rw [hop] at e; exact (Option.some.inj e).symm
  subst eo
  exact GDh.ok ⟨a,b,xs,c,d,o,es,ep,old _ _ hp2,r⟩)
 have nfs : D0 ∉ frs X.stack:=fun z=>by
  rcases List.mem_cons.mp (I2.stkSub _ z) with e | e
  ·have:=I2.lt; rw [<- e,hDe] at this; exact Nat.lt_irrefl _ this
  ·exact I2.nofs (by rw [hDe]; exact Nat.le_refl _) e
 have ncl : ∀ x c,(Q1 X.env scope.names []).lookup x = some c -> c ≠ D0:=fun x c h z=>by
  obtain ⟨v,q⟩:=I2.cell x c (U3 I2 B h)
  have:=q.lt
  rw [z,hDe] at this
  exact Nat.lt_irrefl _ this
 have pinD : ∀ {pb : Pn9} {σ' : St} {H' : Hp} {s' : Shared} {ys : Array Value} {n : Nat},A1 (C1 X scope C s2 H2 fp [mk,x]) pb σ' H' s' -> H' D0 = none -> s'.heap.get? D0 = some { cls:=.type "list",data:=.seq ys n } ->
   A1 (C1 X scope C s2 H2 fp [mk,x]) [(D0,{ cls:=.type "list",data:=.seq ys n })] σ' H' s':=by
  intro pb σ' H' s' ys n I' n' e
  refine I'.pins_of fun a hp=>?_
  have e' : a = (D0,{ cls:=.type "list",data:=.seq ys n }):=by simpa using hp
  subst e'
  exact ⟨e,n',hDC,nfs,fun v z=>by cases z⟩
 have fpX : ∀ {H' : Hp} {ob : Obj},(∀ b ∈ fp0,H' b = none) -> ∀ b ∈ fp0,K3 (C1 X scope C s2 H2 fp [mk,x]) [(D0,ob)] H' b:=by
  intro H' ob hn b hb
  have hb':=sub_fp b hb
  refine ⟨hn b hb,(Nat.ne_of_lt (Nat.lt_of_lt_of_le (hfl' b hb') hCle)),fun z=>?_,.inl hb',fun x c h=>(f2 b hb').2.2.2.2.1 x c (U3 I2 B h),fun a hp=>?_⟩
  ·rcases List.mem_cons.mp (I2.stkSub b z) with e | e
   ·exact (f2 b hb').2.1 e
   ·exact (f2 b hb').2.2.1 e
  ·have e' : a = (D0,ob):=by simpa [C1] using hp
   subst e'
   exact (Nat.ne_of_lt (hfl' b hb')).symm
 let Inn : Nat -> Shared -> Prop:=fun k s'=>∃ (n : Nat) (σ' : St) (H' : Hp) (ks : List (D × Addr)) (ys : Array Value) (nn : Nat) (vs : List V) (es : List Int),A1 (C1 X scope C s2 H2 fp [mk,x]) [(D0,{ cls:=.type "list",data:=.seq ys nn })] σ' H' s' /\ σ'[1]? = some (some (V.ref p)) /\ A6 H2 H' /\ tn n s'.heap /\
  (∀ b ∈ fp0,H' b = none) /\ H' D0 = none /\ H' p = some (gD X p ks) /\ (∀ y ∈ ks,O2 8 y.1 = true /\ A2 X.K H' y.1 (.ref y.2)) /\ ks.length <= n /\ C4 vs ys.toList /\ vs = es.map V.int /\ n <= ds.length /\ k = ds.length - n /\ es.length = n /\ es ++ Z5 (ks.map (·.1)) (ds.drop n) = Z5 [] ds
 have loop : ∀ s₃ : Shared,s₃ = { s2 with heap:=h₁,toks:=s2.toks + ([] : List (Str × Value)).length } ->
   codeAny (model X.prog X.w) X.A (.compLoop (.ListComp (Q5t mk x o1 o2 o3 apos cpos q3 q5) [⟨.Name mk p1,iter,[],0⟩] scope pos) 0 (.ref it) (.ref D0) (compEnvC scope (Q1 X.env scope.names []) C X.env))
    (compPost (model X.prog X.w) X.A X.xe none (EP X pins σ Q) (.ref D0) C) s₃:=by
  rintro s₃ rfl
  obtain ⟨nn,ho⟩:=id hacc
  refine Z1c Inn ?_ ds.length ⟨0,_,upd H2 p (gD X p []),[],#[],nn,[],[],pinD Ib1 (by rw [A9 hDp]; exact hD2) ho,(by show ([none] ++ [(σ[i]?).join] : St)[1]? = _; rw [hσ]; rfl),F7 hpn2 _,hst₁,fun b hb=>by rw [A9 (np0 b hb)]; exact (f20 b hb).1,by rw [A9 hDp]; exact hD2,upd_same,(by intro y hy; cases hy),Nat.le_refl _,.nil,rfl,Nat.zero_le _,rfl,rfl,by simp⟩
  rintro k s3 ⟨n,σ3,H3,ks,ys,nn,vs,es,I3,hx3,sm3,st3,fr3,d3,hp3,hks,hkl,rv3,ev3,hn3,rfl,hes,w3⟩
  by_cases hlt : n < ds.length
  ·refine wpAny_mono (T.item (C1 X scope C s2 H2 fp [mk,x]) rfl rfl rfl hc n _ s3 σ3 H3 (fun _ _=>False) I3 (fpX fr3) st3 (yl.go H3 sm3 n hlt)) (fun r s4 ⟨u,hr,h4⟩=>?_) fun _ _ z=>z
   subst hr
   refine wpAny_mono h4 (fun _ s5 ⟨v5,H5,I5,r5,y5,st5,fr5⟩=>?_) fun _ _ z=>z
   obtain ⟨s35,ix⟩:=yl.yld H3 sm3 n v5 H5 _ (List.getElem?_eq_getElem hlt) y5
   rw [List.drop_eq_getElem_cons hlt] at w3
   have I5':=I5.pinned (fpX fr5) (T.obj _ _ st5)
   obtain ⟨kd,l,ed⟩:=hkd ds[n] (List.getElem_mem hlt)
   obtain ⟨a5,e5⟩ : ∃ a,v5 = .ref a:=by
    have ix' : A2 X.K H5 (.tup l) v5:=ed ▸ ix
    unfold A2 at ix'
    obtain ⟨a,_,e,_⟩:=ix'
    exact ⟨a,e⟩
   subst e5
   refine wpAny_mono (hg C s2 H2 fp _ s5 σ3 H5 (.ref a5) u (fun σ6 H6=>σ6 = σ3.set 0 (some (.ref a5)) /\ H6 = H5) I5' r5 ⟨rfl,rfl⟩) (fun _ s6 ⟨σ6,H6,I6,e6,eH6⟩=>?_) fun _ _ z=>z
   subst e6 eH6
   refine wpAny_tests_nil ?_
   rw [if_pos rfl]
   have hl3 : σ3.length = 2:=I3.len
   have hp5 : H6 p = some (gD X p ks):=s35 _ _ hp3
   have hk5 : ∀ y ∈ ks,O2 8 y.1 = true /\ A2 X.K H6 y.1 (.ref y.2):=fun y hy=>⟨(hks y hy).1,(hks y hy).2.mono (Kp.of s35) _ _⟩
   let R7 : V -> Hp -> Prop:=fun v H7=>∃ ks',H7 p = some (gD X p ks') /\ (∀ y ∈ ks',O2 8 y.1 = true /\ A2 X.K H7 y.1 (.ref y.2)) /\ ks'.length <= n + 1 /\ (∀ b u,b ≠ p -> H6 b = some u -> H7 b = some u) /\ Kp H6 H7 /\ v = .int (((ks.map (·.1)).idxOf ds[n] : Nat) : Int) /\ ks'.map (·.1) = R5 (ks.map (·.1)) ds[n]
   refine wpAny_mono (he C s2 H2 fp _ s6 _ H6 R7 I6 ⟨p,ks,ds[n],a5,by rw [List.getElem?_set_ne (by decide)]; exact hx3,hp5,by rw [List.getElem?_set_self (by omega)],ix,kd,hk5,by omega,fun hin=>?_,fun hno=>?_⟩) (fun y s8 ⟨v8,H8,I8,rv8,ks',hp8,hk8,hl8,sm8,kp8,ev8,ek8⟩=>?_) fun _ _ z=>z
   ·exact ⟨ks,hp5,hk5,by omega,fun _ _ _ q=>q,Kp.refl _,rfl,by unfold R5; rw [if_pos hin]⟩
   ·have kp : Kp H6 (upd H6 p (gD X p (ks ++ [(ds[n],a5)]))):=Kp.updM hp5 (by intro xs z; cases z) (by intro o u z; cases z) _
    refine ⟨ks ++ [(ds[n],a5)],upd_same,fun y hy=>?_,by rw [List.length_append]; show ks.length + 1 <= _; omega,fun b u hb q=>by rw [A9 hb]; exact q,kp,?_,?_⟩
    ·rcases List.mem_append.mp hy with z | z
     ·exact ⟨(hk5 y z).1,(hk5 y z).2.mono kp _ _⟩
     ·rw [List.mem_singleton.mp z]; exact ⟨kd,ix.mono kp _ _⟩
    ·rw [List.idxOf_eq_length hno,List.length_map]
    ·unfold R5; rw [if_neg hno,List.map_append]; rfl
   ·have pd:=I8.pin (D0,_) (List.mem_append_right _ (List.mem_append_left _ List.mem_cons_self))
    obtain ⟨o8,d8,_⟩:=pd
    have hys : ys.size <= sizeLine:=by
     have e1:=rv3.length
     have e4 : ys.toList.length = ys.size:=by simp
     have e5 : vs.length = n:=by rw [ev3,List.length_map,hes]
     omega
    refine wpAny_list_append_plain (hsz:=hys) ⟨nn,o8⟩ fun h₅ hl₅ hs₅=>?_
    have I8f : A1 (C1 X scope C s2 H2 fp [mk,x]) (S8 fp0 s5.heap) (σ3.set 0 (some (.ref a5))) H8 s8:=I8.pins_of fun a ha=>I8.pin a (List.mem_append_right _ (List.mem_append_right _ ha))
    have I9 : A1 (C1 X scope C s2 H2 fp [mk,x]) (S8 fp0 s5.heap) (σ3.set 0 (some (.ref a5))) H8 { s8 with heap:=h₅ }:=by
     refine I8f.turned (t':=s8.toks) (it:=D0) (fun b o hb e=>(hs₅.2 b hb).trans e) d8 hDC (.inr (by rw [<- hDe]; exact Nat.le_refl _)) ncl (fun a hp z=>?_)
     obtain ⟨q1,_⟩:=Q5i (by simpa [C1] using hp)
     exact Nat.ne_of_lt (hfl' _ (sub_fp _ q1)) z
    obtain ⟨nn9,o9⟩:=hl₅
    have st9 : tn (n + 1) h₅:=T.keep _ _ _ st5 fun b hb o e=>(I9.pin (b,o) (List.mem_append_right _ (Q0j hb e))).1
    refine ⟨ds.length - (n + 1),by omega,n + 1,_,H8,ks',_,nn9,vs ++ [v8],es ++ [(((ks.map (·.1)).idxOf ds[n] : Nat) : Int)],pinD I9 d8 o9,by rw [List.getElem?_set_ne (by decide)]; exact hx3,fun b u q=>?_,st9,fun b hb=>?_,d8,hp8,hk8,hl8,?_,?_,hlt,rfl,by rw [List.length_append,hes]; rfl,?_⟩
    ·have nb : b ≠ p:=fun z=>by rw [z,hpn2] at q; cases q
     exact sm8 b u nb (s35 _ _ (sm3 _ _ q))
    ·obtain ⟨o,e,_⟩:=T.obj _ _ st5 b hb
     exact (I9.pin (b,o) (List.mem_append_right _ (Q0j hb e))).2.1
    ·have : (ys.push y).toList = ys.toList ++ [y]:=by simp
     rw [this]
     exact rv3.append (.cons rv8 .nil)
    ·rw [ev3,ev8,List.map_append]; rfl
    ·rw [<- w3,Z5,ek8,List.append_assoc]; rfl
  ·have e : n = ds.length:=by omega
   subst e
   refine wpAny_mono (T.done (C1 X scope C s2 H2 fp [mk,x]) rfl rfl rfl hc ds.length _ s3 σ3 H3 (fun _ _=>False) I3 (fpX fr3) st3 (yl.stop H3 sm3)) (fun r s4 ⟨hr,I4⟩=>?_) fun _ _ z=>z
   subst hr
   have o4:=(I4.pin (D0,_) (List.mem_append_right _ List.mem_cons_self)).1
   rw [List.drop_length] at w3
   have w3 : es ++ [] = Z5 [] ds:=w3
   rw [List.append_nil] at w3
   obtain ⟨m4,hn4,_⟩:=id I4.loc
   refine ⟨m4,hn4,fun h' sb=>?_⟩
   have hvs : vs.length <= sizeLine:=by rw [ev3,List.length_map,hes]; exact hz
   refine ⟨.ref D0,_,Y0e I2 I4 f2 (by rw [hDe]; exact hCle) (by rw [hDe]; exact Nat.le_refl _) hDC d3 ⟨nn,o4⟩ rv3 hvs sb,rfl,hq _ _ (sm2.trans (sm3.trans (F7 d3 _))) ⟨D0,vs,rfl,sm2.free hD2,upd_same,?_⟩⟩
   rw [ev3,<- w3]
   exact AllS.ints
 exact codeAny_compStart_list (loop _ rfl) (T.self _ 0 _ _ _ hst₁ (loop _ rfl))
variable {sp sp' dp rp : Pos}
theorem B5.unset {K : Fg9} {H : Hp} {τ : A8} {σ : St} (hR : B5 K H0 τ σ H) (i : Nat) (v : V) : B5 K H0 (τ.set i none) (σ.set i (some v)) H:=by
 have at_ : ∀ (j : Nat) (t : Sl),(τ.set i none)[j]? = some (some t) -> j ≠ i /\ τ[j]? = some (some t):=fun j t e=>by
  by_cases z : j = i
  ·subst z
   rw [List.getElem?_set_self' ] at e
   cases q : τ[j]? with
   | none=>rw [q] at e; cases e
   | some w=>rw [q] at e; cases e
  ·rw [List.getElem?_set_ne (Ne.symm z)] at e; exact ⟨z,e⟩
 refine ⟨by rw [List.length_set,List.length_set]; exact hR.len,hR.same,fun j t e=>?_,fun j k t u w hne e2 e3 m1 m2 q1 q2=>?_⟩
 ·obtain ⟨z,e⟩:=at_ j t e
  obtain ⟨w,q,r⟩:=hR.here j t e
  exact ⟨w,by rw [List.getElem?_set_ne (Ne.symm z)]; exact q,r⟩
 ·obtain ⟨z1,e2⟩:=at_ j t e2
  obtain ⟨z2,e3⟩:=at_ k u e3
  rw [List.getElem?_set_ne (Ne.symm z1)] at q1
  rw [List.getElem?_set_ne (Ne.symm z2)] at q2
  exact hR.apart j k t u w hne e2 e3 m1 m2 q1 q2
noncomputable def Z1i (i : Nat) (wi : WIE) : WS:=fun E τ=>i < τ.length /\ wi (τ.set i none) fun ds=>ds.length <= sizeLine /\ (∀ d ∈ ds,O2 8 d = true /\ ∃ l,d = .tup l) /\ E.rt (.nw ((Z5 [] ds).map .int))
theorem A4.numb (hc : X.calm = true) (hu : X.A.units + 9 < cLine) (B : K8 X scope [mk,x] 1 [i]) (hi : J8 X H0 (.Name mk p1) iter wi)
  (hg : ∀ C s H fp,PG (C1 X scope C s H fp [mk,x]) (.Name mk p1) (Q8l 0)) (he : ∀ C s H fp,PE (C1 X scope C s H fp [mk,x]) (Q5t mk x o1 o2 o3 apos cpos q3 q5) (Q9l X 1 0))
  (hN : X.N.Nodup) (hix : X.N[i]? = some x) (hx : Loc X.env.scope x) (hf : X.fn x = true \/ X.env.scope.names.lookup x = some .local:=by first | exact .inl rfl | exact .inr rfl | assumption)
  (hs : ∀ x,foldedSetIterable iter X.env x = pure x:=by intro _; rfl) (hsw : swapsWith (.Dict [] [] dp) (some (.Name x sp')) sp.line X.env = pure false:=by rfl) :
  A4 X H0 [.Assign [.Name x sp'] (.Dict [] [] dp) sp,.Return (some (.ListComp (Q5t mk x o1 o2 o3 apos cpos q3 q5) [⟨.Name mk p1,iter,[],0⟩] scope pos)) rp] (Z1i i wi) where
 mono:=fun τ E F le h=>⟨h.1,hi.mono _ _ _ (fun ds ⟨a,b,c⟩=>⟨a,b,le.rt _ c⟩) h.2⟩
 ps:=Q7p (Z6e (Q4f hN hix hx W5o hsw hf) (Z4n (Z1b (W3k hc hu B hi hg he hs)))) fun D σ H ⟨τ,hR,h⟩ p hp hps=>by
  have hl : i < σ.length:=by rw [<- hR.len]; exact h.1
  refine ⟨p,H,τ.set i none,by rw [List.getElem?_set_self hl],rfl,hp,hps,hR.unset i _,hi.mono _ _ _ (fun ds ⟨a,b,c⟩=>⟨a,b,fun v H' sm ir=>?_⟩) h.2⟩
  exact c v H' (hR.same.trans sm) (ir.older hR.same)
@[simp] theorem Y5m {E : E6} {τ : A8} : Z1i i wi E τ = (i < τ.length /\ wi (τ.set i none) fun ds=>ds.length <= sizeLine /\ (∀ d ∈ ds,O2 8 d = true /\ ∃ l,d = .tup l) /\ E.rt (.nw ((Z5 [] ds).map .int))):=rfl
end
noncomputable def M0 (K : Fg9) (a : Addr) (kvs : List (B0 × D)) : Hp -> Prop:=fun H=>∃ o ps,H a = some (.frz o (.dK ps)) /\ B8 K H kvs ps
theorem M0.mono {K : Fg9} {a : Addr} {kvs : List (B0 × D)} : Q3j (M0 K a kvs):=fun H H' k ⟨o,ps,h,q⟩=>⟨o,ps,k.frz _ _ _ h,q.mono k _ _⟩
section
variable {X : Cx} {pins : Pn9} {σ : St} {H H0 : Hp} {s : Shared} {a : Addr}
theorem Z4t {ps : List (B0 × V)} (I : A1 X pins σ H s) (h : H a = some (.dK ps)) : ∃ o,A1 X pins σ (upd H a (.frz o (.dK ps))) s:=by
 have ok:=I.hok a _ h
 obtain ⟨_,_,_,_,o,_,_,q,_⟩:=id (show F6 X.prog X.w H s.heap a (.dK ps) from ok)
 refine ⟨o,I.write (t':=s.toks) (h':=s.heap) (e:=a) (o:=.frz o (.dK ps)) (by rw [h]; trivial) (.inl rfl) (fun b u _ k=>k) ⟨_,q⟩ ⟨q,?_⟩⟩
 exact ok
theorem B5.freezeK {K : Fg9} {τ : A8} {i : Nat} {kvs : List (B0 × D)} {o : Obj} {ps : List (B0 × V)} (hR : B5 K H0 τ σ H) (e1 : τ[i]? = some (some (.dk kvs))) (hv : σ[i]? = some (some (.ref a))) (h0 : H0 a = none) (sq : H a = some (.dK ps)) (kv : B8 K H kvs ps) :
  B5 K H0 (τ.set i (some (.cl a (M0 K a kvs)))) σ (upd H a (.frz o (.dK ps))):=by
 have kp : Kp H (upd H a (.frz o (.dK ps))):=Kp.updM sq (by intro xs z; cases z) (by intro o u z; cases z) _
 exact hR.mutG e1 rfl hv h0 sq (by intro xs z; cases z) (by intro o u z; cases z) ⟨rfl,⟨o,ps,upd_same,kv.mono kp _ _⟩,M0.mono⟩
end
section
variable {X : Cx} {H0 : Hp} {st : Stmt} {w : WS}
theorem Z2x {t : TS} (h : PS X st t) : PS X st (fun D σ H=>t { D with nx:=fun σ' H'=>∀ pins s,A1 X pins σ' H' s -> ∃ H'',A1 X pins σ' H'' s /\ D.nx σ' H'' } σ H):=by
 intro pins s σ H D I q
 refine B2 (h pins s σ H _ I q) fun f s1 q1=>?_
 cases f with
 | next =>
  obtain ⟨σ',H',I',q2⟩:=q1
  obtain ⟨H'',I'',q3⟩:=q2 pins s1 I'
  exact ⟨σ',H'',I'',q3⟩
 | brk=>exact q1
 | cont=>exact q1
 | ret v=>exact q1
def Z1m (K : Fg9) (i : Nat) (w : WS) : WS:=fun E τ=>w { E with nx:=fun τ'=>∃ kvs,τ'[i]? = some (some (.dk kvs)) /\ ∀ a,E.nx (τ'.set i (some (.cl a (M0 K a kvs)))) } τ
theorem DS.fzK (i : Nat) (h : DS X H0 st w) : DS X H0 st (Z1m X.K i w) where
 mono:=fun τ E F le q=>h.mono τ { E with nx:=fun τ'=>∃ kvs,τ'[i]? = some (some (.dk kvs)) /\ ∀ a,E.nx (τ'.set i (some (.cl a (M0 X.K a kvs)))) } { F with nx:=fun τ'=>∃ kvs,τ'[i]? = some (some (.dk kvs)) /\ ∀ a,F.nx (τ'.set i (some (.cl a (M0 X.K a kvs)))) } ⟨fun τ' ⟨kvs,e,q⟩=>⟨kvs,e,fun a=>le.nx _ (q a)⟩,le.rt,le.bk,le.ct⟩ q
 ps:=P4 (Z2x h.ps) fun D σ H ⟨τ,hR,q⟩=>⟨τ,hR,h.mono τ { K9 X.K H0 H D with nx:=fun τ'=>∃ kvs,τ'[i]? = some (some (.dk kvs)) /\ ∀ a,(K9 X.K H0 H D).nx (τ'.set i (some (.cl a (M0 X.K a kvs)))) } _ ⟨fun τ' ⟨kvs,e,q⟩ σ' H' kp hR' pins s I=>by
  obtain ⟨a,ps,hv,h0,sq,kv⟩:=hR'.dkAt e
  obtain ⟨o,I2⟩:=Z4t I sq
  exact ⟨_,I2,q a σ' _ (kp.trans (Kp.updM sq (by intro xs z; cases z) (by intro o u z; cases z) _)) (hR'.freezeK e hv h0 sq kv)⟩,fun _ h=>h,fun _ h=>h,fun _ h=>h⟩ q⟩
end
section
variable {X : Cx} {H0 : Hp} {a b c e o tg : Expr} {pos pos' p2 apos cpos : Pos} {wa wb wi we wv : WE} {x : Str} {i : Nat}
def Q9t (K : Fg9) (i : Nat) : WS:=fun E τ=>∃ kvs,τ[i]? = some (some (.dk kvs)) /\ ∀ a,E.rt (.cl a (M0 K a kvs))
theorem DS.retK (he : PE X e (O4 i)) : DS X H0 (.Return (some e) pos) (Q9t X.K i) where
 mono:=fun τ E F le ⟨kvs,e1,q⟩=>⟨kvs,e1,fun a=>le.rt _ (q a)⟩
 ps:=by
  intro pins s σ H D I ⟨τ,hR,kvs,e1,q⟩
  obtain ⟨a,ps,hv,h0,sq,kv⟩:=hR.dkAt e1
  refine wpAny_Return_some (B2 (he pins s σ H (fun v H1=>v = .ref a /\ H1 = H) I ⟨_,hv,rfl,rfl⟩) fun u s1 ⟨v,H1,I1,rv,ev,eH⟩=>?_)
  subst ev eH
  obtain ⟨ob,I2⟩:=Z4t I1 sq
  have kp : Kp H1 (upd H1 a (.frz ob (.dK ps))):=Kp.updM sq (by intro xs z; cases z) (by intro o u z; cases z) _
  refine ⟨.ref a,σ,_,I2,rv,q a _ _ (fun b ob hb=>?_) ⟨rfl,⟨ob,ps,upd_same,kv.mono kp _ _⟩,M0.mono⟩⟩
  rw [A9 (T2 hb h0)]; exact hR.same _ _ hb
def Q9m (i : Nat) (we : WE) : WS:=fun E τ=>we τ fun r=>∃ a Φ,r = .cl a Φ /\ E.nx (τ.set i (some (.cl a Φ)))
theorem DS.setF (he : DE X H0 e we) (hN : X.N.Nodup) (hi : X.N[i]? = some x) (hx : Loc X.env.scope x) (hs : swapsWith e (some (.Name x pos')) pos.line X.env = pure false:=by rfl)
  (hf : X.fn x = true \/ X.env.scope.names.lookup x = some .local:=by first | exact .inl rfl | exact .inr rfl | assumption) : DS X H0 (.Assign [.Name x pos'] e pos) (Q9m i we) where
 mono:=fun τ E F le h=>he.mono τ _ _ (fun r ⟨a,Φ,e1,q⟩=>⟨a,Φ,e1,le.nx _ q⟩) h
 ps:=P4 (Q4f hN hi hx he.pe hs hf) fun D σ H ⟨τ,hR,h⟩=>⟨τ,hR,he.mono τ _ _ (fun r ⟨a,Φ,e1,q⟩ v H1 s1 ir=>by
  subst e1
  exact q _ _ (Kp.of s1) ((hR.mono s1).set (s:=.cl a Φ) ir fun m=>by cases m)) h⟩
theorem B5.fkAt {K : Fg9} {H : Hp} {τ : A8} {σ : St} {a : Addr} {kvs : List (B0 × D)} (hR : B5 K H0 τ σ H) (e1 : τ[i]? = some (some (.cl a (M0 K a kvs)))) : σ[i]? = some (some (.ref a)) /\ ∃ o ps,H a = some (.frz o (.dK ps)) /\ B8 K H kvs ps:=by
 obtain ⟨v,hv,rfl,q,_⟩:=hR.here i _ e1
 exact ⟨hv,q⟩
def Q6d (K : Fg9) (i : Nat) (we : WE) : WE:=fun τ Q=>∃ a kvs,τ[i]? = some (some (.cl a (M0 K a kvs))) /\ we τ fun r=>∃ kd k d,r = .st kd /\ N9 kd = some k /\ D7 kvs k = some d /\ Q (.st d)
theorem DE.fget (hu : X.A.units + 1 < cLine) (ho : PE X o (O4 i)) (he : DE X H0 e we) (hs : Q5y e) : DE X H0 (.Subscript o e pos) (Q6d X.K i we) where
 mono:=fun τ P Q f ⟨a,kvs,e1,h⟩=>⟨a,kvs,e1,he.mono τ _ _ (fun r ⟨ds,ks,d,a1,a2,a3,a4⟩=>⟨ds,ks,d,a1,a2,a3,f _ a4⟩) h⟩
 pe:=O0 (Z1v hu ho he.pe hs) fun σ H Q ⟨τ,hR,a,kvs,e1,h⟩=>by
  obtain ⟨hv,ob,ps,sq,kv⟩:=hR.fkAt e1
  refine ⟨_,hv,τ,hR,he.mono τ _ _ (fun r ⟨kd,k,d,a1,a2,a3,a4⟩ v H1 s1 ir=>?_) h⟩
  subst a1
  cases Q1l a2 (show A2 X.K H1 kd v from ir)
  rcases B8.val (k:=k) (kv.mono (Kp.of s1) _ _) with ⟨n1,_⟩ | ⟨d',v',n1,n2,n3⟩
  ·rw [a3] at n1; cases n1
  ·rw [a3] at n1; cases n1
   exact ⟨a,v',rfl,.inl ⟨ps,k,.inr ⟨ob,s1 _ _ sq⟩,rfl,n2.symm⟩,a4 _ _ s1 n3⟩
def Q9o (K : Fg9) (i : Nat) (we : WE) : WE:=fun τ Q=>∃ a kvs,τ[i]? = some (some (.cl a (M0 K a kvs))) /\ we τ fun r=>∃ kd k,r = .st kd /\ N9 kd = some k /\ Q (.st ((D7 kvs k).getD .non))
theorem DE.fget1 (hu : X.A.units + 1 < cLine) (ho : PE X o (O4 i)) (he : DE X H0 e we) (m : M1 X o "get" apos e cpos) : DE X H0 (.Call (.Attribute o "get" apos) [e] [] cpos) (Q9o X.K i we) where
 mono:=fun τ P Q f ⟨a,kvs,e1,h⟩=>⟨a,kvs,e1,he.mono τ _ _ (fun r ⟨ds,ks,a1,a2,a4⟩=>⟨ds,ks,a1,a2,f _ a4⟩) h⟩
 pe:=O0 (Y6g hu ho he.pe m) fun σ H Q ⟨τ,hR,a,kvs,e1,h⟩=>by
  obtain ⟨hv,ob,ps,sq,kv⟩:=hR.fkAt e1
  refine ⟨_,hv,a,rfl,.inl ⟨ps,.inr ⟨ob,sq⟩⟩,τ,hR,he.mono τ _ _ (fun r ⟨kd,k,a1,a2,a4⟩ v H1 s1 ir=>?_) h⟩
  subst a1
  cases Q1l a2 (show A2 X.K H1 kd v from ir)
  refine ⟨_,.inl ⟨ps,k,.inr ⟨ob,s1 _ _ sq⟩,rfl,rfl⟩,a4 _ _ s1 ?_⟩
  rcases B8.val (k:=k) (kv.mono (Kp.of s1) _ _) with ⟨n1,n2⟩ | ⟨d',v',n1,n2,n3⟩
  ·rw [n1,n2]; exact A2.s_non (K:=X.K) (H:=H1)
  ·rw [n1,n2]; exact n3
def Q9n (i : Nat) : WS:=fun E τ=>E.nx (τ.set i (some (.dk [])))
theorem DS.knew (hN : X.N.Nodup) (hi : X.N[i]? = some x) (hx : Loc X.env.scope x) (hs : swapsWith (.Dict [] [] p2) (some (.Name x pos')) pos.line X.env = pure false:=by rfl)
  (hf : X.fn x = true \/ X.env.scope.names.lookup x = some .local:=by first | exact .inl rfl | exact .inr rfl | assumption) : DS X H0 (.Assign [.Name x pos'] (.Dict [] [] p2) pos) (Q9n i) where
 mono:=fun τ E F le h=>le.nx _ h
 ps:=P4 (Q4f hN hi hx W3s hs hf) fun D σ H ⟨τ,hR,h⟩ p hp=>by
  have sm : A6 H (upd H p (.dK [])):=F7 hp _
  refine h _ _ (Kp.of sm) ((hR.mono sm).set (s:=.dk []) ⟨p,[],rfl,hR.same.free hp,upd_same,rfl⟩ fun _ j t hj e m q=>?_)
  obtain ⟨o,ho⟩:=hR.tracked e m q
  rw [hp] at ho; cases ho
def Z1s (i : Nat) (we wv : WE) : WS:=fun E τ=>i < τ.length /\ we τ fun rk=>∃ kd k,rk = .st kd /\ N9 kd = some k /\ wv τ fun r=>∃ d,r = .st d /\ E.nx (τ.set i (some (.dk [(k,d)])))
theorem DS.knew1 {v : Expr} (he : DE X H0 e we) (hv : DE X H0 v wv) (hN : X.N.Nodup) (hi : X.N[i]? = some x) (hx : Loc X.env.scope x) (hs : swapsWith (.Dict [some e] [v] p2) (some (.Name x pos')) pos.line X.env = pure false:=by rfl)
  (hf : X.fn x = true \/ X.env.scope.names.lookup x = some .local:=by first | exact .inl rfl | exact .inr rfl | assumption) : DS X H0 (.Assign [.Name x pos'] (.Dict [some e] [v] p2) pos) (Z1s i we wv) where
 mono:=fun τ E F le h=>⟨h.1,he.mono τ _ _ (fun r ⟨ds,ks,a1,a2,h⟩=>⟨ds,ks,a1,a2,hv.mono τ _ _ (fun r ⟨d,b1,b2⟩=>⟨d,b1,le.nx _ b2⟩) h⟩) h.2⟩
 ps:=P4 (Q4f hN hi hx (W0z (Y9x he.pe hv.pe W1p) rfl rfl (by simp) (by simp)) hs hf) fun D σ H ⟨τ,hR,hl,h⟩ p hp=>by
  have sm : A6 H (upd H p (.dK [])):=F7 hp _
  have hR1:=hR.mono sm
  refine ⟨τ,hR1,he.mono τ _ _ (fun rk ⟨kd,k,a1,a2,h⟩ y H1 s1 ik=>?_) h⟩
  subst a1
  have hR2:=hR1.mono s1
  refine ⟨τ,hR2,hv.mono τ _ _ (fun r ⟨d,b1,b2⟩ u H2 s2 iv=>?_) h⟩
  subst b1
  cases Q1l a2 (show A2 X.K H1 kd y from ik)
  have ep:=s2 _ _ (s1 _ _ (upd_same (H:=H) (a:=p) (o:=.dK [])))
  refine ⟨ep,[(k,u)],rfl,by simp,?_⟩
  have e1 : Q4c [] [(k,u)] = [(k,u)]:=rfl
  rw [e1]
  have kp : Kp H2 (upd H2 p (.dK [(k,u)])):=Kp.updM ep (by intro xs z; cases z) (by intro o u z; cases z) _
  have hR3:=hR2.mono s2
  have h0 : H0 p = none:=hR.same.free hp
  have kpa : Kp H (upd H2 p (.dK [(k,u)])):=(Kp.of ((sm.trans s1).trans s2)).trans kp
  have hin : ∀ (j : Nat) (t : Sl),τ[j]? = some (some t) -> t.mut = true -> σ[j]? ≠ some (some (.ref p)):=fun j t e m q=>by
   obtain ⟨o,ho⟩:=hR.tracked e m q
   rw [hp] at ho; cases ho
  have hR4 : B5 X.K H0 (τ.set i (some (.dk []))) (σ.set i (some (.ref p))) H2:=hR3.set (s:=.dk []) ⟨p,[],rfl,h0,ep,rfl⟩ fun _ j t hj e m q=>hin j t e m q
  have g1 : (τ.set i (some (.dk [])))[i]? = some (some (.dk [])):=List.getElem?_set_self hl
  have g2 : (σ.set i (some (V.ref p)))[i]? = some (some (.ref p)):=List.getElem?_set_self (by rw [<- hR.len]; exact hl)
  have hR5:=hR4.mutG (s':=.dk [(k,d)]) (new:=.dK [(k,u)]) g1 rfl g2 h0 ep (by intro xs z; cases z) (by intro o u z; cases z) ⟨p,[(k,u)],rfl,h0,upd_same,⟨u,[],rfl,A2.mono kp _ _ iv,rfl⟩⟩
  rw [List.set_set] at hR5
  exact b2 _ _ kpa hR5
def Q8r (i : Nat) (we wv : WE) : WS:=fun E τ=>∃ kvs,τ[i]? = some (some (.dk kvs)) /\ we τ fun rk=>∃ kd k,rk = .st kd /\ N9 kd = some k /\ wv τ fun r=>∃ d,r = .st d /\ kvs.length < sizeLine /\
 E.nx (if (D7 kvs k).isSome = true then τ else τ.set i (some (.dk (kvs ++ [(k,d)]))))
theorem Y6q {f : Expr} {td ty tx : TE} (ho : PE X o td) (he : PE X e ty) (hf : PE X f tx) (m : M2 X o "setdefault" apos e f cpos) : PE X (.Call (.Attribute o "setdefault" apos) [e,f] [] cpos)
  (fun σ H Q=>td σ H fun x H1=>∃ a ps0,x = .ref a /\ H1 a = some (.dK ps0) /\ ty σ H1 fun y H2=>tx σ H2 fun z H3=>∃ ps k,H3 a = some (.dK ps) /\ y = kV k /\ ps.length < sizeLine /\ (∀ v,P3 ps k = some v -> Q v H3) /\ (P3 ps k = none -> Q z (upd H3 a (.dK (M5 ps k z))))):=by
 intro pins s σ H Q I h
 refine wpAny_Call_method m.base m.few m.line PySem.F.plainAttrs_dict PySem.F.slot_dict_setdefault PySem.F.type_dict_setdefault (B2 (ho pins s σ H _ I h) fun u s1 ⟨x,H1,I1,rx,a,ps0,ex,ea,q1⟩=>?_)
 subst ex
 obtain rfl : u = Value.ref a:=rx
 obtain ⟨t1,t2,_⟩:=Z4j I1 (.inl ⟨ps0,.inl ea⟩)
 refine ⟨t1,t2,?_⟩
 rw [m.trees]
 refine Calls.callWith_builtin rfl (Calls.evalArgs_plain (Calls.spliced_cons (B2 (he pins s1 σ H1 _ I1 q1) fun iv s2 ⟨y,H2,I2,ry,q2⟩ =>
  Calls.spliced_cons (B2 (hf pins s2 σ H2 _ I2 q2) fun fv s3 ⟨z,H3,I3,rz,ps,k,e3,ey,hz,g1,g2⟩=>Calls.spliced_nil ?_))))
 subst ey
 obtain ⟨z0,hd,vs,rel,dd⟩:=Q6c I3.hok e3
 have el : vs.length = ps.length:=by rw [<- rel.length]
 have rv:=rel.val k
 refine call_meetsIn PySem.F.slot_dict_setdefault dd.typeIs PySem.F.entry_dict_setdefault (PySem.F.args_dict_setdefault_3 _ _ _) (kt_meets_setdefault (J2 X.prog X.w) a (Q0v ry) hd fv) ⟨vs,dd,by omega,fun v hv=>?_,fun hn h' dd' hs=>?_⟩
 ·rw [hv] at rv
  cases ev : P3 ps k with
  | none=>rw [ev] at rv; exact rv.elim
  | some w=>rw [ev] at rv; exact ⟨w,H3,I3.tok _,rv,g1 w ev⟩
 ·rw [hn] at rv
  cases ev : P3 ps k with
  | some w=>rw [ev] at rv; exact rv.elim
  | none =>
   have he : ∃ q,h'.get? a = some q:=let ⟨q,_,_,hq,_⟩:=dd'; ⟨q,hq⟩
   have hl : (M5 ps k z).length <= sizeLine:=by have:=Q4z ps k z; omega
   exact ⟨z,_,Q2t I3 (by rw [e3]; exact True.intro) hs he (Z1h hl hd (rel.put k rz) dd'),rz,g2 ev⟩
theorem Z4d {κ : Type} [DecidableEq κ] : ∀ {kvs : List (κ × D)} {k : κ},D7 kvs k = none -> (kvs.any fun kv=>decide (kv.1 = k)) = false
 | [],_,_=>rfl
 | p :: r,k,h=>by
  by_cases e : p.1 = k
  ·simp [D7,List.find?_cons,e] at h
  ·have : D7 r k = none:=by simpa [D7,List.find?_cons,e] using h
   rw [List.any_cons,Z4d this]; simp [e]
theorem DS.ksetd {v : Expr} (ho : PE X o (O4 i)) (he : DE X H0 e we) (hv : DE X H0 v wv) (m : M2 X o "setdefault" apos e v cpos) : DS X H0 (.Expr (.Call (.Attribute o "setdefault" apos) [e,v] [] cpos) pos) (Q8r i we wv) where
 mono:=fun τ E F le ⟨kvs,e1,h⟩=>⟨kvs,e1,he.mono τ _ _ (fun r ⟨kd,k,a1,a2,h⟩=>⟨kd,k,a1,a2,hv.mono τ _ _ (fun r ⟨d,b1,b2,b3⟩=>⟨d,b1,b2,le.nx _ b3⟩) h⟩) h⟩
 ps:=P4 (Z3f (Y6q ho he.pe hv.pe m)) fun D σ H ⟨τ,hR,kvs,e1,h⟩=>by
  obtain ⟨a,ps,hva,h0,sq,kv⟩:=hR.dkAt e1
  refine ⟨_,hva,a,ps,rfl,sq,τ,hR,he.mono τ _ _ (fun rk ⟨kd,k,a1,a2,h⟩ y H1 s1 ik=>?_) h⟩
  subst a1
  have hR1:=hR.mono s1
  refine ⟨τ,hR1,hv.mono τ _ _ (fun r ⟨d,b1,b2,b3⟩ u H2 s2 iv=>?_) h⟩
  subst b1
  have hR2:=hR1.mono s2
  have sq2:=s2 _ _ (s1 _ _ sq)
  have kv2:=(kv.mono (Kp.of s1) _ _).mono (Kp.of s2) _ _
  refine ⟨ps,k,sq2,Q1l a2 (show A2 X.K H1 kd y from ik),by rw [<- B8.length kv2]; exact b2,fun v hv=>?_,fun hn=>?_⟩
  ·rcases B8.val (k:=k) kv2 with ⟨n1,n2⟩ | ⟨d',v',n1,n2,n3⟩
   ·rw [hv] at n2; cases n2
   ·rw [n1] at b3
    have b3 : (K9 X.K H0 H D).nx τ:=b3
    exact b3 _ _ (Kp.of (s1.trans s2)) hR2
  ·rcases B8.val (k:=k) kv2 with ⟨n1,n2⟩ | ⟨d',v',n1,n2,n3⟩
   ·rw [n1] at b3
    have b3 : (K9 X.K H0 H D).nx (τ.set i (some (.dk (kvs ++ [(k,d)])))):=b3
    have kp : Kp H2 (upd H2 a (.dK (M5 ps k u))):=Kp.updM sq2 (by intro xs z; cases z) (by intro o u z; cases z) _
    have ek : L4 kvs k d = kvs ++ [(k,d)]:=by unfold L4; rw [if_neg (by rw [Z4d n1]; simp)]
    refine b3 _ _ ((Kp.of (s1.trans s2)).trans kp) (hR2.mutG e1 rfl hva h0 sq2 (by intro xs z; cases z) (by intro o u z; cases z) ⟨a,_,rfl,h0,upd_same,?_⟩)
    rw [<- ek]
    exact B8.mono kp _ _ (B8.put iv kv2)
   ·rw [hn] at n2; cases n2
end
theorem Z6o {X : Cx} {pins : Pn9} {σ : St} {H2 H' : Hp} {s2 s1 : Shared} {scope : Scope} {C D0 : Addr} {fp : List Addr} {N : List Str} {pb : Pn9} {σ' : St} {h' : Heap} {u0 : HO}
  (I2 : A1 X pins σ H2 s2) (Ib : A1 (C1 X scope C s2 H2 fp N) pb σ' H' s1) (f2 : ∀ b ∈ fp,K3 X pins H2 b) (hC : s2.heap.objs.size <= C) (hD : s2.heap.objs.size <= D0) (hD' : H' D0 = none)
  (sb : Heap.SameBut C s1.heap h') (new : F6 X.prog X.w (upd H' D0 u0) h' D0 u0) : A1 X pins σ (upd H' D0 u0) { s1 with heap:=h' }:=by
 have ltC : ∀ b o,s2.heap.get? b = some o -> b ≠ C:=fun b o e=>Nat.ne_of_lt (Nat.lt_of_lt_of_le (Heap.lt_size e) hC)
 have ltD : ∀ b o,s2.heap.get? b = some o -> b ≠ D0:=fun b o e=>Nat.ne_of_lt (Nat.lt_of_lt_of_le (Heap.lt_size e) hD)
 have keep:=Z6s sb
 have base : Un (frs X.stack) fp H2 H' s2.heap s1.heap:=Ib.base
 have hC' : H' C = none:=Ib.free
 have neC : ∀ b u,H' b = some u -> b ≠ C:=fun b u e z=>by rw [z,hC'] at e; cases e
 have G9 : ∀ b u,H' b = some u -> b ≠ D0:=fun b u e z=>by rw [z,hD'] at e; cases e
 refine I2.call' (s':={ s1 with heap:=h' }) (ch:=fp) Ib.os ⟨fun b o e n hb hx=>keep b o (ltC b o e) (base.keep b o e n hb hx),fun b o e n hb hx=>?_,fun b o e n hx=>?_,fun b o e hx=>?_,fun b xs e=>?_,fun b o u e=>?_,fun b ps e=>?_⟩ (fun b u e=>?_) Ib.bare (fun b hb=>?_)
 ·obtain ⟨sl,q⟩:=base.slot b o e n hb hx
  exact ⟨sl,keep b _ (ltC b o e) q⟩
 ·rw [A9 (ltD b o e)]; exact base.free b o e n hx
 ·obtain ⟨o',q⟩:=base.there b o e hx
  exact ⟨o',keep b o' (ltC b o e) q⟩
 ·have q:=base.tups b xs e
  rw [A9 (G9 b _ q)]; exact q
 ·have q:=base.frzs b o u e
  rw [A9 (G9 b _ q)]; exact q
 ·obtain ⟨more,q⟩:=base.tbls b ps e
  exact ⟨more,by rw [A9 (G9 b _ q)]; exact q⟩
 ·by_cases hb : b = D0
  ·subst hb
   rw [upd_same] at e; cases e
   exact new
  ·rw [A9 hb] at e
   refine (Ib.hok b u e).stay (fun c v hc q=>keep c v ?_ q) (fun c u _ q=>by rw [A9 (G9 c _ q)]; exact q) fun c xs q=>by rw [A9 (G9 c _ q)]; exact q
   rcases hc with z | z
   ·rw [z]; exact neC b u e
   ·exact neC c _ z
 ·obtain ⟨_,a2,a3,a4,a5,a6⟩:=f2 b hb
  exact ⟨a4,a2,a5,a6⟩
section
variable {prog : Program} {w : World} {A : Around} {RR : Result -> Shared -> Prop} {s : Shared}
theorem W2l {kx vx target iter : Expr} {scope : Scope} {pos : Pos} {it : Value} {D0 : Addr} {env : Env} (I : Nat -> Shared -> Prop)
  (turn : ∀ n s,I n s -> wpAny (model prog w) A (pyNext it) (fun r s₁=>match r with
   | none=>RR (.ok .next) s₁
   | some v=>wpAny (model prog w) A (letOwnedTupleGo target it v) (fun _ sa=>wpAny (model prog w) A (assign target env v) (fun _ s₃ =>
     wpAny (model prog w) A (eval kx env) (fun x s₄=>wpAny (model prog w) A (eval vx env) (fun y s₅ =>
       wpAny (model prog w) A (dictSet D0 x y) (fun _ s₆=>∃ m,m < n /\ I m s₆) (fun _ _=>False) s₅) (fun _ _=>False) s₄) (fun _ _=>False) s₃) (fun _ _=>False) sa) (fun _ _=>False) s₁) (fun _ _=>False) s)
  (n : Nat) (h : I n s) : codeAny (model prog w) A (.compLoop (.DictComp kx vx [⟨target,iter,[],0⟩] scope pos) 0 it (.ref D0) env) RR s:=by
 refine codeAny_loop rfl I (fun n s hI=>?_) n h
 change wpAny (model prog w) A ((compTurn (.DictComp kx vx [⟨target,iter,[],0⟩] scope pos) 0 it (Value.ref D0) env).onRaise (fun x=>do noteFrame x env; theTreesLotGoes x)) _ _ s
 refine wpAny_noted ?_
 rw [compTurn_dict]
 refine wpAny_bind (wpAny_standAt (wpAny_bind (wpAny_mono (turn n s hI) (fun r s₁ h₁=>?_) fun _ _ h'=>h'.elim)))
 cases r with
 | none=>exact wpAny_pure h₁
 | some v =>
  refine wpAny_bind (wpAny_mono h₁ (fun _ sa ha=>wpAny_bind (wpAny_mono ha (fun _ s₃ h₃=>wpAny_bind (wpAny_tests_nil ?_)) fun _ _ h'=>h'.elim)) fun _ _ h'=>h'.elim)
  exact wpAny_bind (wpAny_bind (wpAny_mono h₃ (fun x s₄ h₄=>wpAny_bind (wpAny_holding (wpAny_mono h₄ (fun y s₅ h₅=>wpAny_bind (wpAny_standAt (wpAny_holding (wpAny_mono h₅ (fun _ s₆ h₆=>wpAny_pure ⟨rfl,h₆⟩) fun _ _ h'=>h'.elim)))) fun _ _ h'=>h'.elim))) fun _ _ h'=>h'.elim))
end
noncomputable def T1 (g : WG) (wk wv : WE) : List D -> A8 -> List (B0 × D) -> (List (B0 × D) -> Prop) -> Prop
 | [],_,kvs,Q=>Q kvs
 | d :: ds,τ,kvs,Q=>g d τ fun τ'=>wk τ' fun r=>∃ kd k,r = .st kd /\ N9 kd = some k /\ wv τ' fun r2=>∃ e,r2 = .st e /\ T1 g wk wv ds τ' (L4 kvs k e) Q
theorem Y0t {g : WG} {wk wv : WE} (hg : ∀ d τ (P Q : A8 -> Prop),(∀ τ,P τ -> Q τ) -> g d τ P -> g d τ Q) (hk : ∀ (τ : A8) (P Q : R -> Prop),(∀ r,P r -> Q r) -> wk τ P -> wk τ Q) (hv : ∀ (τ : A8) (P Q : R -> Prop),(∀ r,P r -> Q r) -> wv τ P -> wv τ Q) :
  ∀ (ds : List D) (τ : A8) (kvs : List (B0 × D)) (P Q : List (B0 × D) -> Prop),(∀ es,P es -> Q es) -> T1 g wk wv ds τ kvs P -> T1 g wk wv ds τ kvs Q
 | [],_,_,_,_,f,h=>f _ h
 | d :: ds,τ,kvs,P,Q,f,h=>hg d τ _ _ (fun τ' h=>hk τ' _ _ (fun r ⟨kd,k,e1,e2,h⟩=>⟨kd,k,e1,e2,hv τ' _ _ (fun r ⟨e,e1,h⟩=>⟨e,e1,Y0t hg hk hv ds τ' _ _ _ f h⟩) h⟩) h) h
section
variable {X : Cx} {H0 : Hp} {tg iter kx vx : Expr} {scope : Scope} {pos pos' spos : Pos} {N : List Str} {nt : Nat} {cap : List Nat} {wi : WIE} {g : WG} {wk wv : WE}
theorem W0r {use : Option (Value -> Sem Unit)} {QQ : VS9} {P : List (B0 × D) -> Prop} {npos : Pos} {pins : Pn9} {s : Shared} {σ : St} {H : Hp} {τ : A8} (hc : X.calm = true) (B : K8 X scope N nt cap) (hi : J8 X H0 tg iter wi)
  (hg : ∀ C s H fp,DG (C1 X scope C s H fp N) H tg g) (hk : ∀ C s H fp,DE (C1 X scope C s H fp N) H kx wk) (hv : ∀ C s H fp,DE (C1 X scope C s H fp N) H vx wv) (hs : ∀ x,foldedSetIterable iter X.env x = pure x)
  (I : A1 X pins σ H s) (hR : B5 X.K H0 τ σ H) (hw : wi τ fun ds=>ds.length < sizeLine /\ T1 g wk wv ds (Q0 nt cap τ) [] P)
  (fin : ∀ (C D0 : Addr) (s2 s4 : Shared) (H2 H4 : Hp) (fp : List Addr) (pb : Pn9) (σ4 : St) (ps : List (B0 × V)) (vs : List (B0 × Value)) (kvs : List (B0 × D)) (f : Flow),A1 X pins σ H2 s2 -> A6 H H2 -> A1 (C1 X scope C s2 H2 fp N) pb σ4 H4 s4 -> (∀ b ∈ fp,K3 X pins H2 b) ->
   s2.heap.objs.size <= C -> s2.heap.objs.size <= D0 -> D0 ≠ C -> H4 D0 = none -> (D0 == sysModules) = false -> s4.heap.DictOf (J2 X.prog X.w) D0 vs -> KV ps vs -> ps.length <= sizeLine -> A6 H2 H4 -> B8 X.K H4 kvs ps -> P kvs -> compPost (model X.prog X.w) X.A X.xe use QQ (.ref D0) C (.ok f) s4) :
  wpAny (model X.prog X.w) X.A (comprehension (.DictComp kx vx [⟨tg,iter,[],0⟩] scope pos) scope X.env npos newDict false (eval iter X.env) use) QQ X.xe s:=by
 refine wpAny_comprehension_free rfl hs (Q8e fun y hy e=>I.ok.has y.1 (B.free y hy e)) B.kind B.names ?_
 refine B2 (hi.pi pins s σ H (fun J H2=>A6 H H2 /\ ∃ ds,YlS X.K J ds H2 /\ ds.length < sizeLine /\ T1 g wk wv ds (Q0 nt cap τ) [] P) I
  ⟨τ,hR,hi.mono τ _ _ (fun ds h J H' sm yl=>⟨sm,ds,yl,h.1,h.2⟩) hw⟩) fun v s1 h1=>B2 h1 fun itv s2 h2=>?_
 obtain ⟨it,fp,tn,J,H2,e,I2,T,st2,f2,sm2,ds,yl,hz,hw2⟩:=h2
 subst e
 have hfl : ∀ b ∈ fp,b < s2.heap.objs.size:=fun b hb=>by
  obtain ⟨o,ho,_⟩:=T.obj _ _ st2 b hb
  exact Heap.lt_size ho
 have hR2:=hR.mono sm2
 have hsys : (s2.heap.objs.size == sysModules) = false:=beq_eq_false_iff_ne.mpr (Ne.symm (Nat.ne_of_lt I2.big))
 refine wpAny_newObj_type (wpAny_newFunctionEnv B.cell (by intro y hy; simp at hy) (fun h₁ hns₁ hsb₁=>?_) B.kind)
 dsimp only at hns₁ hsb₁ ⊢
 have hnew : (s2.heap.push { cls:=.type "dict",dict:=none,data:=.dict #[] }).DictOf (J2 X.prog X.w) s2.heap.objs.size []:=Heap.DictOf.new s2.heap
 generalize hH2 : s2.heap.push { cls:=.type "dict",dict:=none,data:=.dict #[] } = Hq at hns₁ hsb₁ hnew ⊢
 have hC : Hq.objs.size = s2.heap.objs.size + 1:=by rw [<- hH2,Heap.size_push]
 have hDC : s2.heap.objs.size ≠ Hq.objs.size:=by rw [hC]; exact Nat.ne_of_lt (Nat.lt_succ_self _)
 have hCle : s2.heap.objs.size <= Hq.objs.size:=by rw [hC]; exact Nat.le_succ _
 have old : ∀ b o,s2.heap.get? b = some o -> h₁.get? b = some o:=fun b o e=>hsb₁.extBut b o (by rw [hC]; exact Nat.ne_of_lt (Nat.lt_succ_of_lt (Heap.lt_size e))) (Heap.get?_push_of_some _ (hH2 ▸ Heap.get?_push_of_some _ e))
 have hacc : h₁.DictOf (J2 X.prog X.w) s2.heap.objs.size []:=hnew.at fun o e=>hsb₁.extBut _ _ hDC (Heap.get?_push_of_some _ e)
 generalize hCe : Hq.objs.size = C at hns₁ hsb₁ hC hDC hCle ⊢
 generalize hDe : s2.heap.objs.size = D0 at hC hDC hCle hacc hsys ⊢
 have hfl' : ∀ b ∈ fp,b < D0:=fun b hb=>hDe ▸ hfl b hb
 have hst₁ : tn 0 h₁:=T.keep _ _ _ st2 fun b _ o e=>old b o e
 have Ib0:=Q7k (C:=C) (h':=h₁) (t':=s2.toks + ([] : List (Str × Value)).length) I2 B f2 hfl (by rw [hDe]; exact hCle) hns₁ old
 have hD2 : H2 D0 = none:=I2.hok.fresh (by rw [hDe]; exact Nat.le_refl _)
 have nfs : D0 ∉ frs X.stack:=fun z=>by
  rcases List.mem_cons.mp (I2.stkSub _ z) with e | e
  ·have:=I2.lt; rw [<- e,hDe] at this; exact Nat.lt_irrefl _ this
  ·exact I2.nofs (by rw [hDe]; exact Nat.le_refl _) e
 have ncl : ∀ x c,(Q1 X.env scope.names []).lookup x = some c -> c ≠ D0:=fun x c h z=>by
  obtain ⟨v,q⟩:=I2.cell x c (U3 I2 B h)
  have:=q.lt
  rw [z,hDe] at this
  exact Nat.lt_irrefl _ this
 have dcell : ∀ {h : Heap} {vs : List (B0 × Value)} {o : Obj},h.DictOf (J2 X.prog X.w) D0 vs -> h.get? D0 = some o -> ∀ v,o.data ≠ .cell v:=by
  intro h vs o dd e v z
  obtain ⟨o',es,ep,e',_,d,_⟩:=dd
  rw [e] at e'; cases e'
  rw [d] at z; cases z
 have pinD : ∀ {pb : Pn9} {σ' : St} {H' : Hp} {s' : Shared} {vs : List (B0 × Value)} {o : Obj},A1 (C1 X scope C s2 H2 fp N) pb σ' H' s' -> H' D0 = none -> s'.heap.DictOf (J2 X.prog X.w) D0 vs -> s'.heap.get? D0 = some o ->
   A1 (C1 X scope C s2 H2 fp N) [(D0,o)] σ' H' s':=by
  intro pb σ' H' s' vs o I' n' dd e
  refine I'.pins_of fun p hp=>?_
  have e' : p = (D0,o):=by simpa using hp
  subst e'
  exact ⟨e,n',hDC,nfs,dcell dd e⟩
 have fpX : ∀ {H' : Hp} {ob : Obj},(∀ b ∈ fp,H' b = none) -> ∀ b ∈ fp,K3 (C1 X scope C s2 H2 fp N) [(D0,ob)] H' b:=by
  intro H' ob hn b hb
  refine ⟨hn b hb,(Nat.ne_of_lt (Nat.lt_of_lt_of_le (hfl' b hb) hCle)),fun z=>?_,.inl hb,fun x c h=>(f2 b hb).2.2.2.2.1 x c (U3 I2 B h),fun p hp=>?_⟩
  ·rcases List.mem_cons.mp (I2.stkSub b z) with e | e
   ·exact (f2 b hb).2.1 e
   ·exact (f2 b hb).2.2.1 e
  ·have e' : p = (D0,ob):=by simpa [C1] using hp
   subst e'
   exact (Nat.ne_of_lt (hfl' b hb)).symm
 let Inn : Nat -> Shared -> Prop:=fun k s'=>∃ (i : Nat) (σ' : St) (H' : Hp) (τ' : A8) (ob : Obj) (vs : List (B0 × Value)) (ps : List (B0 × V)) (kvs : List (B0 × D)),A1 (C1 X scope C s2 H2 fp N) [(D0,ob)] σ' H' s' /\ B5 X.K H2 τ' σ' H' /\ tn i s'.heap /\
  (∀ b ∈ fp,H' b = none) /\ H' D0 = none /\ s'.heap.get? D0 = some ob /\ s'.heap.DictOf (J2 X.prog X.w) D0 vs /\ KV ps vs /\ B8 X.K H' kvs ps /\ i <= ds.length /\ k = ds.length - i /\ ps.length <= i /\ T1 g wk wv (ds.drop i) τ' kvs P
 have loop : ∀ s₃ : Shared,s₃ = { s2 with heap:=h₁,toks:=s2.toks + ([] : List (Str × Value)).length } ->
   codeAny (model X.prog X.w) X.A (.compLoop (.DictComp kx vx [⟨tg,iter,[],0⟩] scope pos) 0 (.ref it) (.ref D0) (compEnvC scope (Q1 X.env scope.names []) C X.env))
    (compPost (model X.prog X.w) X.A X.xe use QQ (.ref D0) C) s₃:=by
  rintro s₃ rfl
  obtain ⟨ob0,ho⟩ : ∃ o,h₁.get? D0 = some o:=by obtain ⟨o,_,_,e,_⟩:=id hacc; exact ⟨o,e⟩
  refine W2l Inn ?_ ds.length ⟨0,_,H2,Q0 nt cap τ,ob0,[],[],[],pinD Ib0 hD2 hacc ho,Z3i hR2 nt cap,hst₁,fun b hb=>(f2 b hb).1,hD2,ho,hacc,.nil,rfl,Nat.zero_le _,rfl,Nat.le_refl _,by simpa using hw2⟩
  rintro k s3 ⟨i,σ3,H3,τ3,ob,vs,ps,kvs,I3,R3,st3,fr3,d3,o3,dd3,rk3,kv3,hi3,rfl,hes,w3⟩
  have hsame3 : A6 H2 H3:=R3.same
  by_cases hlt : i < ds.length
  ·refine wpAny_mono (T.item (C1 X scope C s2 H2 fp N) rfl rfl rfl hc i _ s3 σ3 H3 (fun _ _=>False) I3 (fpX fr3) st3 (yl.go H3 hsame3 i hlt)) (fun r s4 ⟨u,hr,h4⟩=>?_) fun _ _ z=>z
   subst hr
   refine wpAny_mono h4 (fun _ s5 ⟨x,H5,I5,r5,y5,st5,fr5⟩=>?_) fun _ _ z=>z
   obtain ⟨s35,ix⟩:=yl.yld H3 hsame3 i x H5 _ (List.getElem?_eq_getElem hlt) y5
   rw [List.drop_eq_getElem_cons hlt] at w3
   have I5':=I5.pinned (fpX fr5) (T.obj _ _ st5)
   refine wpAny_mono ((hg C s2 H2 fp).pg _ s5 σ3 H5 x u (fun σ6 H6=>∃ τ6,B5 X.K H2 τ6 σ6 H6 /\ A6 H5 H6 /\ wk τ6 fun r=>∃ kd k,r = .st kd /\ N9 kd = some k /\ wv τ6 fun r2=>∃ e,r2 = .st e /\ T1 g wk wv (ds.drop (i + 1)) τ6 (L4 kvs k e) P)
    I5' r5 ⟨τ3,ds[i],R3.mono s35,ix,(hg C s2 H2 fp).mono _ _ _ _ (fun τ6 h6 σ6 H6 s56 R6=>⟨τ6,R6,s56,h6⟩) w3⟩) (fun _ s6 ⟨σ6,H6,I6,τ6,R6,s56,w6⟩=>?_) fun _ _ z=>z
   refine wpAny_mono ((hk C s2 H2 fp).pe _ s6 σ6 H6 (fun v H7=>A6 H6 H7 /\ ∃ kd k,A2 X.K H7 kd v /\ N9 kd = some k /\ wv τ6 fun r2=>∃ e,r2 = .st e /\ T1 g wk wv (ds.drop (i + 1)) τ6 (L4 kvs k e) P) I6
    ⟨τ6,R6,(hk C s2 H2 fp).mono τ6 _ _ (fun r ⟨kd,k,e1,e2,h⟩ v H7 s67 ir=>⟨s67,kd,k,by subst e1; exact ir,e2,h⟩) w6⟩) (fun yk s7 ⟨v7,H7,I7,rv7,s67,kd,k,ik7,ek7,w7⟩=>?_) fun _ _ z=>z
   refine wpAny_mono ((hv C s2 H2 fp).pe _ s7 σ6 H7 (fun v H8=>A6 H7 H8 /\ ∃ e,A2 X.K H8 e v /\ T1 g wk wv (ds.drop (i + 1)) τ6 (L4 kvs k e) P) I7
    ⟨τ6,R6.mono s67,(hv C s2 H2 fp).mono τ6 _ _ (fun r ⟨e,e1,h⟩ v H8 s78 ir=>⟨s78,e,by subst e1; exact ir,h⟩) w7⟩) (fun yv s8 ⟨v8,H8,I8,rv8,s78,e8,ie8,w8⟩=>?_) fun _ _ z=>z
   have pd:=I8.pin (D0,ob) (List.mem_append_right _ (List.mem_append_left _ List.mem_cons_self))
   obtain ⟨o8,d8,_⟩:=pd
   have I8f : A1 (C1 X scope C s2 H2 fp N) (S8 fp s5.heap) σ6 H8 s8:=I8.pins_of fun p hp=>I8.pin p (List.mem_append_right _ (List.mem_append_right _ hp))
   have dd8 : s8.heap.DictOf (J2 X.prog X.w) D0 vs:=dd3.at fun o e=>by rw [o3] at e; cases e; exact o8
   have el : vs.length = ps.length:=by rw [<- rk3.length]
   cases Q1l ek7 ik7
   refine wpAny_dictSet_pairs (hsz:=by omega) (Q0v rv7) dd8 fun h₅ dd₅ hs₅=>?_
   have I9 : A1 (C1 X scope C s2 H2 fp N) (S8 fp s5.heap) σ6 H8 { s8 with heap:=h₅,toks:=s8.toks + 1 }:=by
    refine I8f.turned (t':=s8.toks + 1) (it:=D0) (fun b o hb e=>(hs₅.2 b hb).trans e) d8 hDC (.inr (by rw [<- hDe]; exact Nat.le_refl _)) ncl (fun p hp z=>?_)
    obtain ⟨q1,_⟩:=Q5i (by simpa [C1] using hp)
    exact Nat.ne_of_lt (hfl' _ q1) z
   obtain ⟨ob9,o9⟩ : ∃ o,h₅.get? D0 = some o:=by obtain ⟨o,_,_,e,_⟩:=id dd₅; exact ⟨o,e⟩
   have s38 : A6 H3 H8:=s35.trans (s56.trans (s67.trans s78))
   have st9 : tn (i + 1) h₅:=T.keep _ _ _ st5 fun b hb o e=>(I9.pin (b,o) (List.mem_append_right _ (Q0j hb e))).1
   refine ⟨ds.length - (i + 1),by omega,i + 1,σ6,H8,τ6,ob9,stored vs k yv,M5 ps k v8,L4 kvs k e8,pinD I9 d8 dd₅ o9,R6.mono (s67.trans s78),st9,fun b hb=>?_,d8,o9,dd₅,rk3.put k rv8,B8.put ie8 (kv3.mono (Kp.of s38) _ _),hlt,rfl,?_,w8⟩
   ·obtain ⟨o,e,_⟩:=T.obj _ _ st5 b hb
    exact (I9.pin (b,o) (List.mem_append_right _ (Q0j hb e))).2.1
   ·have:=Q4z ps k v8; omega
  ·have e : i = ds.length:=by omega
   subst e
   refine wpAny_mono (T.done (C1 X scope C s2 H2 fp N) rfl rfl rfl hc ds.length _ s3 σ3 H3 (fun _ _=>False) I3 (fpX fr3) st3 (yl.stop H3 hsame3)) (fun r s4 ⟨hr,I4⟩=>?_) fun _ _ z=>z
   subst hr
   have o4:=(I4.pin (D0,_) (List.mem_append_right _ List.mem_cons_self)).1
   rw [List.drop_length] at w3
   have dd4 : s4.heap.DictOf (J2 X.prog X.w) D0 vs:=dd3.at fun o e=>by rw [o3] at e; cases e; exact o4
   exact fin C D0 s2 s4 H2 H3 fp _ σ3 ps vs kvs _ I2 sm2 I4 f2 (by rw [hDe]; exact hCle) (by rw [hDe]; exact Nat.le_refl _) hDC d3 hsys dd4 rk3 (by omega) hsame3 kv3 w3
 exact codeAny_compStart_dict (loop _ rfl) (T.self _ 0 _ _ _ hst₁ (loop _ rfl))
def Z1y (i nt : Nat) (cap : List Nat) (wi : WIE) (g : WG) (wk wv : WE) : WS:=fun E τ=>wi τ fun ds=>ds.length < sizeLine /\ T1 g wk wv ds (Q0 nt cap τ) [] fun kvs=>E.nx (τ.set i (some (.dk kvs)))
theorem DS.setKC {i : Nat} {x : Str} (hc : X.calm = true) (B : K8 X scope N nt cap) (hi : J8 X H0 tg iter wi) (hg : ∀ C s H fp,DG (C1 X scope C s H fp N) H tg g) (hk : ∀ C s H fp,DE (C1 X scope C s H fp N) H kx wk)
  (hv : ∀ C s H fp,DE (C1 X scope C s H fp N) H vx wv) (hN : X.N.Nodup) (hix : X.N[i]? = some x) (hx : Loc X.env.scope x)
  (hsw : swapsWith (.DictComp kx vx [⟨tg,iter,[],0⟩] scope pos) (some (.Name x pos')) spos.line X.env = pure true:=by rfl) (hs : ∀ x,foldedSetIterable iter X.env x = pure x:=by intro _; rfl)
  (hf : X.fn x = true \/ X.env.scope.names.lookup x = some .local:=by first | exact .inl rfl | exact .inr rfl | assumption) :
  DS X H0 (.Assign [.Name x pos'] (.DictComp kx vx [⟨tg,iter,[],0⟩] scope pos) spos) (Z1y i nt cap wi g wk wv) where
 mono:=fun τ E F le h=>hi.mono τ _ _ (fun ds h=>⟨h.1,Y0t (hg 0 X.s₀ X.H₀ []).mono (hk 0 X.s₀ X.H₀ []).mono (hv 0 X.s₀ X.H₀ []).mono ds _ _ _ _ (fun es h=>le.nx _ h) h.2⟩) h
 ps:=by
  intro pins s σ H D I ⟨τ,hR,hw⟩
  rw [exec_Assign_Name_used _ _ _ _ hsw]
  refine wpAny_bind (wpAny_standAt (wpAny_bind ?_))
  change wpAny (model X.prog X.w) X.A (do let _ <- comprehension (.DictComp kx vx [⟨tg,iter,[],0⟩] scope pos) scope X.env _ newDict false (eval iter X.env) (some (assign (.Name x pos') X.env))) _ _ s
  refine wpAny_bind (wpAny_mono (W0r (use:=some (assign (.Name x pos') X.env)) (QQ:=fun _ s'=>SP X pins D .next s') hc B hi hg hk hv hs I hR hw fun C D0 s2 s4 H2 H4 fp pb σ4 ps vs kvs f I2 sm2 I4 f2 hC hD hDC hn hsys dd rk hz sm4 kv w3=>?_)
   (fun _ s' hq=>wpAny_pure (wpAny_pure hq)) fun _ _ e=>e)
  have Ib : A1 X pins σ (upd H4 D0 (.dK ps)) { s4 with heap:=s4.heap }:=Z6o I2 I4 f2 hC hD hn ⟨rfl,fun _ _=>rfl⟩ ⟨hz,hsys,vs,rk,dd⟩
  have hCL : C ≠ X.env.locals:=fun z=>Nat.lt_irrefl _ (Nat.lt_of_lt_of_le I2.lt (z ▸ hC))
  have hCc : ∀ x c,X.env.cells.lookup x = some c -> c ≠ C:=fun x c h z=>by
   obtain ⟨v,q⟩:=I2.cell x c h
   exact Nat.lt_irrefl _ (Nat.lt_of_lt_of_le q.lt (z ▸ hC))
  change wpAny (model X.prog X.w) X.A (assign (.Name x pos') X.env (Value.ref D0)) _ _ s4
  refine wpAny_assign_Name (Z2s (v:=.ref D0) Ib hN hix hx rfl (fun s5 I5 ⟨a,sb5,ha⟩=>?_) hf)
  obtain ⟨m4,hn4,_⟩:=id I4.loc
  have hCa : C ≠ a:=by
   rcases ha with ha | ha
   ·rw [ha]; exact hCL
   ·exact fun z=>hCc _ _ ha z.symm
  refine ⟨m4,hn4.sameBut sb5 hCa,fun h' sb=>?_⟩
  have hC4 : H4 C = none:=I4.free
  have I6 : A1 X pins (σ.set i (some (.ref D0))) (upd H4 D0 (.dK ps)) { s5 with heap:=h' }:=by
   refine I5.turned (t':=s5.toks) (it:=C) (fun b o hb e=>(sb.2 b hb).trans e) (by rw [A9 (Ne.symm hDC)]; exact hC4) hCL (.inr (Nat.le_trans I2.sz hC)) hCc fun p hp z=>?_
   have:=(I2.pin p hp).1
   exact Nat.lt_irrefl _ (Nat.lt_of_lt_of_le (Heap.lt_size this) (z ▸ hC))
  have smA : A6 H (upd H4 D0 (.dK ps)):=sm2.trans (sm4.trans (F7 hn _))
  have hR':=(hR.mono smA).set (i:=i) (s:=.dk kvs) (v:=.ref D0) ⟨D0,ps,rfl,hR.same.free (sm2.free (I2.hok.fresh hD)),upd_same,kv.mono (Kp.of (F7 hn _)) _ _⟩ fun _ j t hj e m q=>by
   obtain ⟨o,ho⟩:=hR.tracked e m q
   rw [sm2.free (I2.hok.fresh hD)] at ho; cases ho
  exact ⟨_,_,I6,w3 _ _ (Kp.of smA) hR'⟩
end
noncomputable def kyD : B0 -> D
 | .inl i=>.int i
 | .inr x=>.str x
noncomputable def Q2k : List R -> (R -> Prop) -> Prop
 | [.dk kvs],Q=>Q (.nw (kvs.map fun p=>kyD p.1))
 | _,_=>False
theorem Y0l {rs : List R} {Q : R -> Prop} (h : Q2k rs Q) : ∃ kvs,rs = [.dk kvs] /\ Q (.nw (kvs.map fun p=>kyD p.1)):=by
 unfold Q2k at h
 split at h
 ·exact ⟨_,rfl,h⟩
 ·exact h.elim
theorem W4h : Q2i Q2k:=fun x P Q g h=>by
 obtain ⟨kvs,rfl,h⟩:=Y0l h
 exact g _ h
theorem Z0x {K : Fg9} {H : Hp} : ∀ (ps : List (B0 × V)),AllS K H (ps.map fun p=>kyD p.1) (ps.map fun p=>kV p.1)
 | []=>AllS.nil
 | (.inl i,v) :: r=>AllS.cons A2.s_int (Z0x r)
 | (.inr x,v) :: r=>AllS.cons A2.s_str (Z0x r)
theorem B8.keysEq {K : Fg9} {H : Hp} : ∀ {kvs : List (B0 × D)} {ps : List (B0 × V)},B8 K H kvs ps -> (kvs.map fun p=>kyD p.1) = ps.map fun p=>kyD p.1
 | [],ps,h=>by unfold B8 at h; subst h; rfl
 | p :: kvs,ps,h=>by
  unfold B8 at h
  obtain ⟨v,r,rfl,iv,h⟩:=h
  rw [List.map_cons,List.map_cons,B8.keysEq h]
section
variable {X : Cx}
theorem Y9e (hc : X.calm = true) : Q2g X (.type "list") Q2k:=by
 intro pins s σ H xs us Q I rv ⟨rs,irs,h⟩
 obtain ⟨kvs,rfl,h⟩:=Y0l h
 obtain ⟨v,rfl,ir⟩:=W7 irs
 obtain ⟨a,ps,rfl,e,kv⟩:=ir
 obtain ⟨u,rfl,ru⟩:=V2 rv
 cases ru
 obtain ⟨z,hd,vs,rel,dd⟩:=Q6c I.hok e
 obtain ⟨ep,da⟩:=dd.dictAt
 have el : vs.length = ps.length:=by rw [<- rel.length]
 refine PySem.W.kdl_call (PySem.W.kdl_dict (knd:=J2 X.prog X.w) (kvs:=vs) (ep:=ep) hd) (I.ok.hd hc) da (by omega) fun h' tk acc c' k e2 it=>?_
 have hn : H s.heap.objs.size = none:=I.hok.fresh (Nat.le_refl _)
 have vl : C4 (ps.map fun p=>kV p.1) acc.toList:=by
  have key : ∀ (ps : List (B0 × V)) (vs : List (B0 × Value)) (us : List Value),KV ps vs -> us.length = vs.length -> (∀ (j : Nat) (v : Value),us[j]? = some v -> ∃ k x,vs[j]? = some (k,x) /\ (J2 X.prog X.w).is k v = true) -> C4 (ps.map fun p=>kV p.1) us:=by
   intro ps
   induction ps with
   | nil=>intro vs us r l _; cases r; cases us with
    | nil=>exact .nil
    | cons _ _=>cases l
   | cons p ps ih =>
    intro vs us r l f
    cases r with
    | @cons _ q _ qs h1 t =>
     cases us with
     | nil=>cases l
     | cons u us =>
      obtain ⟨k,x,e1,e2⟩:=f 0 u rfl
      cases e1
      refine .cons ?_ (ih qs us t (by simpa using l) fun j v e=>f (j + 1) v (by simpa using e))
      have h1 : p.1 = k:=h1.1
      show B4 (kV p.1) u
      rw [h1]
      rcases Q0g e2 with ⟨i,t,rfl,rfl⟩ | ⟨i,t,rfl,rfl⟩
      ·exact ⟨t,rfl⟩
      ·exact ⟨t,rfl⟩
  refine key ps vs acc.toList rel (by rw [Array.length_toList]; exact it.1) fun j v e=>it.2 j v (by rw [<- Array.getElem?_toList]; exact e)
 refine ⟨.ref s.heap.objs.size,_,I.laid (t':=tk) (o:=.lst (ps.map fun p=>kV p.1)) k (Nat.le_refl _) ⟨by rw [List.length_map]; exact z,acc.toList,c',vl,by simpa using e2⟩,rfl,h _ _ (F7 hn _) ⟨_,_,rfl,hn,upd_same,?_⟩⟩
 rw [B8.keysEq kv]
 exact Z0x ps
noncomputable def Q0e : List R -> (R -> Prop) -> Prop
 | [r],Q=>∃ ns : List Int,S7 r = some (ns.map .int) /\ ns ≠ [] /\ ∀ m,m ∈ ns -> (∀ n ∈ ns,n <= m) -> Q (.st (.int m))
 | _,_=>False
theorem Z5m : Q2i Q0e:=fun x P Q g h=>by
 unfold Q0e at h ⊢
 split at h
 ·obtain ⟨ns,a,b,c⟩:=h
  exact ⟨ns,a,b,fun m h1 h2=>g _ (c m h1 h2)⟩
 ·exact h
theorem Z5w (f : Nat -> Int) : ∀ k,argBest (fun i j=>decide (f i > f j)) k <= k /\ ∀ j,j <= k -> f j <= f (argBest (fun i j=>decide (f i > f j)) k)
 | 0=>⟨Nat.le_refl _,fun j hj=>by rw [Nat.le_zero.mp hj]; exact Int.le_refl _⟩
 | k + 1=>by
  obtain ⟨h1,h2⟩:=Z5w f k
  unfold argBest
  by_cases e : f (k + 1) > f (argBest (fun i j=>decide (f i > f j)) k)
  ·rw [if_pos (by simpa using e)]
   refine ⟨Nat.le_refl (k + 1),fun j hj=>?_⟩
   by_cases z : j <= k
   ·exact Int.le_trans (h2 j z) (Int.le_of_lt e)
   ·rw [show j = k + 1 by omega]; exact Int.le_refl _
  ·rw [if_neg (by simpa using e)]
   refine ⟨Nat.le_succ_of_le h1,fun j hj=>?_⟩
   by_cases z : j <= k
   ·exact h2 j z
   ·rw [show j = k + 1 by omega]; omega
theorem Y1b : ∀ {ns : List Int} {its : List Value},C4 (ns.map V.int) its -> ∃ xs : List (Int × Tok),its = xs.map (fun p=>Value.int p.1 p.2) /\ xs.map (·.1) = ns
 | [],its,r=>by cases r; exact ⟨[],rfl,rfl⟩
 | n :: ns,its,r=>by
  cases r with
  | cons h t =>
   obtain ⟨tk,e⟩:=h
   obtain ⟨xs,e1,e2⟩:=Y1b (ns:=ns) t
   exact ⟨(n,tk) :: xs,by rw [e,e1]; rfl,by rw [List.map_cons,e2]⟩
theorem Z5v {K : Fg9} {H : Hp} : ∀ {ns : List Int} {xs : List V},AllS K H (ns.map .int) xs -> xs = ns.map V.int
 | [],xs,h=>by unfold List.map AllS at h; exact h
 | n :: ns,xs,h=>by
  rw [List.map_cons] at h
  unfold AllS at h
  obtain ⟨v,r,rfl,i,t⟩:=h
  unfold A2 at i
  rw [i,Z5v t]; rfl
theorem Y0o (hc : X.calm = true) : Q2g X (.builtin "max") Q0e:=by
 intro pins s σ H xs us Q I rv ⟨rs,irs,h⟩
 unfold Q0e at h
 split at h
 ·rename_i r
  obtain ⟨ns,e1,hne,h⟩:=h
  obtain ⟨v,rfl,ir⟩:=W7 irs
  obtain ⟨l,ys,rfl,sq,al⟩:=Q1w e1 ir
  obtain ⟨u,rfl,ru⟩:=V2 rv
  cases ru
  have ey:=Z5v al
  subst ey
  obtain ⟨its,rv',pl,hz⟩:=I.list sq
  obtain ⟨ps,ei,en⟩:=Y1b rv'
  subst ei
  have hit : s.heap.IsList l (intItems ps.toArray):=by
   have:=pl.isList
   have e : intItems ps.toArray = (ps.map fun p=>Value.int p.1 p.2).toArray:=by simp [intItems]
   rw [e]; exact this
  have hps : 0 < ps.toArray.size:=by
   cases ps with
   | nil=>exact absurd en.symm hne
   | cons _ _=>simp
  refine max_intList (I.ok.hd hc) hit hps fun v h' tk e k=>?_
  obtain ⟨b1,b2⟩:=Z5w (numAt ps.toArray) (ps.toArray.size - 1)
  obtain ⟨t,et⟩:=intItems_at e
  subst et
  generalize argBest (fun i j=>decide (numAt ps.toArray i > numAt ps.toArray j)) (ps.toArray.size - 1) = k0 at b1 b2 e
  have at_ : ∀ j,j < ps.length -> ns[j]? = some (numAt ps.toArray j):=fun j hj=>by
   rw [<- en,List.getElem?_map,List.getElem?_eq_getElem hj]
   simp [numAt,hj]
  have hk0 : k0 < ps.length:=by
   have : ps.toArray.size = ps.length:=by simp
   omega
  refine ⟨.int (numAt ps.toArray k0),H,I.kept k,⟨t,rfl⟩,h _ (List.mem_of_getElem? (at_ k0 hk0)) (fun n hn=>?_) _ _ (A6.refl _) X6⟩
  obtain ⟨j,hj,e⟩:=List.getElem_of_mem hn
  have hl : ns.length = ps.length:=by rw [<- en,List.length_map]
  have:=at_ j (by omega)
  rw [List.getElem?_eq_getElem hj,e] at this
  rw [Option.some.inj this]
  exact b2 j (by
   have : ps.toArray.size = ps.length:=by simp
   omega)
 ·exact h.elim
end
theorem LO.ok {P : Program} {w : World} {H : Hp} {h : Heap} {b : Addr} {xs : List V} (g : LO b xs h) : F6 P w H h b (.ext (LO b xs)):=by
 obtain ⟨z,its,n,r,e⟩:=id g
 exact ⟨g,⟨_,e⟩,fun h1 h2 ⟨z,its,n,r,e⟩ k=>⟨z,its,n,r,k _ e⟩⟩
noncomputable def J0 : Option Sl -> Bool
 | some (.ll _ _)=>false
 | _=>true
noncomputable def X1 : Nat -> A8 -> Bool
 | _,[]=>true
 | 0,_ :: r=>r.all J0
 | i + 1,s :: r=>J0 s && X1 i r
theorem Z0n : ∀ {i : Nat} {τ : A8} {j : Nat} {a : Addr} {dss : List (List D)},X1 i τ = true -> j ≠ i -> τ[j]? ≠ some (some (.ll a dss))
 | _,[],j,a,dss,_,_=>by simp
 | 0,s :: r,0,a,dss,_,h=>absurd rfl h
 | 0,s :: r,j + 1,a,dss,h,_=>fun e=>by
  have e : r[j]? = some (some (.ll a dss)):=by simpa using e
  have:=List.all_eq_true.mp h _ (List.mem_of_getElem? e)
  cases this
 | i + 1,s :: r,0,a,dss,h,_=>fun e=>by
  have e : s = some (.ll a dss):=by simpa using e
  subst e
  simp [X1,J0] at h
 | i + 1,s :: r,j + 1,a,dss,h,n=>fun e=>by
  rw [X1,Bool.and_eq_true] at h
  exact Z0n (i:=i) (j:=j) h.2 (fun z=>n (by rw [z])) (by simpa using e)
theorem G8.length {K : Fg9} {H : Hp} : ∀ {bs : List Addr} {dss : List (List D)},G8 K H bs dss -> bs.length = dss.length
 | [],_,h=>by rw [show _ = [] from h]; rfl
 | b :: bs,_,h=>by obtain ⟨ds,r,rfl,_,t⟩:=h; rw [List.length_cons,List.length_cons,t.length]
theorem G8.get {K : Fg9} {H : Hp} : ∀ {bs : List Addr} {dss : List (List D)} {j : Nat},G8 K H bs dss -> j < dss.length -> ∃ b xs,bs[j]? = some b /\ H b = some (.ext (LO b xs)) /\ AllS K H (dss.getD j []) xs
 | [],_,j,h,l=>by rw [show _ = [] from h] at l; simp at l
 | b :: bs,_,0,h,l=>by obtain ⟨ds,r,rfl,⟨xs,q,al⟩,t⟩:=h; exact ⟨b,xs,rfl,q,al⟩
 | b :: bs,_,j + 1,h,l=>by
  obtain ⟨ds,r,rfl,_,t⟩:=h
  obtain ⟨b',xs,e,q,al⟩:=G8.get (j:=j) t (by simpa using l)
  exact ⟨b',xs,by simpa using e,q,by simpa using al⟩
theorem G8.mem {K : Fg9} {H : Hp} : ∀ {bs : List Addr} {dss : List (List D)} {b : Addr},G8 K H bs dss -> b ∈ bs -> ∃ xs,H b = some (.ext (LO b xs))
 | [],_,b,h,l=>by cases l
 | c :: bs,_,b,h,l=>by
  obtain ⟨ds,r,rfl,⟨xs,q,al⟩,t⟩:=h
  rcases List.mem_cons.mp l with rfl | l
  ·exact ⟨xs,q⟩
  ·exact t.mem l
theorem G8.set {K : Fg9} {H H' : Hp} (k : Kp H H') {b0 : Addr} {ds0 : List D} {xs0 : List V} (h0 : H' b0 = some (.ext (LO b0 xs0))) (al0 : AllS K H' ds0 xs0) (oth : ∀ b φ,b ≠ b0 -> H b = some (.ext φ) -> H' b = some (.ext φ)) :
  ∀ {bs : List Addr} {dss : List (List D)} {j : Nat},bs.Nodup -> G8 K H bs dss -> bs[j]? = some b0 -> G8 K H' bs (dss.set j ds0)
 | [],_,j,_,h,e=>by simp at e
 | b :: bs,_,0,n,h,e=>by
  obtain ⟨ds,r,rfl,⟨xs,q,al⟩,t⟩:=h
  have e : b = b0:=by simpa using e
  subst e
  rw [List.nodup_cons] at n
  refine ⟨ds0,r,rfl,⟨xs0,h0,al0⟩,?_⟩
  have same : ∀ {cs : List Addr} {ess : List (List D)},b ∉ cs -> G8 K H cs ess -> G8 K H' cs ess:=by
   intro cs
   induction cs with
   | nil=>intro ess _ h; exact h
   | cons c cs ih =>
    intro ess nb h
    obtain ⟨ds,r,rfl,⟨xs,q,al⟩,t⟩:=h
    exact ⟨ds,r,rfl,⟨xs,oth c _ (fun z=>nb (by rw [z]; exact List.mem_cons_self)) q,al.mono k _ _⟩,ih (fun z=>nb (List.mem_cons_of_mem _ z)) t⟩
  exact same n.1 t
 | b :: bs,_,j + 1,n,h,e=>by
  obtain ⟨ds,r,rfl,⟨xs,q,al⟩,t⟩:=h
  rw [List.nodup_cons] at n
  have e : bs[j]? = some b0:=by simpa using e
  exact ⟨ds,r.set j ds0,rfl,⟨xs,oth b _ (fun z=>n.1 (by rw [z]; exact List.mem_of_getElem? e)) q,al.mono k _ _⟩,G8.set k h0 al0 oth n.2 t e⟩
section
variable {X : Cx} {H0 : Hp} {o e f v : Expr} {pos apos cpos sp : Pos} {we wv : WE} {i : Nat}
theorem W1j {td ty : TE} (ho : PE X o td) (he : PE X e ty) (m : M1 X o "append" apos e cpos) : PE X (.Call (.Attribute o "append" apos) [e] [] cpos)
  (fun σ H Q=>td σ H fun x H1=>∃ b xs0,x = .ref b /\ H1 b = some (.ext (LO b xs0)) /\ ty σ H1 fun y H2=>∃ xs,H2 b = some (.ext (LO b xs)) /\ xs.length < sizeLine /\ Q .non (upd H2 b (.ext (LO b (xs ++ [y]))))):=by
 intro pins s σ H Q I h
 refine wpAny_Call_method m.base m.few m.line PySem.F.plainAttrs_list PySem.F.slot_list_append PySem.F.type_list_append (B2 (ho pins s σ H _ I h) fun u s1 ⟨x,H1,I1,rx,b,xs0,ex,eb,q1⟩=>?_)
 subst ex
 obtain rfl : u = Value.ref b:=rx
 obtain ⟨_,its0,n0,_,e0⟩:=(show LO b xs0 s1.heap from (I1.hok b _ eb).1)
 refine ⟨⟨_,e0,rfl⟩,fun c ec=>?_,?_⟩
 ·cases ec; exact ⟨_,e0,rfl⟩
 rw [m.trees]
 refine Calls.callWith_builtin rfl (Calls.evalArgs_plain (Calls.spliced_cons (B2 (he pins s1 σ H1 _ I1 q1) fun yv s2 ⟨y,H2,I2,ry,xs,e2,hz,q2⟩=>Calls.spliced_nil ?_)))
 obtain ⟨z2,its,n,rv,e3⟩:=(show LO b xs s2.heap from (I2.hok b _ e2).1)
 have el:=rv.length
 refine wpAny_list_append_plain (hsz:=by rw [List.size_toArray]; omega) ⟨n,e3⟩ fun h' hl hs=>⟨.non,_,?_,rfl,q2⟩
 obtain ⟨n',e4⟩:=hl
 refine Q2t (t':=s2.toks) I2 (by rw [e2]; exact True.intro) hs ⟨_,e4⟩ (LO.ok ⟨by rw [List.length_append]; show xs.length + 1 <= _; omega,its ++ [yv],n',rv.append (.cons ry .nil),by simpa using e4⟩)
theorem B5.llAt {K : Fg9} {H : Hp} {τ : A8} {σ : St} {a : Addr} {dss : List (List D)} (hR : B5 K H0 τ σ H) (e1 : τ[i]? = some (some (.ll a dss))) : σ[i]? = some (some (.ref a)) /\ Q5j K H0 H a dss:=by
 obtain ⟨v,hv,rfl,q⟩:=hR.here i _ e1
 exact ⟨hv,q⟩
theorem B5.llset {K : Fg9} {H : Hp} {τ : A8} {σ : St} {a b : Addr} {dss : List (List D)} {j : Nat} {ds : List D} {bs : List Addr} {o : Obj} {xs0 xs : List V} (hR : B5 K H0 τ σ H) (e1 : τ[i]? = some (some (.ll a dss))) (hv : σ[i]? = some (some (.ref a))) (only : X1 i τ = true)
  (ha : H a = some (.frz o (.lst (bs.map V.ref)))) (nd : bs.Nodup) (h0 : ∀ b ∈ bs,H0 b = none) (ll : G8 K H bs dss) (ej : bs[j]? = some b) (eb : H b = some (.ext (LO b xs0))) (al : AllS K H ds xs) :
  Kp H (upd H b (.ext (LO b xs))) /\ B5 K H0 (τ.set i (some (.ll a (dss.set j ds)))) σ (upd H b (.ext (LO b xs))):=by
 have kp : Kp H (upd H b (.ext (LO b xs))):=Kp.updM eb (by intro xs z; cases z) (by intro o u z; cases z) _
 have hl : i < τ.length:=(List.getElem?_eq_some_iff.mp e1).1
 have hb0 : H0 b = none:=h0 b (List.mem_of_getElem? ej)
 have oldE : ∀ (j : Nat) (t : Sl),(τ.set i (some (.ll a (dss.set j ds))))[j]? = some (some t) -> j ≠ i -> τ[j]? = some (some t):=fun j t e hj=>by rw [List.getElem?_set_ne (fun z=>hj z.symm)] at e; exact e
 have ne : ∀ c u,H c = some u -> (∀ φ,u ≠ .ext φ) -> upd H b (.ext (LO b xs)) c = some u:=fun c u q n=>by rw [A9 (W9 q eb (n _))]; exact q
 refine ⟨kp,by rw [List.length_set]; exact hR.len,fun c u q=>by rw [A9 (fun z=>by rw [z,hb0] at q; cases q)]; exact hR.same c u q,fun k t e=>?_,fun k l t u w hne e2 e3 m1 m2 q1 q2=>?_⟩
 ·by_cases hk : k = i
  ·subst hk
   rw [List.getElem?_set_self hl] at e; cases e
   refine ⟨_,hv,rfl,bs,o,kp.frz _ _ _ ha,nd,h0,G8.set kp upd_same (al.mono kp _ _) (fun c φ hc q=>by rw [A9 hc]; exact q) nd ll ej⟩
  ·rw [List.getElem?_set_ne (fun z=>hk z.symm)] at e
   obtain ⟨w,q,r⟩:=hR.here k t e
   refine ⟨w,q,?_⟩
   cases t with
   | dat d=>exact A2.mono kp _ _ r
   | own es=>obtain ⟨c,ys,e,n,q,t⟩:=r; exact ⟨c,ys,e,n,ne _ _ q (by intro φ z; cases z),t.mono kp _ _⟩
   | bor es=>obtain ⟨c,ys,e,q,t⟩:=r; exact ⟨c,ys,e,q,t.mono kp _ _⟩
   | dk es=>obtain ⟨c,ys,e,n,q,t⟩:=r; exact ⟨c,ys,e,n,ne _ _ q (by intro φ z; cases z),t.mono kp _ _⟩
   | dt es=>obtain ⟨c,ys,e,n,q,t⟩:=r; exact ⟨c,ys,e,n,ne _ _ q (by intro φ z; cases z),t.mono kp _ _⟩
   | ob _=>exact r
   | cl _ _=>exact ⟨r.1,r.2.2 _ _ kp r.2.1,r.2.2⟩
   | ll a' d'=>exact absurd e (Z0n only hk)
   | ins _ _ _=>obtain ⟨e,n,dx,ys,q,t⟩:=r; exact ⟨e,n,dx,ys,ne _ _ q (by intro φ z; cases z),t.mono kp _ _⟩
 ·by_cases hk : k = i
  ·subst hk; rw [List.getElem?_set_self hl] at e2; cases e2; cases m1
  ·by_cases hl' : l = i
   ·subst hl'; rw [List.getElem?_set_self hl] at e3; cases e3; cases m2
   ·rw [List.getElem?_set_ne (fun z=>hk z.symm)] at e2
    rw [List.getElem?_set_ne (fun z=>hl' z.symm)] at e3
    exact hR.apart k l t u w hne e2 e3 m1 m2 q1 q2
def Q4p (i : Nat) (we wv : WE) : WS:=fun E τ=>∃ a dss,τ[i]? = some (some (.ll a dss)) /\ X1 i τ = true /\ we τ fun r=>∃ k j,r = .st (.int k) /\ ixN dss.length k = some j /\ wv τ fun r2=>∃ d,r2 = .st d /\ (dss.getD j []).length < sizeLine /\
 E.nx (τ.set i (some (.ll a (dss.set j (dss.getD j [] ++ [d])))))
theorem DS.llapp {b : Expr} (ho : PE X b (O4 i)) (he : DE X H0 e we) (hv : DE X H0 v wv) (hpl : Z0k e) (m : M1 X (.Subscript b e pos) "append" apos v cpos) (hsw : swapsWith (.Call (.Attribute (.Subscript b e pos) "append" apos) [v] [] cpos) none sp.line X.env = pure false:=by rfl) :
  DS X H0 (.Expr (.Call (.Attribute (.Subscript b e pos) "append" apos) [v] [] cpos) sp) (Q4p i we wv) where
 mono:=fun τ E F le ⟨a,dss,e1,o,h⟩=>⟨a,dss,e1,o,he.mono τ _ _ (fun r ⟨k,j,a1,a2,h⟩=>⟨k,j,a1,a2,hv.mono τ _ _ (fun r ⟨d,b1,b2,b3⟩=>⟨d,b1,b2,le.nx _ b3⟩) h⟩) h⟩
 ps:=P4 (Z3f (W1j (Z8d Z8b ho he.pe hpl) hv.pe m) hsw) fun D σ H ⟨τ,hR,a,dss,e1,only,h⟩=>by
  obtain ⟨hva,_⟩:=hR.llAt e1
  refine ⟨_,hva,τ,hR,he.mono τ _ _ (fun r ⟨k,j,a1,a2,h⟩ y H1 s1 ik=>?_) h⟩
  subst a1
  cases (show y = .int k from ik)
  have hR1:=hR.mono s1
  obtain ⟨_,bs,ob,ha,nd,h0,ll⟩:=hR1.llAt e1
  have el:=ll.length
  obtain ⟨_,hj,_,_⟩:=Z6d a2
  obtain ⟨b0,xs,ej,eb,al⟩:=ll.get hj
  have hq : D5 X.K H1 a (bs.map V.ref):=(FzL.sq (.inl ⟨ob,ha⟩))
  have hat : K7 (bs.map V.ref) k = some (V.ref b0):=by unfold K7; rw [List.length_map,el,a2]; show (bs.map V.ref)[j]? = _; rw [List.getElem?_map,ej]; rfl
  refine ⟨a,bs.map V.ref,k,V.ref b0,rfl,rfl,hq,hat,b0,xs,rfl,eb,τ,hR1,hv.mono τ _ _ (fun r ⟨d,b1,b2,b3⟩ u H2 s2 iv=>?_) h⟩
  subst b1
  have hR2:=hR1.mono s2
  have al2:=al.mono (Kp.of s2) _ _
  refine ⟨xs,s2 _ _ eb,by rw [<- al.length]; exact b2,?_⟩
  obtain ⟨kp,hR3⟩:=hR2.llset (xs:=xs ++ [u]) (ds:=dss.getD j [] ++ [d]) e1 hva only (s2 _ _ ha) nd h0 (ll.keep (Kp.of s2) fun b φ q=>s2 _ _ q) ej (s2 _ _ eb) (al2.append (AllS.cons iv AllS.nil))
  exact b3 _ _ ((Kp.of (s1.trans s2)).trans kp) hR3
theorem W0i {pins : Pn9} {σ : St} {H : Hp} {s : Shared} {b : Addr} {xs : List V} (I : A1 X pins σ H s) (h : H b = some (.ext (LO b xs))) : ∃ o,A1 X pins σ (upd H b (.frz o (.lst xs))) s:=by
 obtain ⟨z,its,n,r,q⟩:=(show LO b xs s.heap from (I.hok b _ h).1)
 refine ⟨_,I.write (t':=s.toks) (h':=s.heap) (e:=b) (o:=.frz { cls:=.type "list",data:=.seq its.toArray n } (.lst xs)) (by rw [h]; trivial) (.inl rfl) (fun b u _ k=>k) ⟨_,q⟩ ?_⟩
 exact ⟨q,z,its,n,r,q⟩
theorem Z6g {pins : Pn9} {σ : St} {s : Shared} : ∀ {bs : List Addr} {dss : List (List D)} {H : Hp},A1 X pins σ H s -> bs.Nodup -> G8 X.K H bs dss ->
  ∃ H',A1 X pins σ H' s /\ Kp H H' /\ (∀ c,c ∉ bs -> H' c = H c) /\ (∀ c u,H c = some u -> (∀ φ,u ≠ .ext φ) -> H' c = some u) /\ AllS X.K H' (dss.map .lst) (bs.map V.ref)
 | [],dss,H,I,_,h=>by
  rw [show dss = [] from h]
  exact ⟨H,I,Kp.refl H,fun _ _=>rfl,fun _ _ q _=>q,AllS.nil⟩
 | b :: bs,dss,H,I,n,h=>by
  obtain ⟨ds,r,rfl,⟨xs,q,al⟩,t⟩:=h
  rw [List.nodup_cons] at n
  obtain ⟨o,I1⟩:=W0i I q
  have kp : Kp H (upd H b (.frz o (.lst xs))):=Kp.updM q (by intro xs z; cases z) (by intro o u z; cases z) _
  have t1 : G8 X.K (upd H b (.frz o (.lst xs))) bs r:=by
   have same : ∀ {cs : List Addr} {ess : List (List D)},b ∉ cs -> G8 X.K H cs ess -> G8 X.K (upd H b (.frz o (.lst xs))) cs ess:=by
    intro cs
    induction cs with
    | nil=>intro ess _ h; exact h
    | cons c cs ih =>
     intro ess nb h
     obtain ⟨ds,r,rfl,⟨xs,q,al⟩,t⟩:=h
     exact ⟨ds,r,rfl,⟨xs,by rw [A9 (fun z=>nb (by rw [z]; exact List.mem_cons_self))]; exact q,al.mono kp _ _⟩,ih (fun z=>nb (List.mem_cons_of_mem _ z)) t⟩
   exact same n.1 t
  obtain ⟨H',I2,k2,o2,e2,al2⟩:=Z6g I1 n.2 t1
  refine ⟨H',I2,kp.trans k2,fun c hc=>?_,fun c u hq hu=>?_,AllS.cons (A2.s_lst (.inl ⟨o,k2.frz _ _ _ upd_same⟩) ((al.mono kp _ _).mono k2 _ _)) al2⟩
  ·rw [o2 c (fun z=>hc (List.mem_cons_of_mem _ z)),A9 (fun z=>hc (by rw [z]; exact List.mem_cons_self))]
  ·exact e2 c u (by rw [A9 (W9 hq q (hu _))]; exact hq) hu
def Z0z (i : Nat) (w : WS) : WS:=fun E τ=>w { E with nx:=fun τ'=>∃ a dss,τ'[i]? = some (some (.ll a dss)) /\ X1 i τ' = true /\ E.nx (τ'.set i (some (.dat (.lst (dss.map .lst))))) } τ
theorem DS.fzL {st : Stmt} {w : WS} (i : Nat) (h : DS X H0 st w) : DS X H0 st (Z0z i w) where
 mono:=fun τ E F le q=>h.mono τ { E with nx:=fun τ'=>∃ a dss,τ'[i]? = some (some (.ll a dss)) /\ X1 i τ' = true /\ E.nx (τ'.set i (some (.dat (.lst (dss.map .lst))))) } { F with nx:=fun τ'=>∃ a dss,τ'[i]? = some (some (.ll a dss)) /\ X1 i τ' = true /\ F.nx (τ'.set i (some (.dat (.lst (dss.map .lst))))) }
  ⟨fun τ' ⟨a,dss,e,o,q⟩=>⟨a,dss,e,o,le.nx _ q⟩,le.rt,le.bk,le.ct⟩ q
 ps:=P4 (Z2x h.ps) fun D σ H ⟨τ,hR,q⟩=>⟨τ,hR,h.mono τ { K9 X.K H0 H D with nx:=fun τ'=>∃ a dss,τ'[i]? = some (some (.ll a dss)) /\ X1 i τ' = true /\ (K9 X.K H0 H D).nx (τ'.set i (some (.dat (.lst (dss.map .lst))))) } _
  ⟨fun τ' ⟨a,dss,e,only,q⟩ σ' H' kp hR' pins s I=>by
   obtain ⟨hv,bs,ob,ha,nd,h0,ll⟩:=hR'.llAt e
   obtain ⟨H2,I2,k2,o2,e2,al2⟩:=Z6g I nd ll
   have hl : i < τ'.length:=(List.getElem?_eq_some_iff.mp e).1
   refine ⟨H2,I2,q σ' _ (kp.trans k2) ⟨by rw [List.length_set]; exact hR'.len,fun c u hq=>?_,fun k t et=>?_,fun k l t u w hne et eu m1 m2 q1 q2=>?_⟩⟩
   ·rw [o2 c (fun z=>by rw [h0 c z] at hq; cases hq)]; exact hR'.same c u hq
   ·by_cases hk : k = i
    ·subst hk
     rw [List.getElem?_set_self hl] at et; cases et
     exact ⟨_,hv,A2.s_lst (K:=X.K) (.inl ⟨ob,k2.frz _ _ _ ha⟩) al2⟩
    ·rw [List.getElem?_set_ne (fun z=>hk z.symm)] at et
     obtain ⟨w,q,r⟩:=hR'.here k t et
     refine ⟨w,q,?_⟩
     cases t with
     | dat d=>exact A2.mono k2 _ _ r
     | own es=>obtain ⟨c,ys,e,n,q,t⟩:=r; exact ⟨c,ys,e,n,e2 _ _ q (by intro φ z; cases z),t.mono k2 _ _⟩
     | bor es=>obtain ⟨c,ys,e,q,t⟩:=r; exact ⟨c,ys,e,q,t.mono k2 _ _⟩
     | dk es=>obtain ⟨c,ys,e,n,q,t⟩:=r; exact ⟨c,ys,e,n,e2 _ _ q (by intro φ z; cases z),t.mono k2 _ _⟩
     | dt es=>obtain ⟨c,ys,e,n,q,t⟩:=r; exact ⟨c,ys,e,n,e2 _ _ q (by intro φ z; cases z),t.mono k2 _ _⟩
     | ob _=>exact r
     | cl _ _=>exact ⟨r.1,r.2.2 _ _ k2 r.2.1,r.2.2⟩
     | ll a' d'=>exact absurd et (Z0n only hk)
     | ins _ _ _=>obtain ⟨e,n,dx,ys,q,t⟩:=r; exact ⟨e,n,dx,ys,e2 _ _ q (by intro φ z; cases z),t.mono k2 _ _⟩
   ·by_cases hk : k = i
    ·subst hk; rw [List.getElem?_set_self hl] at et; cases et; cases m1
    ·by_cases hl' : l = i
     ·subst hl'; rw [List.getElem?_set_self hl] at eu; cases eu; cases m2
     ·rw [List.getElem?_set_ne (fun z=>hk z.symm)] at et
      rw [List.getElem?_set_ne (fun z=>hl' z.symm)] at eu
      exact hR'.apart k l t u w hne et eu m1 m2 q1 q2,fun _ h=>h,fun _ h=>h,fun _ h=>h⟩ q⟩
end
noncomputable def X3 (g : WG) (we : WE) : List D -> A8 -> (List (List D) -> Prop) -> Prop
 | [],_,Q=>Q []
 | d :: ds,τ,Q=>g d τ fun τ'=>we τ' fun r=>∃ es,r = .nw es /\ X3 g we ds τ' fun ess=>Q (es :: ess)
theorem Y0x {g : WG} {we : WE} (hg : ∀ d τ (P Q : A8 -> Prop),(∀ τ,P τ -> Q τ) -> g d τ P -> g d τ Q) (he : ∀ (τ : A8) (P Q : R -> Prop),(∀ r,P r -> Q r) -> we τ P -> we τ Q) :
  ∀ (ds : List D) (τ : A8) (P Q : List (List D) -> Prop),(∀ es,P es -> Q es) -> X3 g we ds τ P -> X3 g we ds τ Q
 | [],_,_,_,f,h=>f _ h
 | d :: ds,τ,P,Q,f,h=>hg d τ _ _ (fun τ' h=>he τ' _ _ (fun r ⟨e,e1,h⟩=>⟨e,e1,Y0x hg he ds τ' _ _ (fun es h=>f _ h) h⟩) h) h
theorem G8.append {K : Fg9} {H : Hp} {b : Addr} {ds : List D} {xs : List V} (q : H b = some (.ext (LO b xs))) (al : AllS K H ds xs) : ∀ {bs : List Addr} {dss : List (List D)},G8 K H bs dss -> G8 K H (bs ++ [b]) (dss ++ [ds])
 | [],dss,h=>by rw [show dss = [] from h]; exact ⟨ds,[],rfl,⟨xs,q,al⟩,rfl⟩
 | c :: bs,dss,h=>by obtain ⟨es,r,rfl,x,t⟩:=h; exact ⟨es,r ++ [ds],rfl,x,t.append q al⟩
theorem Q9u : ∀ (bs : List Addr),C4 (bs.map V.ref) (bs.map Value.ref)
 | []=>.nil
 | b :: bs=>.cons rfl (Q9u bs)
section
variable {X : Cx} {H0 : Hp} {tg iter elt : Expr} {scope : Scope} {pos pos' spos : Pos} {N : List Str} {nt : Nat} {cap : List Nat} {wi : WIE} {g : WG} {we : WE}
theorem Y4i {use : Option (Value -> Sem Unit)} {QQ : VS9} {P : List (List D) -> Prop} {npos : Pos} {pins : Pn9} {s : Shared} {σ : St} {H : Hp} {τ : A8} (hc : X.calm = true) (B : K8 X scope N nt cap) (hi : J8 X H0 tg iter wi)
  (hg : ∀ C s H fp,DG (C1 X scope C s H fp N) H tg g) (he : ∀ C s H fp,DE (C1 X scope C s H fp N) H elt we) (hs : ∀ x,foldedSetIterable iter X.env x = pure x)
  (I : A1 X pins σ H s) (hR : B5 X.K H0 τ σ H) (hw : wi τ fun ds=>ds.length <= sizeLine /\ X3 g we ds (Q0 nt cap τ) P)
  (fin : ∀ (C D0 : Addr) (s2 s4 : Shared) (H2 H4 : Hp) (fp : List Addr) (pb : Pn9) (σ4 : St) (bs : List Addr) (nn : Nat) (dss : List (List D)) (f : Flow),A1 X pins σ H2 s2 -> A6 H H2 -> A1 (C1 X scope C s2 H2 fp N) pb σ4 H4 s4 -> (∀ b ∈ fp,K3 X pins H2 b) ->
   s2.heap.objs.size <= C -> s2.heap.objs.size <= D0 -> D0 ≠ C -> H4 D0 = none -> s4.heap.get? D0 = some { cls:=.type "list",data:=.seq (bs.map Value.ref).toArray nn } -> bs.length <= sizeLine -> A6 H2 H4 -> bs.Nodup -> (∀ b ∈ bs,H2 b = none) -> G8 X.K H4 bs dss -> P dss -> compPost (model X.prog X.w) X.A X.xe use QQ (.ref D0) C (.ok f) s4) :
  wpAny (model X.prog X.w) X.A (comprehension (.ListComp elt [⟨tg,iter,[],0⟩] scope pos) scope X.env npos (newList []) false (eval iter X.env) use) QQ X.xe s:=by
 refine wpAny_comprehension_free rfl hs (Q8e fun y hy e=>I.ok.has y.1 (B.free y hy e)) B.kind B.names ?_
 refine B2 (hi.pi pins s σ H (fun J H2=>A6 H H2 /\ ∃ ds,YlS X.K J ds H2 /\ ds.length <= sizeLine /\ X3 g we ds (Q0 nt cap τ) P) I
  ⟨τ,hR,hi.mono τ _ _ (fun ds h J H' sm yl=>⟨sm,ds,yl,h.1,h.2⟩) hw⟩) fun v s1 h1=>B2 h1 fun itv s2 h2=>?_
 obtain ⟨it,fp,tn,J,H2,e,I2,T,st2,f2,sm2,ds,yl,hz,hw2⟩:=h2
 subst e
 have hfl : ∀ b ∈ fp,b < s2.heap.objs.size:=fun b hb=>by
  obtain ⟨o,ho,_⟩:=T.obj _ _ st2 b hb
  exact Heap.lt_size ho
 have hR2:=hR.mono sm2
 refine wpAny_newObj_type (wpAny_newFunctionEnv B.cell (by intro y hy; simp at hy) (fun h₁ hns₁ hsb₁=>?_) B.kind)
 dsimp only at hns₁ hsb₁ ⊢
 generalize hH2 : s2.heap.push { cls:=.type "list",dict:=none,data:=.seq ([] : List Value).toArray } = Hq at hns₁ hsb₁ ⊢
 have hC : Hq.objs.size = s2.heap.objs.size + 1:=by rw [<- hH2,Heap.size_push]
 have hDC : s2.heap.objs.size ≠ Hq.objs.size:=by rw [hC]; exact Nat.ne_of_lt (Nat.lt_succ_self _)
 have hCle : s2.heap.objs.size <= Hq.objs.size:=by rw [hC]; exact Nat.le_succ _
 have old : ∀ b o,s2.heap.get? b = some o -> h₁.get? b = some o:=fun b o e=>hsb₁.extBut b o (by rw [hC]; exact Nat.ne_of_lt (Nat.lt_succ_of_lt (Heap.lt_size e))) (Heap.get?_push_of_some _ (hH2 ▸ Heap.get?_push_of_some _ e))
 have hacc : h₁.PlainList s2.heap.objs.size #[]:=⟨_,hsb₁.extBut _ _ hDC (Heap.get?_push_of_some _ (hH2 ▸ Heap.get?_push_size _ rfl))⟩
 generalize hCe : Hq.objs.size = C at hns₁ hsb₁ hC hDC hCle ⊢
 generalize hDe : s2.heap.objs.size = D0 at hC hDC hCle hacc ⊢
 have hfl' : ∀ b ∈ fp,b < D0:=fun b hb=>hDe ▸ hfl b hb
 have hst₁ : tn 0 h₁:=T.keep _ _ _ st2 fun b _ o e=>old b o e
 have Ib0:=Q7k (C:=C) (h':=h₁) (t':=s2.toks + ([] : List (Str × Value)).length) I2 B f2 hfl (by rw [hDe]; exact hCle) hns₁ old
 have hD2 : H2 D0 = none:=I2.hok.fresh (by rw [hDe]; exact Nat.le_refl _)
 have nfs : D0 ∉ frs X.stack:=fun z=>by
  rcases List.mem_cons.mp (I2.stkSub _ z) with e | e
  ·have:=I2.lt; rw [<- e,hDe] at this; exact Nat.lt_irrefl _ this
  ·exact I2.nofs (by rw [hDe]; exact Nat.le_refl _) e
 have ncl : ∀ x c,(Q1 X.env scope.names []).lookup x = some c -> c ≠ D0:=fun x c h z=>by
  obtain ⟨v,q⟩:=I2.cell x c (U3 I2 B h)
  have:=q.lt
  rw [z,hDe] at this
  exact Nat.lt_irrefl _ this
 have pinD : ∀ {pb : Pn9} {σ' : St} {H' : Hp} {s' : Shared} {ys : Array Value} {n : Nat},A1 (C1 X scope C s2 H2 fp N) pb σ' H' s' -> H' D0 = none -> s'.heap.get? D0 = some { cls:=.type "list",data:=.seq ys n } ->
   A1 (C1 X scope C s2 H2 fp N) [(D0,{ cls:=.type "list",data:=.seq ys n })] σ' H' s':=by
  intro pb σ' H' s' ys n I' n' e
  refine I'.pins_of fun p hp=>?_
  have e' : p = (D0,{ cls:=.type "list",data:=.seq ys n }):=by simpa using hp
  subst e'
  exact ⟨e,n',hDC,nfs,fun v z=>by cases z⟩
 have fpX : ∀ {H' : Hp} {ob : Obj},(∀ b ∈ fp,H' b = none) -> ∀ b ∈ fp,K3 (C1 X scope C s2 H2 fp N) [(D0,ob)] H' b:=by
  intro H' ob hn b hb
  refine ⟨hn b hb,(Nat.ne_of_lt (Nat.lt_of_lt_of_le (hfl' b hb) hCle)),fun z=>?_,.inl hb,fun x c h=>(f2 b hb).2.2.2.2.1 x c (U3 I2 B h),fun p hp=>?_⟩
  ·rcases List.mem_cons.mp (I2.stkSub b z) with e | e
   ·exact (f2 b hb).2.1 e
   ·exact (f2 b hb).2.2.1 e
  ·have e' : p = (D0,ob):=by simpa [C1] using hp
   subst e'
   exact (Nat.ne_of_lt (hfl' b hb)).symm
 let Inn : Nat -> Shared -> Prop:=fun k s'=>∃ (i : Nat) (σ' : St) (H' : Hp) (τ' : A8) (nn : Nat) (bs : List Addr) (dss : List (List D)),A1 (C1 X scope C s2 H2 fp N) [(D0,{ cls:=.type "list",data:=.seq (bs.map Value.ref).toArray nn })] σ' H' s' /\ B5 X.K H2 τ' σ' H' /\ tn i s'.heap /\
  (∀ b ∈ fp,H' b = none) /\ H' D0 = none /\ bs.Nodup /\ (∀ b ∈ bs,H2 b = none) /\ G8 X.K H' bs dss /\ i <= ds.length /\ k = ds.length - i /\ bs.length = i /\ X3 g we (ds.drop i) τ' fun ess=>P (dss ++ ess)
 have loop : ∀ s₃ : Shared,s₃ = { s2 with heap:=h₁,toks:=s2.toks + ([] : List (Str × Value)).length } ->
   codeAny (model X.prog X.w) X.A (.compLoop (.ListComp elt [⟨tg,iter,[],0⟩] scope pos) 0 (.ref it) (.ref D0) (compEnvC scope (Q1 X.env scope.names []) C X.env))
    (compPost (model X.prog X.w) X.A X.xe use QQ (.ref D0) C) s₃:=by
  rintro s₃ rfl
  obtain ⟨nn,ho⟩:=id hacc
  refine Z1c Inn ?_ ds.length ⟨0,_,H2,Q0 nt cap τ,nn,[],[],pinD Ib0 hD2 ho,Z3i hR2 nt cap,hst₁,fun b hb=>(f2 b hb).1,hD2,List.nodup_nil,(by intro b hb; cases hb),rfl,Nat.zero_le _,rfl,rfl,by simpa using hw2⟩
  rintro k s3 ⟨i,σ3,H3,τ3,nn,bs,dss,I3,R3,st3,fr3,d3,nd3,f3,ll3,hi3,rfl,hes,w3⟩
  have hsame3 : A6 H2 H3:=R3.same
  by_cases hlt : i < ds.length
  ·refine wpAny_mono (T.item (C1 X scope C s2 H2 fp N) rfl rfl rfl hc i _ s3 σ3 H3 (fun _ _=>False) I3 (fpX fr3) st3 (yl.go H3 hsame3 i hlt)) (fun r s4 ⟨u,hr,h4⟩=>?_) fun _ _ z=>z
   subst hr
   refine wpAny_mono h4 (fun _ s5 ⟨x,H5,I5,r5,y5,st5,fr5⟩=>?_) fun _ _ z=>z
   obtain ⟨s35,ix⟩:=yl.yld H3 hsame3 i x H5 _ (List.getElem?_eq_getElem hlt) y5
   rw [List.drop_eq_getElem_cons hlt] at w3
   have I5':=I5.pinned (fpX fr5) (T.obj _ _ st5)
   refine wpAny_mono ((hg C s2 H2 fp).pg _ s5 σ3 H5 x u (fun σ6 H6=>∃ τ6,B5 X.K H2 τ6 σ6 H6 /\ A6 H5 H6 /\ we τ6 fun r=>∃ es,r = .nw es /\ X3 g we (ds.drop (i + 1)) τ6 fun ess=>P (dss ++ (es :: ess)))
    I5' r5 ⟨τ3,ds[i],R3.mono s35,ix,(hg C s2 H2 fp).mono _ _ _ _ (fun τ6 h6 σ6 H6 s56 R6=>⟨τ6,R6,s56,h6⟩) w3⟩) (fun _ s6 ⟨σ6,H6,I6,τ6,R6,s56,w6⟩=>?_) fun _ _ z=>z
   refine wpAny_tests_nil ?_
   rw [if_pos rfl]
   refine wpAny_mono ((he C s2 H2 fp).pe _ s6 σ6 H6 (fun v H8=>A6 H6 H8 /\ ∃ es,E1 X.K H6 H8 (.nw es) v /\ X3 g we (ds.drop (i + 1)) τ6 fun ess=>P (dss ++ (es :: ess))) I6
    ⟨τ6,R6,(he C s2 H2 fp).mono τ6 _ _ (fun r ⟨e,e1,h⟩ v H8 s78 ir=>⟨s78,e,by subst e1; exact ir,h⟩) w6⟩) (fun y s8 ⟨v8,H8,I8,rv8,s68,es,⟨b,xs,eb,nb,hb8,al8⟩,w8⟩=>?_) fun _ _ z=>z
   subst eb
   obtain rfl : y = Value.ref b:=rv8
   have pd:=I8.pin (D0,_) (List.mem_append_right _ (List.mem_append_left _ List.mem_cons_self))
   obtain ⟨o8,d8,_⟩:=pd
   have hbD : b ≠ D0:=fun z=>by rw [z,d8] at hb8; cases hb8
   obtain ⟨zb,itsb,nb',rb,ob⟩:=I8.hok b _ hb8
   have I8x : A1 (C1 X scope C s2 H2 fp N) ([(D0,{ cls:=.type "list",data:=.seq (bs.map Value.ref).toArray nn })] ++ S8 fp s5.heap) σ6 (upd H8 b (.ext (LO b xs))) s8 :=
    I8.write (t':=s8.toks) (h':=s8.heap) (e:=b) (by rw [hb8]; trivial) (.inl rfl) (fun c u _ k=>k) ⟨_,ob⟩ (LO.ok ⟨zb,itsb,nb',rb,ob⟩)
   have kp : Kp H8 (upd H8 b (.ext (LO b xs))):=Kp.upd hb8 _
   have s68x : A6 H6 (upd H8 b (.ext (LO b xs))):=fun c u q=>by rw [A9 (T2 q nb)]; exact s68 c u q
   have hys : (bs.map Value.ref).toArray.size <= sizeLine:=by simp; omega
   refine wpAny_list_append_plain (hsz:=hys) ⟨nn,o8⟩ fun h₅ hl₅ hs₅=>?_
   have I8f : A1 (C1 X scope C s2 H2 fp N) (S8 fp s5.heap) σ6 (upd H8 b (.ext (LO b xs))) s8:=I8x.pins_of fun p hp=>I8x.pin p (List.mem_append_right _ (List.mem_append_right _ hp))
   have d8x : upd H8 b (.ext (LO b xs)) D0 = none:=by rw [A9 (Ne.symm hbD)]; exact d8
   have I9 : A1 (C1 X scope C s2 H2 fp N) (S8 fp s5.heap) σ6 (upd H8 b (.ext (LO b xs))) { s8 with heap:=h₅ }:=by
    refine I8f.turned (t':=s8.toks) (it:=D0) (fun c o hb e=>(hs₅.2 c hb).trans e) d8x hDC (.inr (by rw [<- hDe]; exact Nat.le_refl _)) ncl (fun p hp z=>?_)
    obtain ⟨q1,_⟩:=Q5i (by simpa [C1] using hp)
    exact Nat.ne_of_lt (hfl' _ q1) z
   obtain ⟨nn9,o9⟩:=hl₅
   have o9' : h₅.get? D0 = some { cls:=.type "list",data:=.seq ((bs ++ [b]).map Value.ref).toArray nn9 }:=by rw [o9]; simp
   have s36 : A6 H3 H6:=s35.trans s56
   have st9 : tn (i + 1) h₅:=T.keep _ _ _ st5 fun b hb o e=>(I9.pin (b,o) (List.mem_append_right _ (Q0j hb e))).1
   have ll6 : G8 X.K (upd H8 b (.ext (LO b xs))) bs dss:=ll3.keep (Kp.of (s36.trans s68x)) fun c φ q=>(s36.trans s68x) _ _ q
   refine ⟨ds.length - (i + 1),by omega,i + 1,σ6,_,τ6,nn9,bs ++ [b],dss ++ [es],pinD I9 d8x o9',R6.mono s68x,st9,fun c hb=>?_,d8x,?_,fun c hc=>?_,ll6.append upd_same (al8.mono kp _ _),hlt,rfl,by rw [List.length_append,hes]; rfl,by simpa using w8⟩
   ·obtain ⟨o,e,_⟩:=T.obj _ _ st5 c hb
    exact (I9.pin (c,o) (List.mem_append_right _ (Q0j hb e))).2.1
   ·rw [List.nodup_append]
    refine ⟨nd3,by simp,fun c hc c' hc' z=>?_⟩
    rw [show c' = b by simpa using hc'] at z
    obtain ⟨xs',q⟩:=ll3.mem hc
    have q6:=s36 _ _ q
    rw [z,nb] at q6; cases q6
   ·rcases List.mem_append.mp hc with z | z
    ·exact f3 c z
    ·rw [List.mem_singleton.mp z]
     exact (hsame3.trans s36).free nb
  ·have e : i = ds.length:=by omega
   subst e
   refine wpAny_mono (T.done (C1 X scope C s2 H2 fp N) rfl rfl rfl hc ds.length _ s3 σ3 H3 (fun _ _=>False) I3 (fpX fr3) st3 (yl.stop H3 hsame3)) (fun r s4 ⟨hr,I4⟩=>?_) fun _ _ z=>z
   subst hr
   have o4:=(I4.pin (D0,_) (List.mem_append_right _ List.mem_cons_self)).1
   rw [List.drop_length] at w3
   have w3 : P (dss ++ []):=w3
   rw [List.append_nil] at w3
   exact fin C D0 s2 s4 H2 H3 fp _ σ3 bs nn dss _ I2 sm2 I4 f2 (by rw [hDe]; exact hCle) (by rw [hDe]; exact Nat.le_refl _) hDC d3 o4 (by omega) hsame3 nd3 f3 ll3 w3
 exact codeAny_compStart_list (loop _ rfl) (T.self _ 0 _ _ _ hst₁ (loop _ rfl))
def Z0m (i nt : Nat) (cap : List Nat) (wi : WIE) (g : WG) (we : WE) : WS:=fun E τ=>wi τ fun ds=>ds.length <= sizeLine /\ X3 g we ds (Q0 nt cap τ) fun dss=>∀ a,E.nx (τ.set i (some (.ll a dss)))
theorem DS.setLC {i : Nat} {x : Str} (hc : X.calm = true) (B : K8 X scope N nt cap) (hi : J8 X H0 tg iter wi) (hg : ∀ C s H fp,DG (C1 X scope C s H fp N) H tg g) (he : ∀ C s H fp,DE (C1 X scope C s H fp N) H elt we) (hN : X.N.Nodup) (hix : X.N[i]? = some x) (hx : Loc X.env.scope x)
  (hsw : swapsWith (.ListComp elt [⟨tg,iter,[],0⟩] scope pos) (some (.Name x pos')) spos.line X.env = pure true:=by rfl) (hs : ∀ x,foldedSetIterable iter X.env x = pure x:=by intro _; rfl)
  (hf : X.fn x = true \/ X.env.scope.names.lookup x = some .local:=by first | exact .inl rfl | exact .inr rfl | assumption) :
  DS X H0 (.Assign [.Name x pos'] (.ListComp elt [⟨tg,iter,[],0⟩] scope pos) spos) (Z0m i nt cap wi g we) where
 mono:=fun τ E F le h=>hi.mono τ _ _ (fun ds h=>⟨h.1,Y0x (hg 0 X.s₀ X.H₀ []).mono (he 0 X.s₀ X.H₀ []).mono ds _ _ _ (fun es h a=>le.nx _ (h a)) h.2⟩) h
 ps:=by
  intro pins s σ H D I ⟨τ,hR,hw⟩
  rw [exec_Assign_Name_used _ _ _ _ hsw]
  refine wpAny_bind (wpAny_standAt (wpAny_bind ?_))
  change wpAny (model X.prog X.w) X.A (do let _ <- comprehension (.ListComp elt [⟨tg,iter,[],0⟩] scope pos) scope X.env _ (newList []) false (eval iter X.env) (some (assign (.Name x pos') X.env))) _ _ s
  refine wpAny_bind (wpAny_mono (Y4i (use:=some (assign (.Name x pos') X.env)) (QQ:=fun _ s'=>SP X pins D .next s') hc B hi hg he hs I hR hw fun C D0 s2 s4 H2 H4 fp pb σ4 bs nn dss f I2 sm2 I4 f2 hC hD hDC hn ho hz sm4 nd fr ll w3=>?_)
   (fun _ s' hq=>wpAny_pure (wpAny_pure hq)) fun _ _ e=>e)
  have Ib : A1 X pins σ (upd H4 D0 (.frz { cls:=.type "list",data:=.seq (bs.map Value.ref).toArray nn } (.lst (bs.map V.ref)))) { s4 with heap:=s4.heap } :=
   Z6o I2 I4 f2 hC hD hn ⟨rfl,fun _ _=>rfl⟩ ⟨ho,by rw [List.length_map]; exact hz,bs.map Value.ref,nn,Q9u bs,ho⟩
  have hCL : C ≠ X.env.locals:=fun z=>Nat.lt_irrefl _ (Nat.lt_of_lt_of_le I2.lt (z ▸ hC))
  have hCc : ∀ x c,X.env.cells.lookup x = some c -> c ≠ C:=fun x c h z=>by
   obtain ⟨v,q⟩:=I2.cell x c h
   exact Nat.lt_irrefl _ (Nat.lt_of_lt_of_le q.lt (z ▸ hC))
  change wpAny (model X.prog X.w) X.A (assign (.Name x pos') X.env (Value.ref D0)) _ _ s4
  refine wpAny_assign_Name (Z2s (v:=.ref D0) Ib hN hix hx rfl (fun s5 I5 ⟨a,sb5,ha⟩=>?_) hf)
  obtain ⟨m4,hn4,_⟩:=id I4.loc
  have hCa : C ≠ a:=by
   rcases ha with ha | ha
   ·rw [ha]; exact hCL
   ·exact fun z=>hCc _ _ ha z.symm
  refine ⟨m4,hn4.sameBut sb5 hCa,fun h' sb=>?_⟩
  have hC4 : H4 C = none:=I4.free
  have I6 : A1 X pins (σ.set i (some (.ref D0))) (upd H4 D0 (.frz { cls:=.type "list",data:=.seq (bs.map Value.ref).toArray nn } (.lst (bs.map V.ref)))) { s5 with heap:=h' }:=by
   refine I5.turned (t':=s5.toks) (it:=C) (fun b o hb e=>(sb.2 b hb).trans e) (by rw [A9 (Ne.symm hDC)]; exact hC4) hCL (.inr (Nat.le_trans I2.sz hC)) hCc fun p hp z=>?_
   have:=(I2.pin p hp).1
   exact Nat.lt_irrefl _ (Nat.lt_of_lt_of_le (Heap.lt_size this) (z ▸ hC))
  have smA : A6 H (upd H4 D0 (.frz { cls:=.type "list",data:=.seq (bs.map Value.ref).toArray nn } (.lst (bs.map V.ref)))):=sm2.trans (sm4.trans (F7 hn _))
  have hR':=(hR.mono smA).set (i:=i) (s:=.ll D0 dss) (v:=.ref D0) ⟨rfl,bs,_,upd_same,nd,fun b hb=>(hR.same.trans sm2).free (fr b hb),ll.keep (Kp.of (F7 hn _)) fun c φ q=>by rw [A9 (T2 q hn)]; exact q⟩ fun m=>by cases m
  exact ⟨_,_,I6,w3 D0 _ _ (Kp.of smA) hR'⟩
end
abbrev Q2b (h : Heap) (z TI TO T : Addr) (f : Bool) : Prop :=
 h.get? z = some { cls:=.type "zip",dict:=none,data:=.fields #[rawInt T,.bool f,.bool false,.ref TI,.ref TO],slots:=#[] }
section
variable {P : Program} {w : World} {A : Around} {E : VS9} {s : Shared} {z TI TO T i1 i2 l1 l2 : Addr} {f : Bool} {k : Nat} {xs ys : Array Value} {oT : Obj}
theorem Z9w {Q : Bool -> Shared -> Prop} (hz : Q2b s.heap z TI TO T f) (hT : s.heap.get? T = some oT) (hQ : ∀ h',Q2b h' z TI TO T true -> Heap.SameBut z s.heap h' -> Q false { s with heap:=h' }) :
  wpAny (model P w) A (Builtin.SmallTypes.ownedTupleIsFree (.ref z)) Q E s:=by
 unfold Builtin.SmallTypes.ownedTupleIsFree; refine wpAny_bind (wpAny_field hz rfl (x:=rawInt T) rfl ?_)
 change wpAny (model P w) A (loadIfAlive ((T : Int).toNat) >>= _) _ _ _
 rw [Int.toNat_natCast]
 refine wpAny_bind (PySem.W.kdx_alive hT ?_)
 rw [if_neg (by simp)]
 refine wpAny_bind (wpAny_field hz rfl (x:=.bool f) rfl ?_)
 cases f with
 | true =>
  rw [if_neg (by decide)]
  exact wpAny_pure (hQ s.heap hz (Heap.SameBut.refl _ _))
 | false =>
  rw [if_pos (by decide)]
  exact wpAny_bind (wpAny_setField_rec hz (by simp) fun h₃ he₃ hs₃=>wpAny_pure (hQ h₃ he₃ hs₃))
theorem W4m {x y : Value} {Q : VS9} (D : ZipApart z TI TO i1 i2 l1 l2) (hz : Q2b s.heap z TI TO T f) (hT : s.heap.get? T = some oT) (hTI : IsPair s.heap TI (.ref i1) (.ref i2))
  (h1 : s.heap.IsListIter i1 l1 k) (h2 : s.heap.IsListIter i2 l2 k) (hl1 : s.heap.IsList l1 xs) (hl2 : s.heap.IsList l2 ys) (hx : xs[k]? = some x) (hy : ys[k]? = some y)
  (hQ : ∀ h',Q2b h' z TI TO T true -> h'.IsListIter i1 l1 (k + 1) -> h'.IsListIter i2 l2 (k + 1) -> IsPair h' s.heap.objs.size x y -> h'.objs.size = s.heap.objs.size + 1 ->
   (∀ c o,c ≠ z -> c ≠ i1 -> c ≠ i2 -> s.heap.get? c = some o -> h'.get? c = some o) -> Q (.ref s.heap.objs.size) { s with heap:=h' }) :
  wpAny (model P w) A (Builtin.«zip.__next__» ⟨[.ref z],[]⟩) (fun fin s'=>∃ v,fin = .done (.ret v) /\ Q v s') E s:=by
 change wpAny (model P w) A (field (.ref z) 2 >>= _) _ _ s
 refine wpAny_bind (wpAny_field hz rfl (x:=Value.bool false) rfl ?_)
 change wpAny (model P w) A (field (.ref z) 3 >>= _) _ _ s
 refine wpAny_bind (wpAny_field hz rfl (x:=.ref TI) rfl (wpAny_bind (wpAny_seqItems hTI rfl ?_)))
 change wpAny (model P w) A (Builtin.SmallTypes.ownedTupleIsFree (.ref z) >>= _) _ _ s
 refine wpAny_bind (Z9w hz hT fun h₁ hz₁ hs₁=>?_)
 rw [if_neg (by decide)]
 refine wpAny_bind ?_
 rw [<- Array.forIn_toList]
 rw [List.forIn_cons]
 refine wpAny_bind (wpAny_bind (wpAny_holding ?_))
 change wpAny (model P w) A (Builtin.SmallTypes.nextOf (.ref i1) >>= fun x=>pure (some x)) _ _ _
 refine wpAny_bind (wpAny_nextOf_list_item (h1.extBut hs₁.extBut D.i1z) (hl1.extBut hs₁.extBut D.l1z) hx fun h₂ h1₂ hs₂=>wpAny_pure (wpAny_pure ?_))
 dsimp only
 rw [List.forIn_cons]
 refine wpAny_bind (wpAny_bind (wpAny_holding ?_))
 change wpAny (model P w) A (Builtin.SmallTypes.nextOf (.ref i2) >>= fun x=>pure (some x)) _ _ _
 refine wpAny_bind (wpAny_nextOf_list_item ((h2.extBut hs₁.extBut D.i2z).extBut hs₂.extBut D.i12.symm) ((hl2.extBut hs₁.extBut D.l2z).extBut hs₂.extBut D.l2i1) hy fun h₃ h2₃ hs₃=>wpAny_pure (wpAny_pure ?_))
 dsimp only
 rw [List.forIn_nil]
 refine wpAny_pure (wpAny_bind (wpAny_newTuple (wpAny_pure ⟨_,rfl,?_⟩) (hsz:=by show 2 <= sizeLine; decide)))
 have sz : h₃.objs.size = s.heap.objs.size:=by rw [hs₃.1,hs₂.1,hs₁.1]
 have up : ∀ c o,c ≠ z -> c ≠ i1 -> c ≠ i2 -> s.heap.get? c = some o -> h₃.get? c = some o:=fun c o c1 c2 c3 e=>hs₃.extBut _ _ c3 (hs₂.extBut _ _ c2 (hs₁.extBut _ _ c1 e))
 have hz₃ : Q2b h₃ z TI TO T true:=hs₃.extBut _ _ D.i2z.symm (hs₂.extBut _ _ D.i1z.symm hz₁)
 have h1₃ : h₃.IsListIter i1 l1 (k + 1):=h1₂.extBut hs₃.extBut D.i12
 have goal:=hQ (h₃.push { cls:=.type "tuple",data:=.seq #[x,y] }) (Heap.get?_push_of_some _ hz₃) (h1₃.at fun o e=>Heap.get?_push_of_some _ e) (h2₃.at fun o e=>Heap.get?_push_of_some _ e)
  (by
   have e : (h₃.push { cls:=.type "tuple",data:=.seq #[x,y] }).get? h₃.objs.size = some { cls:=.type "tuple",data:=.seq #[x,y] }:=Heap.get?_push_size _ rfl
   rw [sz] at e; exact e) (by rw [Heap.size_push,sz]) fun c o c1 c2 c3 e=>Heap.get?_push_of_some _ (up c o c1 c2 c3 e)
 rw [<- sz] at goal
 exact goal
theorem Y6u {Q : Fin -> Shared -> Prop} (hh : A.handled = none) (D : ZipApart z TI TO i1 i2 l1 l2) (hz : Q2b s.heap z TI TO T f) (hT : s.heap.get? T = some oT) (hTI : IsPair s.heap TI (.ref i1) (.ref i2))
  (h1 : s.heap.IsListIter i1 l1 k) (h2 : s.heap.IsListIter i2 l2 k) (hl1 : s.heap.IsList l1 xs) (hl2 : s.heap.IsList l2 ys) (hend : xs[k]? = none \/ ys[k]? = none)
  (hE : ∀ h' e,(∀ c o,c ≠ z -> c ≠ i1 -> c ≠ i2 -> s.heap.get? c = some o -> h'.get? c = some o) -> (∃ o,h'.get? e = some o /\ o.cls = .type "StopIteration") -> E (.ref e) { s with heap:=h' }) :
  wpAny (model P w) A (Builtin.«zip.__next__» ⟨[.ref z],[]⟩) Q E s:=by
 change wpAny (model P w) A (field (.ref z) 2 >>= _) _ _ s
 refine wpAny_bind (wpAny_field hz rfl (x:=Value.bool false) rfl ?_)
 change wpAny (model P w) A (field (.ref z) 3 >>= _) _ _ s
 refine wpAny_bind (wpAny_field hz rfl (x:=.ref TI) rfl (wpAny_bind (wpAny_seqItems hTI rfl ?_)))
 change wpAny (model P w) A (Builtin.SmallTypes.ownedTupleIsFree (.ref z) >>= _) _ _ s
 refine wpAny_bind (Z9w hz hT fun h₁ hz₁ hs₁=>?_)
 rw [if_neg (by decide)]
 refine wpAny_bind ?_
 rw [<- Array.forIn_toList]
 rw [List.forIn_cons]
 refine wpAny_bind (wpAny_bind (wpAny_holding ?_))
 change wpAny (model P w) A (Builtin.SmallTypes.nextOf (.ref i1) >>= fun x=>pure (some x)) _ _ _
 cases hx : xs[k]? with
 | none =>
  exact wpAny_bind (wpAny_nextOf_list_end hh (h1.extBut hs₁.extBut D.i1z) (hl1.extBut hs₁.extBut D.l1z) hx fun h₂ e hs₂ he=>hE h₂ e (fun c o c1 c2 _ x=>hs₂ _ _ c2 (hs₁.extBut _ _ c1 x)) he)
 | some x =>
  have hy : ys[k]? = none:=by rcases hend with h | h; rw [hx] at h; cases h; exact h
  refine wpAny_bind (wpAny_nextOf_list_item (h1.extBut hs₁.extBut D.i1z) (hl1.extBut hs₁.extBut D.l1z) hx fun h₂ h1₂ hs₂=>wpAny_pure (wpAny_pure ?_))
  dsimp only
  rw [List.forIn_cons]
  refine wpAny_bind (wpAny_bind (wpAny_holding ?_))
  change wpAny (model P w) A (Builtin.SmallTypes.nextOf (.ref i2) >>= fun x=>pure (some x)) _ _ _
  refine wpAny_bind (wpAny_nextOf_list_end hh ((h2.extBut hs₁.extBut D.i2z).extBut hs₂.extBut D.i12.symm) ((hl2.extBut hs₁.extBut D.l2z).extBut hs₂.extBut D.l2i1) hy fun h₃ e hs₃ he=>?_)
  exact hE h₃ e (fun c o c1 c2 c3 x=>hs₃ _ _ c3 (hs₂.extBut _ _ c2 (hs₁.extBut _ _ c1 x))) he
def ZSt (h : Heap) (z TI TO i1 i2 l1 l2 : Addr) (k : Nat) (as : List Addr) : Prop :=
 IsPair h TI (.ref i1) (.ref i2) /\ h.IsListIter i1 l1 k /\ h.IsListIter i2 l2 k /\ ((as = [] /\ IsZip h z TI TO .none /\ ∃ a b,IsPair h TO a b) \/ ∃ T f o,T ∈ as /\ Q2b h z TI TO T f /\ h.get? T = some o)
theorem W2w {x y : Value} {as : List Addr} {Q : Option Value -> Shared -> Prop} (D : ZipApart z TI TO i1 i2 l1 l2) (hap : ∀ a ∈ as,a ≠ z /\ a ≠ TI /\ a ≠ TO /\ a ≠ i1 /\ a ≠ i2) (st : ZSt s.heap z TI TO i1 i2 l1 l2 k as) (hl1 : s.heap.IsList l1 xs) (hl2 : s.heap.IsList l2 ys) (hx : xs[k]? = some x) (hy : ys[k]? = some y)
  (hQ : ∀ h',ZSt h' z TI TO i1 i2 l1 l2 (k + 1) (as ++ [s.heap.objs.size]) -> IsPair h' s.heap.objs.size x y -> h'.objs.size = s.heap.objs.size + 1 -> (∀ c o,c ≠ z -> c ≠ TO -> c ≠ i1 -> c ≠ i2 -> s.heap.get? c = some o -> h'.get? c = some o) -> Q (some (.ref s.heap.objs.size)) { s with heap:=h' }) :
  wpAny (model P w) A (pyNext (.ref z)) Q E s:=by
 obtain ⟨hTI,h1,h2,⟨ea,hz,a,b,hTO⟩ | ⟨T,f,o,hm,hz,hT⟩⟩:=st
 ·refine wpAny_pyNext_zip_item D hz hTI hTO h1 h2 hl1 hl2 hx hy fun h' a1 a2 a3 a4 a5 a6 a7=>hQ h' ⟨a7 _ _ D.TIz D.TITO D.TIi1 D.TIi2 hTI,a3,a4,.inr ⟨s.heap.objs.size,false,_,List.mem_append_right _ List.mem_cons_self,a1,a5⟩⟩ a5 a6 a7
 ·have hz' : s.TypeIs (.ref z) "zip":=⟨_,hz,rfl⟩
  obtain ⟨t1,t2,t3,t4,t5⟩:=hap T hm
  unfold pyNext
  exact wpAny_bind (wpAny_attempt (wpAny_callSpecial?_slot (name:=Str.ofString "__next__") hz' F.slot_zip_next (wpAny_call_entry F.slot_zip_next hz' F.entry_zip_next
   (W4m D hz hT hTI h1 h2 hl1 hl2 hx hy fun h' a1 a3 a4 a5 a6 a7=>wpAny_pure (hQ h' ⟨a7 _ _ D.TIz D.TIi1 D.TIi2 hTI,a3,a4,.inr ⟨T,true,_,List.mem_append_left _ hm,a1,a7 T _ t1 t4 t5 hT⟩⟩ a5 a6 fun c o c1 _ c3 c4 e=>a7 c o c1 c3 c4 e)) (F.args_zip_next_1 _))))
theorem W2t {as : List Addr} {Q : Option Value -> Shared -> Prop} (hh : A.handled = none) (D : ZipApart z TI TO i1 i2 l1 l2) (st : ZSt s.heap z TI TO i1 i2 l1 l2 k as) (hl1 : s.heap.IsList l1 xs) (hl2 : s.heap.IsList l2 ys) (hend : xs[k]? = none \/ ys[k]? = none)
  (hQ : ∀ h',(∀ c o,c ≠ z -> c ≠ TO -> c ≠ i1 -> c ≠ i2 -> s.heap.get? c = some o -> h'.get? c = some o) -> Q none { s with heap:=h' }) : wpAny (model P w) A (pyNext (.ref z)) Q E s:=by
 obtain ⟨hTI,h1,h2,⟨ea,hz,a,b,hTO⟩ | ⟨T,f,o,hm,hz,hT⟩⟩:=st
 ·exact wpAny_pyNext_zip_end hh D hz hTI hTO h1 h2 hl1 hl2 hend hQ
 ·have hz' : s.TypeIs (.ref z) "zip":=⟨_,hz,rfl⟩
  unfold pyNext
  refine wpAny_bind (wpAny_attempt (wpAny_callSpecial?_slot (name:=Str.ofString "__next__") hz' F.slot_zip_next (wpAny_call_entry F.slot_zip_next hz' F.entry_zip_next (Y6u hh D hz hT hTI h1 h2 hl1 hl2 hend fun h' e hk he=>?_) (F.args_zip_next_1 _))))
  obtain ⟨oe,ho,hc⟩:=he
  exact wpAny_bind (wpAny_isInstance (T:="StopIteration") (b:=true) ⟨oe,ho,hc⟩ isSubtype_stop (wpAny_pure (hQ _ fun c o c1 _ c3 c4 e=>hk c o c1 c3 c4 e)))
theorem Y8j {R : Result -> Shared -> Prop} {S : Addr} {res : Value} {h0 : Heap} (hh : A.handled = none) (D : ZipApart z TI TO i1 i2 l1 l2) (hS : S ≠ z /\ S ≠ TI /\ S ≠ TO /\ S ≠ i1 /\ S ≠ i2 /\ S ≠ l1 /\ S ≠ l2) (hn : min xs.size ys.size <= sizeLine) (hlow : ∀ b ∈ [z,TI,TO,i1,i2,l1,l2,S],b < h0.objs.size)
  (hR : ∀ (h' : Heap) (tk : Nat) (as : List Addr) (c : Nat),as.length = min xs.size ys.size -> as.Nodup -> (∀ a ∈ as,h0.objs.size <= a) -> (∀ (j : Nat) a,as[j]? = some a -> ∃ x y,xs[j]? = some x /\ ys[j]? = some y /\ IsPair h' a x y) -> (∀ c o,c ∉ [z,TO,i1,i2,S] -> h0.get? c = some o -> h'.get? c = some o) ->
   h'.get? S = some { cls:=.type "list",data:=.seq (as.map Value.ref).toArray c } -> R (.ok (.ret res)) { s with heap:=h',toks:=tk }) :
  ∀ (m k : Nat) (h : Heap) (tk c : Nat) (as : List Addr),m = min xs.size ys.size - k -> k <= min xs.size ys.size -> ZSt h z TI TO i1 i2 l1 l2 k as -> h.IsList l1 xs -> h.IsList l2 ys -> as.length = k -> as.Nodup -> (∀ a ∈ as,h0.objs.size <= a) -> h0.objs.size <= h.objs.size -> (∀ a ∈ as,a < h.objs.size) ->
   (∀ (j : Nat) a,as[j]? = some a -> ∃ x y,xs[j]? = some x /\ ys[j]? = some y /\ IsPair h a x y) -> (∀ c o,c ∉ [z,TO,i1,i2,S] -> h0.get? c = some o -> h.get? c = some o) ->
   h.get? S = some { cls:=.type "list",data:=.seq (as.map Value.ref).toArray c } -> codeAny (model P w) A (.builtin "list.extend.loop" ⟨[.ref S,.ref z,res],[]⟩) R { s with heap:=h,toks:=tk }:=by
 intro m
 induction m with
 | zero =>
  intro k h tk c as hm hk st hl1 hl2 hal hnd hge hsz hlt hpr hkeep hSl
  have e : k = min xs.size ys.size:=by omega
  refine codeAny_builtin F.entry_extend_loop ?_; rw [Around.under_plainId F.plain_extend_loop _]
  change wpAny (model P w) A.in1 (pyNext (.ref z) >>= _) _ _ _
  have hend : xs[k]? = none \/ ys[k]? = none:=by
   by_cases z : xs.size <= ys.size
   ·exact .inl (by simp; omega)
   ·exact .inr (by simp; omega)
  refine wpAny_bind (W2t (s:={ s with heap:=h,toks:=tk }) (A:=A.in1) hh D st hl1 hl2 hend fun h' kp=>wpAny_pure ?_)
  obtain ⟨s1,s2,s3,s4,s5,s6,s7⟩:=hS
  have ap : ∀ a ∈ as,a ≠ z /\ a ≠ TO /\ a ≠ i1 /\ a ≠ i2:=fun a ha=>by
   have g:=hge a ha
   refine ⟨fun e=>?_,fun e=>?_,fun e=>?_,fun e=>?_⟩ <;> (have:=hlow a (by rw [e]; simp); exact absurd this (Nat.not_lt.mpr g))
  refine hR h' _ as c (by omega) hnd hge (fun j a ej=>?_) (fun c o hc e=>?_) (kp S _ s1 s3 s4 s5 hSl)
  ·obtain ⟨x,y,ex,ey,p⟩:=hpr j a ej
   obtain ⟨a1,a2,a3,a4⟩:=ap a (List.mem_of_getElem? ej)
   exact ⟨x,y,ex,ey,kp a _ a1 a2 a3 a4 p⟩
  ·have:=hkeep c o hc e
   simp only [List.mem_cons,List.not_mem_nil,or_false,not_or] at hc
   exact kp c o hc.1 hc.2.1 hc.2.2.1 hc.2.2.2.1 this
 | succ m ih =>
  intro k h tk c as hm hk st hl1 hl2 hal hnd hge hsz hlt hpr hkeep hSl
  have hkx : k < xs.size:=by omega
  have hky : k < ys.size:=by omega
  refine codeAny_builtin F.entry_extend_loop ?_; rw [Around.under_plainId F.plain_extend_loop _]
  change wpAny (model P w) A.in1 (pyNext (.ref z) >>= _) _ _ _
  have apA : ∀ a,h0.objs.size <= a -> a ≠ z /\ a ≠ TI /\ a ≠ TO /\ a ≠ i1 /\ a ≠ i2 /\ a ≠ S:=fun a g=>by
   refine ⟨fun e=>?_,fun e=>?_,fun e=>?_,fun e=>?_,fun e=>?_,fun e=>?_⟩ <;> (have:=hlow a (by rw [e]; simp); exact absurd this (Nat.not_lt.mpr g))
  have ap : ∀ a ∈ as,a ≠ z /\ a ≠ TI /\ a ≠ TO /\ a ≠ i1 /\ a ≠ i2:=fun a ha=>by obtain ⟨a1,a2,a3,a4,a5,_⟩:=apA a (hge a ha); exact ⟨a1,a2,a3,a4,a5⟩
  obtain ⟨s1,s2,s3,s4,s5,s6,s7⟩:=hS
  refine wpAny_bind (W2w (s:={ s with heap:=h,toks:=tk }) (A:=A.in1) D ap st hl1 hl2 (Array.getElem?_eq_getElem hkx) (Array.getElem?_eq_getElem hky) fun h' st' pr' sz' kp=>?_)
  have hS':=kp S _ s1 s3 s4 s5 hSl
  change wpAny (model P w) A.in1 (updateSeq S (·.push (Value.ref h.objs.size)) >>= _) _ _ _
  have hasz : (as.map Value.ref).toArray.size = k:=by simp [hal]
  refine wpAny_bind (wpAny_updateSeq hS' rfl (wpAny_pure ⟨plainId_quiet F.plain_extend_loop _,?_⟩) (hz:=by rw [hasz]; omega) (_hz':=by show ((as.map Value.ref).toArray.push _).size <= _; rw [Array.size_push,hasz]; omega))
  have oth : ∀ b o,b ≠ S -> h'.get? b = some o -> (h'.update S (Obj.mapSeq (·.push (Value.ref h.objs.size)))).get? b = some o:=fun b o hb e=>(Heap.get?_update_other _ _ (Ne.symm hb)).trans e
  have szU : (h'.update S (Obj.mapSeq (·.push (Value.ref h.objs.size)))).objs.size = h.objs.size + 1:=by rw [(Heap.SameBut.update (h:=h') (a:=S) ..).1]; exact sz'
  have hlt0 : h0.objs.size <= h.objs.size:=hsz
  have newA:=apA h.objs.size hlt0
  obtain ⟨c',hSU⟩ : ∃ c',(h'.update S (Obj.mapSeq (·.push (Value.ref h.objs.size)))).get? S = some { cls:=.type "list",data:=.seq ((as ++ [h.objs.size]).map Value.ref).toArray c' }:=by
   have e:=Heap.get?_update_self (Obj.mapSeq (·.push (Value.ref h.objs.size))) hS' rfl
   have e2 : ((as ++ [h.objs.size]).map Value.ref).toArray = (as.map Value.ref).toArray.push (Value.ref h.objs.size):=by simp
   rw [e2]
   exact ⟨_,e⟩
  refine ih (k + 1) _ tk c' (as ++ [h.objs.size]) (by omega) (by omega) ?_ ?_ ?_ (by rw [List.length_append,hal]; rfl) ?_ ?_ (by rw [szU]; omega) ?_ ?_ ?_ ?_
  ·obtain ⟨a1,a2,a3,a4⟩:=st'
   refine ⟨oth _ _ (Ne.symm s2) a1,a2.at fun o e=>oth _ o (Ne.symm s4) e,a3.at fun o e=>oth _ o (Ne.symm s5) e,?_⟩
   rcases a4 with ⟨e,hz,a,b,hTO⟩ | ⟨T,f,o,hm,hz,hT⟩
   ·exact .inl ⟨e,oth _ _ (Ne.symm s1) hz,a,b,oth _ _ (Ne.symm s3) hTO⟩
   ·refine .inr ⟨T,f,o,hm,oth _ _ (Ne.symm s1) hz,oth _ _ ?_ hT⟩
    rcases List.mem_append.mp hm with q | q
    ·exact (apA T (hge T q)).2.2.2.2.2
    ·rw [List.mem_singleton.mp q]; exact newA.2.2.2.2.2
  ·obtain ⟨o,e,r⟩:=hl1
   exact ⟨o,oth _ _ (Ne.symm s6) (kp l1 o D.l1z D.l1TO D.l1i1 D.l1i2 e),r⟩
  ·obtain ⟨o,e,r⟩:=hl2
   exact ⟨o,oth _ _ (Ne.symm s7) (kp l2 o D.l2z D.l2TO D.l2i1 D.l2i2 e),r⟩
  ·rw [List.nodup_append]
   refine ⟨hnd,by simp,fun a ha b hb e=>?_⟩
   rw [show b = h.objs.size by simpa using hb] at e
   have:=hlt a ha
   rw [e] at this; exact Nat.lt_irrefl _ this
  ·intro a ha
   rcases List.mem_append.mp ha with q | q
   ·exact hge a q
   ·rw [List.mem_singleton.mp q]; exact hlt0
  ·intro a ha
   rw [szU]
   rcases List.mem_append.mp ha with q | q
   ·exact Nat.lt_succ_of_lt (hlt a q)
   ·rw [List.mem_singleton.mp q]; exact Nat.lt_succ_self _
  ·intro j a ej
   by_cases hj : j < as.length
   ·rw [List.getElem?_append_left hj] at ej
    obtain ⟨x,y,ex,ey,p⟩:=hpr j a ej
    obtain ⟨a1,a2,a3,a4,a5⟩:=ap a (List.mem_of_getElem? ej)
    exact ⟨x,y,ex,ey,oth _ _ (apA a (hge a (List.mem_of_getElem? ej))).2.2.2.2.2 (kp a _ a1 a3 a4 a5 p)⟩
   ·rw [List.getElem?_append_right (by omega)] at ej
    have e0 : j - as.length = 0:=by
     rcases Nat.eq_zero_or_pos (j - as.length) with z | z
     ·exact z
     ·rw [List.getElem?_eq_none (show [h.objs.size].length <= j - as.length from z)] at ej; cases ej
    rw [e0] at ej
    cases ej
    have ej : j = k:=by omega
    subst ej
    exact ⟨_,_,Array.getElem?_eq_getElem hkx,Array.getElem?_eq_getElem hky,oth _ _ newA.2.2.2.2.2 pr'⟩
  ·intro c o hc e
   have:=hkeep c o hc e
   simp only [List.mem_cons,List.not_mem_nil,or_false,not_or] at hc
   exact oth c o hc.2.2.2.2 (kp c o hc.1 hc.2.1 hc.2.2.1 hc.2.2.2.1 this)
  ·exact hSU
theorem W2j {Q : Bool -> Shared -> Prop} (hT : s.TypeIs (.ref z) "zip") (h : Q true s) : wpAny (model P w) A (Builtin.List.listLengthHint (.ref z)) Q E s:=by
 unfold Builtin.List.listLengthHint; refine wpAny_bind (wpAny_specialOf hT (show typeLookup (.type "zip") "__len__" = pure none by rw [typeLookup_type,builtinLookup_eq_fast]; kernel_rfl) ?_)
 refine wpAny_bind (wpAny_specialOf hT (show typeLookup (.type "zip") "__length_hint__" = pure none by rw [typeLookup_type,builtinLookup_eq_fast]; kernel_rfl) ?_)
 exact wpAny_pure h
theorem Q9c {h : Heap} {S : Addr} {xs : Array Value} {c : Nat} (e : h.get? S = some { cls:=.type "list",data:=.seq xs c }) (f : Array Value -> Array Value) : ∃ c',(h.update S (Obj.mapSeq f)).get? S = some { cls:=.type "list",data:=.seq (f xs) c' } :=
 ⟨_,Heap.get?_update_self (Obj.mapSeq f) e rfl⟩
theorem W4e {Q : VS9} (hh : A.handled = none) (D : ZipApart z TI TO i1 i2 l1 l2) (st : ZSt s.heap z TI TO i1 i2 l1 l2 0 []) (hl1 : s.heap.IsList l1 xs) (hl2 : s.heap.IsList l2 ys) (hn : min xs.size ys.size <= sizeLine) (hlow : ∀ b ∈ [z,TI,TO,i1,i2,l1,l2],b < s.heap.objs.size)
  (hQ : ∀ (h' : Heap) (tk : Nat) (as : List Addr) (c : Nat),as.length = min xs.size ys.size -> as.Nodup -> (∀ a ∈ as,s.heap.objs.size < a) -> (∀ (j : Nat) a,as[j]? = some a -> ∃ x y,xs[j]? = some x /\ ys[j]? = some y /\ IsPair h' a x y) -> (∀ c o,c ∉ [z,TO,i1,i2] -> s.heap.get? c = some o -> h'.get? c = some o) ->
   h'.get? s.heap.objs.size = some { cls:=.type "list",data:=.seq (as.map Value.ref).toArray c } -> Q (.ref s.heap.objs.size) { s with heap:=h',toks:=tk }) :
  wpAny (model P w) A (call (.type "list") [.ref z]) Q E s:=by
 refine callType_codes (Q₁:=fun obj s₁=>obj = .ref s.heap.objs.size /\ s₁ = { s with heap:=s.heap.push { cls:=.type "list",data:=.seq #[] } }) PySem.F.called_list (PySem.F.typeCall_list_1 _) PySem.F.entry_list_init (code_list_new _ ⟨rfl,rfl⟩) ?_
 rintro obj s₁ ⟨rfl,rfl⟩
 generalize hSe : s.heap.objs.size = S
 have hlow' : ∀ b ∈ [z,TI,TO,i1,i2,l1,l2],b < S:=fun b hb=>by rw [<- hSe]; exact hlow b hb
 have hS0 : (s.heap.push { cls:=.type "list",data:=.seq #[] }).get? S = some { cls:=.type "list",data:=.seq #[] }:=by rw [<- hSe]; exact Heap.get?_push_size _ rfl
 have ne : ∀ b,b ∈ [z,TI,TO,i1,i2,l1,l2] -> b ≠ S:=fun b hb=>Nat.ne_of_lt (hlow' b hb)
 refine ⟨⟨_,hS0,rfl⟩,PySem.F.args_list_init_2 _ _,?_⟩
 change wpAny (model P w) A.in1.in1 (Builtin.List.listItems (.ref S) >>= fun old=>Builtin.List.listUpdate (.ref S) (fun _=>#[]) >>= fun _=>letGo old.toList.reverse >>= fun _=>Builtin.List.listExtendWith (.ref S) (.ref z) .none) _ _ _
 unfold Builtin.List.listItems
 refine wpAny_bind (wpAny_bind (wpAny_seqItems hS0 rfl (wpAny_pure ?_)))
 change wpAny (model P w) A.in1.in1 (updateSeq S (fun _=>#[]) >>= _) _ _ _
 refine wpAny_bind (wpAny_updateSeq hS0 rfl (wpAny_bind (wpAny_letGo ?_)))
 obtain ⟨c1,hS1⟩:=Q9c hS0 (fun _=>#[])
 have oth1 : ∀ b o,b ≠ S -> s.heap.get? b = some o -> ((s.heap.push { cls:=.type "list",data:=.seq #[] }).update S (Obj.mapSeq (fun _=>#[]))).get? b = some o:=fun b o hb e=>(Heap.get?_update_other _ _ (Ne.symm hb)).trans (Heap.get?_push_of_some _ e)
 have sz1 : ((s.heap.push { cls:=.type "list",data:=.seq #[] }).update S (Obj.mapSeq (fun _=>#[]))).objs.size = S + 1:=by rw [(Heap.SameBut.update (h:=s.heap.push { cls:=.type "list",data:=.seq #[] }) (a:=S) ..).1,Heap.size_push,hSe]
 generalize hH1 : (s.heap.push { cls:=.type "list",data:=.seq #[] }).update S (Obj.mapSeq (fun _=>#[])) = H1 at hS1 oth1 sz1 ⊢
 have stOf : ∀ h : Heap,(∀ b o,b ≠ S -> s.heap.get? b = some o -> h.get? b = some o) -> ZSt h z TI TO i1 i2 l1 l2 0 []:=fun h k=>by
  obtain ⟨a1,a2,a3,a4⟩:=st
  refine ⟨k _ _ (ne TI (by simp)) a1,a2.at fun o e=>k _ o (ne i1 (by simp)) e,a3.at fun o e=>k _ o (ne i2 (by simp)) e,?_⟩
  rcases a4 with ⟨e,hz,a,b,hTO⟩ | ⟨T,f,o,hm,_⟩
  ·exact .inl ⟨e,k _ _ (ne z (by simp)) hz,a,b,k _ _ (ne TO (by simp)) hTO⟩
  ·cases hm
 have hzT : ∀ h : Heap,(∀ b o,b ≠ S -> s.heap.get? b = some o -> h.get? b = some o) -> ∃ o,h.get? z = some o /\ o.cls = .type "zip":=fun h k=>by
  obtain ⟨_,_,_,⟨_,hz,_⟩ | ⟨_,_,_,hm,_⟩⟩:=st
  ·exact ⟨_,k _ _ (ne z (by simp)) hz,rfl⟩
  ·cases hm
 obtain ⟨oz,ez,cz⟩:=hzT H1 oth1
 unfold Builtin.List.listExtendWith; refine wpAny_bind (wpAny_typeOf (T:="zip") ⟨oz,ez,cz⟩ ?_)
 have h1 : Builtin.List.listSameRef (.ref S) (.ref z) = false:=by simp [Builtin.List.listSameRef,(ne z (by simp)).symm]
 have h2 : (Builtin.List.listSameRef (.ref S) (.ref z) || (Value.type "zip" == Value.type "list") || (Value.type "zip" == Value.type "tuple")) = false:=by rw [h1]; decide
 rw [if_neg (by rw [h2]; decide)]
 obtain ⟨_,_,_,⟨_,hz1,_⟩ | ⟨_,_,_,hm,_⟩⟩:=stOf H1 oth1
 case inr=>cases hm
 refine wpAny_bind (wpAny_pyIter_zip hz1 (wpAny_bind (wpAny_holding (W2j ⟨oz,ez,cz⟩ ?_))))
 rw [Bool.true_or,if_pos rfl]
 refine wpAny_bind (wpAny_rule (wpAny_bind ?_))
 change wpAny (model P w) A.in1.in1 (updateSeq S (·.push .none) >>= fun _=>updateSeq S (·.pop)) _ _ _
 refine wpAny_bind (wpAny_updateSeq hS1 rfl ?_)
 obtain ⟨c2,hS2⟩:=Q9c hS1 (·.push Value.none)
 refine wpAny_updateSeq (hz:=by seq_fits) hS2 rfl ?_
 obtain ⟨c3,hS3⟩:=Q9c hS2 (·.pop)
 have e3 : ((#[] : Array Value).push Value.none).pop = (([] : List Addr).map Value.ref).toArray:=rfl
 have oth3 : ∀ b o,b ≠ S -> s.heap.get? b = some o -> ((H1.update S (Obj.mapSeq (·.push Value.none))).update S (Obj.mapSeq (·.pop))).get? b = some o:=fun b o hb e=>(Heap.get?_update_other _ _ (Ne.symm hb)).trans ((Heap.get?_update_other _ _ (Ne.symm hb)).trans (oth1 b o hb e))
 have sz3 : ((H1.update S (Obj.mapSeq (·.push Value.none))).update S (Obj.mapSeq (·.pop))).objs.size = S + 1:=by rw [(Heap.SameBut.update (h:=H1.update S (Obj.mapSeq (·.push Value.none))) (a:=S) ..).1,(Heap.SameBut.update (h:=H1) (a:=S) ..).1,sz1]
 generalize hH3 : (H1.update S (Obj.mapSeq (·.push Value.none))).update S (Obj.mapSeq (·.pop)) = H3 at hS3 oth3 sz3 ⊢
 refine wpAny_pure ⟨plainId_quiet PySem.F.plain_extend_loop _,?_⟩
 have l1k : H3.IsList l1 xs:=by obtain ⟨o,e,r⟩:=hl1; exact ⟨o,oth3 _ _ (ne l1 (by simp)) e,r⟩
 have l2k : H3.IsList l2 ys:=by obtain ⟨o,e,r⟩:=hl2; exact ⟨o,oth3 _ _ (ne l2 (by simp)) e,r⟩
 refine Y8j (s:=s) (A:=A.in1) (h0:=H3) (S:=S) hh D ⟨(ne z (by simp)).symm,(ne TI (by simp)).symm,(ne TO (by simp)).symm,(ne i1 (by simp)).symm,(ne i2 (by simp)).symm,(ne l1 (by simp)).symm,(ne l2 (by simp)).symm⟩ hn (fun b hb=>?_) (fun h' tk as c hal hnd hge hpr hkp hSl=>?_)
  _ 0 H3 _ c3 [] rfl (Nat.zero_le _) (stOf H3 oth3) l1k l2k rfl List.nodup_nil (by intro a ha; cases ha) (Nat.le_refl _) (by intro a ha; cases ha) (by intro j a e; simp at e) (fun c o _ e=>e) (by rw [<- e3]; exact hS3)
 ·rw [sz3]
  rcases List.mem_append.mp (show b ∈ [z,TI,TO,i1,i2,l1,l2] ++ [S] from hb) with q | q
  ·exact Nat.lt_succ_of_lt (hlow' b q)
  ·rw [List.mem_singleton.mp q]; exact Nat.lt_succ_self _
 ·refine ⟨rfl,hSe ▸ hQ h' tk as c hal hnd (fun a ha=>?_) hpr (fun c o hc e=>?_) (hSe.symm ▸ hSl)⟩
  ·have:=hge a ha; rw [sz3] at this; rw [hSe]; exact this
  ·refine hkp c o (fun q=>?_) (oth3 c o (fun z=>?_) e)
   ·rcases List.mem_append.mp (show c ∈ [z,TO,i1,i2] ++ [S] from q) with q | q
    ·exact hc q
    ·rw [List.mem_singleton.mp q,<- hSe] at e; exact absurd (Heap.lt_size e) (Nat.lt_irrefl _)
   ·rw [z,<- hSe] at e; exact absurd (Heap.lt_size e) (Nat.lt_irrefl _)
end
section
variable {X : Cx} {H0 : Hp} {a b : Expr} {p p2 pos pos2 : Pos} {wr : WA}
theorem Z4l {pins : Pn9} {σ : St} {s : Shared} {n0 : Nat} (h0 : X.s₀.heap.objs.size <= n0) : ∀ (as : List Addr) (xs : List (V × V)) {H : Hp},A1 X pins σ H s -> as.length = xs.length -> as.Nodup -> (∀ a ∈ as,n0 <= a /\ H a = none /\ a ≠ X.env.locals /\ (∀ x c,X.env.cells.lookup x = some c -> c ≠ a) /\ ∀ q ∈ X.pn ++ pins,q.1 ≠ a) ->
  (∀ (j : Nat) a v,as[j]? = some a -> xs[j]? = some v -> ∃ x y,B4 v.1 x /\ B4 v.2 y /\ IsPair s.heap a x y) -> ∃ H',A1 X pins σ H' s /\ A6 H H' /\ (∀ c,c ∉ as -> H' c = H c) /\ ∀ (j : Nat) a v,as[j]? = some a -> xs[j]? = some v -> H' a = some (.tup [v.1,v.2])
 | [],xs,H,I,_,_,_,_=>⟨H,I,A6.refl H,fun _ _=>rfl,by intro j a v e; simp at e⟩
 | c :: as,[],H,I,l,_,_,_=>by cases l
 | c :: as,u :: xs,H,I,l,n,f,g=>by
  rw [List.nodup_cons] at n
  obtain ⟨c1,c2,c3,c4,c5⟩:=f c List.mem_cons_self
  obtain ⟨x,y,rx,ry,pr⟩:=g 0 c u rfl rfl
  have I1 : A1 X pins σ (upd H c (.tup [u.1,u.2])) s:=Z2m I c2 (.inr (Nat.le_trans h0 c1)) c3 c4 c5 ⟨by show 2 <= sizeLine; decide,[x,y],.cons rx (.cons ry .nil),_,pr,rfl,_,rfl⟩
  obtain ⟨H',I2,sm,oth,at_⟩:=Z4l h0 as xs I1 (by simpa using l) n.2 (fun a ha=>by
   obtain ⟨a1,a2,a3⟩:=f a (List.mem_cons_of_mem _ ha)
   exact ⟨a1,by rw [A9 (fun z=>n.1 (by rw [<- z]; exact ha))]; exact a2,a3⟩) fun j a v e1 e2=>g (j + 1) a v (by simpa using e1) (by simpa using e2)
  refine ⟨H',I2,(F7 c2 _).trans sm,fun d hd=>?_,fun j a v e1 e2=>?_⟩
  ·rw [oth d (fun z=>hd (List.mem_cons_of_mem _ z)),A9 (fun z=>hd (by rw [z]; exact List.mem_cons_self))]
  ·cases j with
   | zero=>cases e1; cases e2; rw [oth c n.1]; exact upd_same
   | succ j=>exact at_ j a v (by simpa using e1) (by simpa using e2)
def Z2n (wr : WA) : WE:=fun τ Q=>wr τ fun rs=>∃ r r' ds es,rs = [r,r'] /\ S7 r = some ds /\ S7 r' = some es /\ Q (.nw (R0 ds es))
theorem DE.listZip (hc : X.calm = true) (hg : Gl X "list") (hm : X.mg "list" = none) (hgz : Gl X "zip") (hmz : X.mg "zip" = none) (ha : DA X H0 [a,b] wr)
  (hs : starEach [.Call (.Name "zip" p2) [a,b] [] pos2] X.env = (false,eval (.Call (.Name "zip" p2) [a,b] [] pos2) X.env) :: starEach [] X.env:=by rfl)
  (he : starEach [a,b] X.env = (false,eval a X.env) :: starEach [b] X.env:=by rfl) (hpl : (backTo pos2 (starEach [b] X.env)).any (·.1) = false:=by rfl) :
  DE X H0 (.Call (.Name "list" p) [.Call (.Name "zip" p2) [a,b] [] pos2] [] pos) (Z2n wr) where
 mono:=fun τ P Q f h=>ha.mono τ _ _ (fun r ⟨r1,r2,ds,es,e1,e2,e3,q⟩=>⟨r1,r2,ds,es,e1,e2,e3,f _ q⟩) h
 pe:=by
  intro pins s σ H Q I ⟨τ,hR,h⟩
  refine wpAny_Call_Name_kw (Q0c I hg hm (u:=.type "list") rfl ?_ (by decide) (by decide))
  refine PyProof.Rows.callWith_type1 ?_ hs
  rw [hs]
  change wpAny (model X.prog X.w) X.A (spliced ((false,eval (.Call (.Name "zip" p2) [a,b] [] pos2) X.env) :: backTo pos (starEach [] X.env))) _ _ s
  refine Calls.spliced_cons ?_
  refine wpAny_Call_Name_kw (Q0c I hgz hmz (u:=.type "zip") rfl ?_ (by decide) (by decide))
  refine PyProof.Rows.callWith_type1 (B2 (ha.pa pos2 pins s σ H (fun vs H1=>A6 H H1 /\ ∃ l1 l2 xs ys ds es,vs = [.ref l1,.ref l2] /\ D5 X.K H1 l1 xs /\ AllS X.K H1 ds xs /\ D5 X.K H1 l2 ys /\ AllS X.K H1 es ys /\ ∀ v H',A6 H H' -> E1 X.K H H' (.nw (R0 ds es)) v -> Q v H') I
   ⟨τ,hR,ha.mono τ _ _ (fun rs ⟨r,r',ds,es,e1,e2,e3,q⟩ vs H1 s1 irs=>⟨s1,by
    subst e1
    obtain ⟨v,u,rfl,ir,ir2⟩:=Y0m irs
    obtain ⟨l,xs,rfl,sq,al⟩:=Q1w e2 ir
    obtain ⟨l2,ys,rfl,sq2,al2⟩:=Q1w e3 ir2
    exact ⟨l,l2,xs,ys,ds,es,rfl,sq,al,sq2,al2,q⟩⟩) h⟩) fun us s1 ⟨vs,H1,I1,rv,sm,l1,l2,xs,ys,ds,es,e1,sq,al,sq2,al2,q⟩=>?_) he hpl
  subst e1
  have rv2 : ∃ u1 u2,us = [u1,u2] /\ B4 (.ref l1) u1 /\ B4 (.ref l2) u2:=by
   cases rv with
   | cons r1 rr =>
    obtain ⟨u2,rfl,r2⟩:=V2 rr
    exact ⟨_,u2,rfl,r1,r2⟩
  obtain ⟨u1,u2,rfl,r1,r2⟩:=rv2
  cases (show u1 = Value.ref l1 from r1)
  cases (show u2 = Value.ref l2 from r2)
  obtain ⟨its,rv',pl,hz'⟩:=I1.list sq
  obtain ⟨its2,rv2',pl2,hz2'⟩:=I1.list sq2
  obtain ⟨o,n,ho,_⟩:=id pl
  obtain ⟨o2,n2,ho2,_⟩:=id pl2
  have hl : @LT.lt Nat _ l1 s1.heap.objs.size:=Heap.lt_size ho
  have hl2 : @LT.lt Nat _ l2 s1.heap.objs.size:=Heap.lt_size ho2
  have n1:=rv'.length
  have n2:=rv2'.length
  refine call_zip_2 pl.isList pl2.isList fun h' hz hTI hTO hi1 hi2 hsz k=>Calls.spliced_nil ?_
  have Dz : ZipApart (s1.heap.objs.size + 4) (s1.heap.objs.size + 2) (s1.heap.objs.size + 3) s1.heap.objs.size (s1.heap.objs.size + 1) l1 l2:=by
   constructor <;> (show ¬ ((_ : Nat) = (_ : Nat)); omega)
  have l1k : h'.IsList l1 its.toArray:=by obtain ⟨o,e,r⟩:=pl.isList; exact ⟨o,k _ _ e,r⟩
  have l2k : h'.IsList l2 its2.toArray:=by obtain ⟨o,e,r⟩:=pl2.isList; exact ⟨o,k _ _ e,r⟩
  refine W4e (s:={ s1 with heap:=h' }) (I.ok.hd hc) Dz ⟨hTI,hi1,hi2,.inl ⟨rfl,hz,_,_,hTO⟩⟩ l1k l2k (by simp only [List.size_toArray]; omega) (fun b hb=>?_) fun h2 tk as c hal hnd hge hpr hkp hSl=>?_
  ·show b < h'.objs.size
   rw [hsz]
   simp only [List.mem_cons,List.not_mem_nil,or_false] at hb; rcases hb with rfl | rfl | rfl | rfl | rfl | rfl | rfl <;> (show (_ : Nat) < (_ : Nat); omega)
  ·have hkp1 : ∀ c o,s1.heap.get? c = some o -> h2.get? c = some o:=fun c o e=>hkp c o (fun z=>by
    have : @LT.lt Nat _ c s1.heap.objs.size:=Heap.lt_size e
    simp only [List.mem_cons,List.not_mem_nil,or_false] at z
    rcases z with rfl | rfl | rfl | rfl <;> omega) (k c o e)
   have I2 : A1 X pins σ H1 { s1 with heap:=h2,toks:=tk }:=I1.kept (t':=tk) hkp1
   have hS : @LE.le Nat _ s1.heap.objs.size h'.objs.size:=by rw [hsz]; omega
   have big : ∀ c,s1.heap.objs.size <= c -> H1 c = none /\ c ≠ X.env.locals /\ (∀ x d,X.env.cells.lookup x = some d -> d ≠ c) /\ ∀ q ∈ X.pn ++ pins,q.1 ≠ c:=fun c hcc=>by
    obtain ⟨f0,f1,_,_,f4,f5⟩:=I1.fpOk hcc (I1.hok.fresh hcc)
    exact ⟨f0,f1,f4,f5⟩
   have hasn : ∀ a ∈ as,s1.heap.objs.size <= a:=fun a ha'=>Nat.le_trans hS (Nat.le_of_lt (hge a ha'))
   have lxy : (xs.zip ys).length = Min.min its.toArray.size its2.toArray.size:=by simp; omega
   obtain ⟨H3,I3,sm3,oth3,at3⟩:=Z4l (X:=X) (s:={ s1 with heap:=h2,toks:=tk }) (n0:=s1.heap.objs.size) I1.sz as (xs.zip ys) I2 (by rw [hal,lxy]) hnd (fun a ha'=>⟨hasn a ha',big a (hasn a ha')⟩) fun j a v e1 e2=>by
    obtain ⟨x,y,ex,ey,pr⟩:=hpr j a e1
    rw [List.getElem?_zip_eq_some] at e2
    obtain ⟨u,hu,ru⟩:=rv'.get e2.1
    obtain ⟨u',hu',ru'⟩:=rv2'.get e2.2
    have ex : its[j]? = some x:=by simpa using ex
    have ey : its2[j]? = some y:=by simpa using ey
    rw [hu] at ex; cases ex
    rw [hu'] at ey; cases ey
    exact ⟨_,_,ru,ru',pr⟩
   have hSn : h'.objs.size ∉ as:=fun z=>Nat.lt_irrefl _ (hge _ z)
   obtain ⟨b1,b2,b3,b4⟩:=big h'.objs.size hS
   have hz : (as.map V.ref).length <= sizeLine:=by rw [List.length_map,hal]; simp only [List.size_toArray]; omega
   have I4:=Z2m I3 (p:=h'.objs.size) (u:=.lst (as.map V.ref)) (by rw [oth3 _ hSn]; exact b1) (.inr (Nat.le_trans I1.sz hS)) b2 b3 b4 ⟨hz,as.map Value.ref,c,Q9u as,hSl⟩
   have sm4:=sm3.trans (F7 (p:=h'.objs.size) (by rw [oth3 _ hSn]; exact b1) (.lst (as.map V.ref)))
   refine ⟨.ref h'.objs.size,_,I4,rfl,q _ _ (sm.trans sm4) ⟨h'.objs.size,as.map V.ref,rfl,sm.free b1,upd_same,?_⟩⟩
   have kp:=Kp.of sm4
   have al':=al.mono kp _ _
   have al2':=al2.mono kp _ _
   have at4 : ∀ (j : Nat) a v,as[j]? = some a -> (xs.zip ys)[j]? = some v -> upd H3 h'.objs.size (.lst (as.map V.ref)) a = some (.tup [v.1,v.2]):=fun j a v e1 e2=>by
    rw [A9 (fun z=>hSn (by rw [<- z]; exact List.mem_of_getElem? e1))]; exact at3 j a v e1 e2
   have lz : as.length = (R0 ds es).length:=by rw [hal,Z1n,al.length,al2.length]; simp only [List.size_toArray]; omega
   have key : ∀ (as : List Addr) (zs : List D) (H : Hp),as.length = zs.length -> (∀ (j : Nat) a z,as[j]? = some a -> zs[j]? = some z -> A2 X.K H z (.ref a)) -> AllS X.K H zs (as.map V.ref):=by
    intro as
    induction as with
    | nil=>intro zs H l _; cases zs with
     | nil=>exact AllS.nil
     | cons _ _=>cases l
    | cons a as ih =>
     intro zs H l f
     cases zs with
     | nil=>cases l
     | cons z zs=>exact AllS.cons (f 0 a z rfl rfl) (ih zs H (by simpa using l) fun j a z e1 e2=>f (j + 1) a z (by simpa using e1) (by simpa using e2))
   refine key as (R0 ds es) _ lz fun j a z e1 e2=>?_
   obtain ⟨x,y,ex,ey,rfl⟩:=Z3y e2
   obtain ⟨v1,hv1,q1⟩:=al'.get ex
   obtain ⟨v2,hv2,q2⟩:=al2'.get ey
   exact A2.s_tup (at4 j a (v1,v2) e1 (by rw [List.getElem?_zip_eq_some]; exact ⟨hv1,hv2⟩)) (AllS.cons q1 (AllS.cons q2 AllS.nil))
end
theorem B8.hid {κ : Type} {K : Fg9} {S : List Addr} {H : Hp} (hS : Q6 S H) : ∀ {kvs : List (κ × D)} {ps : List (κ × V)},B8 K H kvs ps -> B8 K (J6 S H) kvs ps
 | [],ps,h=>h
 | p :: kvs,ps,h=>by obtain ⟨v,r,e,q,t⟩:=h; exact ⟨v,r,e,A2.hid hS _ _ q,B8.hid hS t⟩
theorem M0.hid {K : Fg9} {a : Addr} {kvs : List (B0 × D)} : Q0n (M0 K a kvs):=fun S H hS ⟨o,ps,h,q⟩=>by
 refine ⟨o,ps,?_,q.hid hS⟩
 rw [X0]
 ·exact h
 ·intro ha
  obtain ⟨o',u,e,_⟩:=hS a ha
  rw [h] at e
  cases e
section
variable {X : Cx} {H0 : Hp} {st : Stmt} {w : WS} {a b c e o : Expr} {wa wb wi we wv wk : WE} {wr : WA} {i j nt : Nat} {cap : List Nat} {wie : WIE} {g : WG} {τ : A8} {E : E6} {K : Fg9} {Q : R -> Prop}
def Q4h (i : Nat) (w : WS) : WS:=fun E τ=>w { E with nx:=fun τ'=>∃ ds,τ'[i]? = some (some (.own ds)) /\ E.nx (τ'.set i (some (.dat (.lst ds)))) } τ
theorem DS.fzO (i : Nat) (h : DS X H0 st w) : DS X H0 st (Q4h i w) where
 mono:=fun τ E F le q=>h.mono τ { E with nx:=fun τ'=>∃ ds,τ'[i]? = some (some (.own ds)) /\ E.nx (τ'.set i (some (.dat (.lst ds)))) } { F with nx:=fun τ'=>∃ ds,τ'[i]? = some (some (.own ds)) /\ F.nx (τ'.set i (some (.dat (.lst ds)))) } ⟨fun τ' ⟨ds,e,q⟩=>⟨ds,e,le.nx _ q⟩,le.rt,le.bk,le.ct⟩ q
 ps:=P4 (Z2x h.ps) fun D σ H ⟨τ,hR,q⟩=>⟨τ,hR,h.mono τ { K9 X.K H0 H D with nx:=fun τ'=>∃ ds,τ'[i]? = some (some (.own ds)) /\ (K9 X.K H0 H D).nx (τ'.set i (some (.dat (.lst ds)))) } _ ⟨fun τ' ⟨ds,e,q⟩ σ' H' kp hR' pins s I=>by
  obtain ⟨a,xs,hv,h0,sq,al⟩:=hR'.ownAt e
  obtain ⟨o,I2⟩:=A1.freeze I sq
  exact ⟨_,I2,q σ' _ (kp.trans (Kp.upd sq _)) (hR'.freeze e hv h0 sq al)⟩,fun _ h=>h,fun _ h=>h,fun _ h=>h⟩ q⟩
@[simp] theorem Z1g : Q4h i w E τ = w { E with nx:=fun τ'=>∃ ds,τ'[i]? = some (some (.own ds)) /\ E.nx (τ'.set i (some (.dat (.lst ds)))) } τ:=rfl
@[simp] theorem Y6s : Z1m K i w E τ = w { E with nx:=fun τ'=>∃ kvs,τ'[i]? = some (some (.dk kvs)) /\ ∀ a,E.nx (τ'.set i (some (.cl a (M0 K a kvs)))) } τ:=rfl
@[simp] theorem Y8y : Z0z i w E τ = w { E with nx:=fun τ'=>∃ a dss,τ'[i]? = some (some (.ll a dss)) /\ X1 i τ' = true /\ E.nx (τ'.set i (some (.dat (.lst (dss.map .lst))))) } τ:=rfl
@[simp] theorem W1t : Q9t K i E τ = ∃ kvs,τ[i]? = some (some (.dk kvs)) /\ ∀ a,E.rt (.cl a (M0 K a kvs)):=rfl
@[simp] theorem W0y : Q9m i we E τ = we τ fun r=>∃ a Φ,r = .cl a Φ /\ E.nx (τ.set i (some (.cl a Φ))):=rfl
@[simp] theorem Z9p : Q6d K i we τ Q = ∃ a kvs,τ[i]? = some (some (.cl a (M0 K a kvs))) /\ we τ fun r=>∃ kd k d,r = .st kd /\ N9 kd = some k /\ D7 kvs k = some d /\ Q (.st d):=rfl
@[simp] theorem Y3l : Q9o K i we τ Q = ∃ a kvs,τ[i]? = some (some (.cl a (M0 K a kvs))) /\ we τ fun r=>∃ kd k,r = .st kd /\ N9 kd = some k /\ Q (.st ((D7 kvs k).getD .non)):=rfl
@[simp] theorem Y4k : Q9n i E τ = E.nx (τ.set i (some (.dk []))):=rfl
@[simp] theorem W4p : Z1s i we wv E τ = (i < τ.length /\ we τ fun rk=>∃ kd k,rk = .st kd /\ N9 kd = some k /\ wv τ fun r=>∃ d,r = .st d /\ E.nx (τ.set i (some (.dk [(k,d)])))):=rfl
@[simp] theorem W1y : Q8r i we wv E τ = ∃ kvs,τ[i]? = some (some (.dk kvs)) /\ we τ fun rk=>∃ kd k,rk = .st kd /\ N9 kd = some k /\ wv τ fun r=>∃ d,r = .st d /\ kvs.length < sizeLine /\ E.nx (if (D7 kvs k).isSome = true then τ else τ.set i (some (.dk (kvs ++ [(k,d)])))):=rfl
@[simp] theorem Y3t : Z1y i nt cap wie g wk wv E τ = wie τ fun ds=>ds.length < sizeLine /\ T1 g wk wv ds (Q0 nt cap τ) [] fun kvs=>E.nx (τ.set i (some (.dk kvs))):=rfl
@[simp] theorem W3m : Z0m i nt cap wie g we E τ = wie τ fun ds=>ds.length <= sizeLine /\ X3 g we ds (Q0 nt cap τ) fun dss=>∀ a,E.nx (τ.set i (some (.ll a dss))):=rfl
@[simp] theorem Y4y : Q4p i we wv E τ = ∃ a dss,τ[i]? = some (some (.ll a dss)) /\ X1 i τ = true /\ we τ fun r=>∃ k j,r = .st (.int k) /\ ixN dss.length k = some j /\ wv τ fun r2=>∃ d,r2 = .st d /\ (dss.getD j []).length < sizeLine /\ E.nx (τ.set i (some (.ll a (dss.set j (dss.getD j [] ++ [d]))))):=rfl
@[simp] theorem Y3c : Z2n wr τ Q = wr τ fun rs=>∃ r r' ds es,rs = [r,r'] /\ S7 r = some ds /\ S7 r' = some es /\ Q (.nw (R0 ds es)):=rfl
@[simp] theorem Y7l {kvs : List (B0 × D)} : Q2k [.dk kvs] Q = Q (.nw (kvs.map fun p=>kyD p.1)):=rfl
@[simp] theorem W1h {r : R} : Q0e [r] Q = ∃ ns : List Int,S7 r = some (ns.map .int) /\ ns ≠ [] /\ ∀ m,m ∈ ns -> (∀ n ∈ ns,n <= m) -> Q (.st (.int m)):=rfl
end
section
variable {P : Program} {w : World} {A : Around} {E : VS9} {s : Shared} {it t : Addr} {i : Nat} {items : Array Value}
theorem Y3u {x : Value} {Q : VS9} (hit : s.heap.IsTupleIter it t i) (ht : s.heap.IsTuple t items) (hx : items[i]? = some x) (hQ : ∀ h',h'.IsTupleIter it t (i + 1) -> Heap.SameBut it s.heap h' -> Q x { s with heap:=h' }) :
  wpAny (model P w) A (Builtin.SmallTypes.nextOf (.ref it)) Q E s:=by
 obtain ⟨o,ho,hc,hd⟩:=id hit
 obtain ⟨ol,hol,_,nl,hdl⟩:=ht
 unfold Builtin.SmallTypes.nextOf; refine wpAny_bind (wpAny_callSpecial?_slot (name:=Str.ofString "__next__") hit.typeIs F.slot_tuple_iterator_next (wpAny_call_entry F.slot_tuple_iterator_next hit.typeIs F.entry_tuple_iterator_next ?_ (F.args_tuple_iterator_next_1 _)))
 change wpAny (model P w) A.in1 (field (Value.ref it) 0 >>= _) _ _ s
 refine wpAny_bind (wpAny_field ho hd (x:=.ref t) rfl (?_ : wpAny (model P w) A.in1 (if (Value.ref t == Value.none) = true then _ else _) _ _ s))
 rw [if_neg (show ¬ (Value.ref t == Value.none) = true from Bool.false_ne_true)]
 change wpAny (model P w) A.in1 (field (Value.ref it) 1 >>= _) _ _ s
 refine wpAny_bind (wpAny_field ho hd (x:=.int i 0) rfl (?_ : wpAny (model P w) A.in1 (seqItems? (Value.ref t) >>= _) _ _ s))
 refine wpAny_bind (wpAny_seqItems hol hdl ?_); simp only [Int.toNat_natCast,hx]
 refine wpAny_bind (wpAny_setField ho hd (by simp) (wpAny_pure ⟨x,rfl,wpAny_pure (hQ _ ⟨_,Heap.get?_update_self _ ho (Obj.isFreed_of_fields (Obj.data_mapFields hd _)),(Obj.cls_mapFields ..).trans hc,by rw [Obj.data_mapFields hd]; simp [rawInt]⟩ (Heap.SameBut.update ..))⟩))
theorem W3i {Q : VS9} (hh : A.handled = none) (hit : s.heap.IsTupleIter it t i) (ht : s.heap.IsTuple t items) (hx : items[i]? = none)
  (hE : ∀ h' e,Heap.ExtBut it s.heap h' -> (∃ o,h'.get? e = some o /\ o.cls = .type "StopIteration") -> E (.ref e) { s with heap:=h' }) : wpAny (model P w) A (Builtin.SmallTypes.nextOf (.ref it)) Q E s:=by
 obtain ⟨o,ho,hc,hd⟩:=id hit
 obtain ⟨ol,hol,_,nl,hdl⟩:=ht
 unfold Builtin.SmallTypes.nextOf; refine wpAny_bind (wpAny_callSpecial?_slot (name:=Str.ofString "__next__") hit.typeIs F.slot_tuple_iterator_next (wpAny_call_entry F.slot_tuple_iterator_next hit.typeIs F.entry_tuple_iterator_next ?_ (F.args_tuple_iterator_next_1 _)))
 change wpAny (model P w) A.in1 (field (Value.ref it) 0 >>= _) _ _ s
 refine wpAny_bind (wpAny_field ho hd (x:=.ref t) rfl (?_ : wpAny (model P w) A.in1 (if (Value.ref t == Value.none) = true then _ else _) _ _ s))
 rw [if_neg (show ¬ (Value.ref t == Value.none) = true from Bool.false_ne_true)]
 change wpAny (model P w) A.in1 (field (Value.ref it) 1 >>= _) _ _ s
 refine wpAny_bind (wpAny_field ho hd (x:=.int i 0) rfl (?_ : wpAny (model P w) A.in1 (seqItems? (Value.ref t) >>= _) _ _ s))
 refine wpAny_bind (wpAny_seqItems hol hdl ?_); simp only [Int.toNat_natCast,hx]
 refine wpAny_bind (wpAny_rule (wpAny_bind (wpAny_setField ho hd (by simp) (?_ : wpAny (model P w) A.in1 (newExc (.type "StopIteration") [] >>= _) _ _ _))))
 refine wpAny_bind ?_; simp only [newExc,newTuple]
 refine wpAny_bind (wpAny_newObj_type (?_) (by size_fits))
 refine wpAny_bind (m:=firstArgMember _ _) (wpAny_of_eq (a:=Value.none) (by rfl) (wpAny_newObj_type ?_ (by size_fits)))
 simp only [raiseNew]; refine wpAny_bind (wpAny_handled ?_)
 rw [show A.in1.handled = none from hh]
 exact wpAny_bind (wpAny_pure (wpAny_throw (hE _ _ (((Heap.SameBut.update ..).extBut.push _).push _) ⟨_,Heap.get?_push_size _ rfl,rfl⟩)))
end
theorem Q6n {P : Program} {w : World} {A : Around} (hh : A.handled = none) (it t : Addr) (hne : t ≠ it) (items : Array Value) :
  Draws P w A it [it,t] items.size (fun i v=>items[i]? = some v) (fun i h=>h.IsTupleIter it t i /\ h.IsTuple t items) where
 live:=fun _ _ st=>let ⟨o,ho,_⟩:=st.1; ⟨o,ho⟩
 frame:=fun _ _ _ ⟨⟨o,ho,r⟩,o2,ho2,r2⟩ hk=>⟨⟨o,hk it (by simp) o ho,r⟩,o2,hk t (by simp) o2 ho2,r2⟩
 item:=fun i s Q E hi st hQ=>Y3u st.1 st.2 (x:=items[i]) (by simp [hi]) fun h' hit' hs'=>hQ _ h' s.toks (by simp [hi]) ⟨hit',st.2.extBut hs'.extBut hne⟩ hs'
 done:=fun s Q E st hE=>W3i hh st.1 st.2 (by simp) hE
open AutoSeq1 (wpAny_loadPart') in
theorem W4o (t : Addr) (items : Array Value) :
  Meets (Builtin.«enumerate.__new__» ⟨[.type "enumerate",.ref t],[]⟩) (fun _ R s=>s.heap.IsTuple t items /\
   R (.ok (.ret (.ref (s.heap.push { cls:=.type "tuple_iterator",data:=.fields #[.ref t,.int 0 0] }).objs.size)))
    { s with heap:=(s.heap.push { cls:=.type "tuple_iterator",data:=.fields #[.ref t,.int 0 0] }).push { cls:=.type "enumerate",data:=.fields #[.none,.bool false,.ref s.heap.objs.size,rawInt 0,.none,.none] } }) :=
 .of_wp fun prog w A R s h=>by
  obtain ⟨hp,g,d,tk,os⟩:=s; obtain ⟨hL,h⟩:=h
  obtain ⟨⟨c,dct,dt,sl⟩,hl,hc,n,hd⟩:=id hL
  replace hc : c = .type "tuple":=hc
  replace hd : dt = .seq items n:=hd
  subst hc hd
  have hL : Heap.IsTuple (Shared.heap ⟨hp,g,d,tk,os⟩) t items:=hL
  have hsub:=sub_enumerate
  wp_walk using wpAny_loadPart' hl
  refine wpAny_stack_any fun st=>wpAny_pure ?_
  split
  ·rename_i c _ _ _ _ _
   cases (c == Value.type "enumerate") <;> (wp_walk using wpAny_loadPart' hl,wpAny_pyIter_tuple hL) <;> exact ⟨_,rfl,h⟩
  ·wp_walk using wpAny_loadPart' hl,wpAny_pyIter_tuple hL
   exact ⟨_,rfl,h⟩
section
variable {P : Program} {w : World} {A : Around} {E : VS9} {s : Shared}
theorem Y2d {t : Addr} {items : Array Value} {Q : VS9} (ht : s.heap.IsTuple t items)
  (h : ∀ h',IsEnum h' (s.heap.objs.size + 1) s.heap.objs.size 0 .none -> h'.IsTupleIter s.heap.objs.size t 0 -> h'.objs.size = s.heap.objs.size + 2 -> (∀ b o,s.heap.get? b = some o -> h'.get? b = some o) -> Q (.ref (s.heap.objs.size + 1)) { s with heap:=h' }) :
  wpAny (model P w) A (call (.type "enumerate") [.ref t]) Q E s:=by
 refine callType_new F.called_enumerate (by decide) (F.typeCall_enumerate_1 _) (F.newCall_enumerate_1 _) (fun obj=>F.args_object_init_2 obj _) F.entry_enumerate_new (W4o t items) ⟨ht,?_⟩
 have hz : (s.heap.push { cls:=.type "tuple_iterator",data:=.fields #[.ref t,.int 0 0] }).objs.size = s.heap.objs.size + 1:=Heap.size_push ..
 have he : IsEnum ((s.heap.push { cls:=.type "tuple_iterator",data:=.fields #[.ref t,.int 0 0] }).push { cls:=.type "enumerate",data:=.fields #[.none,.bool false,.ref s.heap.objs.size,rawInt 0,.none,.none] }) (s.heap.objs.size + 1) s.heap.objs.size 0 .none:=by
  have e:=Heap.get?_push_size (s.heap.push { cls:=.type "tuple_iterator",data:=.fields #[.ref t,.int 0 0] }) (o:={ cls:=.type "enumerate",data:=.fields #[.none,.bool false,.ref s.heap.objs.size,rawInt 0,.none,.none] }) rfl
  rw [hz] at e; exact e
 rw [hz]
 exact ⟨⟨_,he,rfl⟩,h _ he ⟨_,Heap.get?_push_of_some _ (Heap.get?_push_size _ rfl),rfl,rfl⟩ (by rw [Heap.size_push,hz]) fun b o x=>Heap.get?_push_of_some _ (Heap.get?_push_of_some _ x)⟩
end
noncomputable def Iet (K : Fg9) (l : Addr) : It:=⟨fun i H=>∃ xs x,C8 K H l xs /\ xs[i]? = some x,fun i H v H'=>∃ T x,(∀ xs,C8 K H l xs -> xs[i]? = some x) /\ H T = none /\ v = .ref T /\ H' = upd H T (.tup [.int (i : Int),x]),fun i H=>∃ xs,C8 K H l xs /\ xs.length = i⟩
theorem Z7f {P : Program} {w : World} {K : Fg9} {elts : List Expr} {kk : Nat} {pt : Pos} {en it l : Addr} (hne : en ≠ it) (hle : l ≠ en) (hli : l ≠ it) :
  Q1k P w K (.Tuple elts kk pt) (Iet K l) [en,it] en (fun i h=>(∃ old,IsEnum h en it i old) /\ h.IsTupleIter it l i) where
 mem:=by simp
 obj:=fun i h st b hb=>by
  obtain ⟨⟨old,he⟩,o,ho,_,d⟩:=st
  rcases List.mem_cons.mp hb with rfl | hb
  ·exact ⟨_,he,fun v z=>by cases z⟩
  ·have e : b = it:=by simpa using hb
   subst e
   exact ⟨o,ho,fun v z=>by rw [d] at z; cases z⟩
 keep:=fun i h h' ⟨⟨old,he⟩,o,ho,r⟩ k=>⟨⟨old,k en (by simp) _ he⟩,o,k it (by simp) o ho,r⟩
 item:=by
  intro X hP hw hK hc i pins s σ H E I hf st hg
  subst hP hw hK
  obtain ⟨xs,x,hq,hx⟩:=hg
  obtain ⟨its,rv,p,hz⟩:=I.tuple hq
  have W:=WalksT.enumerateD (Q6n (P:=X.prog) (w:=X.w) (A:=X.A.in1) (show X.A.in1.handled = none from I.ok.hd hc) it l hli its.toArray) en hne (by simp; exact ⟨hne,fun z=>hle z.symm⟩) (by simp)
  obtain ⟨u,hu,ru⟩:=rv.get hx
  have hlt : i < its.toArray.size:=by
   rcases Nat.lt_or_ge i its.length with h | h
   ·simpa using h
   ·rw [List.getElem?_eq_none_iff.mpr h] at hu; cases hu
  refine W.item i s _ _ hlt ⟨st.1,st.2,p⟩ fun T vals h' tk hv hT hIT mid k=>?_
  obtain ⟨t1,y,hy,rfl⟩:=hv
  have ey : y = u:=by
   have : its[i]? = some y:=by simpa using hy
   rw [hu] at this; exact (Option.some.inj this).symm
  subst ey
  refine ⟨_,rfl,W.go elts kk pt i T { s with heap:=h',toks:=tk } _ _ mid fun h2 st2 k2=>?_⟩
  have kk2 : ∀ b o,b ∉ [en,it] -> s.heap.get? b = some o -> h2.get? b = some o:=fun b o hb e=>k2 b o hb (k b o hb e)
  have hap:=W.apart i T h' mid
  have hIT2 : IsTup h2 T ([Value.int (i : Int) t1,y]).toArray:=by
   obtain ⟨o,ho,r⟩:=hIT
   exact ⟨o,k2 T o hap ho,r⟩
  have I2:=Q6l (t':=tk) (xs:=[.int (i : Int),x]) I kk2 hf hT hIT2 (.cons ⟨t1,rfl⟩ (.cons ru .nil)) (by show 2 <= sizeLine; decide)
  refine ⟨.ref T,_,I2,rfl,⟨T,x,fun ys hy=>by rw [I.tuple_inj hy hq]; exact hx,I.hok.fresh hT,rfl,rfl⟩,⟨st2.1,st2.2.1⟩,fun b hb=>?_⟩
  rw [A9 (show b ≠ T from fun z=>hap (by rw [<- z]; exact hb))]
  exact (hf b hb).1
 done:=by
  intro X hP hw hK hc i pins s σ H E I hf st hg
  subst hP hw hK
  obtain ⟨xs,hq,hx⟩:=hg
  obtain ⟨its,rv,p,hz⟩:=I.tuple hq
  have W:=WalksT.enumerateD (Q6n (P:=X.prog) (w:=X.w) (A:=X.A.in1) (show X.A.in1.handled = none from I.ok.hd hc) it l hli its.toArray) en hne (by simp; exact ⟨hne,fun z=>hle z.symm⟩) (by simp)
  have hl:=rv.length
  have e : i = its.toArray.size:=by simp; omega
  subst e
  exact W.done s _ _ ⟨st.1,st.2,p⟩ fun h' tk k=>⟨rfl,Q7t I k hf⟩
 self:=fun A i s Q E ⟨⟨old,he⟩,_⟩ h=>wpAny_pyIter_enum he h
theorem Q8o {K : Fg9} {H0 H : Hp} {l : Addr} {xs : List V} {ds : List D} (hq : H l = some (.tup xs)) (al : AllS K H ds xs) : Yl K H0 (Iet K l) (G6 ds) H where
 go:=fun H' k s i hi=>by
  rw [Q1d] at hi
  exact ⟨xs,xs[i]'(by rw [<- al.length]; exact hi),C8.of (k.tup _ _ hq),List.getElem?_eq_getElem _⟩
 yld:=fun H' k s i v H'' d hd ⟨T,x,hx,hT,hv,hH⟩=>by
  subst hH hv
  refine ⟨F7 hT _,?_⟩
  obtain ⟨y,hy,rfl⟩:=Q7x hd
  obtain ⟨v,hv,q⟩:=al.get hy
  rw [hx xs (C8.of (k.tup _ _ hq))] at hv; cases hv
  exact A2.s_tup upd_same (AllS.cons A2.s_int (AllS.cons (q.mono (k.trans (Kp.of (F7 hT _))) _ _) AllS.nil))
 stop:=fun H' k s=>⟨xs,C8.of (k.tup _ _ hq),by rw [Q1d]; exact al.length.symm⟩
theorem Y5w {K : Fg9} {H0 H : Hp} {x : Str} : Yl K H0 (Ies x) (G6 (Z9 x)) H where
 go:=fun H' _ _ i hi=>(Z1z (K:=K) (H:=H')).go H' (A6.refl _) i hi
 yld:=fun H' _ _ i v H'' d hd h=>(Z1z (K:=K) (H:=H')).yld H' (A6.refl _) i v H'' d hd h
 stop:=fun H' _ _=>(Z1z (K:=K) (H:=H')).stop H' (A6.refl _)
section
variable {X : Cx} {H0 : Hp} {a : Expr} {p pos : Pos} {wr : WA}
def Q2m (wr : WA) : WI:=fun τ Q=>wr τ fun rs=>(∃ x,rs = [.st (.str x)] /\ Q (G6 (Z9 x)) τ) \/ ∃ ds,rs = [.st (.tup ds)] /\ Q (G6 ds) τ
theorem DI.enumX {elts : List Expr} {kk : Nat} {pt : Pos} (hg : Gl X "enumerate") (hm : X.mg "enumerate" = none) (hv : bootBuiltins "enumerate" = some (.type "enumerate")) (ha : DA X H0 [a] wr) (he : starEach [a] X.env = (false,eval a X.env) :: starEach [] X.env:=by rfl) (hpl : (backTo pos (starEach [] X.env)).any (·.1) = false:=by rfl) :
  DI X H0 (.Tuple elts kk pt) (.Call (.Name "enumerate" p) [a] [] pos) (Q2m wr) where
 mono:=fun τ P Q f h=>ha.mono τ _ _ (fun r h=>h.imp (fun ⟨x,e1,q⟩=>⟨x,e1,f _ _ q⟩) fun ⟨ds,e1,q⟩=>⟨ds,e1,f _ _ q⟩) h
 pi:=by
  intro pins s σ H R I ⟨τ,hR,h⟩
  refine wpAny_Call_Name_kw (Q0c I hg hm hv ?_ (by decide) (by decide))
  refine PyProof.Rows.callWith_type1 (B2 (ha.pa pos pins s σ H (fun vs H1=>A6 H H1 /\ ((∃ x,vs = [.str x] /\ ∀ J H',Kp H H' -> B5 X.K H0 τ σ H' -> Yl X.K H0 J (G6 (Z9 x)) H' -> R J H') \/
    ∃ l xs ds,vs = [.ref l] /\ H1 l = some (.tup xs) /\ AllS X.K H1 ds xs /\ ∀ J H',Kp H H' -> B5 X.K H0 τ σ H' -> Yl X.K H0 J (G6 ds) H' -> R J H')) I
   ⟨τ,hR,ha.mono τ _ _ (fun rs h vs H1 s1 irs=>⟨s1,?_⟩) h⟩) fun us s1 ⟨vs,H1,I1,rv,sm,hh⟩=>?_) he hpl
  ·rcases h with ⟨x,e1,q⟩ | ⟨ds,e1,q⟩
   ·subst e1
    obtain ⟨v,rfl,ir⟩:=W7 irs
    cases (show v = .str x from ir)
    exact .inl ⟨x,rfl,q⟩
   ·subst e1
    obtain ⟨v,rfl,ir⟩:=W7 irs
    have ir : A2 X.K H1 (.tup ds) v:=ir
    unfold A2 at ir
    obtain ⟨l,xs,rfl,sq,al⟩:=ir
    exact .inr ⟨l,xs,ds,rfl,sq,al,q⟩
  ·have big : ∀ b ∈ [s1.heap.objs.size + 1,s1.heap.objs.size],K3 X pins H1 b:=fun b hb=>by
    have hb : s1.heap.objs.size <= b:=by
     rcases List.mem_cons.mp hb with rfl | hb
     ·exact Nat.le_succ _
     ·have e : b = s1.heap.objs.size:=by simpa using hb
      rw [e]; exact Nat.le_refl _
    exact I1.fpOk hb (I1.hok.fresh hb)
   rcases hh with ⟨x,rfl,q⟩ | ⟨l,xs,ds,rfl,sq,al,q⟩
   ·obtain ⟨u,rfl,ru⟩:=V2 rv
    obtain ⟨t,rfl⟩:=ru
    refine call_enumerate_str fun h' he hi hz k=>?_
    exact wpAny_pyIter_enum he ⟨s1.heap.objs.size + 1,[s1.heap.objs.size + 1,s1.heap.objs.size],_,_,H1,rfl,I1.kept (t':=s1.toks) k,Y3a (x:=x) (t:=t) (Nat.succ_ne_self _),⟨⟨_,he⟩,hi⟩,big,q _ _ (Kp.of sm) (hR.mono sm) Y5w⟩
   ·obtain ⟨u,rfl,ru⟩:=V2 rv
    cases (show u = Value.ref l from ru)
    obtain ⟨its,rv',pl,hz'⟩:=I1.tuple (C8.of sq)
    have hl : l < s1.heap.objs.size:=by obtain ⟨o,ho,_⟩:=pl; exact Heap.lt_size ho
    refine Y2d pl fun h' he hi hz k=>?_
    exact wpAny_pyIter_enum he ⟨s1.heap.objs.size + 1,[s1.heap.objs.size + 1,s1.heap.objs.size],_,_,H1,rfl,I1.kept (t':=s1.toks) k,Z7f (l:=l) (Nat.succ_ne_self _) (Nat.ne_of_lt (Nat.lt_succ_of_lt hl)) (Nat.ne_of_lt hl),⟨⟨_,he⟩,hi⟩,big,q _ _ (Kp.of sm) (hR.mono sm) (Q8o sq al)⟩
@[simp] theorem Z0e {τ : A8} {Q : List D -> A8 -> Prop} : Q2m wr τ Q = wr τ fun rs=>(∃ x,rs = [.st (.str x)] /\ Q (G6 (Z9 x)) τ) \/ ∃ ds,rs = [.st (.tup ds)] /\ Q (G6 ds) τ:=rfl
end
structure Q2y (z TI TO i1 i2 : Addr) (fp1 fp2 : List Addr) : Prop where
 tiz : TI ≠ z
 toz : TO ≠ z
 i1z : i1 ≠ z
 i2z : i2 ≠ z
 tito : TI ≠ TO
 ti1 : TI ≠ i1
 ti2 : TI ≠ i2
 to1 : TO ≠ i1
 to2 : TO ≠ i2
 i12 : i1 ≠ i2
 f1 : ∀ b ∈ fp1,b ≠ z /\ b ≠ TO /\ b ≠ i2
 f2 : ∀ b ∈ fp2,b ≠ z /\ b ≠ TO /\ b ≠ i1
section
variable {P : Program} {w : World} {A : Around} {E : VS9} {s : Shared} {z TI TO i1 i2 : Addr} {fp1 fp2 : List Addr} {n1 n2 k : Nat} {P1 P2 : Nat -> Value -> Prop} {S1 S2 : Nat -> Heap -> Prop} {a b : Value}
theorem X4 {it : Addr} {fp : List Addr} {n i : Nat} {Q : Nat -> Value -> Prop} {S : Nat -> Heap -> Prop} (D : Draws P w A it fp n Q S) {h h' : Heap} {c : Addr} (st : S i h) (sb : Heap.ExtBut c h h') (hc : ∀ b ∈ fp,b ≠ c) : S i h':=D.frame _ _ _ st fun b hb o e=>sb b o (hc b hb) e
theorem W2g {Q : VS9} (Z : Q2y z TI TO i1 i2 fp1 fp2) (D1 : Draws P w A i1 fp1 n1 P1 S1) (D2 : Draws P w A i2 fp2 n2 P2 S2) (hz : IsZip s.heap z TI TO .none) (hTI : IsPair s.heap TI (.ref i1) (.ref i2)) (hTO : IsPair s.heap TO a b) (h1 : S1 k s.heap) (h2 : S2 k s.heap) (l1 : k < n1) (l2 : k < n2)
  (hQ : ∀ h' tk x y,P1 k x -> P2 k y -> IsZip h' z TI TO (rawInt s.heap.objs.size) -> IsPair h' TO x y -> S1 (k + 1) h' -> S2 (k + 1) h' -> IsPair h' s.heap.objs.size x y -> (∀ c o,c ≠ z -> c ≠ TO -> c ≠ i1 -> c ≠ i2 -> s.heap.get? c = some o -> h'.get? c = some o) -> Q (.ref s.heap.objs.size) { s with heap:=h',toks:=tk }) :
  wpAny (model P w) A (Builtin.«zip.__next__» ⟨[.ref z],[]⟩) (fun fin s'=>∃ v,fin = .done (.ret v) /\ Q v s') E s:=by
 change wpAny (model P w) A (field (.ref z) 2 >>= _) _ _ s
 refine wpAny_bind (wpAny_field hz rfl (x:=Value.bool false) rfl ?_)
 change wpAny (model P w) A (field (.ref z) 3 >>= _) _ _ s
 refine wpAny_bind (wpAny_field hz rfl (x:=.ref TI) rfl (wpAny_bind (wpAny_seqItems hTI rfl ?_)))
 change wpAny (model P w) A (Builtin.SmallTypes.ownedTupleIsFree (.ref z) >>= _) _ _ s
 refine wpAny_bind ?_
 unfold Builtin.SmallTypes.ownedTupleIsFree; refine wpAny_bind (wpAny_field hz rfl (x:=.none) rfl (wpAny_pure ?_))
 rw [if_pos rfl]
 refine wpAny_bind (wpAny_rule (wpAny_bind (wpAny_field hz rfl (x:=.ref TO) rfl (wpAny_bind (wpAny_setField_rec hz (by simp) fun g₁ hz₁ ss₁=>?_)))))
 have hz₁ : IsZip g₁ z TI TO .ellipsis:=hz₁
 refine wpAny_bind ?_
 simp only [List.zipIdx_cons,List.zipIdx_nil,List.forIn_cons,List.forIn_nil]; refine wpAny_bind (wpAny_bind (wpAny_onRaise ?_))
 change wpAny (model P w) A (Builtin.SmallTypes.nextOf (.ref i1) >>= _) _ _ _
 refine wpAny_bind (D1.item k _ _ _ l1 (X4 D1 h1 ss₁.extBut fun b hb=>(Z.f1 b hb).1) fun x g₂ tk₂ px h1₂ ss₂=>wpAny_pure ?_)
 have hTO₂ : IsPair g₂ TO a b:=ss₂.extBut _ _ Z.to1 (ss₁.extBut _ _ Z.toz hTO)
 refine wpAny_bind (wpAny_seqItems hTO₂ rfl (wpAny_bind (wpAny_updateSeq_pair hTO₂ fun g₃ hTO₃ ss₃=>wpAny_bind (wpAny_letGo (wpAny_pure ?_)))))
 have hTO₃ : IsPair g₃ TO x b:=hTO₃
 refine wpAny_bind (wpAny_bind (wpAny_onRaise ?q))
 change wpAny (model P w) A (Builtin.SmallTypes.nextOf (.ref i2) >>= _) _ _ _
 have h2₃ : S2 k g₃:=X4 D2 (X4 D2 (X4 D2 h2 ss₁.extBut fun b hb=>(Z.f2 b hb).1) ss₂.extBut fun b hb=>(Z.f2 b hb).2.2) ss₃.extBut fun b hb=>(Z.f2 b hb).2.1
 refine wpAny_bind (D2.item k _ _ _ l2 h2₃ fun y g₄ tk₄ py h2₄ ss₄=>wpAny_pure ?_)
 have hTO₄ : IsPair g₄ TO x b:=ss₄.extBut _ _ Z.to2 hTO₃
 refine wpAny_bind (wpAny_seqItems hTO₄ rfl (wpAny_bind (wpAny_updateSeq_pair hTO₄ fun g₅ hTO₅ ss₅=>wpAny_bind (wpAny_letGo (wpAny_pure (wpAny_pure ?_))))))
 have hTO₅ : IsPair g₅ TO x y:=hTO₅
 refine wpAny_bind (wpAny_seqItems hTO₅ rfl (wpAny_bind (wpAny_newTuple ?_)))
 have hsz : g₅.objs.size = s.heap.objs.size:=by rw [ss₅.1,ss₄.1,ss₃.1,ss₂.1,ss₁.1]
 have hz₅ : IsZip g₅ z TI TO .ellipsis:=ss₅.extBut _ _ Z.toz.symm (ss₄.extBut _ _ Z.i2z.symm (ss₃.extBut _ _ Z.toz.symm (ss₂.extBut _ _ Z.i1z.symm hz₁)))
 have hk₅ : ∀ c o,c ≠ z -> c ≠ TO -> c ≠ i1 -> c ≠ i2 -> s.heap.get? c = some o -> g₅.get? c = some o:=fun c o c1 c2 c3 c4 e=>ss₅.extBut _ _ c2 (ss₄.extBut _ _ c4 (ss₃.extBut _ _ c2 (ss₂.extBut _ _ c3 (ss₁.extBut _ _ c1 e))))
 have h1₅ : S1 (k + 1) g₅:=X4 D1 (X4 D1 (X4 D1 h1₂ ss₃.extBut fun b hb=>(Z.f1 b hb).2.1) ss₄.extBut fun b hb=>(Z.f1 b hb).2.2) ss₅.extBut fun b hb=>(Z.f1 b hb).2.1
 have h2₅ : S2 (k + 1) g₅:=X4 D2 h2₄ ss₅.extBut fun b hb=>(Z.f2 b hb).2.1
 have hzlt : z < g₅.objs.size:=Heap.lt_size hz₅
 change wpAny (model P w) A (Builtin.SmallTypes.ownedTupleHandOut (.ref z) (Value.ref g₅.objs.size) >>= _) _ _ _
 refine wpAny_bind ?_
 unfold Builtin.SmallTypes.ownedTupleHandOut; refine wpAny_bind (wpAny_setField_rec (Heap.get?_push_of_some _ hz₅ : IsZip (g₅.push { cls:=.type "tuple",data:=.seq #[x,y] }) z TI TO .ellipsis) (by simp) fun g₇ hz₇ ss₇=>?_)
 have hz₇ : IsZip g₇ z TI TO (rawInt g₅.objs.size):=hz₇
 refine wpAny_setField_rec hz₇ (by simp) fun g₈ hz₈ ss₈=>wpAny_pure ⟨_,rfl,?_⟩
 have hz₈ : IsZip g₈ z TI TO (rawInt g₅.objs.size):=hz₈
 have up : ∀ c o,c ≠ z -> g₅.get? c = some o -> g₈.get? c = some o:=fun c o c1 e=>ss₈.extBut _ _ c1 (ss₇.extBut _ _ c1 (Heap.get?_push_of_some _ e))
 have hT₈ : IsPair g₈ g₅.objs.size x y:=ss₈.extBut _ _ (Nat.ne_of_gt hzlt) (ss₇.extBut _ _ (Nat.ne_of_gt hzlt) (Heap.get?_push_size _ rfl))
 rw [hsz] at hz₈ hT₈
 have goal:=hQ g₈ tk₄ x y px py hz₈ (up _ _ Z.toz hTO₅) (D1.frame _ _ _ h1₅ fun b hb o e=>up b o (Z.f1 b hb).1 e) (D2.frame _ _ _ h2₅ fun b hb o e=>up b o (Z.f2 b hb).1 e) hT₈ fun c o c1 c2 c3 c4 e=>up c o c1 (hk₅ c o c1 c2 c3 c4 e)
 rw [<- hsz] at goal
 exact goal
theorem Y9g {Q : Fin -> Shared -> Prop} (Z : Q2y z TI TO i1 i2 fp1 fp2) (D1 : Draws P w A i1 fp1 n1 P1 S1) (D2 : Draws P w A i2 fp2 n2 P2 S2) (hz : IsZip s.heap z TI TO .none) (hTI : IsPair s.heap TI (.ref i1) (.ref i2)) (hTO : IsPair s.heap TO a b) (h1 : S1 k s.heap) (h2 : S2 k s.heap) (hk : k = n1 \/ (k < n1 /\ k = n2))
  (hE : ∀ h' tk e,(∀ c o,c ≠ z -> c ≠ TO -> c ≠ i1 -> c ≠ i2 -> s.heap.get? c = some o -> h'.get? c = some o) -> (∃ o,h'.get? e = some o /\ o.cls = .type "StopIteration") -> E (.ref e) { s with heap:=h',toks:=tk }) :
  wpAny (model P w) A (Builtin.«zip.__next__» ⟨[.ref z],[]⟩) Q E s:=by
 change wpAny (model P w) A (field (.ref z) 2 >>= _) _ _ s
 refine wpAny_bind (wpAny_field hz rfl (x:=Value.bool false) rfl ?_)
 change wpAny (model P w) A (field (.ref z) 3 >>= _) _ _ s
 refine wpAny_bind (wpAny_field hz rfl (x:=.ref TI) rfl (wpAny_bind (wpAny_seqItems hTI rfl ?_)))
 change wpAny (model P w) A (Builtin.SmallTypes.ownedTupleIsFree (.ref z) >>= _) _ _ s
 refine wpAny_bind ?_
 unfold Builtin.SmallTypes.ownedTupleIsFree; refine wpAny_bind (wpAny_field hz rfl (x:=.none) rfl (wpAny_pure ?_))
 rw [if_pos rfl]
 refine wpAny_bind (wpAny_rule (wpAny_bind (wpAny_field hz rfl (x:=.ref TO) rfl (wpAny_bind (wpAny_setField_rec hz (by simp) fun g₁ hz₁ ss₁=>?_)))))
 have hz₁ : IsZip g₁ z TI TO .ellipsis:=hz₁
 refine wpAny_bind ?_
 simp only [List.zipIdx_cons,List.zipIdx_nil,List.forIn_cons,List.forIn_nil]; refine wpAny_bind (wpAny_bind (wpAny_onRaise ?_))
 change wpAny (model P w) A (Builtin.SmallTypes.nextOf (.ref i1) >>= _) _ _ _
 have h1₁ : S1 k g₁:=X4 D1 h1 ss₁.extBut fun b hb=>(Z.f1 b hb).1
 rcases hk with hk | ⟨hlt,hk⟩
 ·subst hk
  refine wpAny_bind (D1.done _ _ _ h1₁ fun g₂ e ss₂ he=>?_)
  obtain ⟨oe,hoe,hce⟩:=he
  have hz₂ : IsZip g₂ z TI TO .ellipsis:=ss₂ _ _ Z.i1z.symm hz₁
  have hez : e ≠ z:=fun q=>by subst q; rw [hz₂] at hoe; cases hoe; simp at hce
  exact wpAny_setField_rec hz₂ (by simp) fun g₃ _ ss₃=>hE g₃ _ e (fun c o c1 _ c3 _ x=>ss₃.extBut _ _ c1 (ss₂ _ _ c3 (ss₁.extBut _ _ c1 x))) ⟨oe,ss₃.extBut _ _ hez hoe,hce⟩
 ·refine wpAny_bind (D1.item k _ _ _ hlt h1₁ fun x g₂ tk₂ px h1₂ ss₂=>wpAny_pure ?_)
  have hTO₂ : IsPair g₂ TO a b:=ss₂.extBut _ _ Z.to1 (ss₁.extBut _ _ Z.toz hTO)
  refine wpAny_bind (wpAny_seqItems hTO₂ rfl (wpAny_bind (wpAny_updateSeq_pair hTO₂ fun g₃ hTO₃ ss₃=>wpAny_bind (wpAny_letGo (wpAny_pure ?_)))))
  refine wpAny_bind (wpAny_bind (wpAny_onRaise ?q))
  change wpAny (model P w) A (Builtin.SmallTypes.nextOf (.ref i2) >>= _) _ _ _
  have h2₃ : S2 k g₃:=X4 D2 (X4 D2 (X4 D2 h2 ss₁.extBut fun b hb=>(Z.f2 b hb).1) ss₂.extBut fun b hb=>(Z.f2 b hb).2.2) ss₃.extBut fun b hb=>(Z.f2 b hb).2.1
  subst hk
  refine wpAny_bind (D2.done _ _ _ h2₃ fun g₄ e ss₄ he=>?_)
  obtain ⟨oe,hoe,hce⟩:=he
  have hz₄ : IsZip g₄ z TI TO .ellipsis:=ss₄ _ _ Z.i2z.symm (ss₃.extBut _ _ Z.toz.symm (ss₂.extBut _ _ Z.i1z.symm hz₁))
  have hez : e ≠ z:=fun q=>by subst q; rw [hz₄] at hoe; cases hoe; simp at hce
  exact wpAny_setField_rec hz₄ (by simp) fun g₅ _ ss₅=>hE g₅ _ e (fun c o c1 c2 c3 c4 x=>ss₅.extBut _ _ c1 (ss₄ _ _ c4 (ss₃.extBut _ _ c2 (ss₂.extBut _ _ c3 (ss₁.extBut _ _ c1 x))))) ⟨oe,ss₅.extBut _ _ hez hoe,hce⟩
end
section
variable {P : Program} {w : World} {A : Around} {E : VS9} {s : Shared} {z TI TO i1 i2 : Addr} {fp1 fp2 : List Addr} {n1 n2 k : Nat} {P1 P2 : Nat -> Value -> Prop} {S1 S2 : Nat -> Heap -> Prop} {a b : Value}
theorem W5c {Q : Option Value -> Shared -> Prop} (Z : Q2y z TI TO i1 i2 fp1 fp2) (D1 : Draws P w A.in1 i1 fp1 n1 P1 S1) (D2 : Draws P w A.in1 i2 fp2 n2 P2 S2) (hz : IsZip s.heap z TI TO .none) (hTI : IsPair s.heap TI (.ref i1) (.ref i2)) (hTO : IsPair s.heap TO a b) (h1 : S1 k s.heap) (h2 : S2 k s.heap) (l1 : k < n1) (l2 : k < n2)
  (hQ : ∀ h' tk x y,P1 k x -> P2 k y -> IsZip h' z TI TO (rawInt s.heap.objs.size) -> IsPair h' TO x y -> S1 (k + 1) h' -> S2 (k + 1) h' -> IsPair h' s.heap.objs.size x y -> (∀ c o,c ≠ z -> c ≠ TO -> c ≠ i1 -> c ≠ i2 -> s.heap.get? c = some o -> h'.get? c = some o) -> Q (some (.ref s.heap.objs.size)) { s with heap:=h',toks:=tk }) :
  wpAny (model P w) A (pyNext (.ref z)) Q E s:=by
 have hT : s.TypeIs (.ref z) "zip":=⟨_,hz,rfl⟩
 unfold pyNext
 exact wpAny_bind (wpAny_attempt (wpAny_callSpecial?_slot (name:=Str.ofString "__next__") hT F.slot_zip_next (wpAny_call_entry F.slot_zip_next hT F.entry_zip_next
  (W2g Z D1 D2 hz hTI hTO h1 h2 l1 l2 fun h' tk x y a1 a2 a3 a4 a5 a6 a7 a8=>wpAny_pure (hQ h' tk x y a1 a2 a3 a4 a5 a6 a7 a8)) (F.args_zip_next_1 _))))
theorem W1q {Q : Option Value -> Shared -> Prop} (Z : Q2y z TI TO i1 i2 fp1 fp2) (D1 : Draws P w A.in1 i1 fp1 n1 P1 S1) (D2 : Draws P w A.in1 i2 fp2 n2 P2 S2) (hz : IsZip s.heap z TI TO .none) (hTI : IsPair s.heap TI (.ref i1) (.ref i2)) (hTO : IsPair s.heap TO a b) (h1 : S1 k s.heap) (h2 : S2 k s.heap) (hk : k = n1 \/ (k < n1 /\ k = n2))
  (hQ : ∀ h' tk,(∀ c o,c ≠ z -> c ≠ TO -> c ≠ i1 -> c ≠ i2 -> s.heap.get? c = some o -> h'.get? c = some o) -> Q none { s with heap:=h',toks:=tk }) : wpAny (model P w) A (pyNext (.ref z)) Q E s:=by
 have hT : s.TypeIs (.ref z) "zip":=⟨_,hz,rfl⟩
 unfold pyNext
 refine wpAny_bind (wpAny_attempt (wpAny_callSpecial?_slot (name:=Str.ofString "__next__") hT F.slot_zip_next (wpAny_call_entry F.slot_zip_next hT F.entry_zip_next (Y9g Z D1 D2 hz hTI hTO h1 h2 hk fun h' tk e kp he=>?_) (F.args_zip_next_1 _))))
 obtain ⟨o,ho,hc⟩:=he
 exact wpAny_bind (wpAny_isInstance (T:="StopIteration") (b:=true) ⟨o,ho,hc⟩ isSubtype_stop (wpAny_pure (hQ _ _ kp)))
end
noncomputable abbrev zl1 (h : Heap) (l : Addr) : Heap:=h.push { cls:=.type "list_iterator",data:=.fields #[.ref l,.int 0 0] }
noncomputable abbrev zl2 (h : Heap) (l t : Addr) : Heap:=(zl1 h l).push { cls:=.type "tuple_iterator",data:=.fields #[.ref t,.int 0 0] }
noncomputable abbrev zl3 (h : Heap) (l t : Addr) : Heap:=(zl2 h l t).push { cls:=.type "tuple",data:=.seq #[.ref h.objs.size,.ref (zl1 h l).objs.size] }
noncomputable abbrev zl4 (h : Heap) (l t : Addr) : Heap:=(zl3 h l t).push { cls:=.type "tuple",data:=.seq #[.none,.none] }
noncomputable abbrev zl5 (h : Heap) (l t : Addr) : Heap:=(zl4 h l t).push { cls:=.type "zip",data:=.fields #[.none,.bool false,.bool false,.ref (zl2 h l t).objs.size,.ref (zl3 h l t).objs.size] }
theorem W3n (l t : Addr) (xs ys : Array Value) :
  Meets (Builtin.«zip.__new__» ⟨[.type "zip",.ref l,.ref t],[]⟩) (fun _ R s=>s.heap.IsList l xs /\ s.heap.IsTuple t ys /\ R (.ok (.ret (.ref (zl4 s.heap l t).objs.size))) { s with heap:=zl5 s.heap l t }) :=
 Meets.of_wp fun prog w A R s h=>by
  obtain ⟨hp,g,d,tk,os⟩:=s; obtain ⟨hl1,hl2,h⟩:=h
  have hsub:=sub_zip
  have hL1 : Heap.IsList (Shared.heap ⟨hp,g,d,tk,os⟩) l xs:=hl1
  have hL2 : Heap.IsTuple (Shared.heap ⟨hp.push { cls:=.type "list_iterator",data:=.fields #[.ref l,.int 0 0] },g,d,tk,os⟩) t ys:=Heap.IsTuple.push hl2 _
  wp_walk using wpAny_pyIter_list hL1,wpAny_pyIter_tuple hL2
  exact ⟨_,rfl,h⟩
theorem Y8h {P : Program} {w : World} {A : Around} {E : VS9} {s : Shared} {l t : Addr} {xs ys : Array Value} {Q : VS9} (hl : s.heap.IsList l xs) (ht : s.heap.IsTuple t ys)
  (h : ∀ h',IsZip h' (s.heap.objs.size + 4) (s.heap.objs.size + 2) (s.heap.objs.size + 3) .none -> IsPair h' (s.heap.objs.size + 2) (.ref s.heap.objs.size) (.ref (s.heap.objs.size + 1)) -> IsPair h' (s.heap.objs.size + 3) .none .none ->
   h'.IsListIter s.heap.objs.size l 0 -> h'.IsTupleIter (s.heap.objs.size + 1) t 0 -> (∀ c o,s.heap.get? c = some o -> h'.get? c = some o) -> Q (.ref (s.heap.objs.size + 4)) { s with heap:=h' }) :
  wpAny (model P w) A (call (.type "zip") [.ref l,.ref t]) Q E s:=by
 refine callType_new F.called_zip (by decide) (F.typeCall_zip_2 _ _) (F.newCall_zip_2 _ _) (fun obj=>F.args_object_init_3 obj _ _) F.entry_zip_new (W3n l t xs ys) ⟨hl,ht,?_⟩
 have e1 : (zl1 s.heap l).objs.size = s.heap.objs.size + 1:=Heap.size_push ..
 have e2 : (zl2 s.heap l t).objs.size = s.heap.objs.size + 2:=by rw [Heap.size_push,e1]
 have e3 : (zl3 s.heap l t).objs.size = s.heap.objs.size + 3:=by rw [Heap.size_push,e2]
 have e4 : (zl4 s.heap l t).objs.size = s.heap.objs.size + 4:=by rw [Heap.size_push,e3]
 have g5 : (zl5 s.heap l t).get? (zl4 s.heap l t).objs.size = some _:=Heap.get?_push_size _ rfl
 have g4 : (zl5 s.heap l t).get? (zl3 s.heap l t).objs.size = some _:=Heap.get?_push_of_some _ (Heap.get?_push_size _ rfl)
 have g3 : (zl5 s.heap l t).get? (zl2 s.heap l t).objs.size = some _:=Heap.get?_push_of_some _ (Heap.get?_push_of_some _ (Heap.get?_push_size _ rfl))
 have g2 : (zl5 s.heap l t).get? (zl1 s.heap l).objs.size = some _:=Heap.get?_push_of_some _ (Heap.get?_push_of_some _ (Heap.get?_push_of_some _ (Heap.get?_push_size _ rfl)))
 have g1 : (zl5 s.heap l t).get? s.heap.objs.size = some _:=Heap.get?_push_of_some _ (Heap.get?_push_of_some _ (Heap.get?_push_of_some _ (Heap.get?_push_of_some _ (Heap.get?_push_size _ rfl))))
 rw [e2,e3,e4] at g5
 rw [e1,e2] at g3
 rw [e3] at g4
 rw [e1] at g2
 rw [e4]
 exact ⟨⟨_,g5,rfl⟩,h _ g5 g3 g4 ⟨_,g1,rfl,rfl⟩ ⟨_,g2,rfl,rfl⟩ fun c o x=>Heap.get?_push_of_some _ (Heap.get?_push_of_some _ (Heap.get?_push_of_some _ (Heap.get?_push_of_some _ (Heap.get?_push_of_some _ x))))⟩
noncomputable def Izt (K : Fg9) (l1 l2 : Addr) (n : Nat) : It:=⟨fun i H=>i < n /\ ∃ xs ys,D5 K H l1 xs /\ C8 K H l2 ys /\ min xs.length ys.length = n,
 fun i H v H'=>∃ T x y,(∀ xs,D5 K H l1 xs -> xs[i]? = some x) /\ (∀ ys,C8 K H l2 ys -> ys[i]? = some y) /\ H T = none /\ v = .ref T /\ H' = upd H T (.tup [x,y]),fun i H=>i = n /\ ∃ xs ys,D5 K H l1 xs /\ C8 K H l2 ys /\ min xs.length ys.length = n⟩
theorem Y4v {P : Program} {w : World} {K : Fg9} {elts : List Expr} {kk : Nat} {pt : Pos} {z TI TO i1 i2 l1 l2 : Addr} {n : Nat} (Z : Q2y z TI TO i1 i2 [i1,l1] [i2,l2]) (hl1 : l1 ≠ i1) (hl2 : l2 ≠ i2) :
  Q1k P w K (.Tuple elts kk pt) (Izt K l1 l2 n) [z,TO,i1,i2,TI] z (fun i h=>IsZip h z TI TO .none /\ IsPair h TI (.ref i1) (.ref i2) /\ (∃ a b,IsPair h TO a b) /\ h.IsListIter i1 l1 i /\ h.IsTupleIter i2 l2 i) where
 mem:=by simp
 obj:=fun i h ⟨hz,hTI,⟨a,b,hTO⟩,⟨o1,h1,_,d1⟩,⟨o2,h2,_,d2⟩⟩ c hc=>by
  simp only [List.mem_cons,List.not_mem_nil,or_false] at hc
  rcases hc with rfl | rfl | rfl | rfl | rfl
  ·exact ⟨_,hz,fun v z=>by cases z⟩
  ·exact ⟨_,hTO,fun v z=>by cases z⟩
  ·exact ⟨o1,h1,fun v z=>by rw [d1] at z; cases z⟩
  ·exact ⟨o2,h2,fun v z=>by rw [d2] at z; cases z⟩
  ·exact ⟨_,hTI,fun v z=>by cases z⟩
 keep:=fun i h h' ⟨hz,hTI,⟨a,b,hTO⟩,h1,⟨o2,h2,r2⟩⟩ k=>⟨k z (by simp) _ hz,k TI (by simp) _ hTI,⟨a,b,k TO (by simp) _ hTO⟩,h1.at fun o e=>k i1 (by simp) o e,o2,k i2 (by simp) o2 h2,r2⟩
 item:=by
  intro X hP hw hK hc i pins s σ H E I hf st hg
  subst hP hw hK
  obtain ⟨hlt,xs,ys,hq1,hq2,hn⟩:=hg
  obtain ⟨its,rv,p1,hz1⟩:=I.list hq1
  obtain ⟨its2,rv2,p2,hz2⟩:=I.tuple hq2
  have l1':=rv.length
  have l2':=rv2.length
  have hd : X.A.in1.handled = none:=I.ok.hd hc
  have D1:=Draws.list (prog:=X.prog) (w:=X.w) (A:=X.A.in1) hd i1 l1 hl1 its.toArray
  have D2:=Q6n (P:=X.prog) (w:=X.w) (A:=X.A.in1) hd i2 l2 hl2 its2.toArray
  obtain ⟨sz,sTI,⟨a0,b0,sTO⟩,s1,s2⟩:=st
  have hx : xs[i]? = some (xs[i]'(by omega)):=List.getElem?_eq_getElem _
  have hy : ys[i]? = some (ys[i]'(by omega)):=List.getElem?_eq_getElem _
  obtain ⟨u,hu,ru⟩:=rv.get hx
  obtain ⟨u',hu',ru'⟩:=rv2.get hy
  refine W5c Z D1 D2 sz sTI sTO ⟨s1,p1.isList⟩ ⟨s2,p2⟩ (by simp; omega) (by simp; omega) fun h' tk x y px py z1 t1 a1 a2 pr kp=>⟨_,rfl,?_⟩
  have ex : x = u:=by
   have : its[i]? = some x:=by simpa using px
   rw [hu] at this; exact (Option.some.inj this).symm
  have ey : y = u':=by
   have : its2[i]? = some y:=by simpa using py
   rw [hu'] at this; exact (Option.some.inj this).symm
  subst ex ey
  refine wpAny_letOwnedTupleGo_zip z1 fun h2 z2 sb=>?_
  have hzT : s.heap.objs.size ≠ z:=(Nat.ne_of_lt (Heap.lt_size sz)).symm
  have kk2 : ∀ c o,c ∉ [z,TO,i1,i2] -> s.heap.get? c = some o -> h2.get? c = some o:=fun c o hc e=>by
   simp only [List.mem_cons,List.not_mem_nil,or_false,not_or] at hc
   exact (sb.2 c hc.1).trans (kp c o hc.1 hc.2.1 hc.2.2.1 hc.2.2.2 e)
  have hIT2 : IsTup h2 s.heap.objs.size ([x,y]).toArray:=⟨_,(sb.2 _ hzT).trans pr,rfl,_,rfl⟩
  have hf4 : ∀ b ∈ [z,TO,i1,i2],K3 X pins H b:=fun b hb=>hf b (by
   simp only [List.mem_cons,List.not_mem_nil,or_false] at hb ⊢
   rcases hb with h | h | h | h <;> simp [h])
  have I2:=Q6l (t':=tk) (xs:=[xs[i]'(by omega),ys[i]'(by omega)]) I kk2 hf4 (Nat.le_refl s.heap.objs.size) hIT2 (.cons ru (.cons ru' .nil)) (by show 2 <= sizeLine; decide)
  refine ⟨.ref s.heap.objs.size,_,I2,rfl,⟨s.heap.objs.size,_,_,fun zs hz=>by rw [I.list_inj hz hq1]; exact hx,fun zs hz=>by rw [I.tuple_inj hz hq2]; exact hy,I.hok.fresh (Nat.le_refl _),rfl,rfl⟩,⟨z2,?_,⟨_,_,(sb.2 _ Z.toz).trans t1⟩,?_,?_⟩,fun b hb=>?_⟩
  ·exact (sb.2 _ Z.tiz).trans (kp _ _ Z.tiz Z.tito Z.ti1 Z.ti2 sTI)
  ·exact a1.1.at fun o e=>(sb.2 _ Z.i1z).trans e
  ·obtain ⟨⟨o,e,r⟩,_⟩:=a2
   exact ⟨o,(sb.2 _ Z.i2z).trans e,r⟩
  ·have hbT : b ≠ s.heap.objs.size:=fun zz=>by
    obtain ⟨o,ho⟩ : ∃ o,s.heap.get? b = some o:=by
     simp only [List.mem_cons,List.not_mem_nil,or_false] at hb
     obtain ⟨o1,h1,_⟩:=s1
     obtain ⟨o2,h2,_⟩:=s2
     rcases hb with rfl | rfl | rfl | rfl | rfl
     ·exact ⟨_,sz⟩
     ·exact ⟨_,sTO⟩
     ·exact ⟨_,h1⟩
     ·exact ⟨_,h2⟩
     ·exact ⟨_,sTI⟩
    exact Nat.lt_irrefl _ (zz ▸ Heap.lt_size ho)
   rw [A9 hbT]
   exact (hf b hb).1
 done:=by
  intro X hP hw hK hc i pins s σ H E I hf st hg
  subst hP hw hK
  obtain ⟨hi,xs,ys,hq1,hq2,hn⟩:=hg
  obtain ⟨its,rv,p1,hz1⟩:=I.list hq1
  obtain ⟨its2,rv2,p2,hz2⟩:=I.tuple hq2
  have l1':=rv.length
  have l2':=rv2.length
  have hd : X.A.in1.handled = none:=I.ok.hd hc
  have D1:=Draws.list (prog:=X.prog) (w:=X.w) (A:=X.A.in1) hd i1 l1 hl1 its.toArray
  have D2:=Q6n (P:=X.prog) (w:=X.w) (A:=X.A.in1) hd i2 l2 hl2 its2.toArray
  obtain ⟨sz,sTI,⟨a0,b0,sTO⟩,s1,s2⟩:=st
  have hf4 : ∀ b ∈ [z,TO,i1,i2],K3 X pins H b:=fun b hb=>hf b (by
   simp only [List.mem_cons,List.not_mem_nil,or_false] at hb ⊢
   rcases hb with h | h | h | h <;> simp [h])
  have hk : i = its.toArray.size \/ (i < its.toArray.size /\ i = its2.toArray.size):=by
   simp only [List.size_toArray]
   omega
  refine W1q Z D1 D2 sz sTI sTO ⟨s1,p1.isList⟩ ⟨s2,p2⟩ hk fun h' tk kp=>⟨rfl,Q7t I (fun c o hc e=>?_) hf4⟩
  simp only [List.mem_cons,List.not_mem_nil,or_false,not_or] at hc
  exact kp c o hc.1 hc.2.1 hc.2.2.1 hc.2.2.2 e
 self:=fun A i s Q E st h=>wpAny_pyIter_zip st.1 h
theorem Y9b {K : Fg9} {H : Hp} {l1 l2 : Addr} {xs ys : List V} {ds es : List D} (sq : D5 K H l1 xs) (al : AllS K H ds xs) (sq2 : H l2 = some (.tup ys)) (al2 : AllS K H es ys) : YlS K (Izt K l1 l2 (min ds.length es.length)) (R0 ds es) H where
 go:=fun H' s i hi=>by
  rw [Z1n] at hi
  exact ⟨hi,xs,ys,s.seq sq,C8.of (s _ _ sq2),by rw [al.length,al2.length]⟩
 yld:=fun H' s i v H'' d hd ⟨T,x,y,hx,hy,hT,hv,hH⟩=>by
  subst hH hv
  refine ⟨F7 hT _,?_⟩
  obtain ⟨d1,d2,e1,e2,rfl⟩:=Z3y hd
  obtain ⟨v1,hv1,q1⟩:=al.get e1
  obtain ⟨v2,hv2,q2⟩:=al2.get e2
  rw [hx xs (s.seq sq)] at hv1; cases hv1
  rw [hy ys (C8.of (s _ _ sq2))] at hv2; cases hv2
  have kp:=Kp.of (s.trans (F7 hT (.tup [x,y])))
  exact A2.s_tup upd_same (AllS.cons (q1.mono kp _ _) (AllS.cons (q2.mono kp _ _) AllS.nil))
 stop:=fun H' s=>⟨Z1n _ _,xs,ys,s.seq sq,C8.of (s _ _ sq2),by rw [al.length,al2.length]⟩
section
variable {X : Cx} {H0 : Hp} {a b : Expr} {p pos : Pos} {wr : WA}
def Q8m (wr : WA) : WIE:=fun τ Q=>wr τ fun rs=>∃ r ds es,rs = [r,.st (.tup es)] /\ S7 r = some ds /\ Q (R0 ds es)
theorem J8.zipT {elts : List Expr} {kk : Nat} {pt : Pos} (hg : Gl X "zip") (hm : X.mg "zip" = none) (hv : bootBuiltins "zip" = some (.type "zip")) (ha : DA X H0 [a,b] wr) (he : starEach [a,b] X.env = (false,eval a X.env) :: starEach [b] X.env:=by rfl) (hpl : (backTo pos (starEach [b] X.env)).any (·.1) = false:=by rfl) :
  J8 X H0 (.Tuple elts kk pt) (.Call (.Name "zip" p) [a,b] [] pos) (Q8m wr) where
 mono:=fun τ P Q f h=>ha.mono τ _ _ (fun r ⟨r1,ds,es,e1,e2,q⟩=>⟨r1,ds,es,e1,e2,f _ q⟩) h
 pi:=by
  intro pins s σ H R I ⟨τ,hR,h⟩
  refine wpAny_Call_Name_kw (Q0c I hg hm hv ?_ (by decide) (by decide))
  refine PyProof.Rows.callWith_type1 (B2 (ha.pa pos pins s σ H (fun vs H1=>A6 H H1 /\ ∃ l1 l2 xs ys ds es,vs = [.ref l1,.ref l2] /\ D5 X.K H1 l1 xs /\ AllS X.K H1 ds xs /\ H1 l2 = some (.tup ys) /\ AllS X.K H1 es ys /\ ∀ J H',A6 H H' -> YlS X.K J (R0 ds es) H' -> R J H') I
   ⟨τ,hR,ha.mono τ _ _ (fun rs ⟨r,ds,es,e1,e2,q⟩ vs H1 s1 irs=>⟨s1,by
    subst e1
    obtain ⟨v,u,rfl,ir,ir2⟩:=Y0m irs
    obtain ⟨l,xs,rfl,sq,al⟩:=Q1w e2 ir
    have ir2 : A2 X.K H1 (.tup es) u:=ir2
    unfold A2 at ir2
    obtain ⟨l2,ys,rfl,sq2,al2⟩:=ir2
    exact ⟨l,l2,xs,ys,ds,es,rfl,sq,al,sq2,al2,q⟩⟩) h⟩) fun us s1 ⟨vs,H1,I1,rv,sm,l1,l2,xs,ys,ds,es,e1,sq,al,sq2,al2,q⟩=>?_) he hpl
  subst e1
  have rv2 : ∃ u1 u2,us = [u1,u2] /\ B4 (.ref l1) u1 /\ B4 (.ref l2) u2:=by
   cases rv with
   | cons r1 rr =>
    obtain ⟨u2,rfl,r2⟩:=V2 rr
    exact ⟨_,u2,rfl,r1,r2⟩
  obtain ⟨u1,u2,rfl,r1,r2⟩:=rv2
  cases (show u1 = Value.ref l1 from r1)
  cases (show u2 = Value.ref l2 from r2)
  obtain ⟨its,rv',pl,hz'⟩:=I1.list sq
  obtain ⟨its2,rv2',pl2,hz2'⟩:=I1.tuple (C8.of sq2)
  have hl : @LT.lt Nat _ l1 s1.heap.objs.size:=by obtain ⟨o,n,ho,_⟩:=id pl; exact Heap.lt_size ho
  have hl2 : @LT.lt Nat _ l2 s1.heap.objs.size:=by obtain ⟨o,ho,_⟩:=id pl2; exact Heap.lt_size ho
  refine Y8h pl.isList pl2 fun h' hz hTI hTO hi1 hi2 k=>?_
  have Z : Q2y (s1.heap.objs.size + 4) (s1.heap.objs.size + 2) (s1.heap.objs.size + 3) s1.heap.objs.size (s1.heap.objs.size + 1) [s1.heap.objs.size,l1] [s1.heap.objs.size + 1,l2]:=by
   refine ⟨?_,?_,?_,?_,?_,?_,?_,?_,?_,?_,fun b hb=>?_,fun b hb=>?_⟩
   all_goals first | (show ¬ ((_ : Nat) = (_ : Nat)); omega) | skip
   all_goals simp only [List.mem_cons,List.not_mem_nil,or_false] at hb
   all_goals rcases hb with rfl | rfl <;> refine ⟨?_,?_,?_⟩ <;> (show ¬ ((_ : Nat) = (_ : Nat)); omega)
  refine wpAny_pyIter_zip hz ⟨s1.heap.objs.size + 4,[s1.heap.objs.size + 4,s1.heap.objs.size + 3,s1.heap.objs.size,s1.heap.objs.size + 1,s1.heap.objs.size + 2],_,_,H1,rfl,I1.kept (t':=s1.toks) k,Y4v (n:=Min.min ds.length es.length) Z (Nat.ne_of_lt hl) (Nat.ne_of_lt (Nat.lt_succ_of_lt hl2)),⟨hz,hTI,⟨_,_,hTO⟩,hi1,hi2⟩,fun b hb=>?_,q _ _ sm (Y9b sq al sq2 al2)⟩
  have hb : s1.heap.objs.size <= b:=by
   simp only [List.mem_cons,List.not_mem_nil,or_false] at hb
   rcases hb with rfl | rfl | rfl | rfl | rfl <;> first | exact Nat.le_refl _ | exact Nat.le_add_right _ _
  exact I1.fpOk hb (I1.hok.fresh hb)
@[simp] theorem W5g {τ : A8} {Q : List D -> Prop} : Q8m wr τ Q = wr τ fun rs=>∃ r ds es,rs = [r,.st (.tup es)] /\ S7 r = some ds /\ Q (R0 ds es):=rfl
end
theorem W5n {K : Fg9} {H : Hp} {l : Addr} {xs : List V} {ds : List D} (hq : H l = some (.tup xs)) (al : AllS K H ds xs) : YlS K (Iet K l) (G6 ds) H where
 go:=fun H' s i hi=>(Q8o (H0:=H) hq al).go H' (Kp.of s) s i hi
 yld:=fun H' s i v H'' d hd h=>(Q8o (H0:=H) hq al).yld H' (Kp.of s) s i v H'' d hd h
 stop:=fun H' s=>(Q8o (H0:=H) hq al).stop H' (Kp.of s) s
section
variable {X : Cx} {H0 : Hp} {a : Expr} {p pos : Pos} {wr : WA}
noncomputable def Q2c : R -> Option (List D)
 | .st (.tup ds)=>some ds
 | r=>S7 r
def Z3o (wr : WA) : WIE:=fun τ Q=>wr τ fun rs=>∃ r ds,rs = [r] /\ Q2c r = some ds /\ Q (G6 ds)
theorem J8.enumX {elts : List Expr} {kk : Nat} {pt p : Pos} (hg : Gl X "enumerate") (hm : X.mg "enumerate" = none) (hv : bootBuiltins "enumerate" = some (.type "enumerate")) (ha : DA X H0 [a] wr) (he : starEach [a] X.env = (false,eval a X.env) :: starEach [] X.env:=by rfl) (hpl : (backTo pos (starEach [] X.env)).any (·.1) = false:=by rfl) :
  J8 X H0 (.Tuple elts kk pt) (.Call (.Name "enumerate" p) [a] [] pos) (Z3o wr) where
 mono:=fun τ P Q f h=>ha.mono τ _ _ (fun r ⟨r',ds,e1,e2,q⟩=>⟨r',ds,e1,e2,f _ q⟩) h
 pi:=by
  intro pins s σ H R I ⟨τ,hR,h⟩
  refine wpAny_Call_Name_kw (Q0c I hg hm hv ?_ (by decide) (by decide))
  refine PyProof.Rows.callWith_type1 (B2 (ha.pa pos pins s σ H (fun vs H1=>A6 H H1 /\ ((∃ l xs ds,vs = [.ref l] /\ H1 l = some (.tup xs) /\ AllS X.K H1 ds xs /\ ∀ J H',A6 H H' -> YlS X.K J (G6 ds) H' -> R J H') \/ ∃ l xs ds,vs = [.ref l] /\ D5 X.K H1 l xs /\ AllS X.K H1 ds xs /\ ∀ J H',A6 H H' -> YlS X.K J (G6 ds) H' -> R J H')) I
   ⟨τ,hR,ha.mono τ _ _ (fun rs h vs H1 s1 irs=>⟨s1,?_⟩) h⟩) fun us s1 ⟨vs,H1,I1,rv,sm,hh⟩=>?_) he hpl
  ·obtain ⟨r,ds,e1,e2,q⟩:=h
   subst e1
   obtain ⟨v,rfl,ir⟩:=W7 irs
   by_cases ht : ∃ es,r = .st (.tup es)
   ·obtain ⟨es,rfl⟩:=ht
    cases e2
    have ir : A2 X.K H1 (.tup ds) v:=ir
    unfold A2 at ir
    obtain ⟨l,xs,rfl,sq,al⟩:=ir
    exact .inl ⟨l,xs,ds,rfl,sq,al,q⟩
   ·have e2 : S7 r = some ds:=by
     unfold Q2c at e2
     split at e2
     ·exact absurd ⟨_,rfl⟩ ht
     ·exact e2
    obtain ⟨l,xs,rfl,sq,al⟩:=Q1w e2 ir
    exact .inr ⟨l,xs,ds,rfl,sq,al,q⟩
  ·have big : ∀ b ∈ [s1.heap.objs.size + 1,s1.heap.objs.size],K3 X pins H1 b:=fun b hb=>by
    have hb : s1.heap.objs.size <= b:=by
     rcases List.mem_cons.mp hb with rfl | hb
     ·exact Nat.le_succ _
     ·have e : b = s1.heap.objs.size:=by simpa using hb
      rw [e]; exact Nat.le_refl _
    exact I1.fpOk hb (I1.hok.fresh hb)
   rcases hh with ⟨l,xs,ds,rfl,sq,al,q⟩ | ⟨l,xs,ds,rfl,sq,al,q⟩
   ·obtain ⟨u,rfl,ru⟩:=V2 rv
    cases (show u = Value.ref l from ru)
    obtain ⟨its,rv',pl,hz'⟩:=I1.tuple (C8.of sq)
    have hl : l < s1.heap.objs.size:=by obtain ⟨o,ho,_⟩:=pl; exact Heap.lt_size ho
    refine Y2d pl fun h' he hi hz k=>?_
    exact wpAny_pyIter_enum he ⟨s1.heap.objs.size + 1,[s1.heap.objs.size + 1,s1.heap.objs.size],_,_,H1,rfl,I1.kept (t':=s1.toks) k,Z7f (l:=l) (Nat.succ_ne_self _) (Nat.ne_of_lt (Nat.lt_succ_of_lt hl)) (Nat.ne_of_lt hl),⟨⟨_,he⟩,hi⟩,big,q _ _ sm (W5n sq al)⟩
   ·obtain ⟨u,rfl,ru⟩:=V2 rv
    cases (show u = Value.ref l from ru)
    obtain ⟨its,rv',pl,hz'⟩:=I1.list sq
    obtain ⟨o,n,ho,_⟩:=id pl
    have hl : l < s1.heap.objs.size:=Heap.lt_size ho
    refine call_enumerate_list pl.isList fun h' he hi hz k=>?_
    refine wpAny_pyIter_enum he ⟨s1.heap.objs.size + 1,[s1.heap.objs.size + 1,s1.heap.objs.size],_,_,H1,rfl,I1.kept (t':=s1.toks) k,Y2g (l:=l) (Nat.succ_ne_self _) (Nat.ne_of_lt (Nat.lt_succ_of_lt hl)) (Nat.ne_of_lt hl),⟨⟨_,he⟩,hi⟩,big,q _ _ sm (W3c sq al)⟩
@[simp] theorem Y7k {τ : A8} {Q : List D -> Prop} : Z3o wr τ Q = wr τ fun rs=>∃ r ds,rs = [r] /\ Q2c r = some ds /\ Q (G6 ds):=rfl
end
section
variable {X : Cx} {pins : Pn9} {σ : St} {H : Hp} {s : Shared}
noncomputable def Q0k (K : Fg9) (H : Hp) (d : D) (u : Value) : Bool:=@decide (∃ d' v',B4 v' u /\ A2 K H d' v' /\ D.eq d' d = true) (Classical.propDecidable _)
theorem Z9u (I : A1 X pins σ H s) {d d' : D} {v' : V} {u : Value} (r : B4 v' u) (i : A2 X.K H d' v') : Q0k X.K H d u = D.eq d' d:=by
 unfold Q0k
 cases e : D.eq d' d with
 | true=>exact @decide_eq_true _ (Classical.propDecidable _) ⟨d',v',r,i,e⟩
 | false =>
  refine @decide_eq_false _ (Classical.propDecidable _) fun ⟨d2,v2,r2,i2,e2⟩=>?_
  have ev:=r.inj r2
  subst ev
  rw [A2.inj I d2 d' v' i2 i,e] at e2
  cases e2
theorem Z1a (I : A1 X pins σ H s) {d : D} : ∀ {ds : List D} {xs : List V} {its : List Value},AllS X.K H ds xs -> C4 xs its -> its.any (Q0k X.K H d) = ds.any fun e=>D.eq e d
 | [],xs,its,al,r=>by
  unfold AllS at al; subst al; cases r; rfl
 | e :: ds,xs,its,al,r=>by
  unfold AllS at al
  obtain ⟨v,t,rfl,i,al⟩:=al
  cases r with
  | cons r1 r2=>rw [List.any_cons,List.any_cons,Z9u I r1 i,Z1a I al r2]
theorem Z1l (I : A1 X pins σ H s) {d : D} {x : V} {v : Value} {n : Nat} (ix : A2 X.K H d x) (rx : B4 x v) {A : Around} (hu : A.units + n < cLine) : ∀ {ds : List D} {xs : List V} {its : List Value},AllS X.K H ds xs -> C4 xs its -> (∀ e ∈ ds,e.depth <= n) -> ∀ u ∈ its,SeqAt.EqAt A s u v (Q0k X.K H d u)
 | [],xs,its,al,r,_=>by
  unfold AllS at al; subst al; cases r; intro u hu; cases hu
 | e :: ds,xs,its,al,r,hd=>by
  unfold AllS at al
  obtain ⟨v',t,rfl,i,al⟩:=al
  cases r with
  | cons r1 r2 =>
   intro u hm
   rcases List.mem_cons.mp hm with rfl | hm
   ·rw [Z9u I r1 i]
    exact Q4w I (fun A=>Q8n I n e d v' x _ _ A (hd e (by simp)) i.w ix.w r1 rx) i ix r1 rx hu
   ·exact Z1l I ix rx hu al r2 (fun e h=>hd e (by simp [h])) u hm
end
section
variable {X : Cx}
def inL (n : Nat) (neg : Bool) (x y : R) (Q : Bool -> Prop) : Prop:=∃ d ds,x = .st d /\ Q2c y = some ds /\ (∀ e ∈ ds,e.depth <= n) /\ Q (if neg then !ds.any (fun e=>D.eq e d) else ds.any fun e=>D.eq e d)
theorem Y7v {n : Nat} {neg : Bool} : W0 (inL n neg):=fun x y P Q g ⟨d,ds,e1,e2,h,q⟩=>⟨d,ds,e1,e2,h,g _ q⟩
theorem W0s {K : Fg9} {H0 H : Hp} {r : R} {ds : List D} {v : V} (e : Q2c r = some ds) (h : E1 K H0 H r v) : ∃ a xs,v = .ref a /\ (D5 K H a xs \/ C8 K H a xs) /\ AllS K H ds xs:=by
 by_cases ht : ∃ es,r = .st (.tup es)
 ·obtain ⟨es,rfl⟩:=ht
  cases e
  have h : A2 K H (.tup ds) v:=h
  unfold A2 at h
  obtain ⟨l,xs,rfl,sq,al⟩:=h
  exact ⟨l,xs,rfl,.inr (C8.of sq),al⟩
 ·have e2 : S7 r = some ds:=by
   unfold Q2c at e
   split at e
   ·exact absurd ⟨_,rfl⟩ ht
   ·exact e
  obtain ⟨l,xs,rfl,sq,al⟩:=Q1w e2 h
  exact ⟨l,xs,rfl,.inl sq,al⟩
theorem Y2s {n : Nat} (hu : X.A.units + n + 1 < cLine) : W6 X .NotIn (inL n true):=by
 intro pins s σ H x y v u Q I rx ry ⟨r1,r2,h1,h2,d,ds,e1,e2,hd,q⟩
 subst e1
 have ix : A2 X.K H d x:=h1
 obtain ⟨a,xs,rfl,hq,al⟩:=W0s e2 h2
 cases ry
 rcases hq with hq | hq
 ·obtain ⟨its,r,pl,hz⟩:=I.list hq
  refine SeqAt.notIn_listAt (Q0k X.K H d) pl.isList (fun w hw=>Z1l I ix rx (n:=n) (by try simp only [Around.in1_units]; omega) al r hd w (by simpa using hw)) ⟨.bl _,H,I,rfl,?_⟩
  rw [show its.toArray.any (Q0k X.K H d) = its.any (Q0k X.K H d) by simp,Z1a I al r]
  exact q
 ·obtain ⟨its,r,pl,hz⟩:=I.tuple hq
  refine SeqAt.notIn_tupleAt (Q0k X.K H d) pl (fun w hw=>Z1l I ix rx (n:=n) (by try simp only [Around.in1_units]; omega) al r hd w (by simpa using hw)) ⟨.bl _,H,I,rfl,?_⟩
  rw [show its.toArray.any (Q0k X.K H d) = its.any (Q0k X.K H d) by simp,Z1a I al r]
  exact q
end
section
variable {X : Cx} {H0 : Hp} {e a : Expr} {es : List Expr} {wr : WA} {wa : WE} {k l : Nat} {f : Addr} {fd : FuncData} {ps : List Str} {x : Str} {p pos : Pos} {ts : List Addr} {st : Stmt}
theorem DE.cl {sp : D8} (F : P8 X.prog X.w X.K X.mg X.base K6 l f fd ps (Q4y X.K (e :: es).length sp)) (hr : C5 k X.A) (D : Df X.K X.mg x st ps f fd) (ha : DA X H0 (e :: es) wr) (hl : l <= k:=by decide) (hg : Gl X x:=by rfl)
  (hdb : (x == ("__debug__" : Str)) = false:=by decide) (he : starEach (e :: es) X.env = (false,eval e X.env) :: starEach es X.env:=by rfl) (hpl : (backTo pos (starEach es X.env)).any (·.1) = false:=by rfl) :
  DE X H0 (.Call (.Name x p) (e :: es) [] pos) (J7 sp wr):=DE.call F (hr.mono hl) hg D.m D.k D.b ha hdb he hpl
theorem DE.clP {sp : D9} (hm0 : T8 sp) (F : P8 X.prog X.w X.K X.mg X.base K6 l f fd ps (Q3m X.K ts (e :: es).length sp)) (hr : C5 k X.A) (hT : Q5z ts H0) (D : Df X.K X.mg x st ps f fd) (ha : DA X H0 (e :: es) wr) (hl : l <= k:=by decide) (hg : Gl X x:=by rfl)
  (hdb : (x == ("__debug__" : Str)) = false:=by decide) (he : starEach (e :: es) X.env = (false,eval e X.env) :: starEach es X.env:=by rfl) (hpl : (backTo pos (starEach es X.env)).any (·.1) = false:=by rfl) :
  DE X H0 (.Call (.Name x p) (e :: es) [] pos) (E9 sp wr):=DE.callP hm0 F (hr.mono hl) hT hg D.m D.k D.b ha hdb he hpl
theorem DE.v (i : Nat) (hN : X.N[i]? = some x:=by rfl) (hv : Vis X.env.scope x:=by first | exact Or.inl rfl | exact Or.inr (Or.inl rfl) | exact Or.inr (Or.inr rfl)) (hd : (x == ("__debug__" : Str)) = false:=by decide)
  (hcd : (x == ("__classdict__" : Str)) = false:=by decide) : DE X H0 (.Name x pos) (wV i):=DE.var (pv i hN hv hd hcd)
theorem DA.one (ha : DE X H0 a wa) (hs : starEach [a] X.env = (false,eval a X.env) :: starEach [] X.env:=by rfl) : DA X H0 [a] (A0 wa A3):=DA.cons ha DA.nil hs
theorem DS.sv (i : Nat) (he : DE X H0 e wa) (hN : X.N.Nodup) (hi : X.N[i]? = some x:=by rfl) (hx : Loc X.env.scope x:=by first | exact Or.inl rfl | exact Or.inr rfl) (hs : swapsWith e (some (.Name x p)) pos.line X.env = pure false:=by rfl)
  (hf : X.fn x = true \/ X.env.scope.names.lookup x = some .local:=by first | exact .inl rfl | exact .inr rfl | assumption) : DS X H0 (.Assign [.Name x p] e pos) (B7 i wa):=DS.set he hN hi hx hs hf
noncomputable def scB (N P : List Str) (sc : Scope) : Bool:=decide (sc.kind = .function) && !sc.isCoroutine && !sc.isGenerator && decide N.Nodup && decide (N.take P.length = P) && P.all (fun x=>decide (sc.names.lookup x = some .local) || decide (sc.names.lookup x = some .cell)) && sc.names.all (fun y=>decide (y.2 ≠ .free))
theorem M6 {N P : List Str} {sc : Scope} (h : scB N P sc = true) : G2 N P sc:=by
 unfold scB at h
 simp only [Bool.and_eq_true,decide_eq_true_eq,List.all_eq_true,Bool.or_eq_true,Bool.not_eq_true'] at h
 obtain ⟨⟨⟨⟨⟨⟨h1,h2⟩,h3⟩,h4⟩,h5⟩,h6⟩,h7⟩:=h
 exact ⟨h1,h2,h3,h4,h5,h6,h7⟩
theorem W3v : bootBuiltins "len" = some (.builtin "len"):=by decide +kernel
theorem Y3m : bootBuiltins "tuple" = some (.type "tuple"):=by decide +kernel
theorem DE.len (hm : X.mg "len" = none) (ha : DE X H0 a wa) (hg : Gl X "len":=by rfl) (hs : starEach [a] X.env = (false,eval a X.env) :: starEach [] X.env:=by rfl) (hpl : (backTo pos (starEach [] X.env)).any (·.1) = false:=by rfl) : DE X H0 (.Call (.Name "len" p) [a] [] pos) (D4 F2 (A0 wa A3)) :=
 DE.callB Y6a Y8f hg hm W3v (DA.cons ha DA.nil hs) (he:=hs) (hpl:=hpl)
theorem DE.tpl (hm : X.mg "tuple" = none) (ha : DE X H0 a wa) (hg : Gl X "tuple":=by rfl) (hs : starEach [a] X.env = (false,eval a X.env) :: starEach [] X.env:=by rfl) (hpl : (backTo pos (starEach [] X.env)).any (·.1) = false:=by rfl) : DE X H0 (.Call (.Name "tuple" p) [a] [] pos) (D4 Q2 (A0 wa A3)) :=
 DE.callTy W3y Y9u hg hm Y3m (DA.cons ha DA.nil hs) (he:=hs) (hpl:=hpl)
end
def Hr (K : Fg9) (n : Str) (st : Stmt) (f : Addr) (fd : FuncData) : Prop:=PySem.W.nsIn K mainGlobals n = some (some (.ref f)) /\ O5 K n n st f fd
def HrC (K : Fg9) (n : Str) (st : Stmt) (f : Addr) (fd : FuncData) (c Pt : Addr) (ts : List Addr) : Prop:=PySem.W.nsIn K mainGlobals n = some (some (.ref f)) /\ PySem.W.keepIn K (.ref f) = true /\
 (∃ (oc : Value) (od : Option Addr) (kV doc pm : Value) (an : Option Addr) (ct : Value) (osl : Array (Option Value)),fd = PySem.W.fnOf n n (X9 st) (Q3 st) (C0 st) .none kV doc pm an (.ref c) ct /\ K.lookup f = some ⟨oc,od,.func fd,osl⟩ /\ PySem.W.codeIn K (.ref c) n = true) /\
 (∃ (vo : Value) (vd : Option Addr) (vv : Array Value) (vs : Array (Option Value)),K.lookup c = some ⟨vo,vd,.fields vv,vs⟩ /\ vv[11]? = some (.ref Pt)) /\ PySem.W.codeHdIn K c Pt = true /\ K.lookup Pt = none /\ Pt ∈ ts
section
variable {K : Fg9} {h : Heap} {mg : Str -> Option Value} {n : Str} {st : Stmt} {f c Pt : Addr} {fd : FuncData} {ts : List Addr} {ps : List Str}
theorem S3 {oc : Value} {od an : Option Addr} {osl : Array (Option Value)} {kV doc pm cdv ct : Value} (a : PySem.W.nsIn K mainGlobals n = some (some (.ref f))) (l : K.lookup f = some ⟨oc,od,.func (PySem.W.fnOf n n (X9 st) (Q3 st) (C0 st) .none kV doc pm an cdv ct),osl⟩) (q : PySem.W.codeIn K cdv n = true) (k : PySem.W.keepIn K (.ref f) = true) :
  Hr K n st f (PySem.W.fnOf n n (X9 st) (Q3 st) (C0 st) .none kV doc pm an cdv ct):=⟨a,Y7d l q k⟩
theorem Q1r {oc vo : Value} {od an vd : Option Addr} {osl vs : Array (Option Value)} {kV doc pm ct : Value} {vv : Array Value} (a : PySem.W.nsIn K mainGlobals n = some (some (.ref f))) (l : K.lookup f = some ⟨oc,od,.func (PySem.W.fnOf n n (X9 st) (Q3 st) (C0 st) .none kV doc pm an (.ref c) ct),osl⟩) (q : PySem.W.codeIn K (.ref c) n = true) (k : PySem.W.keepIn K (.ref f) = true)
  (v : K.lookup c = some ⟨vo,vd,.fields vv,vs⟩) (p : vv[11]? = some (.ref Pt)) (e : PySem.W.codeHdIn K c Pt = true) (o : K.lookup Pt = none) (m : Pt ∈ ts) : HrC K n st f (PySem.W.fnOf n n (X9 st) (Q3 st) (C0 st) .none kV doc pm an (.ref c) ct) c Pt ts :=
 ⟨a,k,⟨_,_,_,_,_,_,_,_,rfl,l,q⟩,⟨_,_,_,_,v,p⟩,e,o,m⟩
theorem Hr.df (H : Hr K n st f fd) (X : K.In h) (G : h.Ns mainGlobals mg) (hb : ∀ (kV doc pm : Value) (an : Option Addr) (cdv ct : Value) (us : List Value),us.length = ps.length -> bindArgs (PySem.W.fnOf n n (X9 st) (Q3 st) (C0 st) .none kV doc pm an cdv ct) ⟨us,[]⟩ = pure (ps.zip us)) : Df K mg n st ps f fd :=
 ⟨H.2,H.2.binds hb,H.2.kp,PySem.W.mg_of X G H.1⟩
theorem HrC.hr (H : HrC K n st f fd c Pt ts) : Hr K n st f fd:=let ⟨a,k,⟨oc,od,kV,doc,pm,an,ct,osl,e,l,q⟩,_⟩:=H; ⟨a,⟨oc,od,kV,doc,pm,an,_,ct,osl,e,l,q⟩,k⟩
theorem HrC.fc (H : HrC K n st f fd c Pt ts) : O6 K n n st f fd c Pt:=let ⟨_,_,e,_,q,_⟩:=H; ⟨e,q⟩
theorem HrC.tb (H : HrC K n st f fd c Pt ts) : Pt ∈ ts:=let ⟨_,_,_,_,_,_,m⟩:=H; m
theorem HrC.at (H : HrC K n st f fd c Pt ts) : (∃ c,PySem.W.codeHdIn K c Pt = true) /\ K.lookup Pt = none:=let ⟨_,_,_,_,q,n,_⟩:=H; ⟨⟨_,q⟩,n⟩
end
end TK
end
section
namespace MC
open PySem PySem.Spec PyProof.Rows L2 TK
section
variable {α : Type} [DecidableEq α]
noncomputable def P7 (ks : List α) (g : α) : List α:=if g ∈ ks then ks else ks ++ [g]
theorem Z5o {ks : List α} {g : α} (h : g ∈ ks) : P7 ks g = ks:=if_pos h
theorem Z5z {ks : List α} {g : α} (h : g ∉ ks) : P7 ks g = ks ++ [g]:=if_neg h
theorem Y5h (ks : List α) (g : α) : ks <+: P7 ks g:=by
 unfold P7; split
 ·exact List.prefix_refl _
 ·exact List.prefix_append _ _
theorem Y0k {ks : List α} {g x : α} : x ∈ P7 ks g ↔ x ∈ ks \/ x = g:=by
 unfold P7; split
 ·constructor
  ·exact .inl
  ·rintro (h | rfl) <;> assumption
 ·rw [List.mem_append,List.mem_singleton]
theorem W1n {ks : List α} {g : α} (h : ks.Nodup) : (P7 ks g).Nodup:=by
 unfold P7; split
 ·exact h
 ·rename_i n
  exact List.nodup_append.mpr ⟨h,by simp,fun a ha b hb=>by
   rw [List.mem_singleton] at hb; rintro rfl; exact n (hb ▸ ha)⟩
theorem Z4x {ks ls : List α} {g : α} (p : ks <+: ls) (h : g ∈ ks) : ls.idxOf g = ks.idxOf g:=by
 obtain ⟨t,rfl⟩:=p
 rw [List.idxOf_append,if_pos h]
noncomputable def G7 (st : Nat -> α) : List Nat -> List α -> List Nat -> List α × List Nat
 | [],ks,r=>(ks,r)
 | c :: cs,ks,r=>G7 st cs (P7 ks (st c)) (r ++ [(P7 ks (st c)).idxOf (st c)])
theorem Z0f (st : Nat -> α) : ∀ (cs : List Nat) (ks : List α) (r : List Nat),ks <+: (G7 st cs ks r).1
 | [],ks,r=>List.prefix_refl _
 | c :: cs,ks,r=>(Y5h ks (st c)).trans (Z0f st cs _ _)
theorem Y0c (st : Nat -> α) : ∀ (cs : List Nat) (ks : List α) (r : List Nat),ks.Nodup -> (G7 st cs ks r).1.Nodup
 | [],ks,r,h=>h
 | c :: cs,ks,r,h=>Y0c st cs _ _ (W1n h)
theorem Q9y (st : Nat -> α) {x : α} : ∀ (cs : List Nat) (ks : List α) (r : List Nat),x ∈ (G7 st cs ks r).1 ↔ x ∈ ks \/ ∃ c ∈ cs,x = st c
 | [],ks,r=>by simp [G7]
 | c :: cs,ks,r=>by
  rw [G7,Q9y st cs,Y0k]
  simp [or_assoc]
theorem Z5p (st : Nat -> α) : ∀ (cs : List Nat) (ks : List α) (r : List Nat),(G7 st cs ks r).2 = r ++ cs.map fun c=>(G7 st cs ks r).1.idxOf (st c)
 | [],ks,r=>by simp [G7]
 | c :: cs,ks,r=>by
  have h:=Z5p st cs (P7 ks (st c)) (r ++ [(P7 ks (st c)).idxOf (st c)])
  have e:=Z4x (Z0f st cs (P7 ks (st c)) (r ++ [(P7 ks (st c)).idxOf (st c)])) (Y0k.mpr (.inr rfl) : st c ∈ P7 ks (st c))
  rw [G7,h,List.map_cons,e,List.append_assoc]
  rfl
noncomputable abbrev C9 : List Nat:=[0,1,2,3]
noncomputable def O3 (step : α -> Nat -> α) : Nat -> List α -> List (List Nat) -> List α × List (List Nat)
 | 0,ks,rs=>(ks,rs)
 | n + 1,ks,rs=>match ks[rs.length]? with
  | none=>(ks,rs)
  | some k=>O3 step n (G7 (step k) C9 ks []).1 (rs ++ [(G7 (step k) C9 ks []).2])
structure V5 (step : α -> Nat -> α) (start : α) (U : List α) (ks : List α) (rs : List (List Nat)) : Prop where
 nd : ks.Nodup
 zero : ks[0]? = some start
 sub : ∀ k ∈ ks,k ∈ U
 len : rs.length <= ks.length
 row : ∀ (i : Nat) (r : List Nat),rs[i]? = some r -> ∃ k,ks[i]? = some k /\ (∀ c ∈ C9,step k c ∈ ks) /\ r = C9.map fun c=>ks.idxOf (step k c)
theorem V5.start {step : α -> Nat -> α} {start : α} {U : List α} (h : start ∈ U) : V5 step start U [start] [] :=
 ⟨by simp,rfl,fun k hk=>by rw [List.mem_singleton] at hk; exact hk ▸ h,by simp,fun i r e=>by simp at e⟩
theorem V5.next {step : α -> Nat -> α} {start k : α} {U : List α} {ks : List α} {rs : List (List Nat)} (hU : ∀ k ∈ U,∀ c ∈ C9,step k c ∈ U) (W : V5 step start U ks rs) (hk : ks[rs.length]? = some k) :
  V5 step start U (G7 (step k) C9 ks []).1 (rs ++ [(G7 (step k) C9 ks []).2]):=by
 have p:=Z0f (step k) C9 ks []
 have kin : k ∈ ks:=List.mem_of_getElem? hk
 have get : ∀ {i : Nat} {x : α},ks[i]? = some x -> (G7 (step k) C9 ks []).1[i]? = some x:=fun {i x} e=>by
  obtain ⟨t,ht⟩:=p
  rw [<- ht,List.getElem?_append_left]
  ·exact e
  ·obtain ⟨h,_⟩:=List.getElem?_eq_some_iff.mp e; exact h
 have lt : rs.length < ks.length:=by obtain ⟨h,_⟩:=List.getElem?_eq_some_iff.mp hk; exact h
 refine ⟨Y0c _ _ _ _ W.nd,get W.zero,fun x hx=>?_,?_,fun i r e=>?_⟩
 ·rcases (Q9y _ _ _ _).mp hx with h | ⟨c,hc,rfl⟩
  ·exact W.sub x h
  ·exact hU k (W.sub k kin) c hc
 ·rw [List.length_append,List.length_singleton]
  exact Nat.le_trans lt p.length_le
 ·rcases Nat.lt_or_ge i rs.length with h | h
  ·rw [List.getElem?_append_left h] at e
   obtain ⟨k',e1,e2,e3⟩:=W.row i r e
   refine ⟨k',get e1,fun c hc=>p.subset (e2 c hc),?_⟩
   rw [e3]
   exact List.map_congr_left fun c hc=>(Z4x p (e2 c hc)).symm
  ·rw [List.getElem?_append_right h] at e
   have : i - rs.length = 0:=by
    rcases Nat.eq_zero_or_pos (i - rs.length) with z | z
    ·exact z
    ·rw [List.getElem?_eq_none_iff.mpr (by simp; omega)] at e; cases e
   rw [this] at e
   have e : (G7 (step k) C9 ks []).2 = r:=Option.some.inj e
   refine ⟨k,get (by rw [show i = rs.length by omega]; exact hk),fun c hc=>(Q9y _ _ _ _).mpr (.inr ⟨c,hc,rfl⟩),?_⟩
   rw [<- e,Z5p,List.nil_append]
theorem V5.bound {step : α -> Nat -> α} {start : α} {U : List α} {ks : List α} {rs : List (List Nat)} (W : V5 step start U ks rs) : ks.length <= U.length:=W.nd.length_le_of_subset fun x hx=>W.sub x hx
theorem Z7k {step : α -> Nat -> α} {start : α} {U : List α} (hU : ∀ k ∈ U,∀ c ∈ C9,step k c ∈ U) : ∀ (n : Nat) (ks : List α) (rs : List (List Nat)),V5 step start U ks rs -> U.length <= n + rs.length ->
  V5 step start U (O3 step n ks rs).1 (O3 step n ks rs).2 /\ (O3 step n ks rs).2.length = (O3 step n ks rs).1.length
 | 0,ks,rs,W,h=>⟨W,by have:=W.bound; have:=W.len; simp [O3]; omega⟩
 | n + 1,ks,rs,W,h=>by
  unfold O3
  split
  ·rename_i e
   have:=List.getElem?_eq_none_iff.mp e
   exact ⟨W,by have:=W.len; simp; omega⟩
  ·rename_i k e
   exact Z7k hU n _ _ (W.next hU e) (by simp; omega)
structure Q3w (step : α -> Nat -> α) (start : α) (U ks : List α) (rs : List (List Nat)) : Prop where
 nd : ks.Nodup
 zero : ks[0]? = some start
 sub : ∀ k ∈ ks,k ∈ U
 len : rs.length = ks.length
 mem : ∀ k ∈ ks,∀ c ∈ C9,step k c ∈ ks
 row : ∀ (i : Nat) (k : α),ks[i]? = some k -> rs[i]? = some (C9.map fun c=>ks.idxOf (step k c))
noncomputable def Z1 (N : Nat) (step : α -> Nat -> α) (start : α) : List α × List (List Nat):=O3 step N [start] []
theorem Q6o {step : α -> Nat -> α} {start : α} {U : List α} {N : Nat} (hU : ∀ k ∈ U,∀ c ∈ C9,step k c ∈ U) (hs : start ∈ U) (hN : U.length <= N) : Q3w step start U (Z1 N step start).1 (Z1 N step start).2:=by
 unfold Z1
 obtain ⟨W,e⟩:=Z7k hU N [start] [] (V5.start hs) (by simpa using hN)
 refine ⟨W.nd,W.zero,W.sub,e,fun k hk c hc=>?_,fun i k hk=>?_⟩
 ·obtain ⟨i,hi,rfl⟩:=List.mem_iff_getElem.mp hk
  have hi' : i < (O3 step N [start] []).2.length:=by rw [e]; exact hi
  obtain ⟨k',e1,e2,_⟩:=W.row i _ (List.getElem?_eq_getElem hi')
  rw [List.getElem?_eq_getElem hi] at e1
  cases e1
  exact e2 c hc
 ·obtain ⟨hi,rfl⟩:=List.getElem?_eq_some_iff.mp hk
  have hi' : i < (O3 step N [start] []).2.length:=by rw [e]; exact hi
  obtain ⟨k',e1,_,e3⟩:=W.row i _ (List.getElem?_eq_getElem hi')
  have hk' : (O3 step N [start] []).1[i]? = some k':=e1
  rw [List.getElem?_eq_getElem hi] at hk'
  cases hk'
  rw [List.getElem?_eq_getElem hi',e3]
section
variable {κ : Type} [DecidableEq κ] {key : α -> κ}
noncomputable def J4 (key : α -> κ) (L : List (α × D)) : List (κ × D):=L.map fun p=>(key p.1,p.2)
theorem Q0s (inj : ∀ a b,key a = key b -> a = b) (L : List (α × D)) (g : α) : D7 (J4 key L) (key g) = D7 L g:=by
 induction L with
 | nil=>rfl
 | cons p L ih =>
  unfold D7 J4 at ih ⊢
  rw [List.map_cons,List.find?_cons,List.find?_cons]
  by_cases h : p.1 = g
  ·have : key p.1 = key g:=by rw [h]
   simp [h]
  ·have : ¬ key p.1 = key g:=fun z=>h (inj _ _ z)
   simp only [h,this,decide_false]
   exact ih
theorem Z4v {L : List (α × D)} {g : α} : D7 L g = none ↔ g ∉ L.map (·.1):=by
 unfold D7
 rw [Option.map_eq_none_iff,List.find?_eq_none]
 simp only [List.mem_map,not_exists,decide_eq_true_eq]
 constructor
 ·rintro h x ⟨hx,rfl⟩; exact h x hx rfl
 ·rintro h x hx rfl; exact h x ⟨hx,rfl⟩
theorem Q6r {L : List (α × D)} {g : α} : (D7 L g).isSome = decide (g ∈ L.map (·.1)):=by
 by_cases h : g ∈ L.map (·.1)
 ·rw [decide_eq_true h]
  cases e : D7 L g with
  | none=>exact absurd h (Z4v.mp e)
  | some d=>rfl
 ·rw [decide_eq_false h,Z4v.mpr h]; rfl
theorem Q8i (inj : ∀ a b,key a = key b -> a = b) {L : List (α × D)} {g : α} (h : g ∉ L.map (·.1)) (d : D) : L4 (J4 key L) (key g) d = J4 key (L ++ [(g,d)]):=by
 unfold L4
 rw [if_neg]
 ·simp [J4]
 ·intro z
  rw [List.any_eq_true] at z
  obtain ⟨x,hx,e⟩:=z
  obtain ⟨p,hp,rfl⟩:=List.mem_map.mp hx
  exact h (List.mem_map.mpr ⟨p,hp,inj _ _ (of_decide_eq_true e)⟩)
theorem Z8r {L : List (α × D)} (nd : (L.map (·.1)).Nodup) {g : α} {d : D} (h : (g,d) ∈ L) : D7 L g = some d:=by
 induction L with
 | nil=>cases h
 | cons p L ih =>
  rw [List.map_cons,List.nodup_cons] at nd
  unfold D7 at ih ⊢
  rw [List.find?_cons]
  rcases List.mem_cons.mp h with rfl | h
  ·simp
  ·have : ¬ p.1 = g:=fun z=>nd.1 (z ▸ List.mem_map.mpr ⟨_,h,rfl⟩)
   simp only [this,decide_false]
   exact ih nd.2 h
noncomputable def L0 (ks : List α) : List (α × D):=ks.zipIdx.map fun p=>(p.1,D.int (p.2 : Int))
theorem Q6x (ks : List α) : (L0 ks).map (·.1) = ks:=by
 unfold L0
 rw [List.map_map]
 exact List.zipIdx_map_fst 0 ks
theorem Z8s (ks : List α) (g : α) : L0 (ks ++ [g]) = L0 ks ++ [(g,D.int (ks.length : Int))]:=by
 unfold L0
 rw [List.zipIdx_append]
 simp
theorem Q7n {ks : List α} {g : α} (h : g ∈ ks) : D7 (L0 ks) g = some (.int (ks.idxOf g : Nat)):=by
 have key : ∀ (ks : List α) (n : Nat),g ∈ ks -> D7 (ks.zipIdx n |>.map fun p=>(p.1,D.int (p.2 : Int))) g = some (.int ((n + ks.idxOf g : Nat) : Int)):=by
  intro ks
  induction ks with
  | nil=>intro n h; cases h
  | cons k ks ih =>
   intro n h
   unfold D7 at ih ⊢
   rw [List.zipIdx_cons,List.map_cons,List.find?_cons]
   by_cases e : k = g
   ·subst e; simp
   ·have hg : g ∈ ks:=by
     rcases List.mem_cons.mp h with z | z
     ·exact absurd z.symm e
     ·exact z
    simp only [e,decide_false]
    rw [ih (n + 1) hg,List.idxOf_cons]
    have e' : (k == g) = false:=by simp [e]
    rw [e']
    simp
    omega
 have:=key ks 0 h
 rw [Nat.zero_add] at this
 exact this
end
end
abbrev Y1c : List Str:=["start","step","keys","numbers","rows","key","row","column","goal"]
def Z0s (FC2 : C7)   : WS:=(A7 (B7 2 (K1 (A0 (B1 (wV 0)) A3))) (A7 (Q6h 3 (wV 0) (wC (.int 0))) (A7 (B7 4 (K1 A3)) (A7 (Q4h 2 (Q1x (A5 (R1 fun i j=>decide (i < j)) (D4 F2 (A0 (wV 4) A3)) (D4 F2 (A0 (wV 2) A3))) (A7 (B7 5 (A5 B6 (wV 2) (D4 F2 (A0 (wV 4) A3)))) (A7 (B7 6 (K1 A3)) (A7 (Q8 (Q0x (A0 (D4 F2 (A0 (wC (.str "01ab")) A3)) A3)) (C2 7) (A7 (B7 8 (W5 FC2 2 1 (A0 (wV 5) (A0 (wV 7) A3)))) (A7 (F9 (Q3t 3 (wV 8)) (A7 (Q3n 3 (wV 8) (D4 F2 (A0 (wV 2) A3))) (L9 2 (B1 (wV 8)))) G0) (L9 6 (B1 (Q1t 3 (wV 8))))))) (L9 4 (B1 (D4 Q2 (A0 (wV 6) A3))))))))) (F4 (Q9 (A0 (B1 (wV 2)) (A0 (B1 (D4 Q2 (A0 (wV 4) A3))) A3))))))))
abbrev Y4p : List Str:=["start","step","keys","numbers","rows","key","row","column","goal"]
def Z2j (FC2 : C7)   : WS:=(A7 (B7 2 (K1 (A0 (B1 (wV 0)) A3))) (A7 (Z1s 3 (wV 0) (wC (.int 0))) (A7 (B7 4 (K1 A3)) (A7 (Q4h 2 (Q1x (A5 (R1 fun i j=>decide (i < j)) (D4 F2 (A0 (wV 4) A3)) (D4 F2 (A0 (wV 2) A3))) (A7 (B7 5 (A5 B6 (wV 2) (D4 F2 (A0 (wV 4) A3)))) (A7 (B7 6 (K1 A3)) (A7 (Q8 (Q0x (A0 (D4 F2 (A0 (wC (.str "01ab")) A3)) A3)) (C2 7) (A7 (B7 8 (W5 FC2 2 1 (A0 (wV 5) (A0 (wV 7) A3)))) (A7 (F9 (Q3k 3 (wV 8)) (A7 (Q2z 3 (wV 8) (D4 F2 (A0 (wV 2) A3))) (L9 2 (B1 (wV 8)))) G0) (L9 6 (B1 (Q4a 3 (wV 8))))))) (L9 4 (B1 (D4 Q2 (A0 (wV 6) A3))))))))) (F4 (Q9 (A0 (B1 (wV 2)) (A0 (B1 (D4 Q2 (A0 (wV 4) A3))) A3))))))))
abbrev Z4b : List Str:=["start","step","is_end","keys","texts","place","key","column","sign","goal"]
def Z2b (FC2 : C7)   : WS:=(A7 (B7 3 (K1 (A0 (B1 (wV 0)) A3))) (A7 (Q6h 4 (wV 0) (wC (.str ""))) (A7 (B7 5 (wC (.int 0))) (A7 (Q1x (A5 (R1 fun i j=>decide (i < j)) (wV 5) (D4 F2 (A0 (wV 3) A3))) (A7 (B7 6 (A5 B6 (wV 3) (wV 5))) (A7 (F9 (Z7 (W5 FC2 1 2 (A0 (wV 6) A3))) (F4 (Q1t 4 (wV 6))) G0) (A7 (Q8 (Q2m (A0 (wC (.str "01ab")) A3)) (N5 2 (E8 (C2 7) (E8 (C2 8) O1))) (A7 (B7 9 (W5 FC2 2 1 (A0 (wV 6) (A0 (wV 7) A3)))) (F9 (Q3t 4 (wV 9)) (A7 (Q3n 4 (wV 9) (A5 J9 (Q1t 4 (wV 6)) (wV 8))) (L9 3 (B1 (wV 9)))) G0))) (Q3b 5 (N3 NoC fun i j=>i + j) (wC (.int 1))))))) (F4 (wC .non))))))
abbrev Z2w : List Str:=["some","onward","reached","states","place","state","goal"]
def Q9a   (K : Fg9)  : WS:=(A7 (Z1y 2 1 [] (Q5p (wV 0)) (C2 0) (wV 0) (B1 (wC (.int 0)))) (A7 (B7 3 (D4 Q2k (A0 (wV 2) A3))) (A7 (B7 4 (wC (.int 0))) (A7 (Q1x (A5 (R1 fun i j=>decide (i < j)) (wV 4) (D4 F2 (A0 (wV 3) A3))) (A7 (B7 5 (A5 B6 (wV 3) (wV 4))) (A7 (Q8 (Q4o (B1 (A5 B6 (wV 1) (wV 5)))) (C2 6) (F9 (Q3k 2 (wV 6)) (A7 (Q2z 2 (wV 6) (A5 J9 (Q4a 2 (wV 5)) (wC (.int 1)))) (L9 3 (B1 (wV 6)))) G0)) (Q3b 4 (N3 NoC fun i j=>i + j) (wC (.int 1)))))) (Q9t K 2)))))
abbrev Q4j : List Str:=["ends","rows","wanted","backward","state","row","goal","reached"]
def Q9f   (K : Fg9) (sp_all_reached : D9) : WS:=(A7 (Z0m 3 1 [] (Q8u (wV 1)) (C2 0) (K1 A3)) (A7 (Z0z 3 (Q8 (Q2m (A0 (wV 1) A3)) (N5 2 (E8 (C2 4) (E8 (C2 5) O1))) (Q8 (Q5g (wV 5)) (C2 6) (Q4p 3 (wV 6) (B1 (wV 4)))))) (A7 (Q9m 7 (E9 sp_all_reached (A0 (W4 2 [2] (Z3o (A0 (wV 0) A3)) (N5 2 (E8 (C2 0) (E8 (C2 1) O1))) (A5 (eqD 60 false) (wV 1) (wV 2)) (B1 (wV 0))) (A0 (wV 3) A3)))) (F4 (W4 1 [7] (Q5n (A0 (D4 F2 (A0 (wV 0) A3)) A3)) (C2 0) U1 (B1 (Q9o K 1 (wV 0))))))))
abbrev Z3v : List Str:=["marks","numbers"]
noncomputable def Q9q   : WS:=(Z1i 1 (Q5p (wV 0)))
abbrev Z3q : List Str:=["ends","rows","blocks","many"]
def Q9i   (sp_numbered : D8) (sp_distances : D9) : WS:=(A7 (B7 2 (B1 (J7 sp_numbered (A0 (Z2n (A0 (E9 sp_distances (A0 (wV 0) (A0 (wV 1) (A0 (wC (.bl true)) A3)))) (A0 (E9 sp_distances (A0 (wV 0) (A0 (wV 1) (A0 (wC (.bl false)) A3)))) A3))) A3)))) (A7 (B7 3 (wC (.int 0))) (A7 (Q1x (A5 (R1 fun i j=>decide (j <= i)) (D4 Q0e (A0 (wV 2) A3)) (wV 3)) (A7 (B7 3 (A5 J9 (D4 Q0e (A0 (wV 2) A3)) (wC (.int 1)))) (B7 2 (B1 (J7 sp_numbered (A0 (W4 2 [2] (Q8m (A0 (wV 2) (A0 (wV 1) A3))) (N5 2 (E8 (C2 0) (E8 (C2 1) O1))) U1 (B1 (Q9 (A0 (B1 (wV 0)) (A0 (B1 (D4 Q2 (A0 (W4 1 [2] (Q8u (wV 1)) (C2 0) U1 (B1 (A5 B6 (wV 1) (wV 0)))) A3))) A3))))) A3)))))) (Q6q 2))))
abbrev Q9b : List Str:=["ends","rows","blocks","samples","state","block","keys","fewer_rows"]
def Q7q (K : Fg9) : WE:=(A5 B6 (wV 4) (A5 B6 (A5 B6 (wV 3) (Q6d K 2 (wV 0))) (wV 1)))
def Q8y (FC2 : C7)  (K : Fg9) (sp_told_apart : D9) (sp_walkedK : D8) : WS:=(A7 (B7 2 (B1 (E9 sp_told_apart (A0 (wV 0) (A0 (wV 1) A3))))) (A7 (Q9n 3) (A7 (Z1m K 3 (Q8 (Z3b (A0 (wV 2) A3)) (N5 2 (E8 (C2 4) (E8 (C2 5) O1))) (Q8r 3 (wV 5) (wV 4)))) (A7 (Z1r (Z3t FC2 2 [("samples",3),("rows",1),("blocks",2)] (Q7q K) sp_walkedK (A5 B6 (wV 2) (wC (.int 0)))) (N5 2 (E8 (C2 6) (E8 (C2 7) O1)))) (F4 (Q9 (A0 (B1 (D4 Q2 (A0 (W4 1 [0,3] (Q5p (wV 6)) (C2 0) U1 (B1 (A5 B6 (wV 1) (Q6d K 2 (wV 0))))) A3))) (A0 (B1 (wV 7)) A3))))))))
abbrev Z0c : List Str:=["start","step","is_end","keys","rows"]
def Z3d (FC2 : C7)  (sp_walked : D8) (sp_least : D9) : WS:=(A7 (Z1r (J7 sp_walked (A0 (wV 0) (A0 (wV 1) A3))) (N5 2 (E8 (C2 3) (E8 (C2 4) O1)))) (F4 (E9 sp_least (A0 (W4 1 [2] (Q5p (wV 3)) (C2 0) U1 (B1 (W5 FC2 1 1 (A0 (wV 0) A3)))) (A0 (wV 4) A3)))))
abbrev Z6i : List Str:=["one","other","rows","other_rows"]
def Q8a  : WE:=(Q9 (A0 (B1 (A5 B6 (A5 B6 (wV 2) (A5 B6 (wV 0) (wC (.int 0)))) (wV 1))) (A0 (B1 (A5 B6 (A5 B6 (wV 3) (A5 B6 (wV 0) (wC (.int 1)))) (wV 1))) A3)))
def Z0d : WS:=(B7 2 (A5 B6 (wV 0) (wC (.int 1))))
def Z2e : WS:=(B7 3 (A5 B6 (wV 1) (wC (.int 1))))
abbrev Z5n : List Str:=["one","other","is_end","ends","other_ends"]
def Q8t (FC1 : C7) : WE:=(W5 FC1 2 2 (A0 (A5 B6 (wV 3) (A5 B6 (wV 0) (wC (.int 0)))) (A0 (A5 B6 (wV 1) (A5 B6 (wV 0) (wC (.int 1)))) A3)))
def Z2v : WS:=(B7 3 (A5 B6 (wV 0) (wC (.int 0))))
def w2_pair_end : WS:=(B7 4 (A5 B6 (wV 1) (wC (.int 0))))
abbrev Z9z : List Str:=["one","other","is_end"]
def Q9v   (sp_built : D9) (sp_pair_step : D9) (sp_pair_end : D9) : WS:=(F4 (E9 sp_built (A0 (Q9 (A0 (B1 (wC (.int 0))) (A0 (B1 (wC (.int 0))) A3))) (A0 (E9 sp_pair_step (A0 (wV 0) (A0 (wV 1) A3))) (A0 (E9 sp_pair_end (A0 (wV 0) (A0 (wV 1) (A0 (wV 2) A3)))) A3)))))
abbrev Z8m : List Str:=["one","other","is_wanted"]
def Z0h   (sp_first_text : D8) (sp_pair_step : D9) (sp_pair_end : D9) : WS:=(F4 (J7 sp_first_text (A0 (Q9 (A0 (B1 (wC (.int 0))) (A0 (B1 (wC (.int 0))) A3))) (A0 (E9 sp_pair_step (A0 (wV 0) (A0 (wV 1) A3))) (A0 (E9 sp_pair_end (A0 (wV 0) (A0 (wV 1) (A0 (wV 2) A3)))) A3)))))
abbrev Y1g : List Str:=["one","other"]
def Q4r : WE:=(Z2 (wV 0) (Q3g (wV 1)))
def Z4w (FC1 : C7)  (sp_first_of_both : D9) : WS:=(F4 (E9 sp_first_of_both (A0 (wV 0) (A0 (wV 1) (A0 (Q0t FC1 2 (J5 Q4r [])) A3)))))
abbrev Z5q : List Str:=["one","other"]
def Q5m : WE:=(Z2 (wV 0) (wV 1))
def Z8j (FC1 : C7)  (sp_first_of_both : D9) : WS:=(F4 (E9 sp_first_of_both (A0 (wV 0) (A0 (wV 1) (A0 (Q0t FC1 2 (J5 Q5m [])) A3)))))
abbrev Y1w : List Str:=["one","other"]
def Q4k : WE:=(wB (A5 G9 (wV 0) (wV 1)))
def Z6k (FC1 : C7)  (sp_first_of_both : D9) : WS:=(F4 (E9 sp_first_of_both (A0 (wV 0) (A0 (wV 1) (A0 (Q0t FC1 2 (J5 Q4k [])) A3)))))
abbrev Z6u : List Str:=["one","other"]
def Z1j   (sp_parting : D9) : WS:=(F4 (wB (A5 (M9 false) (E9 sp_parting (A0 (wV 0) (A0 (wV 1) A3))) (wC .non))))
abbrev Z7q : List Str:=["one","other"]
def Z0l   (sp_unlike : D9) (sp_within : D9) (sp_meeting : D9) : WS:=(A7 (F9 (A5 (M9 false) (E9 sp_unlike (A0 (wV 0) (A0 (wV 1) A3))) (wC .non)) (F4 (wC (.str "same"))) G0) (A7 (F9 (Z7 (E9 sp_within (A0 (wV 0) (A0 (wV 1) A3)))) (F4 (wC (.str "less"))) G0) (A7 (F9 (Z7 (E9 sp_within (A0 (wV 1) (A0 (wV 0) A3)))) (F4 (wC (.str "more"))) G0) (F4 (wIf (A5 (M9 false) (E9 sp_meeting (A0 (wV 0) (A0 (wV 1) A3))) (wC .non)) (wC (.str "apart")) (wC (.str "cross")))))))
abbrev Z6b : List Str:=["one","other"]
def Q5o : WE:=(Z1f (wV 0) (wV 1))
def Y1q (FC1 : C7)  (sp_side_by_side : D9) : WS:=(F4 (E9 sp_side_by_side (A0 (wV 0) (A0 (wV 1) (A0 (Q0t FC1 2 (J5 Q5o [])) A3)))))
abbrev Y0z : List Str:=["one","other"]
def Q5a : WE:=(Z2 (wV 0) (wV 1))
def Y0b (FC1 : C7)  (sp_side_by_side : D9) : WS:=(F4 (E9 sp_side_by_side (A0 (wV 0) (A0 (wV 1) (A0 (Q0t FC1 2 (J5 Q5a [])) A3)))))
abbrev Z8z : List Str:=["_law_script","_law_k"]
def Q8q   : WS:=(A7 (F9 (A5 (eqD 60 false) (wV 0) (K1 A3)) (F4 (A5 V4 (wC (.int 7)) (wV 1))) G0) (F4 (A5 J9 (A5 B6 (wV 0) (A5 (N3 (fun _ j=>0 < j) fun i j=>i % j) (wV 1) (D4 F2 (A0 (wV 0) A3)))) (A5 V4 (wC (.int 6553)) (A5 (N3 Q0f fun i j=>i / j) (wV 1) (D4 F2 (A0 (wV 0) A3)))))))
abbrev Z9x : List Str:=["_law_script","_law_k","_law_many","_law_cell_here"]
def Q8v  (sp_law_cell : D8) : WS:=(A7 (B7 3 (A5 (N3 (fun _ j=>0 < j) fun i j=>i % j) (A5 J9 (A5 V4 (A5 (N3 (fun _ j=>0 < j) fun i j=>i % j) (J7 sp_law_cell (A0 (wV 0) (A0 (wV 1) A3))) (wC (.int 2147483563))) (wC (.int 69069))) (A5 V4 (wC (.int 104723)) (A5 J9 (wV 1) (wC (.int 1))))) (wC (.int 2147483563)))) (A7 (B7 3 (A5 (N3 (fun _ j=>0 < j) fun i j=>i % j) (A5 J9 (A5 V4 (wV 3) (wV 3)) (A5 (N3 Q0f fun i j=>i / j) (wV 3) (wC (.int 3)))) (wC (.int 2147483399)))) (F4 (A5 (N3 (fun _ j=>0 < j) fun i j=>i % j) (A5 (N3 Q0f fun i j=>i / j) (A5 (N3 (fun _ j=>0 < j) fun i j=>i % j) (A5 J9 (A5 V4 (wV 3) (wV 3)) (A5 (N3 Q0f fun i j=>i / j) (wV 3) (wC (.int 7)))) (wC (.int 2147483647))) (wC (.int 11))) (wV 2)))))
abbrev Q7m : List Str:=["_law_script","_law_at","_law_most","_law_size","_law_ends","_law_rows","_law_k"]
def Z2c  (sp_law_drawn : D8) : WS:=(A7 (B7 3 (A5 J9 (wC (.int 1)) (J7 sp_law_drawn (A0 (wV 0) (A0 (wV 1) (A0 (wV 2) A3)))))) (A7 (B7 4 (D4 Q2 (A0 (W4 1 [0,1] (Q5n (A0 (wV 3) A3)) (C2 0) U1 (B1 (wB (A5 (eqD 60 false) (J7 sp_law_drawn (A0 (wV 1) (A0 (A5 J9 (A5 J9 (wV 2) (wC (.int 1))) (wV 0)) (A0 (wC (.int 2)) A3)))) (wC (.int 0)))))) A3))) (A7 (B7 5 (K1 A3)) (A7 (Q8 (Q0x (A0 (wV 3) A3)) (C2 6) (L9 5 (B1 (D4 Q2 (A0 (W4 1 [0,3,1,6] (Q5n (A0 (wC (.int 4)) A3)) (C2 0) U1 (B1 (J7 sp_law_drawn (A0 (wV 1) (A0 (A5 J9 (A5 J9 (A5 J9 (wV 3) (wC (.int 7))) (A5 V4 (wC (.int 4)) (wV 4))) (wV 0)) (A0 (wV 2) A3)))))) A3))))) (F4 (Q9 (A0 (B1 (wV 4)) (A0 (B1 (D4 Q2 (A0 (wV 5) A3))) A3))))))))
abbrev Y0q : List Str:=["_law_one","_law_other","_law_way","_law_met","_law_row","_law_longer","_law_text_here","_law_here","_law_mine","_law_yours","_law_k","_law_sign","_law_there"]
def Z0a   : WS:=(A7 (B7 3 (K1 (A0 (B1 (Q9 (A0 (B1 (wC (.int 0))) (A0 (B1 (wC (.int 0))) A3)))) A3))) (A7 (B7 4 (B1 (K1 (A0 (B1 (Q9 (A0 (B1 (wC (.str ""))) (A0 (B1 (Q9 (A0 (B1 (wC (.int 0))) (A0 (B1 (wC (.int 0))) A3)))) A3)))) A3)))) (A7 (Q1x (A5 (eqD 59 true) (wV 4) (K1 A3)) (A7 (B7 5 (K1 A3)) (A7 (Q4h 5 (Q8 (Q4o (B1 (wV 4))) (N5 2 (E8 (C2 6) (E8 (C2 7) O1))) (A7 (B7 8 (A5 B6 (A5 B6 (wV 0) (wC (.int 0))) (A5 B6 (wV 7) (wC (.int 0))))) (A7 (B7 9 (A5 B6 (A5 B6 (wV 1) (wC (.int 0))) (A5 B6 (wV 7) (wC (.int 1))))) (A7 (F9 (Z7 (A5 B6 (K1 (A0 (B1 (Z2 (wV 8) (Q3g (wV 9)))) (A0 (B1 (Z2 (wV 8) (wV 9))) (A0 (B1 (wB (A5 G9 (wV 8) (wV 9)))) A3)))) (wV 2))) (Q6q 6) G0) (Q8 (Q2m (A0 (wC (.str "01ab")) A3)) (N5 2 (E8 (C2 10) (E8 (C2 11) O1))) (A7 (B7 12 (Q9 (A0 (B1 (A5 B6 (A5 B6 (A5 B6 (wV 0) (wC (.int 1))) (A5 B6 (wV 7) (wC (.int 0)))) (wV 10))) (A0 (B1 (A5 B6 (A5 B6 (A5 B6 (wV 1) (wC (.int 1))) (A5 B6 (wV 7) (wC (.int 1)))) (wV 10))) A3)))) (F9 (A5 (inL 59 true) (wV 12) (wV 3)) (A7 (L9 3 (B1 (wV 12))) (L9 5 (B1 (Q9 (A0 (B1 (A5 J9 (wV 6) (wV 11))) (A0 (B1 (wV 12)) A3)))))) G0)))))))) (B7 4 (B1 (wV 5)))))) (F4 (wC .non)))))
noncomputable abbrev iD (n : Nat) : D:=.int (n : Int)
noncomputable abbrev rD (r : List Nat) : D:=.tup (r.map iD)
noncomputable abbrev rsD (rs : List (List Nat)) : D:=.tup (rs.map rD)
theorem sz {n : Nat} (h : n <= 1000000) : n <= sizeLine:=Nat.le_trans h (by decide)
theorem P5 {n : Nat} (h : n <= 1000000) : n < sizeLine:=Nat.lt_of_le_of_lt h (by decide)
theorem ixn {n j : Nat} (h : j < n) : ixN n (j : Int) = some j:=by
 have : K7 (List.range n) (j : Int) = some j:=V1 (by rw [List.getElem?_eq_getElem (by simpa using h)]; simp)
 unfold K7 at this
 rw [List.length_range] at this
 cases e : ixN n (j : Int) with
 | none=>rw [e] at this; cases this
 | some k =>
  rw [e] at this
  have this : (List.range n)[k]? = some j:=this
  obtain ⟨hk,e2⟩:=List.getElem?_eq_some_iff.mp this
  rw [<- e2,List.getElem_range]
section
variable {α : Type} [DecidableEq α] {FC : C7} {f : Addr} {Φ : Hp -> Prop} {sp : D8} {step : α -> Nat -> α}
section T
variable {ts : α -> List D} {key : α -> List B0}
def wbT (FC2 : C7) : WS:=(A7 (B7 8 (W5 FC2 2 1 (A0 (wV 5) (A0 (wV 7) A3)))) (A7 (F9 (Q3t 3 (wV 8)) (A7 (Q3n 3 (wV 8) (D4 F2 (A0 (wV 2) A3))) (L9 2 (B1 (wV 8)))) G0) (L9 6 (B1 (Q1t 3 (wV 8))))))
theorem forT (hk : ∀ a,P6 (ts a) = some (key a)) (inj : ∀ a b,key a = key b -> a = b) (hF : FC 2 f Φ sp) {k : α} {E : E6} {o0 o4 : Option Sl} : ∀ (cs : List Nat) (ks : List α) (r : List Nat) (o7 o8 : Option Sl),
  (∀ c ∈ cs,sp [.st (.tup (ts k)),.st (iD c)] (.st (.tup (ts (step k c))))) -> ks.length + cs.length <= 1000000 -> r.length + cs.length <= 1000000 ->
  (∀ o7 o8,E.nx [o0,some (.cl f Φ),some (.own ((G7 (step k) cs ks r).1.map fun a=>.tup (ts a))),some (.dt (J4 key (L0 (G7 (step k) cs ks r).1))),o4,some (.dat (.tup (ts k))),some (.own ((G7 (step k) cs ks r).2.map iD)),o7,o8]) ->
  E2 (C2 7) (wbT FC) E (cs.map iD) [o0,some (.cl f Φ),some (.own (ks.map fun a=>.tup (ts a))),some (.dt (J4 key (L0 ks))),o4,some (.dat (.tup (ts k))),some (.own (r.map iD)),o7,o8]
 | [],ks,r,o7,o8,_,_,_,h=>h o7 o8
 | c :: cs,ks,r,o7,o8,hs,h1,h2,h=>by
  rw [List.length_cons] at h1 h2
  have hs0:=hs c List.mem_cons_self
  have ih:=fun ks' r'=>forT hk inj hF (k:=k) (E:=E) (o0:=o0) (o4:=o4) cs ks' r'
  simp only [List.map_cons,E2]
  have hv:=Q0s inj (L0 ks) (step k c)
  have hi : (D7 (J4 key (L0 ks)) (key (step k c))).isSome = decide (step k c ∈ ks):=by rw [hv,Q6r,Q6x]
  simp only [wbT,G4,S0,K2,Q3p,D6,C3,C6,V7,Z9l,Z7s,Q1h,G1,U9,Q9d,L5]
  refine ⟨f,Φ,sp,rfl,hF,.dat (.tup (ts k)),rfl,.dat (iD c),rfl,rfl,_,hs0,?_⟩
  simp only [N1]
  refine ⟨_,rfl,_,rfl,ts (step k c),key (step k c),rfl,hk _,?_⟩
  rw [hi]
  by_cases hm : step k c ∈ ks
  ·have ea : P7 ks (step k c) = ks:=Z5o hm
   rw [if_neg (by simp [hm])]
   refine ⟨_,rfl,_,rfl,_,rfl,ts (step k c),key (step k c),_,rfl,hk _,by rw [hv]; exact Q7n hm,_,rfl,P5 (by simp; omega),?_⟩
   have e : (r.map iD ++ [D.int ((ks.idxOf (step k c) : Nat) : Int)]) = (r ++ [ks.idxOf (step k c)]).map iD:=by simp
   show E2 _ _ _ _ [_,_,_,_,_,_,some (.own (r.map iD ++ [_])),_,_]
   rw [e]
   refine ih ks _ _ _ (fun c hc=>hs c (List.mem_cons_of_mem _ hc)) (by omega) (by simp; omega) ?_
   simpa only [G7,ea] using h
  ·have ea : P7 ks (step k c) = ks ++ [step k c]:=Z5z hm
   rw [if_pos (by simp [hm])]
   refine ⟨_,rfl,_,rfl,_,rfl,_,rfl,ts (step k c),key (step k c),rfl,hk _,P5 (by simp [J4,L0]; omega),?_⟩
   have ep : L4 (J4 key (L0 ks)) (key (step k c)) (.int (ks.length : Int)) = J4 key (L0 (ks ++ [step k c])):=by
    rw [Q8i inj (by rw [Q6x]; exact hm),Z8s]
   refine ⟨_,rfl,_,rfl,_,rfl,P5 (by simp; omega),?_⟩
   refine ⟨_,rfl,_,rfl,_,rfl,ts (step k c),key (step k c),.int (((ks ++ [step k c]).idxOf (step k c) : Nat) : Int),rfl,hk _,?_,_,rfl,P5 (by simp; omega),?_⟩
   ·rw [List.length_map,ep,Q0s inj]; exact Q7n (by simp)
   ·have e : (r.map iD ++ [D.int (((ks ++ [step k c]).idxOf (step k c) : Nat) : Int)]) = (r ++ [(ks ++ [step k c]).idxOf (step k c)]).map iD:=by simp
    have e2 : (ks.map fun a=>D.tup (ts a)) ++ [D.tup (ts (step k c))] = (ks ++ [step k c]).map fun a=>D.tup (ts a):=by simp
    show E2 _ _ _ _ [_,_,some (.own ((ks.map fun a=>D.tup (ts a)) ++ [D.tup (ts (step k c))])),some (.dt (L4 (J4 key (L0 ks)) (key (step k c)) (.int ((ks.map fun a=>D.tup (ts a)).length : Int)))),_,_,some (.own (r.map iD ++ [_])),_,_]
    rw [e,e2,List.length_map,ep]
    refine ih _ _ _ _ (fun c hc=>hs c (List.mem_cons_of_mem _ hc)) (by simp; omega) (by simp; omega) ?_
    simpa only [G7,ea] using h
def wtT : WT:=(A5 (R1 fun i j=>decide (i < j)) (D4 F2 (A0 (wV 4) A3)) (D4 F2 (A0 (wV 2) A3)))
def wlT (FC2 : C7) : WS:=(A7 (B7 5 (A5 B6 (wV 2) (D4 F2 (A0 (wV 4) A3)))) (A7 (B7 6 (K1 A3)) (A7 (Q8 (Q0x (A0 (D4 F2 (A0 (wC (.str "01ab")) A3)) A3)) (C2 7) (wbT FC2)) (L9 4 (B1 (D4 Q2 (A0 (wV 6) A3)))))))
theorem r4 : Q4 0 (Int.toNat ((Str.ofString "01ab").length : Int)) = C9.map iD:=rfl
theorem Y3e (hk : ∀ a,P6 (ts a) = some (key a)) (inj : ∀ a b,key a = key b -> a = b) (hF : FC 2 f Φ sp) {start : α} {U : List α} {E : E6} {o0 : Option Sl} (hU : ∀ k ∈ U,∀ c ∈ C9,step k c ∈ U) (hl : U.length <= 100000)
  (hs : ∀ k ∈ U,∀ c ∈ C9,sp [.st (.tup (ts k)),.st (iD c)] (.st (.tup (ts (step k c))))) : ∀ (n : Nat) (ks : List α) (rs : List (List Nat)) (o5 o6 o7 o8 : Option Sl),V5 step start U ks rs -> U.length <= n + rs.length ->
  (∀ o5 o6 o7 o8,E.nx [o0,some (.cl f Φ),some (.own ((O3 step n ks rs).1.map fun a=>.tup (ts a))),some (.dt (J4 key (L0 (O3 step n ks rs).1))),some (.own ((O3 step n ks rs).2.map rD)),o5,o6,o7,o8]) ->
  F5 wtT (wlT FC) (n + 1) E [o0,some (.cl f Φ),some (.own (ks.map fun a=>.tup (ts a))),some (.dt (J4 key (L0 ks))),some (.own (rs.map rD)),o5,o6,o7,o8]:=by
 intro n
 induction n with
 | zero =>
  intro ks rs o5 o6 o7 o8 W hn h
  have b:=W.bound
  simp only [F5,wtT,E3,L5,D6,C3,C6]
  refine ⟨_,rfl,_,rfl,?_⟩
  simp only [T3,Y1,Q0d,List.length_map]
  rw [if_neg (by simp; omega)]
  exact h _ _ _ _
 | succ n ih =>
  intro ks rs o5 o6 o7 o8 W hn h
  have b:=W.bound
  have hle:=W.len
  rw [F5]
  simp only [wtT,E3,L5,D6,C3,C6]
  refine ⟨_,rfl,_,rfl,?_⟩
  simp only [T3,Y1,Q0d,List.length_map]
  by_cases hlt : rs.length < ks.length
  ·rw [if_pos (by simpa using hlt)]
   have hk' : ks[rs.length]? = some ks[rs.length]:=List.getElem?_eq_getElem hlt
   have kin:=List.getElem_mem hlt
   generalize ks[rs.length] = k at hk' kin
   have W2:=W.next hU hk'
   have b2:=W2.bound
   simp only [wlT,G4,K2,E3,L5,D6,C3,C6,s_lst,Q0h,Z0p,F3,Q1h,G1]
   refine ⟨_,rfl,_,rfl,?_⟩
   simp only [T3,Y1,Q5s]
   refine ⟨.tup (ts k),by rw [List.length_map]; exact V1 (by rw [List.getElem?_map,hk']; rfl),?_⟩
   refine ⟨_,rfl,sz (by simp),?_⟩
   rw [Q2o,Z6p]
   refine ⟨sz (by decide),_,rfl,by decide,by decide,?_⟩
   rw [r4]
   have hW:=h
   rw [O3,hk'] at hW
   refine forT hk inj hF (o0:=o0) (o4:=some (.own (rs.map rD))) C9 ks [] _ _ (hs k (W.sub k kin)) (by simp; omega) (by simp) fun o7 o8=>?_
   simp only [N1,Q2o,Q4x,Q1c,Q7w]
   refine ⟨_,rfl,_,rfl,_,rfl,_,rfl,P5 (by simp; omega),?_⟩
   have e : rs.map rD ++ [D.tup ((G7 (step k) C9 ks []).2.map iD)] = (rs ++ [(G7 (step k) C9 ks []).2]).map rD:=by simp
   show F5 wtT (wlT FC) (n + 1) E [_,_,_,_,some (.own (rs.map rD ++ [D.tup ((G7 (step k) C9 ks []).2.map iD)])),_,_,_,_]
   rw [e]
   exact ih _ _ _ _ _ _ W2 (by simp; omega) hW
  ·rw [if_neg (by simpa using hlt)]
   have e : ks[rs.length]? = none:=List.getElem?_eq_none_iff.mpr (by omega)
   rw [O3,e] at h
   exact h _ _ _ _
noncomputable def sp_walked (FC : C7) : D8:=fun rs r=>∃ (α : Type) (_ : DecidableEq α) (ts : α -> List D) (key : α -> List B0) (step : α -> Nat -> α) (start : α) (U : List α) (f : Addr) (Φ : Hp -> Prop) (sp : D8),
 (∀ a,P6 (ts a) = some (key a)) /\ (∀ a b,key a = key b -> a = b) /\ rs = [.st (.tup (ts start)),.cl f Φ] /\ FC 2 f Φ sp /\ start ∈ U /\ U.length <= 100000 /\ (∀ k ∈ U,∀ c ∈ C9,step k c ∈ U /\ sp [.st (.tup (ts k)),.st (iD c)] (.st (.tup (ts (step k c))))) /\
 r = .st (.tup [.lst ((Z1 U.length step start).1.map fun a=>.tup (ts a)),rsD (Z1 U.length step start).2])
theorem Y3w {FC : C7} : ∀ rs r,rs.length = 2 -> sp_walked FC rs r -> Z0s FC (Y8 r) (E4 Y1c rs):=by
 rintro rs r _ ⟨α,_,ts,key,step,start,U,f,Φ,sp,hk,inj,rfl,hF,hs,hl,hU,rfl⟩
 have l2 : (2 : Nat) <= sizeLine:=by decide
 unfold Z0s
 simp only [G4,K2,s_lst,D6,G1,C3,C6,Z8h,F3,Z1g,S9,s_tup,L5]
 refine ⟨_,rfl,_,rfl,sz (by simp),?_⟩
 refine ⟨_,rfl,ts start,key start,rfl,hk _,_,rfl,_,rfl,sz (by simp),?_⟩
 refine ⟨U.length + 1,?_⟩
 refine Y3e hk inj hF (step:=step) (start:=start) (U:=U) (fun k h c hc=>(hU k h c hc).1) hl (fun k h c hc=>(hU k h c hc).2) U.length [start] [] _ _ _ _ (V5.start hs) (by simp) fun o5 o6 o7 o8=>?_
 refine ⟨_,rfl,_,rfl,_,rfl,?_⟩
 simp only [G3,T3,Q4x,Q1c,Q7w]
 refine ⟨_,rfl,_,rfl,l2,rfl⟩
end T
end
section
variable {α : Type} [DecidableEq α] {FC : C7} {f : Addr} {Φ : Hp -> Prop} {sp : D8} {step : α -> Nat -> α}
section T
variable {en : α -> D} {key : α -> B0}
def wbK (FC2 : C7) : WS:=(A7 (B7 8 (W5 FC2 2 1 (A0 (wV 5) (A0 (wV 7) A3)))) (A7 (F9 (Q3k 3 (wV 8)) (A7 (Q2z 3 (wV 8) (D4 F2 (A0 (wV 2) A3))) (L9 2 (B1 (wV 8)))) G0) (L9 6 (B1 (Q4a 3 (wV 8))))))
theorem forK (hk : ∀ a,N9 (en a) = some (key a)) (inj : ∀ a b,key a = key b -> a = b) (hF : FC 2 f Φ sp) {k : α} {E : E6} {o0 o4 : Option Sl} : ∀ (cs : List Nat) (ks : List α) (r : List Nat) (o7 o8 : Option Sl),
  (∀ c ∈ cs,sp [.st ((en k)),.st (iD c)] (.st ((en (step k c))))) -> ks.length + cs.length <= 1000000 -> r.length + cs.length <= 1000000 ->
  (∀ o7 o8,E.nx [o0,some (.cl f Φ),some (.own ((G7 (step k) cs ks r).1.map fun a=>(en a))),some (.dk (J4 key (L0 (G7 (step k) cs ks r).1))),o4,some (.dat ((en k))),some (.own ((G7 (step k) cs ks r).2.map iD)),o7,o8]) ->
  E2 (C2 7) (wbK FC) E (cs.map iD) [o0,some (.cl f Φ),some (.own (ks.map fun a=>(en a))),some (.dk (J4 key (L0 ks))),o4,some (.dat ((en k))),some (.own (r.map iD)),o7,o8]
 | [],ks,r,o7,o8,_,_,_,h=>h o7 o8
 | c :: cs,ks,r,o7,o8,hs,h1,h2,h=>by
  rw [List.length_cons] at h1 h2
  have hs0:=hs c List.mem_cons_self
  have ih:=fun ks' r'=>forK hk inj hF (k:=k) (E:=E) (o0:=o0) (o4:=o4) cs ks' r'
  simp only [List.map_cons,E2]
  have hv:=Q0s inj (L0 ks) (step k c)
  have hi : (D7 (J4 key (L0 ks)) (key (step k c))).isSome = decide (step k c ∈ ks):=by rw [hv,Q6r,Q6x]
  simp only [wbK,G4,S0,K2,Q3p,D6,C3,C6,V7,Y1x,Y2c,Q1h,G1,U9,Z7i,L5]
  refine ⟨f,Φ,sp,rfl,hF,.dat ((en k)),rfl,.dat (iD c),rfl,rfl,_,hs0,?_⟩
  simp only [N1]
  refine ⟨_,rfl,_,rfl,en (step k c),key (step k c),rfl,hk _,?_⟩
  rw [hi]
  by_cases hm : step k c ∈ ks
  ·have ea : P7 ks (step k c) = ks:=Z5o hm
   rw [if_neg (by simp [hm])]
   refine ⟨_,rfl,_,rfl,_,rfl,en (step k c),key (step k c),_,rfl,hk _,by rw [hv]; exact Q7n hm,_,rfl,P5 (by simp; omega),?_⟩
   have e : (r.map iD ++ [D.int ((ks.idxOf (step k c) : Nat) : Int)]) = (r ++ [ks.idxOf (step k c)]).map iD:=by simp
   show E2 _ _ _ _ [_,_,_,_,_,_,some (.own (r.map iD ++ [_])),_,_]
   rw [e]
   refine ih ks _ _ _ (fun c hc=>hs c (List.mem_cons_of_mem _ hc)) (by omega) (by simp; omega) ?_
   simpa only [G7,ea] using h
  ·have ea : P7 ks (step k c) = ks ++ [step k c]:=Z5z hm
   rw [if_pos (by simp [hm])]
   refine ⟨_,rfl,_,rfl,_,rfl,_,rfl,en (step k c),key (step k c),rfl,hk _,P5 (by simp [J4,L0]; omega),?_⟩
   have ep : L4 (J4 key (L0 ks)) (key (step k c)) (.int (ks.length : Int)) = J4 key (L0 (ks ++ [step k c])):=by
    rw [Q8i inj (by rw [Q6x]; exact hm),Z8s]
   refine ⟨_,rfl,_,rfl,_,rfl,P5 (by simp; omega),?_⟩
   refine ⟨_,rfl,_,rfl,_,rfl,en (step k c),key (step k c),.int (((ks ++ [step k c]).idxOf (step k c) : Nat) : Int),rfl,hk _,?_,_,rfl,P5 (by simp; omega),?_⟩
   ·rw [List.length_map,ep,Q0s inj]; exact Q7n (by simp)
   ·have e : (r.map iD ++ [D.int (((ks ++ [step k c]).idxOf (step k c) : Nat) : Int)]) = (r ++ [(ks ++ [step k c]).idxOf (step k c)]).map iD:=by simp
    have e2 : (ks.map fun a=>en a) ++ [en (step k c)] = (ks ++ [step k c]).map fun a=>en a:=by simp
    show E2 _ _ _ _ [_,_,some (.own ((ks.map fun a=>en a) ++ [en (step k c)])),some (.dk (L4 (J4 key (L0 ks)) (key (step k c)) (.int ((ks.map fun a=>en a).length : Int)))),_,_,some (.own (r.map iD ++ [_])),_,_]
    rw [e,e2,List.length_map,ep]
    refine ih _ _ _ _ (fun c hc=>hs c (List.mem_cons_of_mem _ hc)) (by simp; omega) (by simp; omega) ?_
    simpa only [G7,ea] using h
def wtK : WT:=(A5 (R1 fun i j=>decide (i < j)) (D4 F2 (A0 (wV 4) A3)) (D4 F2 (A0 (wV 2) A3)))
def wlK (FC2 : C7) : WS:=(A7 (B7 5 (A5 B6 (wV 2) (D4 F2 (A0 (wV 4) A3)))) (A7 (B7 6 (K1 A3)) (A7 (Q8 (Q0x (A0 (D4 F2 (A0 (wC (.str "01ab")) A3)) A3)) (C2 7) (wbK FC2)) (L9 4 (B1 (D4 Q2 (A0 (wV 6) A3)))))))
theorem W5i (hk : ∀ a,N9 (en a) = some (key a)) (inj : ∀ a b,key a = key b -> a = b) (hF : FC 2 f Φ sp) {start : α} {U : List α} {E : E6} {o0 : Option Sl} (hU : ∀ k ∈ U,∀ c ∈ C9,step k c ∈ U) (hl : U.length <= 100000)
  (hs : ∀ k ∈ U,∀ c ∈ C9,sp [.st ((en k)),.st (iD c)] (.st ((en (step k c))))) : ∀ (n : Nat) (ks : List α) (rs : List (List Nat)) (o5 o6 o7 o8 : Option Sl),V5 step start U ks rs -> U.length <= n + rs.length ->
  (∀ o5 o6 o7 o8,E.nx [o0,some (.cl f Φ),some (.own ((O3 step n ks rs).1.map fun a=>(en a))),some (.dk (J4 key (L0 (O3 step n ks rs).1))),some (.own ((O3 step n ks rs).2.map rD)),o5,o6,o7,o8]) ->
  F5 wtK (wlK FC) (n + 1) E [o0,some (.cl f Φ),some (.own (ks.map fun a=>(en a))),some (.dk (J4 key (L0 ks))),some (.own (rs.map rD)),o5,o6,o7,o8]:=by
 intro n
 induction n with
 | zero =>
  intro ks rs o5 o6 o7 o8 W hn h
  have b:=W.bound
  simp only [F5,wtK,E3,L5,D6,C3,C6]
  refine ⟨_,rfl,_,rfl,?_⟩
  simp only [T3,Y1,Q0d,List.length_map]
  rw [if_neg (by simp; omega)]
  exact h _ _ _ _
 | succ n ih =>
  intro ks rs o5 o6 o7 o8 W hn h
  have b:=W.bound
  have hle:=W.len
  rw [F5]
  simp only [wtK,E3,L5,D6,C3,C6]
  refine ⟨_,rfl,_,rfl,?_⟩
  simp only [T3,Y1,Q0d,List.length_map]
  by_cases hlt : rs.length < ks.length
  ·rw [if_pos (by simpa using hlt)]
   have hk' : ks[rs.length]? = some ks[rs.length]:=List.getElem?_eq_getElem hlt
   have kin:=List.getElem_mem hlt
   generalize ks[rs.length] = k at hk' kin
   have W2:=W.next hU hk'
   have b2:=W2.bound
   simp only [wlK,G4,K2,E3,L5,D6,C3,C6,s_lst,Q0h,Z0p,F3,Q1h,G1]
   refine ⟨_,rfl,_,rfl,?_⟩
   simp only [T3,Y1,Q5s]
   refine ⟨(en k),by rw [List.length_map]; exact V1 (by rw [List.getElem?_map,hk']; rfl),?_⟩
   refine ⟨_,rfl,sz (by simp),?_⟩
   rw [Q2o,Z6p]
   refine ⟨sz (by decide),_,rfl,by decide,by decide,?_⟩
   rw [r4]
   have hW:=h
   rw [O3,hk'] at hW
   refine forK hk inj hF (o0:=o0) (o4:=some (.own (rs.map rD))) C9 ks [] _ _ (hs k (W.sub k kin)) (by simp; omega) (by simp) fun o7 o8=>?_
   simp only [N1,Q2o,Q4x,Q1c,Q7w]
   refine ⟨_,rfl,_,rfl,_,rfl,_,rfl,P5 (by simp; omega),?_⟩
   have e : rs.map rD ++ [D.tup ((G7 (step k) C9 ks []).2.map iD)] = (rs ++ [(G7 (step k) C9 ks []).2]).map rD:=by simp
   show F5 wtK (wlK FC) (n + 1) E [_,_,_,_,some (.own (rs.map rD ++ [D.tup ((G7 (step k) C9 ks []).2.map iD)])),_,_,_,_]
   rw [e]
   exact ih _ _ _ _ _ _ W2 (by simp; omega) hW
  ·rw [if_neg (by simpa using hlt)]
   have e : ks[rs.length]? = none:=List.getElem?_eq_none_iff.mpr (by omega)
   rw [O3,e] at h
   exact h _ _ _ _
noncomputable def sp_walkedK (FC : C7) : D8:=fun rs r=>∃ (α : Type) (_ : DecidableEq α) (en : α -> D) (key : α -> B0) (step : α -> Nat -> α) (start : α) (U : List α) (f : Addr) (Φ : Hp -> Prop) (sp : D8),
 (∀ a,N9 (en a) = some (key a)) /\ (∀ a b,key a = key b -> a = b) /\ rs = [.st ((en start)),.cl f Φ] /\ FC 2 f Φ sp /\ start ∈ U /\ U.length <= 100000 /\ (∀ k ∈ U,∀ c ∈ C9,step k c ∈ U /\ sp [.st ((en k)),.st (iD c)] (.st ((en (step k c))))) /\
 r = .st (.tup [.lst ((Z1 U.length step start).1.map fun a=>(en a)),rsD (Z1 U.length step start).2])
theorem W2i {FC : C7} : ∀ rs r,rs.length = 2 -> sp_walkedK FC rs r -> Z2j FC (Y8 r) (E4 Y4p rs):=by
 rintro rs r _ ⟨α,_,en,key,step,start,U,f,Φ,sp,hk,inj,rfl,hF,hs,hl,hU,rfl⟩
 have l2 : (2 : Nat) <= sizeLine:=by decide
 unfold Z2j
 simp only [G4,K2,s_lst,D6,G1,C3,C6,W4p,F3,Z1g,S9,s_tup,L5]
 refine ⟨_,rfl,_,rfl,sz (by simp),?_⟩
 refine ⟨(by decide : 3 < 9),_,rfl,en start,key start,rfl,hk _,_,rfl,_,rfl,sz (by simp),?_⟩
 refine ⟨U.length + 1,?_⟩
 refine W5i hk inj hF (step:=step) (start:=start) (U:=U) (fun k h c hc=>(hU k h c hc).1) hl (fun k h c hc=>(hU k h c hc).2) U.length [start] [] _ _ _ _ (V5.start hs) (by simp) fun o5 o6 o7 o8=>?_
 refine ⟨_,rfl,_,rfl,_,rfl,?_⟩
 simp only [G3,T3,Q4x,Q1c,Q7w]
 refine ⟨_,rfl,_,rfl,l2,rfl⟩
end T
end
noncomputable abbrev ik (n : Nat) : B0:=.inl (n : Int)
theorem Q2e (a b : Nat) (h : ik a = ik b) : a = b:=by
 have : (a : Int) = (b : Int):=Sum.inl.inj h
 omega
noncomputable abbrev kR (R : List (Nat × Nat)) : List (B0 × D):=J4 ik (R.map fun q=>(q.1,iD q.2))
noncomputable def N2 (R : List (Nat × Nat)) (g d : Nat) : List (Nat × Nat):=if g ∈ R.map (·.1) then R else R ++ [(g,d)]
noncomputable def goR (d : Nat) : List Nat -> List (Nat × Nat) -> List (Nat × Nat)
 | [],R=>R
 | g :: gs,R=>goR d gs (N2 R g d)
noncomputable def Q3z (on : List (List Nat)) : Nat -> List (Nat × Nat) -> Nat -> List (Nat × Nat)
 | 0,R,_=>R
 | n + 1,R,p=>match R[p]? with
  | none=>R
  | some q=>Q3z on n (goR (q.2 + 1) (on[q.1]?.getD []) R) (p + 1)
noncomputable def Q3u (on : List (List Nat)) (xs : List Nat) : List (Nat × Nat):=Q3z on on.length (xs.map fun x=>(x,0)) 0
theorem Z2l (R : List (Nat × Nat)) : (R.map fun q=>(q.1,iD q.2)).map (·.1) = R.map (·.1):=by simp
theorem Y4h (R : List (Nat × Nat)) (g d : Nat) : R <+: N2 R g d:=by
 unfold N2; split
 ·exact List.prefix_refl _
 ·exact List.prefix_append _ _
theorem W1e {R : List (Nat × Nat)} {g d : Nat} (h : (R.map (·.1)).Nodup) : ((N2 R g d).map (·.1)).Nodup:=by
 unfold N2; split
 ·exact h
 ·rename_i n
  rw [List.map_append,List.nodup_append]
  exact ⟨h,by simp,fun a ha b hb=>by
   simp at hb; rintro rfl; exact n (hb ▸ ha)⟩
theorem Y1r {d : Nat} : ∀ (gs : List Nat) (R : List (Nat × Nat)),(R.map (·.1)).Nodup -> ((goR d gs R).map (·.1)).Nodup
 | [],R,h=>h
 | g :: gs,R,h=>Y1r gs _ (W1e h)
theorem Y5s {R : List (Nat × Nat)} {g d : Nat} {q : Nat × Nat} (h : q ∈ N2 R g d) : q ∈ R \/ q = (g,d):=by
 unfold N2 at h; split at h
 ·exact .inl h
 ·simpa using h
theorem Z7j {d : Nat} {q : Nat × Nat} : ∀ (gs : List Nat) (R : List (Nat × Nat)),q ∈ goR d gs R -> q ∈ R \/ ∃ g ∈ gs,q = (g,d)
 | [],R,h=>.inl h
 | g :: gs,R,h=>by
  rcases Z7j gs _ h with h | ⟨g',h1,h2⟩
  ·rcases Y5s h with h | h
   ·exact .inl h
   ·exact .inr ⟨g,by simp,h⟩
  ·exact .inr ⟨g',by simp [h1],h2⟩
structure Q0u (n : Nat) (R : List (Nat × Nat)) : Prop where
 nd : (R.map (·.1)).Nodup
 lt : ∀ q ∈ R,q.1 < n
theorem Q0u.bound {n : Nat} {R : List (Nat × Nat)} (h : Q0u n R) : R.length <= n:=by
 have:=h.nd.length_le_of_subset (l₂:=List.range n) fun x hx=>by
  obtain ⟨q,hq,rfl⟩:=List.mem_map.mp hx
  exact List.mem_range.mpr (h.lt q hq)
 simpa using this
theorem Q0u.go {n d : Nat} {R : List (Nat × Nat)} {gs : List Nat} (h : Q0u n R) (hg : ∀ g ∈ gs,g < n) : Q0u n (goR d gs R) :=
 ⟨Y1r gs R h.nd,fun q hq=>by
  rcases Z7j gs R hq with h' | ⟨g,h1,rfl⟩
  ·exact h.lt q h'
  ·exact hg g h1⟩
theorem Y5u {R : List (Nat × Nat)} (nd : (R.map (·.1)).Nodup) {s d : Nat} (h : (s,d) ∈ R) : D7 (kR R) (ik s) = some (iD d):=by
 rw [Q0s Q2e]
 exact Z8r (by rw [Z2l]; exact nd) (List.mem_map.mpr ⟨_,h,rfl⟩)
theorem Y1k (R : List (Nat × Nat)) (g : Nat) : (D7 (kR R) (ik g)).isSome = decide (g ∈ R.map (·.1)):=by
 rw [Q0s Q2e,Q6r,Z2l]
theorem Z7y {R : List (Nat × Nat)} {g d : Nat} (h : g ∉ R.map (·.1)) : L4 (kR R) (ik g) (iD d) = kR (R ++ [(g,d)]):=by
 rw [Q8i Q2e (by rw [Z2l]; exact h)]; simp [kR]
theorem Y2i {Q : List (B0 × D) -> Prop} : ∀ (xs : List Nat) (R : List (Nat × Nat)) (o : Option Sl),(R.map (·.1) ++ xs).Nodup -> Q (kR (R ++ xs.map fun x=>(x,0))) ->
  T1 (C2 0) (wV 0) (B1 (wC (.int 0))) (xs.map iD) [o] (kR R) Q
 | [],R,o,_,h=>by simpa [T1] using h
 | x :: xs,R,o,nd,h=>by
  have nx : x ∉ R.map (·.1):=fun z=>by
   have:=(List.nodup_append.mp nd).2.2 x z x (by simp)
   exact this rfl
  rw [List.map_cons,T1]
  simp only [S0,C3,G1,F3]
  refine ⟨_,rfl,iD x,ik x,rfl,rfl,_,rfl,?_⟩
  have e:=Z7y (d:=0) nx
  show T1 _ _ _ _ _ (L4 (kR R) (ik x) (iD 0)) _
  rw [e]
  refine Y2i xs _ _ (by simpa using nd) ?_
  simpa using h
noncomputable abbrev llD (on : List (List Nat)) : D:=.lst (on.map fun l=>.lst (l.map iD))
def wbR : WS:=(F9 (Q3k 2 (wV 6)) (A7 (Q2z 2 (wV 6) (A5 J9 (Q4a 2 (wV 5)) (wC (.int 1)))) (L9 3 (B1 (wV 6)))) G0)
theorem forR {s d n : Nat} {E : E6} {o0 o1 o4 : Option Sl} (hn : n <= 100000) : ∀ (gs : List Nat) (R : List (Nat × Nat)) (o6 : Option Sl),Q0u n R -> (s,d) ∈ R -> (∀ g ∈ gs,g < n) ->
  (∀ o6,E.nx [o0,o1,some (.dk (kR (goR (d + 1) gs R))),some (.own ((goR (d + 1) gs R).map fun q=>iD q.1)),o4,some (.dat (iD s)),o6]) ->
  E2 (C2 6) wbR E (gs.map iD) [o0,o1,some (.dk (kR R)),some (.own (R.map fun q=>iD q.1)),o4,some (.dat (iD s)),o6]
 | [],R,o6,_,_,_,h=>h o6
 | g :: gs,R,o6,hI,hs,hg,h=>by
  have b:=hI.bound
  have ih:=forR (s:=s) (d:=d) (E:=E) (o0:=o0) (o1:=o1) (o4:=o4) hn gs
  have hI2 : Q0u n (N2 R g (d + 1)):=hI.go (d:=d + 1) (gs:=[g]) (by simpa using hg g (by simp))
  have hs2 : (s,d) ∈ N2 R g (d + 1):=(Y4h R g (d + 1)).subset hs
  have b2:=hI2.bound
  rw [List.map_cons,E2]
  simp only [wbR,S0,V7,Y1x,C3,G4,Y2c,E3,Z7i,F3,Q1h,G1,U9]
  refine ⟨_,rfl,_,rfl,iD g,ik g,rfl,rfl,?_⟩
  rw [Y1k]
  by_cases hm : g ∈ R.map (·.1)
  ·have ea : N2 R g (d + 1) = R:=if_pos hm
   rw [if_neg (by simpa using hm)]
   refine ih R _ hI hs (fun g' h'=>hg g' (by simp [h'])) ?_
   simpa only [goR,ea] using h
  ·have ea : N2 R g (d + 1) = R ++ [(g,d + 1)]:=if_neg hm
   rw [if_pos (by simpa using hm)]
   refine ⟨_,rfl,_,rfl,iD s,ik s,iD d,rfl,rfl,Y5u hI.nd hs,?_⟩
   rw [Q1n]
   refine ⟨_,rfl,_,rfl,_,rfl,iD g,ik g,rfl,rfl,P5 (by simp [J4]; omega),_,rfl,_,rfl,_,rfl,P5 (by simp; omega),?_⟩
   have e1 : L4 (kR R) (ik g) (.int ((d : Int) + 1)) = kR (N2 R g (d + 1)):=by
    rw [ea,<- Z7y hm]; rfl
   have e2 : (R.map fun q=>iD q.1) ++ [iD g] = (N2 R g (d + 1)).map fun q=>iD q.1:=by rw [ea]; simp
   show E2 _ _ _ _ [_,_,some (.dk (L4 (kR R) (ik g) (.int ((d : Int) + 1)))),some (.own ((R.map fun q=>iD q.1) ++ [iD g])),_,_,_]
   rw [e1,e2]
   exact ih _ _ hI2 hs2 (fun g' h'=>hg g' (by simp [h'])) h
def wtR : WT:=(A5 (R1 fun i j=>decide (i < j)) (wV 4) (D4 F2 (A0 (wV 3) A3)))
def wlR : WS:=(A7 (B7 5 (A5 B6 (wV 3) (wV 4))) (A7 (Q8 (Q4o (B1 (A5 B6 (wV 1) (wV 5)))) (C2 6) wbR) (Q3b 4 (N3 NoC fun i j=>i + j) (wC (.int 1)))))
theorem W4z {on : List (List Nat)} {E : E6} {o0 : Option Sl} (hon : ∀ l ∈ on,∀ g ∈ l,g < on.length) (hl : on.length <= 100000) : ∀ (n : Nat) (R : List (Nat × Nat)) (p : Nat) (o5 o6 : Option Sl),Q0u on.length R -> on.length <= n + p ->
  (∀ o4 o5 o6,E.nx [o0,some (.dat (llD on)),some (.dk (kR (Q3z on n R p))),some (.own ((Q3z on n R p).map fun q=>iD q.1)),o4,o5,o6]) ->
  F5 wtR wlR (n + 1) E [o0,some (.dat (llD on)),some (.dk (kR R)),some (.own (R.map fun q=>iD q.1)),some (.dat (iD p)),o5,o6]:=by
 intro n
 induction n with
 | zero =>
  intro R p o5 o6 hI hp h
  have b:=hI.bound
  simp only [F5,wtR,E3,L5,D6,C3,C6]
  refine ⟨_,rfl,_,rfl,?_⟩
  simp only [G3,T3,Y1,Q0d,List.length_map]
  rw [if_neg (by simp; omega)]
  exact h _ _ _
 | succ n ih =>
  intro R p o5 o6 hI hp h
  have b:=hI.bound
  rw [F5]
  simp only [wtR,E3,L5,D6,C3,C6]
  refine ⟨_,rfl,_,rfl,?_⟩
  simp only [G3,T3,Y1,Q0d,List.length_map]
  by_cases hlt : p < R.length
  ·rw [if_pos (by simpa using hlt)]
   have hk' : R[p]? = some R[p]:=List.getElem?_eq_getElem hlt
   have kin:=List.getElem_mem hlt
   generalize R[p] = q at hk' kin
   obtain ⟨s,d⟩:=q
   have hs : s < on.length:=hI.lt _ kin
   have hgs : on[s]? = some on[s]:=List.getElem?_eq_getElem hs
   have hgl:=hon _ (List.getElem_mem hs)
   simp only [wlR,G4,K2,E3,C3,Q0h,Z6m,G1,Y2b,F3]
   refine ⟨_,rfl,_,rfl,?_⟩
   rw [T3,G3,Q5s]
   refine ⟨iD s,V1 (by rw [List.getElem?_map,hk']; rfl),_,rfl,_,rfl,?_⟩
   rw [G3]
   simp only [G3,Z1p]
   refine ⟨.lst (on[s].map iD),V1 (by rw [List.getElem?_map,hgs]; rfl),_,rfl,?_⟩
   rw [Q3z,hk'] at h
   simp only [hgs] at h
   refine forR (n:=on.length) (d:=d) hl on[s] R _ hI kin hgl fun o6=>?_
   refine ⟨_,rfl,trivial,?_⟩
   have e : ((p : Int) + 1) = ((p + 1 : Nat) : Int):=by omega
   show F5 wtR wlR (n + 1) E [_,_,_,_,some (.dat (.int ((p : Int) + 1))),_,_]
   rw [e]
   exact ih _ _ _ _ (hI.go hgl) (by omega) h
  ·rw [if_neg (by simpa using hlt)]
   have e : R[p]? = none:=List.getElem?_eq_none_iff.mpr (by omega)
   rw [Q3z,e] at h
   exact h _ _ _
noncomputable def sp_all_reached (K : Fg9) : D9:=fun rs Pr=>∃ (xs : List Nat) (on : List (List Nat)),rs = [.bw (xs.map iD),.st (llD on)] /\ xs.Nodup /\ (∀ x ∈ xs,x < on.length) /\ (∀ l ∈ on,∀ g ∈ l,g < on.length) /\ on.length <= 100000 /\ ∀ a,Pr (.cl a (M0 K a (kR (Q3u on xs))))
theorem Y4c {K : Fg9} : T8 (sp_all_reached K):=fun rs P Q f ⟨xs,on,e,h1,h2,h3,h4,h5⟩=>⟨xs,on,e,h1,h2,h3,h4,fun a=>f _ (h5 a)⟩
theorem W0t {K : Fg9} : ∀ rs Pr,rs.length = 2 -> sp_all_reached K rs Pr -> Q9a K (L8 Pr) (E4 Z2w rs):=by
 rintro rs Pr _ ⟨xs,on,rfl,nd,hx,hon,hl,h⟩
 have hI : Q0u on.length (xs.map fun x=>(x,0)):=⟨by simpa [Function.comp_def] using nd,fun q hq=>by
  obtain ⟨x,h1,rfl⟩:=List.mem_map.mp hq
  exact hx x h1⟩
 have b:=hI.bound
 rw [List.length_map] at b
 unfold Q9a
 simp only [G4,Y3t,Q7o,C3,K2,L5,D6,C6,F3,W1t]
 refine ⟨_,rfl,_,rfl,P5 (by simp; omega),?_⟩
 refine Y2i xs [] _ (by simpa using nd) ?_
 refine ⟨_,rfl,?_⟩
 have el : (kR ([] ++ xs.map fun x=>(x,0))).map (fun p=>kyD p.1) = ((xs.map fun x=>(x,0)).map fun q=>iD q.1):=by simp [J4,kyD]
 show Q2k [.dk _] _
 rw [Y7l,el,List.nil_append]
 simp only [N1,Q2o]
 refine ⟨on.length + 1,?_⟩
 refine W4z hon hl on.length (xs.map fun x=>(x,0)) 0 _ _ hI (by omega) fun o4 o5 o6=>?_
 exact ⟨_,rfl,h⟩
structure Wf (es : List Bool) (rows : List (List Nat)) : Prop where
 len : rows.length = es.length
 pos : 0 < es.length
 r4 : ∀ r ∈ rows,r.length = 4
 lt : ∀ r ∈ rows,∀ x ∈ r,x < es.length
noncomputable def X5 (B : List (List Nat)) (g s : Nat) : List (List Nat):=B.set g (B.getD g [] ++ [s])
noncomputable def Q0r (s : Nat) : List Nat -> List (List Nat) -> List (List Nat)
 | [],B=>B
 | g :: gs,B=>Q0r s gs (X5 B g s)
noncomputable def Q0o : Nat -> List (List Nat) -> List (List Nat) -> List (List Nat)
 | _,[],B=>B
 | s,r :: rs,B=>Q0o (s + 1) rs (Q0r s r B)
noncomputable def U8 (rows : List (List Nat)) : List (List Nat):=Q0o 0 rows (rows.map fun _=>[])
noncomputable abbrev lls (B : List (List Nat)) : List (List D):=B.map fun l=>l.map iD
theorem Z1k (B : List (List Nat)) (g s : Nat) : (X5 B g s).length = B.length:=by simp [X5]
theorem Q6y {s : Nat} : ∀ (gs : List Nat) (B : List (List Nat)),(Q0r s gs B).length = B.length
 | [],B=>rfl
 | g :: gs,B=>by rw [Q0r,Q6y gs,Z1k]
theorem Z9g : ∀ (rs : List (List Nat)) (s : Nat) (B : List (List Nat)),(Q0o s rs B).length = B.length
 | [],s,B=>rfl
 | r :: rs,s,B=>by rw [Q0o,Z9g rs,Q6y]
theorem Z8a (B : List (List Nat)) (g : Nat) : (lls B).getD g [] = (B.getD g []).map iD:=by
 rw [List.getD_eq_getElem?_getD,List.getD_eq_getElem?_getD,List.getElem?_map]
 cases B[g]? <;> rfl
theorem Y6h (B : List (List Nat)) (g s : Nat) : (lls B).set g ((lls B).getD g [] ++ [iD s]) = lls (X5 B g s):=by
 rw [Z8a]
 unfold X5 lls
 rw [List.map_set]
 simp
theorem Z6x {B : List (List Nat)} {m g : Nat} (h : ∀ l ∈ B,l.length <= m) : (B.getD g []).length <= m:=by
 rw [List.getD_eq_getElem?_getD]
 cases e : B[g]? with
 | none=>simp
 | some l=>exact h l (List.mem_of_getElem? e)
theorem Z5u {B : List (List Nat)} {m g s : Nat} (h : ∀ l ∈ B,l.length <= m) : ∀ l ∈ X5 B g s,l.length <= m + 1:=by
 intro l hl
 rcases List.mem_or_eq_of_mem_set hl with h' | rfl
 ·exact Nat.le_succ_of_le (h l h')
 ·have:=Z6x (g:=g) h
  rw [List.length_append,List.length_singleton]; omega
theorem Z9m {s : Nat} : ∀ (gs : List Nat) (B : List (List Nat)) (m : Nat),(∀ l ∈ B,l.length <= m) -> ∀ l ∈ Q0r s gs B,l.length <= m + gs.length
 | [],B,m,h=>h
 | g :: gs,B,m,h=>fun l hl=>by
  have:=Z9m gs _ (m + 1) (Z5u h) l hl
  simp; omega
theorem Y2u {B : List (List Nat)} {g s i x : Nat} (hx : x ∈ (X5 B g s).getD i []) : x ∈ B.getD i [] \/ (i = g /\ x = s):=by
 unfold X5 at hx
 rw [List.getD_eq_getElem?_getD,List.getElem?_set] at hx
 by_cases h : g = i
 ·subst h
  by_cases hl : g < B.length
  ·rw [if_pos rfl,if_pos hl] at hx
   rcases List.mem_append.mp (show x ∈ B.getD g [] ++ [s] from hx) with h | h
   ·exact .inl h
   ·exact .inr ⟨rfl,by simpa using h⟩
  ·rw [if_pos rfl,if_neg hl] at hx
   cases hx
 ·rw [if_neg h] at hx
  exact .inl (by rw [List.getD_eq_getElem?_getD]; exact hx)
theorem W0k {B : List (List Nat)} {g s i x : Nat} (hx : x ∈ B.getD i []) : x ∈ (X5 B g s).getD i []:=by
 unfold X5
 rw [List.getD_eq_getElem?_getD] at hx ⊢
 rw [List.getElem?_set]
 by_cases h : g = i
 ·subst h
  by_cases hl : g < B.length
  ·rw [if_pos rfl,if_pos hl]
   exact List.mem_append_left _ (by rw [List.getD_eq_getElem?_getD]; exact hx)
  ·rw [List.getElem?_eq_none_iff.mpr (by omega)] at hx; cases hx
 ·rw [if_neg h]; exact hx
theorem W4b {B : List (List Nat)} {g s : Nat} (hl : g < B.length) : s ∈ (X5 B g s).getD g []:=by
 unfold X5
 rw [List.getD_eq_getElem?_getD,List.getElem?_set,if_pos rfl,if_pos hl]
 exact List.mem_append_right _ (by simp)
theorem Y2f {s i x : Nat} : ∀ (gs : List Nat) (B : List (List Nat)),(∀ g ∈ gs,g < B.length) -> (x ∈ (Q0r s gs B).getD i [] ↔ x ∈ B.getD i [] \/ (i ∈ gs /\ x = s))
 | [],B,_=>by simp [Q0r]
 | g :: gs,B,h=>by
  rw [Q0r,Y2f gs _ (fun g' h'=>by rw [Z1k]; exact h g' (by simp [h']))]
  constructor
  ·rintro (h' | ⟨h1,h2⟩)
   ·rcases Y2u h' with h' | ⟨h1,h2⟩
    ·exact .inl h'
    ·exact .inr ⟨by simp [h1],h2⟩
   ·exact .inr ⟨by simp [h1],h2⟩
  ·rintro (h' | ⟨h1,rfl⟩)
   ·exact .inl (W0k h')
   ·rcases List.mem_cons.mp h1 with rfl | h1
    ·exact .inl (W4b (h _ (by simp)))
    ·exact .inr ⟨h1,rfl⟩
theorem Y1m {i x : Nat} : ∀ (rs : List (List Nat)) (s : Nat) (B : List (List Nat)),(∀ r ∈ rs,∀ g ∈ r,g < B.length) -> (x ∈ (Q0o s rs B).getD i [] ↔ x ∈ B.getD i [] \/ ∃ j r,rs[j]? = some r /\ i ∈ r /\ x = s + j)
 | [],s,B,_=>by simp [Q0o]
 | r :: rs,s,B,h=>by
  rw [Q0o,Y1m rs _ _ (fun r' h' g hg=>by rw [Q6y]; exact h r' (by simp [h']) g hg),Y2f _ _ (h r (by simp))]
  constructor
  ·rintro ((h' | ⟨h1,rfl⟩) | ⟨j,r',e,h1,rfl⟩)
   ·exact .inl h'
   ·exact .inr ⟨0,r,rfl,h1,rfl⟩
   ·exact .inr ⟨j + 1,r',by simpa using e,h1,by omega⟩
  ·rintro (h' | ⟨j,r',e,h1,rfl⟩)
   ·exact .inl (.inl h')
   ·cases j with
    | zero=>cases e; exact .inl (.inr ⟨h1,rfl⟩)
    | succ j=>exact .inr ⟨j,r',by simpa using e,h1,by omega⟩
theorem W2y {rows : List (List Nat)} (h : ∀ r ∈ rows,∀ g ∈ r,g < rows.length) {i x : Nat} : x ∈ (U8 rows).getD i [] ↔ ∃ r,rows[x]? = some r /\ i ∈ r:=by
 unfold U8
 rw [Y1m rows 0 _ (fun r hr g hg=>by rw [List.length_map]; exact h r hr g hg)]
 have e0 : x ∉ (rows.map fun _=>([] : List Nat)).getD i []:=by
  rw [List.getD_eq_getElem?_getD,List.getElem?_map]
  cases rows[i]? <;> simp
 constructor
 ·rintro (h' | ⟨j,r,e,h1,rfl⟩)
  ·exact absurd h' e0
  ·exact ⟨r,by rw [Nat.zero_add]; exact e,h1⟩
 ·rintro ⟨r,e,h1⟩
  exact .inr ⟨x,r,e,h1,by omega⟩
theorem Q9w (rows : List (List Nat)) : (U8 rows).length = rows.length:=by simp [U8,Z9g]
theorem W1l {rows : List (List Nat)} (h : ∀ r ∈ rows,∀ g ∈ r,g < rows.length) : ∀ l ∈ U8 rows,∀ x ∈ l,x < (U8 rows).length:=by
 intro l hl x hx
 obtain ⟨i,hi,rfl⟩:=List.mem_iff_getElem.mp hl
 have : x ∈ (U8 rows).getD i []:=by rw [List.getD_eq_getElem?_getD,List.getElem?_eq_getElem hi]; exact hx
 obtain ⟨r,e,_⟩:=(W2y h).mp this
 obtain ⟨h',_⟩:=List.getElem?_eq_some_iff.mp e
 rw [Q9w]; exact h'
noncomputable def X7 (es : List Bool) (b : Bool) : List Nat:=((es.zipIdx).filter fun p=>p.1 == b).map (·.2)
theorem W4s {es : List Bool} {b : Bool} {i : Nat} : i ∈ X7 es b ↔ es[i]? = some b:=by
 unfold X7
 rw [List.mem_map]
 constructor
 ·rintro ⟨⟨c,j⟩,h,rfl⟩
  rw [List.mem_filter] at h
  have h1:=List.mem_zipIdx_iff_getElem?.mp h.1
  have h2 : c = b:=by simpa using h.2
  subst h2; exact h1
 ·intro h
  exact ⟨(b,i),List.mem_filter.mpr ⟨List.mem_zipIdx_iff_getElem?.mpr h,by simp⟩,rfl⟩
theorem W1z {es : List Bool} {b : Bool} : ∀ x ∈ X7 es b,x < es.length:=fun x hx=>by
 obtain ⟨h,_⟩:=List.getElem?_eq_some_iff.mp (W4s.mp hx); exact h
theorem Y8p {es : List Bool} {b : Bool} : (X7 es b).Nodup:=by
 have : (es.zipIdx.map (·.2)).Nodup:=by rw [List.zipIdx_map_snd]; exact List.nodup_range'
 exact this.sublist (List.filter_sublist.map _)
noncomputable def Q0a (R : List (Nat × Nat)) (s : Nat) : Option Nat:=(R.find? fun q=>decide (q.1 = s)).map (·.2)
noncomputable abbrev oD : Option Nat -> D
 | none=>.non
 | some d=>iD d
theorem Z4s (R : List (Nat × Nat)) (s : Nat) : (D7 (kR R) (ik s)).getD .non = oD (Q0a R s):=by
 rw [Q0s Q2e]
 unfold D7 Q0a
 induction R with
 | nil=>rfl
 | cons q R ih =>
  rw [List.map_cons,List.find?_cons,List.find?_cons]
  by_cases h : q.1 = s
  ·simp [h]
  ·simp only [h,decide_false]; exact ih
noncomputable def Q0q (es : List Bool) (rows : List (List Nat)) (b : Bool) : List (Option Nat):=(List.range es.length).map (Q0a (Q3u (U8 rows) (X7 es b)))
theorem Z8u {Q : List (List D) -> Prop} : ∀ (ds : List D) (o : Option Sl),Q (ds.map fun _=>[]) -> X3 (C2 0) (K1 A3) ds [o] Q
 | [],o,h=>h
 | d :: ds,o,h=>by
  rw [X3]
  simp only [S0,s_lst,C6]
  exact ⟨_,rfl,sz (by simp),_,rfl,Z8u ds _ h⟩
@[simp] theorem nll1 {d : D} : J0 (some (.dat d)) = true:=rfl
@[simp] theorem nll2 : J0 none = true:=rfl
theorem forB {s : Nat} {E : E6} {a : Addr} {o0 o1 o2 o5 o7 : Option Sl} (n0 : J0 o0 = true) (n1 : J0 o1 = true) (n2 : J0 o2 = true) (n5 : J0 o5 = true) (n7 : J0 o7 = true) : ∀ (gs : List Nat) (B : List (List Nat)) (m : Nat) (o6 : Option Sl),J0 o6 = true ->
  (∀ g ∈ gs,g < B.length) -> (∀ l ∈ B,l.length <= m) -> m + gs.length <= 1000000 ->
  (∀ o6,J0 o6 = true -> E.nx [o0,o1,o2,some (.ll a (lls (Q0r s gs B))),some (.dat (iD s)),o5,o6,o7]) ->
  E2 (C2 6) (Q4p 3 (wV 6) (B1 (wV 4))) E (gs.map iD) [o0,o1,o2,some (.ll a (lls B)),some (.dat (iD s)),o5,o6,o7]
 | [],B,m,o6,n6,_,_,_,h=>h o6 n6
 | g :: gs,B,m,o6,n6,hg,hm,hz,h=>by
  rw [List.length_cons] at hz
  have gl:=hg g (by simp)
  have bd:=Z6x (g:=g) hm
  rw [List.map_cons,E2]
  simp only [S0,Y4y,C3,G1]
  refine ⟨a,lls B,rfl,?_,_,rfl,_,g,rfl,?_,_,rfl,_,rfl,?_,?_⟩
  ·show (J0 o0 && (J0 o1 && (J0 o2 && ([some (.dat (iD s)),o5,some (.dat (iD g)),o7] : A8).all J0))) = true
   simp [n0,n1,n2,n5,n7,nll1]
  ·rw [List.length_map]; exact ixn gl
  ·rw [Z8a,List.length_map]; exact P5 (by omega)
  ·show E2 _ _ _ _ [_,_,_,some (.ll a ((lls B).set g ((lls B).getD g [] ++ [iD s]))),_,_,_,_]
   rw [Y6h]
   exact forB n0 n1 n2 n5 n7 gs _ (m + 1) _ rfl (fun g' h'=>by rw [Z1k]; exact hg g' (by simp [h'])) (Z5u hm) (by omega) h
theorem Z5s {E : E6} {a : Addr} {o0 o1 o2 o7 : Option Sl} (n0 : J0 o0 = true) (n1 : J0 o1 = true) (n2 : J0 o2 = true) (n7 : J0 o7 = true) : ∀ (rs : List (List Nat)) (s : Nat) (B : List (List Nat)) (m : Nat) (o4 o5 o6 : Option Sl),J0 o4 = true -> J0 o5 = true -> J0 o6 = true ->
  (∀ r ∈ rs,r.length = 4 /\ ∀ g ∈ r,g < B.length) -> (∀ l ∈ B,l.length <= m) -> m + 4 * rs.length <= 1000000 ->
  (∀ o4 o5 o6,J0 o4 = true -> J0 o5 = true -> J0 o6 = true -> E.nx [o0,o1,o2,some (.ll a (lls (Q0o s rs B))),o4,o5,o6,o7]) ->
  E2 (N5 2 (E8 (C2 4) (E8 (C2 5) O1))) (Q8 (Q5g (wV 5)) (C2 6) (Q4p 3 (wV 6) (B1 (wV 4)))) E ((rs.zipIdx s).map fun p=>.tup [.int (p.2 : Int),rD p.1]) [o0,o1,o2,some (.ll a (lls B)),o4,o5,o6,o7]
 | [],s,B,m,o4,o5,o6,n4,n5,n6,_,_,_,h=>h o4 o5 o6 n4 n5 n6
 | r :: rs,s,B,m,o4,o5,o6,n4,n5,n6,hg,hm,hz,h=>by
  rw [List.length_cons] at hz
  obtain ⟨l4,gl⟩:=hg r (by simp)
  rw [List.zipIdx_cons,List.map_cons,E2]
  simp only [Q1u,Q1i,S0,Q1b,Q0h,W5b,C3]
  refine ⟨_,rfl,rfl,_,_,rfl,_,_,rfl,rfl,_,rfl,_,rfl,?_⟩
  refine forB n0 n1 n2 (o5:=some (.dat (rD r))) rfl n7 r B m o6 n6 gl hm (by omega) fun o6 n6=>?_
  exact Z5s n0 n1 n2 n7 rs (s + 1) _ (m + 4) _ _ _ rfl rfl n6 (fun r' h'=>⟨(hg r' (by simp [h'])).1,fun g h2=>by rw [Q6y]; exact (hg r' (by simp [h'])).2 g h2⟩)
   (by have:=Z9m (s:=s) r B m hm; rw [l4] at this; exact this) (by omega) h
theorem Z3a {b : Bool} {Q : List D -> Prop} : ∀ (es : List Bool) (n : Nat) (o0 o1 : Option Sl),Q (((es.zipIdx n).filter fun p=>p.1 == b).map fun p=>iD p.2) ->
  M4 (N5 2 (E8 (C2 0) (E8 (C2 1) O1))) (A5 (eqD 60 false) (wV 1) (wV 2)) (B1 (wV 0)) ((es.zipIdx n).map fun p=>.tup [.int (p.2 : Int),.bl p.1]) [o0,o1,some (.dat (.bl b))] Q
 | [],n,o0,o1,h=>h
 | e :: es,n,o0,o1,h=>by
  rw [List.zipIdx_cons,List.map_cons,M4]
  simp only [Q1u,Q1i,S0,Q1b,E3,C3,G1]
  refine ⟨_,rfl,rfl,_,_,rfl,_,_,rfl,rfl,_,rfl,_,rfl,?_⟩
  simp only [G3,Q1q,o_d1]
  refine ⟨_,_,rfl,rfl,by simp [D.depth],?_⟩
  rw [List.zipIdx_cons,List.filter_cons] at h
  by_cases hb : e = b
  ·subst hb
   simp only [BEq.rfl,if_true] at h
   simp only [o_e3,BEq.rfl,if_true,if_false,Bool.false_eq_true]
   exact ⟨_,rfl,_,rfl,Z3a es (n + 1) _ _ h⟩
  ·have hb' : (e == b) = false:=by simpa using hb
   simp only [hb',Bool.false_eq_true,if_false] at h
   simp only [o_e3,hb',if_false,Bool.false_eq_true]
   exact Z3a es (n + 1) _ _ h
def K4 (ra : R) (es : List Bool) : Prop:=ra = .bw (es.map .bl) \/ ra = .st (.tup (es.map .bl))
theorem K4.rd {ra : R} {es : List Bool} (h : K4 ra es) : rdS (M8 ra) = ra:=by rcases h with rfl | rfl <;> rfl
theorem K4.nll {ra : R} {es : List Bool} (h : K4 ra es) : J0 (some (M8 ra)) = true:=by rcases h with rfl | rfl <;> rfl
theorem K4.sq {ra : R} {es : List Bool} (h : K4 ra es) : Q2c ra = some (es.map .bl):=by rcases h with rfl | rfl <;> rfl
theorem K4.len {ra : R} {es : List Bool} (h : K4 ra es) {Q : R -> Prop} : F2 [ra] Q = Q (.st (.int (es.length : Int))):=by
 rcases h with rfl | rfl
 ·rw [Y1,List.length_map]
 ·rw [W0m,List.length_map]
theorem K4.arg {ra : R} {es : List Bool} (h : K4 ra es) : M7 ra = true:=by rcases h with rfl | rfl <;> rfl
theorem K4.nrm {ra : R} {es : List Bool} (h : K4 ra es) : nrm ra = ra:=by rcases h with rfl | rfl <;> rfl
noncomputable def sp_distances : D9:=fun rs Pr=>∃ ra es rows b,rs = [ra,.st (rsD rows),.st (.bl b)] /\ K4 ra es /\ Wf es rows /\ es.length <= 20000 /\ Pr (.nw ((Q0q es rows b).map oD))
theorem Y2j : T8 sp_distances:=fun rs P Q f ⟨ra,es,rows,b,e,h1,h2,h3,h4⟩=>⟨ra,es,rows,b,e,h1,h2,h3,f _ h4⟩
theorem W0a {K : Fg9} : ∀ rs Pr,rs.length = 3 -> sp_distances rs Pr -> Q9f K (sp_all_reached K) (L8 Pr) (E4 Q4j rs):=by
 rintro rs Pr _ ⟨ra,es,rows,b,rfl,ha,wf,hl,h⟩
 have wl:=wf.len
 have hlt : ∀ r ∈ rows,∀ g ∈ r,g < rows.length:=fun r hr g hg=>by rw [wl]; exact wf.lt r hr g hg
 unfold Q9f
 simp only [G4,W3m,Z9f,C3,Y8y,Q0h,Z0e,D6,C6,W0y,S4,Q1z,Y7k,S9,Z2t,L5]
 refine ⟨_,rfl,_,rfl,sz (by simp; omega),?_⟩
 refine Z8u _ _ fun a=>?_
 refine ⟨_,rfl,.inr ⟨_,rfl,?_⟩⟩
 have e1 : G6 (rows.map rD) = (rows.zipIdx 0).map fun p=>.tup [.int (p.2 : Int),rD p.1]:=by
  unfold G6; rw [List.zipIdx_map,List.map_map]; rfl
 have e2 : ((rows.map rD).map fun _=>([] : List D)) = lls (rows.map fun _=>[]):=by simp [lls]
 rw [e1,e2]
 refine Z5s (o0:=some (M8 ra)) (o1:=some (.dat (rsD rows))) (o2:=some (.dat (.bl b))) (o7:=none) ha.nll rfl rfl rfl rows 0 _ 0 none none none rfl rfl rfl (fun r hr=>⟨wf.r4 r hr,fun g hg=>by rw [List.length_map]; exact hlt r hr g hg⟩) (fun l hl=>by simp at hl; simp [hl.2]) (by omega) fun o4 o5 o6 n4 n5 n6=>?_
 refine ⟨a,_,rfl,?_,?_⟩
 ·show (J0 _ && (J0 _ && (J0 _ && ([o4,o5,o6,none] : A8).all J0))) = true
  have:=ha.nll
  simp [this,n4,n5,n6,nll1,nll2]
 refine ⟨_,rfl,?_⟩
 show ∃ r ds,[rdS (M8 ra)] = [r] /\ _
 refine ⟨_,_,rfl,by rw [ha.rd]; exact ha.sq,sz (by simp [G6]; omega),?_⟩
 have e3 : G6 (es.map .bl) = (es.zipIdx 0).map fun p=>.tup [.int (p.2 : Int),.bl p.1]:=by
  unfold G6; rw [List.zipIdx_map,List.map_map]; rfl
 rw [e3]
 refine Z3a es 0 _ _ ?_
 refine ⟨_,rfl,rfl,X7 es b,U8 rows,?_,Y8p,fun x hx=>by rw [Q9w,wl]; exact W1z x hx,W1l hlt,by rw [Q9w,wl]; omega,fun a'=>?_⟩
 ·have q1 : ((es.zipIdx 0).filter fun p=>p.1 == b).map (fun p=>iD p.2) = (X7 es b).map iD:=by unfold X7; rw [List.map_map]; rfl
  have q2 : D.lst ((lls (Q0o 0 rows (rows.map fun _=>[]))).map D.lst) = llD (U8 rows):=by unfold lls llD U8; rw [List.map_map]; rfl
  show [R.bw _,R.st (.lst _)] = _
  rw [q1,q2]
 refine ⟨a',_,rfl,?_⟩
 refine ⟨_,rfl,?_⟩
 show F2 [rdS (M8 ra)] _
 rw [ha.rd,ha.len]
 refine ⟨_,rfl,by omega,by omega,sz (by simp [Q4]; omega),?_⟩
 have hf : ∀ i : Nat,(D7 (kR (Q3u (U8 rows) (X7 es b))) (ik i)).getD .non = oD (Q0a (Q3u (U8 rows) (X7 es b)) i):=Z4s _
 have er : Q4 0 (es.length : Int).toNat = (List.range es.length).map iD:=by simp [Q4]
 rw [er]
 refine Q2v (f:=fun d=>match d with | .int i=>(D7 (kR (Q3u (U8 rows) (X7 es b))) (.inl i)).getD .non | d=>d) _ _ _ (fun d hd Q' q=>?_) ?_
 ·obtain ⟨i,_,rfl⟩:=List.mem_map.mp hd
  simp only [G1,Y3l,C3]
  exact ⟨a',_,rfl,_,rfl,_,ik i,rfl,rfl,q⟩
 ·rw [List.map_map]
  have : (List.range es.length).map ((fun d=>match d with | .int i=>(D7 (kR (Q3u (U8 rows) (X7 es b))) (.inl i)).getD .non | d=>d) ∘ iD) = (Q0q es rows b).map oD:=by
   unfold Q0q
   rw [List.map_map]
   exact List.map_congr_left fun i _=>hf i
  rw [this]
  exact h
noncomputable def Y2 : List D -> List D -> List Nat
 | _,[]=>[]
 | ks,d :: r=>ks.idxOf d :: Y2 (R5 ks d) r
theorem Z7r : ∀ (ds ks : List D),(Z5 ks ds).map D.int = (Y2 ks ds).map iD
 | [],ks=>rfl
 | d :: r,ks=>by rw [Z5,Y2,List.map_cons,List.map_cons,Z7r r]
noncomputable def Z8 : List D -> List D -> List D
 | ks,[]=>ks
 | ks,d :: r=>Z8 (R5 ks d) r
theorem Z4h (ks : List D) (d : D) : ks <+: R5 ks d:=by
 unfold R5; split
 ·exact List.prefix_refl _
 ·exact List.prefix_append _ _
theorem Z5e : ∀ (ds ks : List D),ks <+: Z8 ks ds
 | [],ks=>List.prefix_refl _
 | d :: r,ks=>(Z4h ks d).trans (Z5e r _)
theorem Z6h (ks : List D) (d : D) : d ∈ R5 ks d:=by
 unfold R5; split
 ·assumption
 ·simp
theorem Y9i {ks ls : List D} {g : D} (p : ks <+: ls) (h : g ∈ ks) : ls.idxOf g = ks.idxOf g:=by
 obtain ⟨t,rfl⟩:=p
 rw [List.idxOf_append,if_pos h]
theorem Y2t (ks : List D) (d : D) : (R5 ks d).idxOf d = ks.idxOf d:=by
 unfold R5; split
 ·rfl
 ·rename_i h
  rw [List.idxOf_append,if_neg h,List.idxOf_eq_length h]
  simp
theorem Z3h : ∀ (ds ks : List D),Y2 ks ds = ds.map fun d=>(Z8 ks ds).idxOf d
 | [],ks=>rfl
 | d :: r,ks=>by
  have p:=Z5e r (R5 ks d)
  rw [Y2,Z3h r,List.map_cons,Z8,Y9i p (Z6h ks d),Y2t]
theorem Z8q (ds ks : List D) : (Y2 ks ds).length = ds.length:=by rw [Z3h,List.length_map]
theorem Z5h : ∀ (ds ks : List D) {d : D},d ∈ ks \/ d ∈ ds -> d ∈ Z8 ks ds
 | [],ks,d,h=>by simpa [Z8] using h
 | e :: r,ks,d,h=>by
  rw [Z8]
  refine Z5h r _ ?_
  rcases h with h | h
  ·exact .inl ((Z4h ks e).subset h)
  ·rcases List.mem_cons.mp h with rfl | h
   ·exact .inl (Z6h _ _)
   ·exact .inr h
theorem Z9j : ∀ (ds ks : List D),(Z8 ks ds).length <= ks.length + ds.length
 | [],ks=>by simp [Z8]
 | d :: r,ks=>by
  have:=Z9j r (R5 ks d)
  have : (R5 ks d).length <= ks.length + 1:=by unfold R5; split <;> simp
  rw [Z8,List.length_cons]; omega
theorem Z7t {ds : List D} : ∀ x ∈ Y2 [] ds,x < ds.length:=fun x hx=>by
 rw [Z3h,List.mem_map] at hx
 obtain ⟨d,hd,rfl⟩:=hx
 have h1:=List.idxOf_lt_length_iff.mpr (Z5h ds [] (.inr hd))
 have h2:=Z9j ds []
 simp at h2
 omega
noncomputable def sp_numbered : D8:=fun rs r=>∃ ds,rs = [.bw ds] /\ ds.length <= 1000000 /\ (∀ d ∈ ds,O2 8 d = true /\ ∃ l,d = .tup l) /\ r = .nw ((Y2 [] ds).map iD)
theorem W2c : ∀ rs r,rs.length = 1 -> sp_numbered rs r -> Q9q (Y8 r) (E4 Z3v rs):=by
 rintro rs r _ ⟨ds,rfl,hl,hk,rfl⟩
 unfold Q9q
 rw [Y5m]
 refine ⟨(by decide : 1 < 2),?_⟩
 simp only [Q7o,C3]
 exact ⟨_,rfl,_,rfl,sz hl,hk,by rw [Z7r]; rfl⟩
noncomputable def Z4 (b : List Nat) : Nat:=b.foldl max 0
theorem Z3x : ∀ (b : List Nat) (a : Nat),a <= b.foldl max a /\ ∀ x ∈ b,x <= b.foldl max a
 | [],a=>⟨Nat.le_refl _,fun x h=>by cases h⟩
 | y :: b,a=>by
  obtain ⟨h1,h2⟩:=Z3x b (max a y)
  refine ⟨Nat.le_trans (Nat.le_max_left _ _) h1,fun x hx=>?_⟩
  rcases List.mem_cons.mp hx with rfl | hx
  ·exact Nat.le_trans (Nat.le_max_right _ _) h1
  ·exact h2 x hx
theorem Y0r : ∀ (b : List Nat) (a : Nat),b.foldl max a = a \/ b.foldl max a ∈ b
 | [],a=>.inl rfl
 | y :: b,a=>by
  rcases Y0r b (max a y) with h | h
  ·rw [List.foldl_cons,h]
   rcases Nat.le_total a y with z | z
   ·rw [Nat.max_eq_right z]; exact .inr (by simp)
   ·rw [Nat.max_eq_left z]; exact .inl rfl
  ·exact .inr (List.mem_cons_of_mem _ h)
theorem W4l {b : List Nat} {x : Nat} (h : x ∈ b) : x <= Z4 b:=(Z3x b 0).2 x h
theorem Q9h {b : List Nat} (h : b ≠ []) : Z4 b ∈ b:=by
 unfold Z4
 rcases Y0r b 0 with e | e
 ·cases b with
  | nil=>exact absurd rfl h
  | cons y b =>
   have:=(Z3x (y :: b) 0).2 y (by simp)
   rw [e] at this
   have : y = 0:=by omega
   rw [e,this]; simp
 ·exact e
theorem W1k {b : List Nat} {m : Int} (h : m ∈ b.map fun (x : Nat)=>(x : Int)) (g : ∀ n ∈ b.map fun (x : Nat)=>(x : Int),n <= m) : m = (Z4 b : Int):=by
 obtain ⟨k,hk,rfl⟩:=List.mem_map.mp h
 have h1:=W4l hk
 have h2:=g _ (List.mem_map.mpr ⟨_,Q9h (fun z=>by rw [z] at hk; cases hk),rfl⟩)
 omega
noncomputable def Q1m (es : List Bool) (rows : List (List Nat)) : List D:=((Q0q es rows true).zip (Q0q es rows false)).map fun p=>.tup [oD p.1,oD p.2]
noncomputable def Q3v (b : List Nat) (p : Nat × List Nat) : D:=.tup [iD p.1,rD (p.2.map fun g=>b.getD g 0)]
noncomputable def Q2r (rows : List (List Nat)) (b : List Nat) : List D:=(b.zip rows).map (Q3v b)
noncomputable def Q8f (rows : List (List Nat)) (b : List Nat) : List Nat:=Y2 [] (Q2r rows b)
noncomputable def Q3s (rows : List (List Nat)) : Nat -> Nat -> List Nat -> List Nat
 | 0,_,b=>b
 | n + 1,many,b=>if many <= Z4 b then Q3s rows n (Z4 b + 1) (Q8f rows b) else b
noncomputable def N6 (es : List Bool) (rows : List (List Nat)) : List Nat:=Q3s rows (es.length + 1) 0 (Y2 [] (Q1m es rows))
structure K8 (n : Nat) (b : List Nat) : Prop where
 len : b.length = n
 lt : ∀ x ∈ b,x < n
theorem K8.step {n : Nat} {rows : List (List Nat)} {b : List Nat} (h : K8 n b) (hr : rows.length = n) : K8 n (Q8f rows b):=by
 have e : (Q2r rows b).length = n:=by simp [Q2r,h.len,hr]
 exact ⟨by unfold Q8f; rw [Z8q,e],fun x hx=>by have:=Z7t x hx; rw [e] at this; exact this⟩
theorem K8.zero {es : List Bool} {rows : List (List Nat)} : K8 es.length (Y2 [] (Q1m es rows)):=by
 have e : (Q1m es rows).length = es.length:=by simp [Q1m,Q0q]
 exact ⟨by rw [Z8q,e],fun x hx=>by have:=Z7t x hx; rw [e] at this; exact this⟩
theorem Y1d {n : Nat} {rows : List (List Nat)} (hr : rows.length = n) : ∀ (k many : Nat) (b : List Nat),K8 n b -> K8 n (Q3s rows k many b)
 | 0,many,b,h=>h
 | k + 1,many,b,h=>by
  unfold Q3s; split
  ·exact Y1d hr k _ _ (h.step hr)
  ·exact h
theorem Z3c {es : List Bool} {rows : List (List Nat)} (w : Wf es rows) : K8 es.length (N6 es rows):=Y1d w.len _ _ _ K8.zero
def wtA : WT:=(A5 (R1 fun i j=>decide (j <= i)) (D4 Q0e (A0 (wV 2) A3)) (wV 3))
def weA : WE:=(B1 (Q9 (A0 (B1 (wV 0)) (A0 (B1 (D4 Q2 (A0 (W4 1 [2] (Q8u (wV 1)) (C2 0) U1 (B1 (A5 B6 (wV 1) (wV 0)))) A3))) A3))))
def wlA (sp_numbered : D8) : WS:=(A7 (B7 3 (A5 J9 (D4 Q0e (A0 (wV 2) A3)) (wC (.int 1)))) (B7 2 (B1 (J7 sp_numbered (A0 (W4 2 [2] (Q8m (A0 (wV 2) (A0 (wV 1) A3))) (N5 2 (E8 (C2 0) (E8 (C2 1) O1))) U1 weA) A3)))))
theorem Y6v {n : Nat} {b : List Nat} (hb : K8 n b) (hn : n <= 20000) {p : Nat × List Nat} (hp : p.2.length = 4) (hg : ∀ g ∈ p.2,g < n) (Q : R -> Prop) (h : Q (.st (Q3v b p))) : weA (some (.dat (iD p.1)) :: some (.dat (rD p.2)) :: [some (.dat (.lst (b.map iD)))]) Q:=by
 unfold weA
 simp only [G1,s_tup,D6,C3,L5,Q1z,Z9f,C6]
 refine ⟨_,rfl,_,rfl,_,rfl,sz (by simp [hp]),?_⟩
 refine Q2v (f:=fun d=>match d with | .int i=>iD (b.getD i.toNat 0) | d=>d) _ _ _ (fun d hd Q' q=>?_) ?_
 ·obtain ⟨g,hgm,rfl⟩:=List.mem_map.mp hd
  have hl : g < b.length:=by rw [hb.len]; exact hg g hgm
  simp only [G1,E3,C3]
  refine ⟨_,rfl,_,rfl,?_⟩
  show B6 (.st (.lst (b.map iD))) (.st (.int (g : Int))) _
  rw [Z1p]
  refine ⟨iD (b.getD g 0),V1 (by rw [List.getElem?_map,List.getD_eq_getElem?_getD,List.getElem?_eq_getElem hl]; rfl),q⟩
 ·refine ⟨_,rfl,_,rfl,sz (by simp),?_⟩
  have e : (p.2.map iD).map (fun d=>match d with | .int i=>iD (b.getD i.toNat 0) | d=>d) = (p.2.map fun g=>b.getD g 0).map iD:=by
   rw [List.map_map,List.map_map]
   exact List.map_congr_left fun g _=>by simp
  show Q (.st (.tup [iD p.1,.tup _]))
  rw [e]
  exact h
theorem Z3j {b : List Nat} (hb : b ≠ []) {Q : R -> Prop} (h : Q (.st (iD (Z4 b)))) : Q0e [.st (.lst (b.map iD))] Q:=by
 rw [W1h]
 refine ⟨b.map fun (x : Nat)=>(x : Int),by rw [Y7x,List.map_map]; rfl,by simpa using hb,fun m h1 h2=>?_⟩
 rw [W1k h1 h2]
 exact h
theorem Y7z (n : Nat) (o : Option Nat) : O2 n (oD o) = true:=by cases o <;> cases n <;> rfl
theorem W0d (b : List Nat) (p : Nat × List Nat) : O2 8 (Q3v b p) = true:=by
 simp [Q3v,O2]
theorem Y5j {es : List Bool} {rows : List (List Nat)} (w : Wf es rows) (hl : es.length <= 20000) {E : E6} {o0 : Option Sl} : ∀ (n many : Nat) (b : List Nat),K8 es.length b -> es.length + 1 <= n + many ->
  (∀ o3,E.nx [o0,some (.dat (rsD rows)),some (.dat (.lst ((Q3s rows n many b).map iD))),o3]) ->
  F5 wtA (wlA sp_numbered) (n + 1) E [o0,some (.dat (rsD rows)),some (.dat (.lst (b.map iD))),some (.dat (iD many))]:=by
 intro n
 induction n with
 | zero =>
  intro many b hb hn h
  have ne : b ≠ []:=fun z=>by have h1:=hb.len; rw [z,List.length_nil] at h1; have:=w.pos; omega
  have:=hb.lt _ (Q9h ne)
  simp only [F5,wtA,E3,L5,D6,C3,C6]
  refine ⟨_,rfl,?_⟩
  refine Z3j ne ⟨_,rfl,?_⟩
  rw [G3,Q0d,if_neg (by simp; omega)]
  exact h _
 | succ n ih =>
  intro many b hb hn h
  have ne : b ≠ []:=fun z=>by have h1:=hb.len; rw [z,List.length_nil] at h1; have:=w.pos; omega
  have mx:=hb.lt _ (Q9h ne)
  rw [F5]
  simp only [wtA,E3,L5,D6,C3,C6]
  refine ⟨_,rfl,?_⟩
  refine Z3j ne ⟨_,rfl,?_⟩
  rw [G3,Q0d]
  rw [Q3s] at h
  by_cases hm : many <= Z4 b
  ·rw [if_pos (by simpa using hm)]
   rw [if_pos hm] at h
   simp only [wlA,G4,K2,E3,L5,D6,C3,C6,F3,G1,W1,Q1z,W5g]
   refine ⟨_,rfl,?_⟩
   refine Z3j ne ?_
   rw [Q1n,N1]
   refine ⟨_,rfl,_,rfl,_,_,_,rfl,rfl,sz (by simp [R0,hb.len]; omega),?_⟩
   have ez : R0 (b.map iD) (rows.map rD) = ((b.zip rows).map fun p=>(iD p.1,rD p.2)).map fun p=>.tup [p.1,p.2]:=by
    unfold R0
    rw [List.zip_map]
    rfl
   rw [ez]
   refine Z8p (f:=fun d e=>match d,e with | .int i,.tup r=>Q3v b (i.toNat,r.map fun d=>match d with | .int j=>j.toNat | _=>0) | _,_=>.non) _ _ _ _ (fun q hq Q' hQ=>?_) ?_
   ·obtain ⟨p,hp,rfl⟩:=List.mem_map.mp hq
    have hr:=(List.of_mem_zip hp).2
    refine Y6v hb hl (w.r4 _ hr) (w.lt _ hr) Q' ?_
    have : (p.2.map iD).map (fun d=>match d with | .int j=>j.toNat | _=>0) = p.2:=by
     rw [List.map_map]
     conv=>rhs; rw [<- List.map_id p.2]
     exact List.map_congr_left fun g _=>by simp
    simp only [this] at hQ
    simpa using hQ
   ·have em : (((b.zip rows).map fun p=>(iD p.1,rD p.2)).map fun p=>(fun d e=>match d,e with | .int i,.tup r=>Q3v b (i.toNat,r.map fun d=>match d with | .int j=>j.toNat | _=>0) | _,_=>D.non) p.1 p.2) = Q2r rows b:=by
     unfold Q2r
     rw [List.map_map]
     refine List.map_congr_left fun p _=>?_
     have : (p.2.map iD).map (fun d=>match d with | .int j=>j.toNat | _=>0) = p.2:=by
      rw [List.map_map]
      conv=>rhs; rw [<- List.map_id p.2]
      exact List.map_congr_left fun g _=>by simp
     simp only [Function.comp,this]
     simp
    rw [em]
    refine ⟨rfl,_,⟨Q2r rows b,rfl,?_,fun d hd=>?_,rfl⟩,?_⟩
    ·simp [Q2r,hb.len]; omega
    ·obtain ⟨p,_,rfl⟩:=List.mem_map.mp hd
     exact ⟨W0d b p,_,rfl⟩
    ·have e : ((Z4 b : Int) + 1) = ((Z4 b + 1 : Nat) : Int):=by omega
     show F5 wtA (wlA sp_numbered) (n + 1) E [_,_,some (.dat (.lst ((Q8f rows b).map iD))),some (.dat (.int ((Z4 b : Int) + 1)))]
     rw [e]
     exact ih _ _ (hb.step w.len) (by omega) h
  ·rw [if_neg (by simpa using hm)]
   rw [if_neg hm] at h
   exact h _
noncomputable def sp_told_apart : D9:=fun rs Pr=>∃ ra es rows,rs = [ra,.st (rsD rows)] /\ K4 ra es /\ Wf es rows /\ es.length <= 20000 /\ Pr (.st (.lst ((N6 es rows).map iD)))
theorem Y8x : T8 sp_told_apart:=fun rs P Q f ⟨ra,es,rows,e,h1,h2,h3,h4⟩=>⟨ra,es,rows,e,h1,h2,h3,f _ h4⟩
theorem Y9c : ∀ rs Pr,rs.length = 2 -> sp_told_apart rs Pr -> Q9i sp_numbered sp_distances (L8 Pr) (E4 Z3q rs):=by
 rintro rs Pr _ ⟨ra,es,rows,rfl,ha,wf,hl,h⟩
 unfold Q9i
 simp only [G4,K2,G1,W1,D6,Y3c,S4,C3,F3,C6,Z4m]
 refine ⟨_,rfl,_,rfl,?_,ra,es,rows,true,?_,ha,wf,hl,?_⟩
 ·show (M7 (rdS (M8 ra)) && true) = true
  rw [ha.rd,ha.arg]; rfl
 ·show [nrm (rdS (M8 ra)),_,_] = _
  rw [ha.rd,ha.nrm]; rfl
 refine ⟨_,rfl,_,rfl,?_,ra,es,rows,false,?_,ha,wf,hl,?_⟩
 ·show (M7 (rdS (M8 ra)) && true) = true
  rw [ha.rd,ha.arg]; rfl
 ·show [nrm (rdS (M8 ra)),_,_] = _
  rw [ha.rd,ha.nrm]; rfl
 refine ⟨_,_,_,_,rfl,rfl,rfl,rfl,_,⟨Q1m es rows,?_,?_,fun d hd=>?_,rfl⟩,?_⟩
 ·have : R0 ((Q0q es rows true).map oD) ((Q0q es rows false).map oD) = Q1m es rows:=by
   unfold R0 Q1m
   rw [List.zip_map,List.map_map]; rfl
  rw [this]; rfl
 ·simp [Q1m,Q0q]; omega
 ·obtain ⟨p,_,rfl⟩:=List.mem_map.mp hd
  exact ⟨by simp [O2,Y7z],_,rfl⟩
 ·refine ⟨es.length + 1 + 1,?_⟩
  refine Y5j wf hl (es.length + 1) 0 _ K8.zero (by omega) fun o3=>?_
  exact ⟨_,rfl,h⟩
noncomputable abbrev E5:=List Bool × List (List Nat)
noncomputable abbrev mD (m : E5) : D:=.tup [.tup (m.1.map .bl),rsD m.2]
abbrev K5 (m : E5) : Prop:=Wf m.1 m.2
noncomputable def U5 (rows : List (List Nat)) (s c : Nat) : Nat:=(rows.getD s []).getD c 0
noncomputable def Y9 : Nat -> List Nat -> List (Nat × Nat) -> List (Nat × Nat)
 | _,[],S=>S
 | n,x :: b,S=>Y9 (n + 1) b (N2 S x n)
noncomputable def Q1p (rows : List (List Nat)) (b : List Nat) (x c : Nat) : Nat:=b.getD (U5 rows (b.idxOf x) c) 0
noncomputable def R4 (es : List Bool) (rows : List (List Nat)) : List Nat × List (List Nat):=Z1 es.length (Q1p rows (N6 es rows)) ((N6 es rows).getD 0 0)
noncomputable def Q0y (es : List Bool) (rows : List (List Nat)) : E5:=((R4 es rows).1.map fun x=>es.getD ((N6 es rows).idxOf x) false,(R4 es rows).2)
theorem Y7t {rows : List (List Nat)} {s c : Nat} {r : List Nat} (h : rows[s]? = some r) (hc : c < r.length) : r[c]? = some (U5 rows s c):=by
 unfold U5
 rw [List.getD_eq_getElem?_getD,List.getD_eq_getElem?_getD,h,Option.getD_some,List.getElem?_eq_getElem hc,Option.getD_some]
theorem Wf.row {es : List Bool} {rows : List (List Nat)} (w : Wf es rows) {s : Nat} (h : s < es.length) : ∃ r,rows[s]? = some r /\ r.length = 4 /\ ∀ c < 4,r[c]? = some (U5 rows s c) /\ U5 rows s c < es.length:=by
 have h' : s < rows.length:=by rw [w.len]; exact h
 have e : rows[s]? = some rows[s]:=List.getElem?_eq_getElem h'
 have m:=List.getElem_mem h'
 refine ⟨_,e,w.r4 _ m,fun c hc=>?_⟩
 have g:=Y7t e (c:=c) (by rw [w.r4 _ m]; exact hc)
 exact ⟨g,w.lt _ m _ (List.mem_of_getElem? g)⟩
theorem Q0l {c : Nat} (h : c ∈ C9) : c < 4:=by
 simp [C9] at h; omega
theorem Z3e {b : List Nat} {i : Nat} (h : i < b.length) : b.getD i 0 ∈ b:=by
 rw [List.getD_eq_getElem?_getD,List.getElem?_eq_getElem h]; exact List.getElem_mem h
theorem Y1u {es : List Bool} {rows : List (List Nat)} (w : Wf es rows) {b : List Nat} (hb : b.length = es.length) {x c : Nat} (hx : x ∈ b) (hc : c ∈ C9) : Q1p rows b x c ∈ b:=by
 have hi:=List.idxOf_lt_length_iff.mpr hx
 obtain ⟨r,_,_,h⟩:=w.row (s:=b.idxOf x) (by rw [<- hb]; exact hi)
 exact Z3e (by rw [hb]; exact (h c (Q0l hc)).2)
theorem Q9s {es : List Bool} {rows : List (List Nat)} (w : Wf es rows) : Q3w (Q1p rows (N6 es rows)) ((N6 es rows).getD 0 0) (N6 es rows) (R4 es rows).1 (R4 es rows).2:=by
 have B:=Z3c w
 exact Q6o (fun k hk c hc=>Y1u w B.len hk hc) (Z3e (by rw [B.len]; exact w.pos)) (Nat.le_of_eq B.len)
theorem W0x {es : List Bool} {rows : List (List Nat)} (w : Wf es rows) : K5 (Q0y es rows):=by
 have W:=Q9s w
 have rowOf : ∀ r ∈ (R4 es rows).2,∃ k ∈ (R4 es rows).1,r = C9.map fun c=>(R4 es rows).1.idxOf (Q1p rows (N6 es rows) k c):=fun r hr=>by
  obtain ⟨i,hi,rfl⟩:=List.mem_iff_getElem.mp hr
  have hi' : i < (R4 es rows).1.length:=by rw [<- W.len]; exact hi
  have:=W.row i _ (List.getElem?_eq_getElem hi')
  rw [List.getElem?_eq_getElem hi] at this
  exact ⟨_,List.getElem_mem hi',Option.some.inj this⟩
 refine ⟨?_,?_,fun r hr=>?_,fun r hr x hx=>?_⟩
 ·show (R4 es rows).2.length = ((R4 es rows).1.map _).length
  rw [List.length_map]; exact W.len
 ·show 0 < ((R4 es rows).1.map _).length
  rw [List.length_map]
  obtain ⟨h,_⟩:=List.getElem?_eq_some_iff.mp W.zero; exact h
 ·obtain ⟨k,_,rfl⟩:=rowOf r hr; rfl
 ·show x < ((R4 es rows).1.map _).length
  rw [List.length_map]
  obtain ⟨k,hk,rfl⟩:=rowOf r hr
  obtain ⟨c,hc,rfl⟩:=List.mem_map.mp hx
  exact List.idxOf_lt_length_iff.mpr (W.mem k hk c hc)
theorem Z5c {es : List Bool} {rows : List (List Nat)} (w : Wf es rows) : (Q0y es rows).1.length <= es.length:=by
 have W:=Q9s w
 have h:=W.nd.length_le_of_subset fun x hx=>W.sub x hx
 rw [(Z3c w).len] at h
 show ((R4 es rows).1.map _).length <= _
 rw [List.length_map]; exact h
theorem Y6n {S : List (Nat × Nat)} {x n y : Nat} : Q0a (N2 S x n) y = if y ∈ S.map (·.1) then Q0a S y else if y = x then some n else none:=by
 have hn : ∀ {S : List (Nat × Nat)} {y : Nat},y ∉ S.map (·.1) -> S.find? (fun q=>decide (q.1 = y)) = none:=fun {S y} h=>by
  rw [List.find?_eq_none]
  intro q hq z
  exact h (List.mem_map.mpr ⟨q,hq,of_decide_eq_true z⟩)
 have hs : ∀ {S : List (Nat × Nat)} {y : Nat},y ∈ S.map (·.1) -> (S.find? (fun q=>decide (q.1 = y))).isSome = true:=fun {S y} h=>by
  rw [List.find?_isSome]
  obtain ⟨q,hq,rfl⟩:=List.mem_map.mp h
  exact ⟨q,hq,by simp⟩
 unfold N2 Q0a
 by_cases hx : x ∈ S.map (·.1)
 ·rw [if_pos hx]
  by_cases hy : y ∈ S.map (·.1)
  ·rw [if_pos hy]
  ·rw [if_neg hy,hn hy,if_neg (fun z : y = x=>hy (z ▸ hx))]; rfl
 ·rw [if_neg hx,List.find?_append]
  by_cases hy : y ∈ S.map (·.1)
  ·rw [if_pos hy]
   have:=hs hy
   cases e : S.find? (fun q=>decide (q.1 = y)) with
   | none=>rw [e] at this; cases this
   | some q=>rfl
  ·rw [if_neg hy,hn hy]
   by_cases e : y = x
   ·subst e; simp
   ·rw [if_neg e]
    have : ¬ x = y:=fun z=>e z.symm
    simp [this]
theorem Z1x {S : List (Nat × Nat)} {x n y : Nat} : y ∈ (N2 S x n).map (·.1) ↔ y ∈ S.map (·.1) \/ y = x:=by
 unfold N2; split
 ·rename_i h
  constructor
  ·exact .inl
  ·rintro (h' | rfl) <;> assumption
 ·simp
theorem Y1a : ∀ (b : List Nat) (n : Nat) (S : List (Nat × Nat)) (x : Nat),Q0a (Y9 n b S) x = if x ∈ S.map (·.1) then Q0a S x else if x ∈ b then some (n + b.idxOf x) else none
 | [],n,S,x=>by
  rw [Y9]
  by_cases h : x ∈ S.map (·.1)
  ·rw [if_pos h]
  ·rw [if_neg h,if_neg (by simp)]
   unfold Q0a
   rw [List.find?_eq_none.mpr]
   ·rfl
   ·intro q hq z
    exact h (List.mem_map.mpr ⟨q,hq,of_decide_eq_true z⟩)
 | y :: b,n,S,x=>by
  rw [Y9,Y1a b,Y6n]
  by_cases h : x ∈ S.map (·.1)
  ·rw [if_pos h,if_pos (Z1x.mpr (.inl h)),if_pos h]
  ·by_cases e : x = y
   ·subst e
    rw [if_pos (Z1x.mpr (.inr rfl))]
    simp [h]
   ·have n1 : ¬ x ∈ (N2 S y n).map (·.1):=fun z=>by
     rcases Z1x.mp z with z | z
     ·exact h z
     ·exact e z
    have e' : (y == x) = false:=by simpa using fun z=>e z.symm
    rw [if_neg n1,if_neg h]
    by_cases hb : x ∈ b
    ·rw [if_pos hb,if_pos (by simp [hb]),List.idxOf_cons,e']
     simp; omega
    ·rw [if_neg hb,if_neg (by simp [hb,e])]
theorem Z6a {b : List Nat} {x : Nat} (h : x ∈ b) : D7 (kR (Y9 0 b [])) (ik x) = some (iD (b.idxOf x)):=by
 have:=Z4s (Y9 0 b []) x
 rw [Y1a,if_neg (by simp),if_pos h,Nat.zero_add] at this
 cases e : D7 (kR (Y9 0 b [])) (ik x) with
 | none=>rw [e] at this; cases this
 | some d=>rw [e] at this; exact congrArg some this
theorem Y5e (S : List (Nat × Nat)) (x n : Nat) : (N2 S x n).length <= S.length + 1:=by unfold N2; split <;> simp
theorem forS {E : E6} {o0 o1 o2 o6 o7 : Option Sl} : ∀ (b : List Nat) (n : Nat) (S : List (Nat × Nat)) (o4 o5 : Option Sl),S.length + b.length <= 1000000 ->
  (∀ o4 o5,E.nx [o0,o1,o2,some (.dk (kR (Y9 n b S))),o4,o5,o6,o7]) ->
  E2 (N5 2 (E8 (C2 4) (E8 (C2 5) O1))) (Q8r 3 (wV 5) (wV 4)) E ((b.zipIdx n).map fun p=>.tup [.int (p.2 : Int),iD p.1]) [o0,o1,o2,some (.dk (kR S)),o4,o5,o6,o7]
 | [],n,S,o4,o5,_,h=>h o4 o5
 | x :: b,n,S,o4,o5,hz,h=>by
  rw [List.length_cons] at hz
  have hl:=Y5e S x n
  have ih:=forS (E:=E) (o0:=o0) (o1:=o1) (o2:=o2) (o6:=o6) (o7:=o7) b (n + 1) (N2 S x n) (some (.dat (iD n))) (some (.dat (iD x))) (by omega) h
  rw [List.zipIdx_cons,List.map_cons,E2]
  simp only [Q1u,Q1i,S0,Q1b,W1y,C3]
  refine ⟨_,rfl,rfl,_,_,rfl,_,_,rfl,rfl,_,rfl,_,rfl,iD x,ik x,rfl,rfl,_,rfl,_,rfl,P5 (by simp [J4]; omega),?_⟩
  rw [Y1k]
  unfold N2 at ih
  by_cases hx : x ∈ S.map (·.1)
  ·rw [if_pos hx] at ih
   rw [if_pos (by simpa using hx)]
   exact ih
  ·rw [if_neg hx] at ih
   rw [if_neg (by simpa using hx)]
   have e : kR S ++ [(ik x,iD n)] = kR (S ++ [(x,n)]):=by simp [J4]
   show E2 _ _ _ _ [_,_,_,some (.dk (kR S ++ [(ik x,iD n)])),_,_,_,_]
   rw [e]
   exact ih
theorem K4.ix {ra : R} {es : List Bool} (h : K4 ra es) {i : Nat} (hi : i < es.length) {Q : R -> Prop} (q : Q (.st (.bl (es.getD i false)))) : B6 ra (.st (.int (i : Int))) Q:=by
 have e : K7 (es.map D.bl) (i : Int) = some (.bl (es.getD i false)):=V1 (by rw [List.getElem?_map,List.getD_eq_getElem?_getD,List.getElem?_eq_getElem hi]; rfl)
 rcases h with rfl | rfl
 ·rw [Q5s]; exact ⟨_,e,q⟩
 ·rw [Q6e]; exact ⟨_,e,q⟩
theorem K4.bor {ra : R} {es : List Bool} (h : K4 ra es) : Q5l (M8 ra) = some (M8 ra):=by rcases h with rfl | rfl <;> rfl
theorem Y0j {b : List Nat} {i : Nat} (h : i < b.length) {Q : R -> Prop} (q : Q (.st (iD (b.getD i 0)))) : B6 (.st (.lst (b.map iD))) (.st (.int (i : Int))) Q:=by
 rw [Z1p]
 exact ⟨_,V1 (by rw [List.getElem?_map,List.getD_eq_getElem?_getD,List.getElem?_eq_getElem h]; rfl),q⟩
noncomputable def sp_least : D9:=fun rs Pr=>∃ ra es rows,rs = [ra,.st (rsD rows)] /\ K4 ra es /\ Wf es rows /\ es.length <= 20000 /\ Pr (.st (mD (Q0y es rows)))
theorem Y3k : T8 sp_least:=fun rs P Q f ⟨ra,es,rows,e,h1,h2,h3,h4⟩=>⟨ra,es,rows,e,h1,h2,h3,f _ h4⟩
theorem Y4z {K : Fg9} {a : Addr} {es : List Bool} {rows : List (List Nat)} (w : Wf es rows) {b : List Nat} (hb : b.length = es.length) {x c : Nat} (hx : x ∈ b) (hc : c ∈ C9) :
  J5 (Q7q K) [.cl a (M0 K a (kR (Y9 0 b []))),.dat (rsD rows),.dat (.lst (b.map iD))] [.st (iD x),.st (iD c)] (.st (iD (Q1p rows b x c))):=by
 have hi : b.idxOf x < es.length:=by rw [<- hb]; exact List.idxOf_lt_length_iff.mpr hx
 obtain ⟨r,_,_,h3⟩:=w.row hi
 refine ⟨[iD x,iD c],iD (Q1p rows b x c),rfl,rfl,?_⟩
 unfold Q7q
 simp only [E3,C3,Z9p]
 refine ⟨_,rfl,_,rfl,a,_,rfl,_,rfl,iD x,ik x,_,rfl,rfl,Z6a hx,?_⟩
 obtain ⟨r,h1,h2,h3⟩:=w.row hi
 rw [G3,Q6e]
 refine ⟨rD r,V1 (by rw [List.getElem?_map,h1]; rfl),_,rfl,?_⟩
 rw [G3,Q6e]
 refine ⟨iD (U5 rows (b.idxOf x) c),V1 (by rw [List.getElem?_map,(h3 c (Q0l hc)).1]; rfl),?_⟩
 exact Y0j (by rw [hb]; exact (h3 c (Q0l hc)).2) rfl
theorem W2d {FC : C7} {K : Fg9} : ∀ rs Pr,rs.length = 2 -> sp_least rs Pr -> Q8y FC K sp_told_apart (sp_walkedK FC) (L8 Pr) (E4 Q9b rs):=by
 rintro rs Pr _ ⟨ra,es,rows,rfl,ha,wf,hl,h⟩
 have B:=Z3c wf
 have W:=Q9s wf
 have hpos : 0 < (N6 es rows).length:=by rw [B.len]; exact wf.pos
 unfold Q8y
 simp only [G4,K2,G1,S4,D6,C3,C6,Y4k,Y6s,Q0h,Y8g,Z9k,Y7m,E3,F3,S9,s_tup,L5,Q1z,Q7o,Q1u,Q1i,S0,Q1b]
 refine ⟨_,rfl,_,rfl,?_,ra,es,rows,?_,ha,wf,hl,?_⟩
 ·show (M7 (rdS (M8 ra)) && true) = true
  rw [ha.rd,ha.arg]; rfl
 ·show [nrm (rdS (M8 ra)),_] = _
  rw [ha.rd,ha.nrm]; rfl
 refine ⟨_,rfl,_,rfl,?_⟩
 have e3 : G6 ((N6 es rows).map iD) = ((N6 es rows).zipIdx 0).map fun p=>.tup [.int (p.2 : Int),iD p.1]:=by
  unfold G6; rw [List.zipIdx_map,List.map_map]; rfl
 rw [e3]
 refine forS (N6 es rows) 0 [] none none (by simp [B.len]; omega) fun o4 o5=>?_
 refine ⟨_,rfl,fun a=>?_⟩
 refine ⟨_,rfl,?_⟩
 rw [G3]
 refine Y0j (i:=0) hpos ?_
 refine ⟨rfl,_,⟨_,_,rfl,rfl,M0.hid,_,_,rfl,rfl,trivial,_,_,rfl,rfl,trivial,rfl⟩,fun f Φ hF=>?_⟩
 refine ⟨_,⟨Nat,inferInstance,iD,ik,Q1p rows (N6 es rows),(N6 es rows).getD 0 0,N6 es rows,f,Φ,_,fun _=>rfl,Q2e,rfl,hF,Z3e hpos,by rw [B.len]; omega,fun k hk c hc=>⟨Y1u wf B.len hk hc,Y4z wf B.len hk hc⟩,rfl⟩,?_⟩
 have eW : Z1 (N6 es rows).length (Q1p rows (N6 es rows)) ((N6 es rows).getD 0 0) = R4 es rows:=by unfold R4; rw [B.len]
 rw [eW]
 refine ⟨_,rfl,_,rfl,rfl,_,_,rfl,_,_,rfl,rfl,_,rfl,_,rfl,?_,?_⟩
 ·have hle:=Z5c wf
  have : (Q0y es rows).1.length = (R4 es rows).1.length:=by simp [Q0y]
  exact sz (by rw [List.length_map]; omega)
 show M4 (C2 0) U1 _ _ [none,Q5l (M8 ra),some (.cl a (M0 K a (kR (Y9 0 (N6 es rows) []))))] _
 rw [ha.bor]
 refine Q2v (f:=fun d=>match d with | .int i=>.bl (es.getD ((N6 es rows).idxOf i.toNat) false) | d=>d) (rest:=[some (M8 ra),some (.cl a (M0 K a (kR (Y9 0 (N6 es rows) []))))]) _ _ _ (fun d hd Q' q=>?_) ?_
 ·obtain ⟨x,hx,rfl⟩:=List.mem_map.mp hd
  have hxb:=W.sub x hx
  simp only [G1,E3,C3,Z9p]
  refine ⟨_,rfl,a,_,rfl,_,rfl,iD x,ik x,_,rfl,rfl,Z6a hxb,?_⟩
  rw [ha.rd]
  exact ha.ix (by rw [<- B.len]; exact List.idxOf_lt_length_iff.mpr hxb) (by simpa using q)
 ·rw [Q1c]
  refine ⟨_,rfl,_,rfl,_,rfl,sz (by simp),?_⟩
  have e : ((R4 es rows).1.map fun a=>iD a).map (fun d=>match d with | .int i=>D.bl (es.getD ((N6 es rows).idxOf i.toNat) false) | d=>d) = (Q0y es rows).1.map .bl:=by
   unfold Q0y
   rw [List.map_map,List.map_map]
   exact List.map_congr_left fun x _=>by simp
  show Pr (.st (.tup [.tup _,_]))
  rw [e]
  exact h
section
variable {α : Type} [DecidableEq α]
noncomputable def Z9h (U : List α) (step : α -> Nat -> α) (start : α) (fin : α -> Bool) : E5:=((Z1 U.length step start).1.map fin,(Z1 U.length step start).2)
noncomputable def Z6y (U : List α) (step : α -> Nat -> α) (start : α) (fin : α -> Bool) : E5:=Q0y (Z9h U step start fin).1 (Z9h U step start fin).2
theorem Q3w.wf {step : α -> Nat -> α} {start : α} {U ks : List α} {rs : List (List Nat)} (W : Q3w step start U ks rs) (fin : α -> Bool) : Wf (ks.map fin) rs:=by
 have rowOf : ∀ r ∈ rs,∃ k ∈ ks,r = C9.map fun c=>ks.idxOf (step k c):=fun r hr=>by
  obtain ⟨i,hi,rfl⟩:=List.mem_iff_getElem.mp hr
  have hi' : i < ks.length:=by rw [<- W.len]; exact hi
  have:=W.row i _ (List.getElem?_eq_getElem hi')
  rw [List.getElem?_eq_getElem hi] at this
  exact ⟨_,List.getElem_mem hi',Option.some.inj this⟩
 refine ⟨by rw [List.length_map]; exact W.len,?_,fun r hr=>?_,fun r hr x hx=>?_⟩
 ·rw [List.length_map]
  obtain ⟨h,_⟩:=List.getElem?_eq_some_iff.mp W.zero; exact h
 ·obtain ⟨k,_,rfl⟩:=rowOf r hr; rfl
 ·rw [List.length_map]
  obtain ⟨k,hk,rfl⟩:=rowOf r hr
  obtain ⟨c,hc,rfl⟩:=List.mem_map.mp hx
  exact List.idxOf_lt_length_iff.mpr (W.mem k hk c hc)
theorem Q3w.le {step : α -> Nat -> α} {start : α} {U ks : List α} {rs : List (List Nat)} (W : Q3w step start U ks rs) : ks.length <= U.length:=W.nd.length_le_of_subset fun x hx=>W.sub x hx
end
noncomputable def sp_built (FC : C7) : D9:=fun rs Pr=>∃ (α : Type) (_ : DecidableEq α) (ts : α -> List D) (key : α -> List B0) (step : α -> Nat -> α) (start : α) (fin : α -> Bool) (U : List α) (f f2 : Addr) (Φ Φ2 : Hp -> Prop) (sp sp2 : D8),
 (∀ a,P6 (ts a) = some (key a)) /\ (∀ a b,key a = key b -> a = b) /\ rs = [.st (.tup (ts start)),.cl f Φ,.cl f2 Φ2] /\ FC 2 f Φ sp /\ FC 1 f2 Φ2 sp2 /\ start ∈ U /\ U.length <= 20000 /\ (∀ k ∈ U,∀ c ∈ C9,step k c ∈ U /\ sp [.st (.tup (ts k)),.st (iD c)] (.st (.tup (ts (step k c))))) /\
 (∀ k ∈ U,sp2 [.st (.tup (ts k))] (.st (.bl (fin k)))) /\ Pr (.st (mD (Z6y U step start fin)))
theorem Y8l {FC : C7} : T8 (sp_built FC):=fun rs P Q g ⟨α,i,ts,key,step,st0,fin,U,f,f2,Φ,Φ2,sp,sp2,h1,h2,h3,h4,h5,h6,h7,h8,h9,h10⟩=>⟨α,i,ts,key,step,st0,fin,U,f,f2,Φ,Φ2,sp,sp2,h1,h2,h3,h4,h5,h6,h7,h8,h9,g _ h10⟩
theorem Z5a {α : Type} {FC : C7} {f2 : Addr} {Φ2 : Hp -> Prop} {sp2 : D8} {ts : α -> List D} {fin : α -> Bool} (hF : FC 1 f2 Φ2 sp2) {Q : List D -> Prop} : ∀ (ks : List α) (o : Option Sl),(∀ k ∈ ks,sp2 [.st (.tup (ts k))] (.st (.bl (fin k)))) -> Q ((ks.map fin).map .bl) ->
  M4 (C2 0) U1 (B1 (W5 FC 1 1 (A0 (wV 0) A3))) (ks.map fun a=>.tup (ts a)) [o,some (.cl f2 Φ2)] Q
 | [],o,_,h=>h
 | k :: ks,o,hs,h=>by
  rw [List.map_cons,M4]
  simp only [S0,W4t,G1,Q3p,D6,C3,C6,if_true]
  refine ⟨f2,Φ2,sp2,rfl,hF,_,rfl,rfl,_,hs k (by simp),_,rfl,?_⟩
  exact Z5a hF ks _ (fun k h=>hs k (by simp [h])) h
theorem Y9d {FC : C7} : ∀ rs Pr,rs.length = 3 -> sp_built FC rs Pr -> Z3d FC (sp_walked FC) sp_least (L8 Pr) (E4 Z0c rs):=by
 rintro rs Pr _ ⟨α,_,ts,key,step,start,fin,U,f,f2,Φ,Φ2,sp,sp2,hk,inj,rfl,hF,hF2,hs,hl,hU,hU2,h⟩
 have W:=Q6o (step:=step) (N:=U.length) (fun k h c hc=>(hU k h c hc).1) hs (Nat.le_refl _)
 have hle:=W.le
 unfold Z3d
 simp only [G4,Z9k,W1,D6,C3,C6,S9,S4,Q1z,Q7o,Q1u,Q1i,S0,Q1b]
 refine ⟨_,rfl,_,rfl,rfl,_,⟨α,inferInstance,ts,key,step,start,U,f,Φ,sp,hk,inj,rfl,hF,hs,by omega,hU,rfl⟩,?_⟩
 refine ⟨_,rfl,_,rfl,rfl,_,_,rfl,_,_,rfl,rfl,_,rfl,_,rfl,sz (by rw [List.length_map]; omega),?_⟩
 refine Z5a (fin:=fin) hF2 _ none (fun k hk=>hU2 k (W.sub k hk)) ?_
 refine ⟨_,rfl,rfl,_,_,_,rfl,.inl rfl,W.wf fin,by rw [List.length_map]; omega,h⟩
noncomputable abbrev pT (p : Nat × Nat) : List D:=[iD p.1,iD p.2]
noncomputable abbrev pK (p : Nat × Nat) : List B0:=[ik p.1,ik p.2]
theorem Z9d (a b : Nat × Nat) (h : pK a = pK b) : a = b:=by
 have h1:=(List.cons.inj h).1
 have h2:=(List.cons.inj (List.cons.inj h).2).1
 exact Prod.ext (Q2e _ _ h1) (Q2e _ _ h2)
noncomputable def J1 (m1 m2 : E5) (p : Nat × Nat) (c : Nat) : Nat × Nat:=(U5 m1.2 p.1 c,U5 m2.2 p.2 c)
noncomputable def U7 (g : Bool -> Bool -> Bool) (m1 m2 : E5) (p : Nat × Nat) : Bool:=g (m1.1.getD p.1 false) (m2.1.getD p.2 false)
noncomputable def Q5v (n1 n2 : Nat) : List (Nat × Nat):=(List.range n1).flatMap fun i=>(List.range n2).map fun j=>(i,j)
theorem Q2s {n1 n2 : Nat} {p : Nat × Nat} : p ∈ Q5v n1 n2 ↔ p.1 < n1 /\ p.2 < n2:=by
 unfold Q5v
 simp only [List.mem_flatMap,List.mem_range,List.mem_map]
 constructor
 ·rintro ⟨i,hi,j,hj,rfl⟩; exact ⟨hi,hj⟩
 ·rintro ⟨h1,h2⟩; exact ⟨p.1,h1,p.2,h2,rfl⟩
theorem Q8b (n1 n2 : Nat) : (Q5v n1 n2).length = n1 * n2:=by
 have : ∀ (l : List Nat),(l.map fun _=>n2).sum = l.length * n2:=by
  intro l; induction l with
  | nil=>simp
  | cons a l ih=>rw [List.map_cons,List.sum_cons,ih,List.length_cons,Nat.succ_mul]; omega
 simp [Q5v,List.length_flatMap,this]
noncomputable def PU (m1 m2 : E5) : List (Nat × Nat):=Q5v m1.1.length m2.1.length
theorem Q2h {m1 m2 : E5} (w1 : K5 m1) (w2 : K5 m2) {p : Nat × Nat} (h : p ∈ PU m1 m2) {c : Nat} (hc : c ∈ C9) : J1 m1 m2 p c ∈ PU m1 m2:=by
 obtain ⟨h1,h2⟩:=Q2s.mp h
 obtain ⟨_,_,_,g1⟩:=w1.row h1
 obtain ⟨_,_,_,g2⟩:=w2.row h2
 exact Q2s.mpr ⟨(g1 c (Q0l hc)).2,(g2 c (Q0l hc)).2⟩
def Y1e (m1 m2 : E5) (sp : D8) : Prop:=∀ p ∈ PU m1 m2,∀ c ∈ C9,sp [.st (.tup (pT p)),.st (iD c)] (.st (.tup (pT (J1 m1 m2 p c))))
def EndP (g : Bool -> Bool -> Bool) (m1 m2 : E5) (sp : D8) : Prop:=∀ p ∈ PU m1 m2,sp [.st (.tup (pT p))] (.st (.bl (U7 g m1 m2 p)))
def Y4 (g : Bool -> Bool -> Bool) (sp : D8) : Prop:=∀ x y : Bool,sp [.st (.bl x),.st (.bl y)] (.st (.bl (g x y)))
noncomputable def sp_pair_step (FC : C7) : D9:=fun rs Pr=>∃ m1 m2,rs = [.st (mD m1),.st (mD m2)] /\ K5 m1 /\ K5 m2 /\ ∀ f Φ sp,FC 2 f Φ sp -> Y1e m1 m2 sp -> Pr (.cl f Φ)
theorem Y1n {FC : C7} : T8 (sp_pair_step FC):=fun rs P Q g ⟨m1,m2,e,h1,h2,h3⟩=>⟨m1,m2,e,h1,h2,fun f Φ sp a b=>g _ (h3 f Φ sp a b)⟩
noncomputable def sp_pair_end (FC1 FC2 : C7) : D9:=fun rs Pr=>∃ m1 m2 f Φ sp g,rs = [.st (mD m1),.st (mD m2),.cl f Φ] /\ K5 m1 /\ K5 m2 /\ FC1 2 f Φ sp /\ Q0n Φ /\ Y4 g sp /\ ∀ f' Φ' sp',FC2 1 f' Φ' sp' -> EndP g m1 m2 sp' -> Pr (.cl f' Φ')
theorem Z6v {FC1 FC2 : C7} : T8 (sp_pair_end FC1 FC2):=fun rs P Q q ⟨m1,m2,f,Φ,sp,g,e,h1,h2,h3,h4,h5,h6⟩=>⟨m1,m2,f,Φ,sp,g,e,h1,h2,h3,h4,h5,fun f' Φ' sp' a b=>q _ (h6 f' Φ' sp' a b)⟩
theorem K0 {b : List D} {i : Nat} {d : D} (h : b[i]? = some d) {Q : R -> Prop} (q : Q (.st d)) : B6 (.st (.tup b)) (.st (.int (i : Int))) Q:=by
 rw [Q6e]; exact ⟨_,V1 h,q⟩
theorem Y6o {m1 m2 : E5} (w1 : K5 m1) (w2 : K5 m2) : Y1e m1 m2 (J5 Q8a [.dat (rsD m1.2),.dat (rsD m2.2)]):=by
 rintro ⟨i,j⟩ hp c hc
 obtain ⟨h1,h2⟩:=Q2s.mp hp
 refine ⟨[.tup (pT (i,j)),iD c],_,rfl,rfl,?_⟩
 unfold Q8a
 simp only [s_tup,D6,G1,E3,C3,F3,C6]
 refine ⟨_,rfl,_,rfl,K0 (i:=0) rfl ?_⟩
 obtain ⟨r,g1,_,g2⟩:=w1.row h1
 refine K0 (i:=i) (d:=rD r) (by rw [List.getElem?_map,g1]; rfl) ⟨_,rfl,?_⟩
 refine K0 (i:=c) (d:=iD (U5 m1.2 i c)) (by rw [List.getElem?_map,(g2 c (Q0l hc)).1]; rfl) ?_
 refine ⟨_,rfl,_,rfl,K0 (i:=1) rfl ?_⟩
 obtain ⟨r,g1,_,g2⟩:=w2.row h2
 refine K0 (i:=j) (d:=rD r) (by rw [List.getElem?_map,g1]; rfl) ⟨_,rfl,?_⟩
 refine K0 (i:=c) (d:=iD (U5 m2.2 j c)) (by rw [List.getElem?_map,(g2 c (Q0l hc)).1]; rfl) ?_
 exact ⟨_,rfl,sz (by simp),rfl⟩
theorem Y9y {FC : C7} : ∀ rs Pr,rs.length = 2 -> sp_pair_step FC rs Pr -> Q3x FC 2 [("rows",2),("other_rows",3)] Q8a Z0d Z2e Pr (E4 Z6i rs):=by
 rintro rs Pr _ ⟨m1,m2,rfl,w1,w2,h⟩
 unfold Q3x Z0d Z2e
 simp only [K2,E3,C3,F3]
 refine ⟨_,rfl,K0 (i:=1) rfl ?_⟩
 rw [N1]
 refine ⟨_,rfl,K0 (i:=1) rfl ?_⟩
 rw [N1]
 exact ⟨_,⟨_,_,rfl,rfl,trivial,_,_,rfl,rfl,trivial,rfl⟩,fun f Φ hF=>h f Φ _ hF (Y6o w1 w2)⟩
theorem Q6s {es : List Bool} {i : Nat} (h : i < es.length) : (es.map D.bl)[i]? = some (.bl (es.getD i false)):=by
 rw [List.getElem?_map,List.getD_eq_getElem?_getD,List.getElem?_eq_getElem h]; rfl
theorem Y6d {FC1 : C7} {m1 m2 : E5} {f : Addr} {Φ : Hp -> Prop} {sp : D8} {g : Bool -> Bool -> Bool} (hF : FC1 2 f Φ sp) (ht : Y4 g sp) : EndP g m1 m2 (J5 (Q8t FC1) [.dat (.tup (m2.1.map .bl)),.cl f Φ,.dat (.tup (m1.1.map .bl))]):=by
 rintro ⟨i,j⟩ hp
 obtain ⟨h1,h2⟩:=Q2s.mp hp
 refine ⟨[.tup (pT (i,j))],_,rfl,rfl,?_⟩
 unfold Q8t
 simp only [Q3p,D6,E3,C3,F3,C6]
 refine ⟨f,Φ,sp,rfl,hF,_,rfl,_,rfl,K0 (i:=0) rfl ?_⟩
 refine K0 (i:=i) (Q6s h1) ?_
 refine ⟨_,rfl,_,rfl,K0 (i:=1) rfl ?_⟩
 refine K0 (i:=j) (Q6s h2) ?_
 exact ⟨rfl,_,ht _ _,rfl⟩
theorem Y7e {FC1 FC2 : C7} : ∀ rs Pr,rs.length = 3 -> sp_pair_end FC1 FC2 rs Pr -> Q3x FC2 1 [("other_ends",4),("is_end",2),("ends",3)] (Q8t FC1) Z2v w2_pair_end Pr (E4 Z5n rs):=by
 rintro rs Pr _ ⟨m1,m2,f,Φ,sp,g,rfl,w1,w2,hF,hH,ht,h⟩
 unfold Q3x Z2v w2_pair_end
 simp only [K2,E3,C3,F3]
 refine ⟨_,rfl,K0 (i:=0) rfl ?_⟩
 rw [N1]
 refine ⟨_,rfl,K0 (i:=0) rfl ?_⟩
 rw [N1]
 exact ⟨_,⟨_,_,rfl,rfl,trivial,_,_,rfl,rfl,hH,_,_,rfl,rfl,trivial,rfl⟩,fun f' Φ' hF'=>h f' Φ' _ hF' (Y6d hF ht)⟩
noncomputable def Q2w (g : Bool -> Bool -> Bool) (m1 m2 : E5) : E5:=Z6y (PU m1 m2) (J1 m1 m2) (0,0) (U7 g m1 m2)
noncomputable def Q0z (FC1 : C7) : D9:=fun rs Pr=>∃ m1 m2 f Φ sp g,rs = [.st (mD m1),.st (mD m2),.cl f Φ] /\ K5 m1 /\ K5 m2 /\ m1.1.length * m2.1.length <= 20000 /\ FC1 2 f Φ sp /\ Q0n Φ /\ Y4 g sp /\ Pr (.st (mD (Q2w g m1 m2)))
theorem Z6n {FC1 : C7} : T8 (Q0z FC1):=fun rs P Q q ⟨m1,m2,f,Φ,sp,g,e,h1,h2,h3,h4,h5,h6,h7⟩=>⟨m1,m2,f,Φ,sp,g,e,h1,h2,h3,h4,h5,h6,q _ h7⟩
theorem Q4g {m1 m2 : E5} (w1 : K5 m1) (w2 : K5 m2) : (0,0) ∈ PU m1 m2:=Q2s.mpr ⟨w1.pos,w2.pos⟩
theorem Y5v {g : Bool -> Bool -> Bool} {m1 m2 : E5} (w1 : K5 m1) (w2 : K5 m2) : K5 (Q2w g m1 m2) :=
 W0x ((Q6o (step:=J1 m1 m2) (N:=(PU m1 m2).length) (fun k h c hc=>Q2h w1 w2 h hc) (Q4g w1 w2) (Nat.le_refl _)).wf _)
theorem Y3n {g : Bool -> Bool -> Bool} {m1 m2 : E5} (w1 : K5 m1) (w2 : K5 m2) : (Q2w g m1 m2).1.length <= m1.1.length * m2.1.length:=by
 have W:=Q6o (step:=J1 m1 m2) (N:=(PU m1 m2).length) (fun k h c hc=>Q2h w1 w2 h hc) (Q4g w1 w2) (Nat.le_refl _)
 have h1:=Z5c (W.wf (U7 g m1 m2))
 have h2:=W.le
 rw [List.length_map] at h1
 have h3 : (PU m1 m2).length = m1.1.length * m2.1.length:=Q8b _ _
 exact Nat.le_trans h1 (h3 ▸ h2)
theorem Y9f {FC1 FC2 : C7} : ∀ rs Pr,rs.length = 3 -> Q0z FC1 rs Pr -> Q9v (sp_built FC2) (sp_pair_step FC2) (sp_pair_end FC1 FC2) (L8 Pr) (E4 Z9z rs):=by
 rintro rs Pr _ ⟨m1,m2,f,Φ,sp,g,rfl,w1,w2,hl,hF,hH,ht,h⟩
 unfold Q9v
 simp only [S9,S4,D6,s_tup,G1,F3,C6,C3]
 refine ⟨_,rfl,sz (by simp),_,rfl,_,rfl,rfl,m1,m2,rfl,w1,w2,fun f1 Φ1 sp1 hF1 hs1=>?_⟩
 refine ⟨_,rfl,_,rfl,_,rfl,rfl,m1,m2,f,Φ,sp,g,rfl,w1,w2,hF,hH,ht,fun f2 Φ2 sp2 hF2 hs2=>?_⟩
 refine ⟨rfl,Nat × Nat,inferInstance,pT,pK,J1 m1 m2,(0,0),U7 g m1 m2,PU m1 m2,f1,f2,Φ1,Φ2,sp1,sp2,fun _=>rfl,Z9d,rfl,hF1,hF2,Q4g w1 w2,by unfold PU; rw [Q8b]; exact hl,fun k hk c hc=>⟨Q2h w1 w2 hk hc,hs1 k hk c hc⟩,hs2,h⟩
noncomputable abbrev sD : Option Str -> D
 | none=>.non
 | some t=>.str t
noncomputable abbrev O9 : List (Nat × Str):=[(0,"0"),(1,"1"),(2,"a"),(3,"b")]
theorem enm4 : G6 (Z9 "01ab") = O9.map fun p=>.tup [.int (p.1 : Int),.str p.2]:=rfl
section
variable {α : Type} [DecidableEq α]
noncomputable def R9 (T : List (α × Str)) (g : α) (t : Str) : List (α × Str):=if g ∈ T.map (·.1) then T else T ++ [(g,t)]
noncomputable def goT (st : Nat -> α) (t : Str) : List (Nat × Str) -> List (α × Str) -> List (α × Str)
 | [],T=>T
 | c :: cs,T=>goT st t cs (R9 T (st c.1) (t ++ c.2))
noncomputable def ftN (step : α -> Nat -> α) (fin : α -> Bool) : Nat -> List (α × Str) -> Nat -> Option Str
 | 0,_,_=>none
 | n + 1,T,p=>match T[p]? with
  | none=>none
  | some q=>if fin q.1 then some q.2 else ftN step fin n (goT (step q.1) q.2 O9 T) (p + 1)
noncomputable def Q0i (n : Nat) (step : α -> Nat -> α) (start : α) (fin : α -> Bool) : Option Str:=ftN step fin n [(start,"")] 0
structure O7 (U : List α) (T : List (α × Str)) : Prop where
 nd : (T.map (·.1)).Nodup
 sub : ∀ q ∈ T,q.1 ∈ U
 len : ∀ q ∈ T,q.2.length < T.length
theorem O7.bound {U : List α} {T : List (α × Str)} (h : O7 U T) : T.length <= U.length:=by
 have:=h.nd.length_le_of_subset fun x hx=>by
  obtain ⟨q,hq,rfl⟩:=List.mem_map.mp hx
  exact h.sub q hq
 simpa using this
theorem Q7l (T : List (α × Str)) (g : α) (t : Str) : T <+: R9 T g t:=by
 unfold R9; split
 ·exact List.prefix_refl _
 ·exact List.prefix_append _ _
theorem O7.add {U : List α} {T : List (α × Str)} (h : O7 U T) {g k : α} {t s : Str} (hg : g ∈ U) (hk : (k,t) ∈ T) (hs : s.length = 1) : O7 U (R9 T g (t ++ s)):=by
 unfold R9; split
 ·exact h
 ·rename_i n
  have hl:=h.len _ hk
  refine ⟨?_,fun q hq=>?_,fun q hq=>?_⟩
  ·rw [List.map_append,List.nodup_append]
   exact ⟨h.nd,by simp,fun a ha b hb=>by
    simp at hb; rintro rfl; exact n (hb ▸ ha)⟩
  ·rcases List.mem_append.mp hq with hq | hq
   ·exact h.sub q hq
   ·rw [List.mem_singleton.mp hq]; exact hg
  ·rw [List.length_append,List.length_singleton]
   rcases List.mem_append.mp hq with hq | hq
   ·have:=h.len q hq; omega
   ·rw [List.mem_singleton.mp hq]
    show (t ++ s).length < _
    rw [PySem.Str.length_append,hs]
    have hl : t.length < T.length:=hl
    omega
theorem O7.go {U : List α} {st : Nat -> α} {k : α} {t : Str} : ∀ (cs : List (Nat × Str)) (T : List (α × Str)),O7 U T -> (k,t) ∈ T -> (∀ c ∈ cs,st c.1 ∈ U /\ c.2.length = 1) -> O7 U (goT st t cs T)
 | [],T,h,_,_=>h
 | c :: cs,T,h,hk,hc=>O7.go cs _ (h.add (hc c (by simp)).1 hk (hc c (by simp)).2) ((Q7l _ _ _).subset hk) fun c' h'=>hc c' (by simp [h'])
theorem Y6 {c : Nat × Str} (h : c ∈ O9) : c.1 ∈ C9 /\ c.2.length = 1:=by
 simp only [O9,List.mem_cons,List.not_mem_nil,or_false] at h
 rcases h with rfl | rfl | rfl | rfl <;> exact ⟨by decide,rfl⟩
section T
variable {FC : C7} {f f2 : Addr} {Φ Φ2 : Hp -> Prop} {sp sp2 : D8} {step : α -> Nat -> α} {fin : α -> Bool} {ts : α -> List D} {key : α -> List B0}
noncomputable abbrev tT (key : α -> List B0) (T : List (α × Str)) : List (List B0 × D):=J4 key (T.map fun q=>(q.1,.str q.2))
theorem Z1u (T : List (α × Str)) : (T.map fun q=>(q.1,D.str q.2)).map (·.1) = T.map (·.1):=by simp
theorem Z7d (inj : ∀ a b,key a = key b -> a = b) {T : List (α × Str)} (nd : (T.map (·.1)).Nodup) {k : α} {t : Str} (h : (k,t) ∈ T) : D7 (tT key T) (key k) = some (.str t):=by
 rw [Q0s inj]
 exact Z8r (by rw [Z1u]; exact nd) (List.mem_map.mpr ⟨_,h,rfl⟩)
def wbF (FC2 : C7) : WS:=(A7 (B7 9 (W5 FC2 2 1 (A0 (wV 6) (A0 (wV 7) A3)))) (F9 (Q3t 4 (wV 9)) (A7 (Q3n 4 (wV 9) (A5 J9 (Q1t 4 (wV 6)) (wV 8))) (L9 3 (B1 (wV 9)))) G0))
theorem forF (hk : ∀ a,P6 (ts a) = some (key a)) (inj : ∀ a b,key a = key b -> a = b) (hF : FC 2 f Φ sp) {U : List α} (hl : U.length <= 100000) {k : α} {t : Str} {E : E6} {o0 o2 o5 : Option Sl} : ∀ (cs : List (Nat × Str)) (T : List (α × Str)) (o7 o8 o9 : Option Sl),
  O7 U T -> (k,t) ∈ T -> (∀ c ∈ cs,(step k c.1 ∈ U /\ c.2.length = 1) /\ sp [.st (.tup (ts k)),.st (iD c.1)] (.st (.tup (ts (step k c.1))))) ->
  (∀ o7 o8 o9,E.nx [o0,some (.cl f Φ),o2,some (.own ((goT (step k) t cs T).map fun q=>.tup (ts q.1))),some (.dt (tT key (goT (step k) t cs T))),o5,some (.dat (.tup (ts k))),o7,o8,o9]) ->
  E2 (N5 2 (E8 (C2 7) (E8 (C2 8) O1))) (wbF FC) E (cs.map fun p=>.tup [.int (p.1 : Int),.str p.2]) [o0,some (.cl f Φ),o2,some (.own (T.map fun q=>.tup (ts q.1))),some (.dt (tT key T)),o5,some (.dat (.tup (ts k))),o7,o8,o9]
 | [],T,o7,o8,o9,_,_,_,h=>h o7 o8 o9
 | c :: cs,T,o7,o8,o9,hI,hkt,hs,h=>by
  obtain ⟨⟨hU,h1⟩,hs0⟩:=hs c List.mem_cons_self
  have b:=hI.bound
  have hI2:=hI.add hU hkt h1
  have hk2:=(Q7l T (step k c.1) (t ++ c.2)).subset hkt
  have b2:=hI2.bound
  have ih:=forF hk inj hF hl (k:=k) (t:=t) (E:=E) (o0:=o0) (o2:=o2) (o5:=o5) cs
  have hlen:=hI.len _ hkt
  have hlen : t.length < T.length:=hlen
  have hv:=Q0s inj (T.map fun q=>(q.1,D.str q.2)) (step k c.1)
  have hi : (D7 (tT key T) (key (step k c.1))).isSome = decide (step k c.1 ∈ T.map (·.1)):=by rw [hv,Q6r,Z1u]
  rw [List.map_cons,E2]
  simp only [wbF,Q1u,Q1i,S0,Q1b,G4,K2,Q3p,D6,C3,C6,V7,Z9l,Z7s,Q1h,G1,U9,Q9d,E3]
  refine ⟨_,rfl,rfl,_,_,rfl,_,_,rfl,rfl,f,Φ,sp,rfl,hF,_,rfl,_,rfl,rfl,_,hs0,?_⟩
  rw [N1]
  refine ⟨_,rfl,_,rfl,ts (step k c.1),key (step k c.1),rfl,hk _,?_⟩
  rw [hi]
  by_cases hm : step k c.1 ∈ T.map (·.1)
  ·have ea : R9 T (step k c.1) (t ++ c.2) = T:=if_pos hm
   rw [if_neg (by simpa using hm)]
   refine ih T _ _ _ hI hkt (fun c' h'=>hs c' (List.mem_cons_of_mem _ h')) ?_
   simpa only [goT,ea] using h
  ·have ea : R9 T (step k c.1) (t ++ c.2) = T ++ [(step k c.1,t ++ c.2)]:=if_neg hm
   rw [if_pos (by simpa using hm)]
   refine ⟨_,rfl,_,rfl,ts k,key k,_,rfl,hk _,Z7d inj hI.nd hkt,_,rfl,?_⟩
   rw [G3,Y1h]
   refine ⟨sz (by rw [h1]; omega),_,rfl,_,rfl,_,rfl,ts (step k c.1),key (step k c.1),rfl,hk _,P5 (by simp [J4]; omega),_,rfl,_,rfl,_,rfl,P5 (by simp; omega),?_⟩
   have e1 : L4 (tT key T) (key (step k c.1)) (.str (t ++ c.2)) = tT key (R9 T (step k c.1) (t ++ c.2)):=by
    rw [Q8i inj (by rw [Z1u]; exact hm),ea]; simp [tT]
   have e2 : (T.map fun q=>D.tup (ts q.1)) ++ [D.tup (ts (step k c.1))] = (R9 T (step k c.1) (t ++ c.2)).map fun q=>D.tup (ts q.1):=by rw [ea]; simp
   show E2 _ _ _ _ [_,_,_,some (.own ((T.map fun q=>D.tup (ts q.1)) ++ [D.tup (ts (step k c.1))])),some (.dt (L4 (tT key T) (key (step k c.1)) (.str (t ++ c.2)))),_,_,_,_,_]
   rw [e1,e2]
   exact ih _ _ _ _ hI2 hk2 (fun c' h'=>hs c' (List.mem_cons_of_mem _ h')) h
def wtF : WT:=(A5 (R1 fun i j=>decide (i < j)) (wV 5) (D4 F2 (A0 (wV 3) A3)))
def wlF (FC2 : C7) : WS:=(A7 (B7 6 (A5 B6 (wV 3) (wV 5))) (A7 (F9 (Z7 (W5 FC2 1 2 (A0 (wV 6) A3))) (F4 (Q1t 4 (wV 6))) G0) (A7 (Q8 (Q2m (A0 (wC (.str "01ab")) A3)) (N5 2 (E8 (C2 7) (E8 (C2 8) O1))) (wbF FC2)) (Q3b 5 (N3 NoC fun i j=>i + j) (wC (.int 1))))))
theorem W5j (hk : ∀ a,P6 (ts a) = some (key a)) (inj : ∀ a b,key a = key b -> a = b) (hF : FC 2 f Φ sp) (hF2 : FC 1 f2 Φ2 sp2) {U : List α} (hl : U.length <= 100000) {E : E6} {o0 : Option Sl}
  (hU : ∀ k ∈ U,∀ c ∈ C9,step k c ∈ U /\ sp [.st (.tup (ts k)),.st (iD c)] (.st (.tup (ts (step k c))))) (hU2 : ∀ k ∈ U,sp2 [.st (.tup (ts k))] (.st (.bl (fin k)))) : ∀ (n : Nat) (T : List (α × Str)) (p : Nat) (o6 o7 o8 o9 : Option Sl),O7 U T -> U.length <= n + p ->
  (ftN step fin n T p = none -> ∀ τ,E.nx τ) -> (∀ t,ftN step fin n T p = some t -> E.rt (.st (.str t))) ->
  F5 wtF (wlF FC) (n + 1) E [o0,some (.cl f Φ),some (.cl f2 Φ2),some (.own (T.map fun q=>.tup (ts q.1))),some (.dt (tT key T)),some (.dat (iD p)),o6,o7,o8,o9]:=by
 intro n
 induction n with
 | zero =>
  intro T p o6 o7 o8 o9 hI hp h h2
  have b:=hI.bound
  simp only [F5,wtF,E3,L5,D6,C3,C6]
  refine ⟨_,rfl,_,rfl,?_⟩
  simp only [G3,T3,Y1,Q0d,List.length_map]
  rw [if_neg (by simp; omega)]
  exact h rfl _
 | succ n ih =>
  intro T p o6 o7 o8 o9 hI hp h h2
  have b:=hI.bound
  rw [F5]
  simp only [wtF,E3,L5,D6,C3,C6]
  refine ⟨_,rfl,_,rfl,?_⟩
  simp only [G3,T3,Y1,Q0d,List.length_map]
  by_cases hlt : p < T.length
  ·rw [if_pos (by simpa using hlt)]
   have hk' : T[p]? = some T[p]:=List.getElem?_eq_getElem hlt
   have kin:=List.getElem_mem hlt
   generalize T[p] = q at hk' kin
   obtain ⟨k,t⟩:=q
   have hkU : k ∈ U:=hI.sub _ kin
   rw [ftN,hk'] at h h2
   simp only [wlF,G4,K2,E3,C3,V7,Q7j,Q3p,D6,C6,S9,Q9d,U9,Q0h,Z0e,F3,Y2b]
   refine ⟨_,rfl,_,rfl,?_⟩
   rw [T3,G3,Q5s]
   refine ⟨.tup (ts k),V1 (by rw [List.getElem?_map,hk']; rfl),f2,Φ2,sp2,rfl,hF2,_,rfl,rfl,_,hU2 k hkU,?_⟩
   rw [Q4q]
   by_cases hf : fin k = true
   ·rw [if_pos hf]
    have h2:=h2 t (by show (if fin k = true then some t else _) = _; rw [if_pos hf])
    refine ⟨_,rfl,_,rfl,ts k,key k,_,rfl,hk _,Z7d inj hI.nd kin,h2⟩
   ·rw [if_neg hf]
    simp only [hf] at h h2
    refine .inl ⟨_,rfl,?_⟩
    rw [enm4]
    refine forF hk inj hF hl O9 T _ _ _ hI kin (fun c hc=>⟨⟨(hU k hkU c.1 (Y6 hc).1).1,(Y6 hc).2⟩,(hU k hkU c.1 (Y6 hc).1).2⟩) fun o7 o8 o9=>?_
    refine ⟨_,rfl,trivial,?_⟩
    have e : ((p : Int) + 1) = ((p + 1 : Nat) : Int):=by omega
    show F5 wtF (wlF FC) (n + 1) E [_,_,_,_,_,some (.dat (.int ((p : Int) + 1))),_,_,_,_]
    rw [e]
    exact ih _ _ _ _ _ _ (O7.go O9 T hI kin fun c hc=>⟨(hU k hkU c.1 (Y6 hc).1).1,(Y6 hc).2⟩) (by omega) h h2
  ·rw [if_neg (by simpa using hlt)]
   have e : T[p]? = none:=List.getElem?_eq_none_iff.mpr (by omega)
   exact h (by rw [ftN,e]) _
end T
end
noncomputable def sp_first_text (FC : C7) : D8:=fun rs r=>∃ (α : Type) (_ : DecidableEq α) (ts : α -> List D) (key : α -> List B0) (step : α -> Nat -> α) (start : α) (fin : α -> Bool) (U : List α) (f f2 : Addr) (Φ Φ2 : Hp -> Prop) (sp sp2 : D8),
 (∀ a,P6 (ts a) = some (key a)) /\ (∀ a b,key a = key b -> a = b) /\ rs = [.st (.tup (ts start)),.cl f Φ,.cl f2 Φ2] /\ FC 2 f Φ sp /\ FC 1 f2 Φ2 sp2 /\ start ∈ U /\ U.length <= 100000 /\ (∀ k ∈ U,∀ c ∈ C9,step k c ∈ U /\ sp [.st (.tup (ts k)),.st (iD c)] (.st (.tup (ts (step k c))))) /\
 (∀ k ∈ U,sp2 [.st (.tup (ts k))] (.st (.bl (fin k)))) /\ r = .st (sD (Q0i U.length step start fin))
theorem Z0r {α : Type} {U : List α} {st : α} (h : st ∈ U) : O7 U [(st,("" : Str))]:=⟨by simp,fun q hq=>by rw [List.mem_singleton.mp hq]; exact h,fun q hq=>by rw [List.mem_singleton.mp hq]; show (Str.ofString "").length < 1; decide⟩
theorem W1b {FC : C7} : ∀ rs r,rs.length = 3 -> sp_first_text FC rs r -> Z2b FC (Y8 r) (E4 Z4b rs):=by
 rintro rs r _ ⟨α,_,ts,key,step,st0,fin,U,f,f2,Φ,Φ2,sp,sp2,hk,inj,rfl,hF,hF2,hs,hl,hU,hU2,rfl⟩
 unfold Z2b
 simp only [G4,K2,s_lst,D6,G1,C3,C6,Z8h,F3,S9]
 refine ⟨_,rfl,_,rfl,sz (by simp),?_⟩
 refine ⟨_,rfl,ts st0,key st0,rfl,hk _,_,rfl,?_⟩
 rw [N1]
 refine ⟨U.length + 1,?_⟩
 refine W5j hk inj hF hF2 hl hU hU2 U.length [(st0,"")] 0 _ _ _ _ (Z0r hs) (by omega) (fun e τ=>?_) (fun t e=>?_)
 ·show R.st .non = .st (sD (Q0i _ _ _ _))
  unfold Q0i; rw [e]
 ·show R.st (.str t) = .st (sD (Q0i _ _ _ _))
  unfold Q0i; rw [e]
noncomputable abbrev B9 (x y : Bool) : Bool:=x && !y
noncomputable abbrev N7 (x y : Bool) : Bool:=x && y
noncomputable abbrev T4 (x y : Bool) : Bool:=x != y
noncomputable abbrev gOr (x y : Bool) : Bool:=x || y
noncomputable def B3 (g : Bool -> Bool -> Bool) (m1 m2 : E5) : Option Str:=Q0i (PU m1 m2).length (J1 m1 m2) (0,0) (U7 g m1 m2)
structure L1 (m1 m2 : E5) : Prop where
 w1 : K5 m1
 w2 : K5 m2
 le : m1.1.length * m2.1.length <= 20000
theorem L1.swap {m1 m2 : E5} (h : L1 m1 m2) : L1 m2 m1:=⟨h.w2,h.w1,by rw [Nat.mul_comm]; exact h.le⟩
noncomputable def sp_first_of_both (FC1 : C7) : D9:=fun rs Pr=>∃ m1 m2 f Φ sp g,rs = [.st (mD m1),.st (mD m2),.cl f Φ] /\ L1 m1 m2 /\ FC1 2 f Φ sp /\ Q0n Φ /\ Y4 g sp /\ Pr (.st (sD (B3 g m1 m2)))
theorem Z3p {FC1 : C7} : T8 (sp_first_of_both FC1):=fun rs P Q q ⟨m1,m2,f,Φ,sp,g,e,h1,h2,h3,h4,h5⟩=>⟨m1,m2,f,Φ,sp,g,e,h1,h2,h3,h4,q _ h5⟩
theorem W4k {FC1 FC2 : C7} : ∀ rs Pr,rs.length = 3 -> sp_first_of_both FC1 rs Pr -> Z0h (sp_first_text FC2) (sp_pair_step FC2) (sp_pair_end FC1 FC2) (L8 Pr) (E4 Z8m rs):=by
 rintro rs Pr _ ⟨m1,m2,f,Φ,sp,g,rfl,⟨w1,w2,hl⟩,hF,hH,ht,h⟩
 unfold Z0h
 simp only [S9,W1,S4,D6,s_tup,G1,F3,C6,C3]
 refine ⟨_,rfl,sz (by simp),_,rfl,_,rfl,rfl,m1,m2,rfl,w1,w2,fun f1 Φ1 sp1 hF1 hs1=>?_⟩
 refine ⟨_,rfl,_,rfl,_,rfl,rfl,m1,m2,f,Φ,sp,g,rfl,w1,w2,hF,hH,ht,fun f2 Φ2 sp2 hF2 hs2=>?_⟩
 refine ⟨rfl,_,⟨Nat × Nat,inferInstance,pT,pK,J1 m1 m2,(0,0),U7 g m1 m2,PU m1 m2,f1,f2,Φ1,Φ2,sp1,sp2,fun _=>rfl,Z9d,rfl,hF1,hF2,Q4g w1 w2,by unfold PU; rw [Q8b]; omega,fun k hk c hc=>⟨Q2h w1 w2 hk hc,hs1 k hk c hc⟩,hs2,rfl⟩,h⟩
noncomputable def N4 (g : Bool -> Bool -> Bool) : D9:=fun rs Pr=>∃ m1 m2,rs = [.st (mD m1),.st (mD m2)] /\ L1 m1 m2 /\ Pr (.st (sD (B3 g m1 m2)))
theorem Q4b {g : Bool -> Bool -> Bool} : T8 (N4 g):=fun rs P Q q ⟨m1,m2,e,h1,h2⟩=>⟨m1,m2,e,h1,q _ h2⟩
theorem W2u : Y4 B9 (J5 Q4r []):=by
 intro x y
 refine ⟨[.bl x,.bl y],_,rfl,rfl,?_⟩
 cases x <;> cases y <;> simp [Q4r]
theorem W4q : Y4 N7 (J5 Q5m []):=by
 intro x y
 refine ⟨[.bl x,.bl y],_,rfl,rfl,?_⟩
 cases x <;> cases y <;> simp [Q5m]
theorem W0o : Y4 T4 (J5 Q4k []):=by
 intro x y
 refine ⟨[.bl x,.bl y],_,rfl,rfl,?_⟩
 cases x <;> cases y <;> simp [Q4k]
theorem Y7q : Y4 gOr (J5 Q5o []):=by
 intro x y
 refine ⟨[.bl x,.bl y],_,rfl,rfl,?_⟩
 cases x <;> cases y <;> simp [Q5o]
theorem Y3q : Y4 N7 (J5 Q5a []):=by
 intro x y
 refine ⟨[.bl x,.bl y],_,rfl,rfl,?_⟩
 cases x <;> cases y <;> simp [Q5a]
theorem rdB {FC1 : C7} {g : Bool -> Bool -> Bool} {wl : WE} (ht : Y4 g (J5 wl [])) : ∀ rs Pr,rs.length = 2 -> N4 g rs Pr -> (F4 (E9 (sp_first_of_both FC1) (A0 (wV 0) (A0 (wV 1) (A0 (Q0t FC1 2 (J5 wl [])) A3))))) (L8 Pr) (E4 ["one","other"] rs):=by
 rintro rs Pr _ ⟨m1,m2,rfl,h2,h⟩
 simp only [S9,S4,D6,C6,C3,Z4o]
 refine ⟨_,rfl,_,rfl,fun f Φ hF hH=>?_⟩
 exact ⟨rfl,m1,m2,f,Φ,_,g,rfl,h2,hF,hH,ht,h⟩
theorem Y7h {FC1 : C7} : ∀ rs Pr,rs.length = 2 -> N4 B9 rs Pr -> Z4w FC1 (sp_first_of_both FC1) (L8 Pr) (E4 Y1g rs):=rdB W2u
theorem W5k {FC1 : C7} : ∀ rs Pr,rs.length = 2 -> N4 N7 rs Pr -> Z8j FC1 (sp_first_of_both FC1) (L8 Pr) (E4 Z5q rs):=rdB W4q
theorem W0g {FC1 : C7} : ∀ rs Pr,rs.length = 2 -> N4 T4 rs Pr -> Z6k FC1 (sp_first_of_both FC1) (L8 Pr) (E4 Y1w rs):=rdB W0o
noncomputable def sp_within : D9:=fun rs Pr=>∃ m1 m2,rs = [.st (mD m1),.st (mD m2)] /\ L1 m1 m2 /\ Pr (.st (.bl (B3 B9 m1 m2).isNone))
theorem Q7y : T8 sp_within:=fun rs P Q q ⟨m1,m2,e,h1,h2⟩=>⟨m1,m2,e,h1,q _ h2⟩
theorem T9 {o : Option Str} {Q : Bool -> Prop} (h : Q o.isNone) : M9 false (.st (sD o)) (.st .non) Q:=by
 rw [W4g]
 cases o with
 | none=>exact ⟨_,rfl,rfl,h⟩
 | some t=>exact ⟨_,rfl,rfl,h⟩
theorem Y3y : ∀ rs Pr,rs.length = 2 -> sp_within rs Pr -> Z1j (N4 B9) (L8 Pr) (E4 Z6u rs):=by
 rintro rs Pr _ ⟨m1,m2,rfl,h2,h⟩
 unfold Z1j
 simp only [S9,s_b,E3,S4,D6,C6,C3,F3]
 exact ⟨_,rfl,_,rfl,rfl,m1,m2,rfl,h2,T9 h⟩
noncomputable def Q6v (m1 m2 : E5) : Str:=if (B3 T4 m1 m2).isNone then "same" else if (B3 B9 m1 m2).isNone then "less" else if (B3 B9 m2 m1).isNone then "more" else if (B3 N7 m1 m2).isNone then "apart" else "cross"
noncomputable def Q3y : D9:=fun rs Pr=>∃ m1 m2,rs = [.st (mD m1),.st (mD m2)] /\ L1 m1 m2 /\ Pr (.st (.str (Q6v m1 m2)))
theorem W3a : T8 Q3y:=fun rs P Q q ⟨m1,m2,e,h1,h2⟩=>⟨m1,m2,e,h1,q _ h2⟩
theorem W1d : ∀ rs Pr,rs.length = 2 -> Q3y rs Pr -> Z0l (N4 T4) sp_within (N4 N7) (L8 Pr) (E4 Z7q rs):=by
 rintro rs Pr _ ⟨m1,m2,rfl,h2,h⟩
 unfold Z0l
 simp only [G4,V7,S9,E3,S4,D6,C6,C3,F3,Q7j,U9,W0l]
 unfold Q6v at h
 refine ⟨_,rfl,_,rfl,rfl,m1,m2,rfl,h2,T9 ?_⟩
 split
 ·rename_i e; rw [if_pos e] at h; exact h
 ·rename_i e; rw [if_neg e] at h
  refine ⟨_,rfl,_,rfl,rfl,m1,m2,rfl,h2,?_⟩
  show Y7 (.st (.bl _)) _
  rw [Q4q]
  split
  ·rename_i e; rw [if_pos e] at h; exact h
  ·rename_i e; rw [if_neg e] at h
   refine ⟨_,rfl,_,rfl,rfl,m2,m1,rfl,h2.swap,?_⟩
   show Y7 (.st (.bl _)) _
   rw [Q4q]
   split
   ·rename_i e; rw [if_pos e] at h; exact h
   ·rename_i e; rw [if_neg e] at h
    refine ⟨_,rfl,_,rfl,rfl,m1,m2,rfl,h2,T9 ?_⟩
    split
    ·rename_i e; rw [if_pos e] at h; exact h
    ·rename_i e; rw [if_neg e] at h; exact h
noncomputable def spS (g : Bool -> Bool -> Bool) : D9:=fun rs Pr=>∃ m1 m2,rs = [.st (mD m1),.st (mD m2)] /\ L1 m1 m2 /\ Pr (.st (mD (Q2w g m1 m2)))
theorem Z4i {g : Bool -> Bool -> Bool} : T8 (spS g):=fun rs P Q q ⟨m1,m2,e,h1,h2⟩=>⟨m1,m2,e,h1,q _ h2⟩
theorem rdS2 {FC1 : C7} {g : Bool -> Bool -> Bool} {wl : WE} (ht : Y4 g (J5 wl [])) : ∀ rs Pr,rs.length = 2 -> spS g rs Pr -> (F4 (E9 (Q0z FC1) (A0 (wV 0) (A0 (wV 1) (A0 (Q0t FC1 2 (J5 wl [])) A3))))) (L8 Pr) (E4 ["one","other"] rs):=by
 rintro rs Pr _ ⟨m1,m2,rfl,h2,h⟩
 simp only [S9,S4,D6,C6,C3,Z4o]
 refine ⟨_,rfl,_,rfl,fun f Φ hF hH=>?_⟩
 exact ⟨rfl,m1,m2,f,Φ,_,g,rfl,h2.w1,h2.w2,h2.le,hF,hH,ht,h⟩
theorem W3o {FC1 : C7} : ∀ rs Pr,rs.length = 2 -> spS gOr rs Pr -> Y1q FC1 (Q0z FC1) (L8 Pr) (E4 Z6b rs):=rdS2 Y7q
theorem Y5d {FC1 : C7} : ∀ rs Pr,rs.length = 2 -> spS N7 rs Pr -> Y0b FC1 (Q0z FC1) (L8 Pr) (E4 Y0z rs):=rdS2 Y3q
noncomputable abbrev scr (ns : List Int) : D:=.lst (ns.map D.int)
noncomputable def Q0m (ns : List Int) (k : Int) : Int:=if ns = [] then 7 * k else (ns[(k % (ns.length : Int)).toNat]?.getD 0) + 6553 * (k / (ns.length : Int))
noncomputable def Q5w : D8:=fun rs r=>∃ ns k,rs = [.st (scr ns),.st (.int k)] /\ ns.length <= 63 /\ r = .st (.int (Q0m ns k))
theorem Y3o (ns : List Int) : D.depth (scr ns) <= 60:=by
 have : D.depths (ns.map D.int) = 0:=by
  induction ns with
  | nil=>simp [D.depths]
  | cons n r ih=>simp [D.depths,D.depth,ih]
 simp [D.depth,this]
theorem W5e {ns : List Int} {k : Int} (h : ns ≠ []) : K7 (ns.map D.int) (k % (ns.length : Int)) = some (.int (ns[(k % (ns.length : Int)).toNat]?.getD 0)):=by
 have hp : 0 < (ns.length : Int):=by have:=List.length_pos_iff.mpr h; omega
 have h0:=Int.emod_nonneg k (by omega : (ns.length : Int) ≠ 0)
 have h1:=Int.emod_lt_of_pos k hp
 have hlt : (k % (ns.length : Int)).toNat < ns.length:=by omega
 have e : k % (ns.length : Int) = (((k % (ns.length : Int)).toNat : Nat) : Int):=by omega
 have q : K7 (ns.map D.int) (((k % (ns.length : Int)).toNat : Nat) : Int) = some (.int (ns[(k % (ns.length : Int)).toNat]?.getD 0)):=V1 (by rw [List.getElem?_map,List.getElem?_eq_getElem hlt]; rfl)
 rw [<- e] at q
 exact q
theorem Y3g : ∀ rs r,rs.length = 2 -> Q5w rs r -> Q8q (Y8 r) (E4 Z8z rs):=by
 rintro rs r _ ⟨ns,k,rfl,hn,rfl⟩
 have hd:=Y3o ns
 by_cases h : ns = []
 ·subst h
  simp [Q8q,Q1s,Q0m,hd,D.depth,D.depths]
 ·have hp : 0 < (ns.length : Int):=by have:=List.length_pos_iff.mpr h; omega
  simp [Q8q,Q1s,Q0f,Q0m,hd,h,W5e h]
  omega
noncomputable def U4 (ns : List Int) (k m : Int) : Int :=
 let c:=((Q0m ns k) % 2147483563 * 69069 + 104723 * (k + 1)) % 2147483563
 let c:=(c * c + c / 3) % 2147483399
 (c * c + c / 7) % 2147483647 / 11 % m
noncomputable def Q1a : D8:=fun rs r=>∃ ns k m,rs = [.st (scr ns),.st (.int k),.st (.int m)] /\ ns.length <= 63 /\ 0 < m /\ r = .st (.int (U4 ns k m))
theorem Y8q : ∀ rs r,rs.length = 3 -> Q1a rs r -> Q8v Q5w (Y8 r) (E4 Z9x rs):=by
 rintro rs r _ ⟨ns,k,m,rfl,hn,hm,rfl⟩
 have key : ∀ c : Int,0 <= c -> c < 2147483648 -> Q1s c c:=fun c h1 h2=>.inl ⟨by omega,by omega⟩
 simp [Q8v,Q5w,hm,hn]
 refine ⟨_,⟨ns,k,⟨rfl,rfl⟩,hn,rfl⟩,?_⟩
 have e1:=Int.emod_nonneg (Q0m ns k) (by decide : (2147483563 : Int) ≠ 0)
 have e2:=Int.emod_lt_of_pos (Q0m ns k) (by decide : (0 : Int) < 2147483563)
 have b1:=Int.emod_nonneg (Q0m ns k % 2147483563 * 69069 + 104723 * (k + 1)) (by decide : (2147483563 : Int) ≠ 0)
 have b2:=Int.emod_lt_of_pos (Q0m ns k % 2147483563 * 69069 + 104723 * (k + 1)) (by decide : (0 : Int) < 2147483563)
 simp only [Y9q,Z6t,Q1n,N1,G3,W1u,W4j,U4]
 generalize (Q0m ns k % 2147483563 * 69069 + 104723 * (k + 1)) % 2147483563 = c at b1 b2 ⊢
 have b3:=Int.emod_nonneg (c * c + c / 3) (by decide : (2147483399 : Int) ≠ 0)
 have b4:=Int.emod_lt_of_pos (c * c + c / 3) (by decide : (0 : Int) < 2147483399)
 generalize (c * c + c / 3) % 2147483399 = c2 at b3 b4 ⊢
 have cd : ∀ c : Int,Q0f c 3 /\ Q0f c 7 /\ Q0f c 11:=fun c=>⟨⟨by decide,by decide⟩,⟨by decide,by decide⟩,⟨by decide,by decide⟩⟩
 exact ⟨by decide,.inl ⟨by omega,by omega⟩,.inl ⟨by decide,by decide⟩,by decide,key _ b1 (by omega),(cd c).1,by decide,key _ b3 (by omega),(cd c2).2.1,by decide,(cd _).2.2,hm,trivial⟩
theorem Y6m (ns : List Int) (k : Int) {m : Int} (h : 0 < m) : 0 <= U4 ns k m:=Int.emod_nonneg _ (by omega)
theorem W1o (ns : List Int) (k : Int) {m : Int} (h : 0 < m) : U4 ns k m < m:=Int.emod_lt_of_pos _ h
noncomputable def drN (ns : List Int) (k : Int) (m : Nat) : Nat:=(U4 ns k (m : Int)).toNat
theorem Z2k (ns : List Int) (k : Int) {m : Nat} (h : 0 < m) : U4 ns k (m : Int) = (drN ns k m : Int):=by
 have:=Y6m ns k (m:=(m : Int)) (by omega)
 unfold drN; omega
theorem Z0w (ns : List Int) (k : Int) {m : Nat} (h : 0 < m) : drN ns k m < m:=by
 have:=W1o ns k (m:=(m : Int)) (by omega)
 have:=Z2k ns k h
 omega
noncomputable def Q5 (ns : List Int) (at_ : Int) (most : Nat) : Nat:=1 + drN ns at_ most
noncomputable def N8 (ns : List Int) (at_ : Int) (most : Nat) : E5 :=
 ((List.range (Q5 ns at_ most)).map fun (k : Nat)=>decide (U4 ns (at_ + 1 + (k : Int)) 2 = 0),(List.range (Q5 ns at_ most)).map fun (k : Nat)=>C9.map fun (j : Nat)=>drN ns (at_ + 7 + 4 * (k : Int) + (j : Int)) (Q5 ns at_ most))
theorem Z0y (ns : List Int) (at_ : Int) (most : Nat) : (N8 ns at_ most).1.length = Q5 ns at_ most:=by simp [N8]
theorem Z6z (ns : List Int) (at_ : Int) {most : Nat} (h : 0 < most) : (N8 ns at_ most).1.length <= most:=by
 rw [Z0y]; unfold Q5; have:=Z0w ns at_ h; omega
theorem Y0u (ns : List Int) (at_ : Int) {most : Nat} (h : 0 < most) : K5 (N8 ns at_ most):=by
 have hp : 0 < Q5 ns at_ most:=by unfold Q5; omega
 refine ⟨by simp [N8],by rw [Z0y]; exact hp,fun r hr=>?_,fun r hr x hx=>?_⟩
 ·obtain ⟨k,_,rfl⟩:=List.mem_map.mp hr; rfl
 ·obtain ⟨k,_,rfl⟩:=List.mem_map.mp hr
  obtain ⟨j,_,rfl⟩:=List.mem_map.mp hx
  rw [Z0y]; exact Z0w ns _ hp
theorem Y1y (ns : List Int) (hn : ns.length <= 63) (at_ : Int) {n : Nat} (h0 : 0 < n) {E : E6} {o2 o4 : Option Sl} : ∀ (l : List Nat) (ds : List D) (o6 : Option Sl),ds.length + l.length <= 1000 ->
  (∀ o6,E.nx [some (.dat (scr ns)),some (.dat (.int at_)),o2,some (.dat (iD n)),o4,some (.own (ds ++ l.map fun (k : Nat)=>rD (C9.map fun (j : Nat)=>drN ns (at_ + 7 + 4 * (k : Int) + (j : Int)) n))),o6]) ->
  E2 (C2 6) (L9 5 (B1 (D4 Q2 (A0 (W4 1 [0,3,1,6] (Q5n (A0 (wC (.int 4)) A3)) (C2 0) U1 (B1 (J7 Q1a (A0 (wV 1) (A0 (A5 J9 (A5 J9 (A5 J9 (wV 3) (wC (.int 7))) (A5 V4 (wC (.int 4)) (wV 4))) (wV 0)) (A0 (wV 2) A3)))))) A3))))
   E (l.map iD) [some (.dat (scr ns)),some (.dat (.int at_)),o2,some (.dat (iD n)),o4,some (.own ds),o6]
 | [],ds,o6,_,h=>by simpa [E2] using h o6
 | k :: l,ds,o6,hz,h=>by
  rw [List.length_cons] at hz
  have e4 : Q4 0 (Int.toNat 4) = C9.map iD:=rfl
  rw [List.map_cons,E2]
  simp only [S0,Q1h,G1,L5,D6,Q1z,Z2t,F3,C6]
  refine ⟨_,rfl,_,rfl,by decide,by decide,by rw [e4]; exact sz (by simp),?_⟩
  rw [e4]
  refine Q2v (f:=fun d=>match d with | .int j=>iD (drN ns (at_ + 7 + 4 * (k : Int) + j) n) | d=>d) _ _ _ (fun d hd Q' q=>?_) ?_
  ·obtain ⟨j,_,rfl⟩:=List.mem_map.mp hd
   simp only [G1,W1,D6,C3,E3,F3,C6]
   refine ⟨_,rfl,_,rfl,_,rfl,?_⟩
   show V4 (R.st (.int 4)) (R.st (.int (k : Int))) _
   rw [Z6t]
   refine ⟨.inl ⟨by decide,by decide⟩,?_⟩
   rw [Q1n]
   refine ⟨_,rfl,?_⟩
   rw [G3,Q1n]
   refine ⟨_,rfl,rfl,_,⟨ns,at_ + 7 + 4 * (k : Int) + (j : Int),(n : Int),rfl,hn,by omega,rfl⟩,?_⟩
   rw [Z2k ns _ h0]
   exact q
  ·rw [Q1c]
   refine ⟨_,rfl,_,rfl,P5 (by omega),?_⟩
   have e : (C9.map iD).map (fun d=>match d with | .int j=>iD (drN ns (at_ + 7 + 4 * (k : Int) + j) n) | d=>d) = (C9.map fun (j : Nat)=>drN ns (at_ + 7 + 4 * (k : Int) + (j : Int)) n).map iD:=by rfl
   rw [e]
   refine Y1y ns hn at_ h0 l (ds ++ [rD (C9.map fun (j : Nat)=>drN ns (at_ + 7 + 4 * (k : Int) + (j : Int)) n)]) _ (by simp; omega) fun o6=>?_
   simpa using h o6
noncomputable def Q5k : D8:=fun rs r=>∃ ns at_ most,rs = [.st (scr ns),.st (.int at_),.st (iD most)] /\ ns.length <= 63 /\ 0 < most /\ most <= 50 /\ r = .st (mD (N8 ns at_ most))
theorem W4r : ∀ rs r,rs.length = 3 -> Q5k rs r -> Z2c Q1a (Y8 r) (E4 Q7m rs):=by
 rintro rs r _ ⟨ns,at_,most,rfl,hn,h0,h1,rfl⟩
 have hN : 1 + U4 ns at_ (most : Int) = (Q5 ns at_ most : Int):=by rw [Z2k ns at_ h0]; unfold Q5; omega
 have hp : 0 < Q5 ns at_ most:=by unfold Q5; omega
 have hle : Q5 ns at_ most <= 50:=by unfold Q5; have:=Z0w ns at_ h0; omega
 have er : Q4 0 (Q5 ns at_ most : Int).toNat = (List.range (Q5 ns at_ most)).map iD:=by simp [Q4]
 unfold Z2c
 simp only [G4,K2,E3,F3,W1,D6,C3,C6,L5,Q1z,Z2t,s_lst,Q0h,Z0p,S9,s_tup,G1]
 refine ⟨_,rfl,_,rfl,_,rfl,rfl,_,⟨ns,at_,(most : Int),rfl,hn,by omega,rfl⟩,?_⟩
 rw [Q1n,hN,N1]
 refine ⟨_,rfl,_,rfl,by omega,by omega,?_⟩
 rw [er]
 refine ⟨sz (by simp; omega),?_⟩
 refine Q2v (f:=fun d=>match d with | .int k=>.bl (decide (U4 ns (at_ + 1 + k) 2 = 0)) | d=>d) _ _ _ (fun d hd Q' q=>?_) ?_
 ·obtain ⟨k,_,rfl⟩:=List.mem_map.mp hd
  simp only [G1,s_b,E3,W1,D6,C3,F3,C6]
  refine ⟨_,rfl,_,rfl,?_⟩
  show J9 (R.st _) (R.st _) _
  rw [Q1n]
  refine ⟨_,rfl,?_⟩
  rw [G3,Q1n]
  refine ⟨rfl,_,⟨ns,at_ + 1 + (k : Int),2,rfl,hn,by decide,rfl⟩,?_⟩
  rw [Q1q]
  refine ⟨_,_,rfl,rfl,by simp [D.depth],?_⟩
  simp only [Q7u,Bool.false_eq_true,if_false]
  have e : (U4 ns (at_ + 1 + (k : Int)) 2 == 0) = decide (U4 ns (at_ + 1 + (k : Int)) 2 = 0):=by
   by_cases h : U4 ns (at_ + 1 + (k : Int)) 2 = 0
   ·rw [decide_eq_true h,h]; rfl
   ·rw [decide_eq_false h]; exact beq_eq_false_iff_ne.mpr h
  rw [e]
  exact q
 ·rw [Q1c]
  refine ⟨_,rfl,?_⟩
  rw [N1]
  refine ⟨_,rfl,sz (by simp),_,rfl,_,rfl,by omega,by omega,?_⟩
  rw [er]
  refine Y1y ns hn at_ hp (List.range (Q5 ns at_ most)) [] _ (by simp; omega) fun o6=>?_
  refine ⟨_,rfl,_,rfl,?_⟩
  simp only [C6,T3,Q1c]
  refine ⟨_,rfl,_,rfl,sz (by simp),?_⟩
  show R.st _ = R.st _
  have e1 : ((List.range (Q5 ns at_ most)).map iD).map (fun d=>match d with | .int k=>D.bl (decide (U4 ns (at_ + 1 + k) 2 = 0)) | d=>d) = (N8 ns at_ most).1.map .bl:=by
   unfold N8; rw [List.map_map,List.map_map]; rfl
  have e2 : (List.range (Q5 ns at_ most)).map (fun (k : Nat)=>rD (C9.map fun (j : Nat)=>drN ns (at_ + 7 + 4 * (k : Int) + (j : Int)) (Q5 ns at_ most))) = (N8 ns at_ most).2.map rD:=by
   unfold N8; rw [List.map_map]; rfl
  rw [List.nil_append,e1,e2]
noncomputable abbrev pD (p : Nat × Nat) : D:=.tup (pT p)
noncomputable abbrev eD (q : (Nat × Nat) × Str) : D:=.tup [.str q.2,pD q.1]
theorem Y8m (a b : Nat × Nat) : D.eq (pD a) (pD b) = decide (a = b):=by
 obtain ⟨a1,a2⟩:=a
 obtain ⟨b1,b2⟩:=b
 simp [D.eqs]
 by_cases h1 : a1 = b1 <;> by_cases h2 : a2 = b2 <;> simp [h1,h2] <;> omega
theorem Y2l {T : List ((Nat × Nat) × Str)} {g : Nat × Nat} : (T.map fun q=>pD q.1).any (fun e=>D.eq e (pD g)) = decide (g ∈ T.map (·.1)):=by
 induction T with
 | nil=>simp
 | cons q T ih =>
  rw [List.map_cons,List.any_cons,ih,Y8m]
  by_cases h : q.1 = g
  ·simp [h]
  ·have : ¬ g = q.1:=fun z=>h z.symm
   simp [h,this]
theorem Y6t (p : Nat × Nat) : D.depth (pD p) <= 59:=by simp [D.depth,D.depths]
theorem Q7e {α : Type} [DecidableEq α] {st : Nat -> α} {t : Str} : ∀ (cs : List (Nat × Str)) (T : List (α × Str)),T <+: goT st t cs T
 | [],T=>List.prefix_refl _
 | c :: cs,T=>(Q7l _ _ _).trans (Q7e cs _)
def wbL : WS:=(A7 (B7 12 (Q9 (A0 (B1 (A5 B6 (A5 B6 (A5 B6 (wV 0) (wC (.int 1))) (A5 B6 (wV 7) (wC (.int 0)))) (wV 10))) (A0 (B1 (A5 B6 (A5 B6 (A5 B6 (wV 1) (wC (.int 1))) (A5 B6 (wV 7) (wC (.int 1)))) (wV 10))) A3)))) (F9 (A5 (inL 59 true) (wV 12) (wV 3)) (A7 (L9 3 (B1 (wV 12))) (L9 5 (B1 (Q9 (A0 (B1 (A5 J9 (wV 6) (wV 11))) (A0 (B1 (wV 12)) A3)))))) G0))
section
variable {m1 m2 : E5}
theorem forL (h2 : L1 m1 m2) {k : Nat × Nat} {t : Str} {q : Nat} {E : E6} {o2 o4 o8 o9 : Option Sl} : ∀ (cs : List (Nat × Str)) (T : List ((Nat × Nat) × Str)) (o10 o11 o12 : Option Sl),O7 (PU m1 m2) T -> (k,t) ∈ T -> (∀ c ∈ cs,c ∈ O9) -> q <= T.length ->
  (∀ o10 o11 o12,E.nx [some (.dat (mD m1)),some (.dat (mD m2)),o2,some (.own ((goT (J1 m1 m2 k) t cs T).map fun q=>pD q.1)),o4,some (.own (((goT (J1 m1 m2 k) t cs T).drop q).map eD)),some (.dat (.str t)),some (.dat (pD k)),o8,o9,o10,o11,o12]) ->
  E2 (N5 2 (E8 (C2 10) (E8 (C2 11) O1))) wbL E (cs.map fun p=>.tup [.int (p.1 : Int),.str p.2]) [some (.dat (mD m1)),some (.dat (mD m2)),o2,some (.own (T.map fun q=>pD q.1)),o4,some (.own ((T.drop q).map eD)),some (.dat (.str t)),some (.dat (pD k)),o8,o9,o10,o11,o12]
 | [],T,o10,o11,o12,_,_,_,_,h=>h o10 o11 o12
 | c :: cs,T,o10,o11,o12,hI,hkt,hc,hq,h=>by
  obtain ⟨hcc,hc1⟩:=Y6 (hc c (by simp))
  have hl : (PU m1 m2).length <= 20000:=by unfold PU; rw [Q8b]; exact h2.le
  have b:=hI.bound
  have hkU : k ∈ PU m1 m2:=hI.sub _ hkt
  have hI2:=hI.add (Q2h h2.w1 h2.w2 hkU hcc) hkt hc1
  have hk2:=(Q7l T (J1 m1 m2 k c.1) (t ++ c.2)).subset hkt
  have b2:=hI2.bound
  have hlen : t.length < T.length:=hI.len _ hkt
  obtain ⟨hk1,hk2'⟩:=Q2s.mp hkU
  obtain ⟨r1,g1,_,g1'⟩:=h2.w1.row hk1
  obtain ⟨r2,g2,_,g2'⟩:=h2.w2.row hk2'
  have ih:=forL h2 (k:=k) (t:=t) (q:=q) (E:=E) (o2:=o2) (o4:=o4) (o8:=o8) (o9:=o9) cs
  rw [List.map_cons,E2]
  simp only [wbL,Q1u,Q1i,S0,Q1b,G4,K2,s_tup,D6,G1,E3,C3,F3,C6,V7,Q1h,U9]
  refine ⟨_,rfl,rfl,_,_,rfl,_,_,rfl,rfl,_,rfl,K0 (i:=1) rfl ⟨_,rfl,K0 (i:=0) rfl ?_⟩⟩
  refine K0 (i:=k.1) (d:=rD r1) (by rw [List.getElem?_map,g1]; rfl) ⟨_,rfl,?_⟩
  refine K0 (i:=c.1) (d:=iD (U5 m1.2 k.1 c.1)) (by rw [List.getElem?_map,(g1' c.1 (Q0l hcc)).1]; rfl) ?_
  refine ⟨_,rfl,K0 (i:=1) rfl ⟨_,rfl,K0 (i:=1) rfl ?_⟩⟩
  refine K0 (i:=k.2) (d:=rD r2) (by rw [List.getElem?_map,g2]; rfl) ⟨_,rfl,?_⟩
  refine K0 (i:=c.1) (d:=iD (U5 m2.2 k.2 c.1)) (by rw [List.getElem?_map,(g2' c.1 (Q0l hcc)).1]; rfl) ?_
  refine ⟨_,rfl,sz (by simp),?_⟩
  rw [N1]
  refine ⟨_,rfl,_,rfl,pD (J1 m1 m2 k c.1),_,rfl,rfl,fun e he=>?_,?_⟩
  ·obtain ⟨x,_,rfl⟩:=List.mem_map.mp he; exact Y6t _
  rw [Y2l,if_pos rfl]
  show if (!decide _) = true then _ else _
  by_cases hm : J1 m1 m2 k c.1 ∈ T.map (·.1)
  ·have ea : R9 T (J1 m1 m2 k c.1) (t ++ c.2) = T:=if_pos hm
   rw [if_neg (by simpa using hm)]
   refine ih T _ _ _ hI hkt (fun c' h'=>hc c' (List.mem_cons_of_mem _ h')) hq ?_
   simpa only [goT,ea] using h
  ·have ea : R9 T (J1 m1 m2 k c.1) (t ++ c.2) = T ++ [(J1 m1 m2 k c.1,t ++ c.2)]:=if_neg hm
   rw [if_pos (by simpa using hm)]
   refine ⟨_,rfl,_,rfl,_,rfl,P5 (by simp; omega),_,rfl,_,rfl,_,rfl,?_⟩
   rw [G3,G3,Y1h]
   refine ⟨sz (by rw [hc1]; omega),_,rfl,_,rfl,sz (by simp),_,rfl,P5 (by simp; omega),?_⟩
   have e1 : (T.map fun q=>pD q.1) ++ [pD (J1 m1 m2 k c.1)] = (R9 T (J1 m1 m2 k c.1) (t ++ c.2)).map fun q=>pD q.1:=by rw [ea]; simp
   have e2 : ((T.drop q).map eD) ++ [D.tup [.str (t ++ c.2),pD (J1 m1 m2 k c.1)]] = ((R9 T (J1 m1 m2 k c.1) (t ++ c.2)).drop q).map eD:=by
    rw [ea,List.drop_append_of_le_length hq]; simp
   show E2 _ _ _ _ [_,_,_,some (.own ((T.map fun q=>pD q.1) ++ [pD (J1 m1 m2 k c.1)])),_,some (.own (((T.drop q).map eD) ++ [D.tup [.str (t ++ c.2),pD (J1 m1 m2 k c.1)]])),_,_,_,_,_,_,_]
   rw [e1,e2]
   exact ih _ _ _ _ hI2 hk2 (fun c' h'=>hc c' (List.mem_cons_of_mem _ h')) (by rw [ea]; simp; omega) h
def wrL : WS:=(A7 (B7 8 (A5 B6 (A5 B6 (wV 0) (wC (.int 0))) (A5 B6 (wV 7) (wC (.int 0))))) (A7 (B7 9 (A5 B6 (A5 B6 (wV 1) (wC (.int 0))) (A5 B6 (wV 7) (wC (.int 1))))) (A7 (F9 (Z7 (A5 B6 (K1 (A0 (B1 (Z2 (wV 8) (Q3g (wV 9)))) (A0 (B1 (Z2 (wV 8) (wV 9))) (A0 (B1 (wB (A5 G9 (wV 8) (wV 9)))) A3)))) (wV 2))) (Q6q 6) G0) (Q8 (Q2m (A0 (wC (.str "01ab")) A3)) (N5 2 (E8 (C2 10) (E8 (C2 11) O1))) wbL))))
def Way (way : Nat) (g : Bool -> Bool -> Bool) : Prop:=∀ x y : Bool,([.bl (B9 x y),.bl (N7 x y),.bl (T4 x y)] : List D)[way]? = some (.bl (g x y))
theorem W0h {way : Nat} {g : Bool -> Bool -> Bool} (hw : Way way g) {τ : A8} {x y : Bool} (h8 : τ[8]? = some (some (.dat (.bl x)))) (h9 : τ[9]? = some (some (.dat (.bl y)))) (h2 : τ[2]? = some (some (.dat (iD way)))) {Q : Bool -> Prop} (q : Q (g x y)) :
  (Z7 (A5 B6 (K1 (A0 (B1 (Z2 (wV 8) (Q3g (wV 9)))) (A0 (B1 (Z2 (wV 8) (wV 9))) (A0 (B1 (wB (A5 G9 (wV 8) (wV 9)))) A3)))) (wV 2))) τ Q:=by
 have l3 : (3 : Nat) <= sizeLine:=by decide
 have key : ∀ a b c : Bool,([.bl a,.bl b,.bl c] : List D)[way]? = some (.bl (g x y)) -> B6 (.nw [.bl a,.bl b,.bl c]) (.st (iD way)) fun r=>Y7 r Q:=fun a b c h=>by
  rw [Z5d]
  exact ⟨_,V1 h,by rw [Q4q]; exact q⟩
 have hxy:=hw x y
 simp only [Q7j,E3,s_lst,D6,G1,W2p,Y5k,s_b,C3,C6,h8,h9,h2]
 refine ⟨_,rfl,?_⟩
 cases x <;> cases y
 ·refine ⟨_,rfl,_,rfl,_,rfl,?_⟩
  simp only [G3]
  rw [Q3l]
  exact ⟨rfl,_,rfl,l3,_,rfl,key _ _ _ hxy⟩
 ·refine ⟨_,rfl,_,rfl,_,rfl,?_⟩
  simp only [G3]
  rw [Q3l]
  exact ⟨rfl,_,rfl,l3,_,rfl,key _ _ _ hxy⟩
 ·refine ⟨_,rfl,_,rfl,_,rfl,_,rfl,_,rfl,?_⟩
  simp only [G3]
  rw [Q3l]
  exact ⟨rfl,_,rfl,l3,_,rfl,key _ _ _ hxy⟩
 ·refine ⟨_,rfl,_,rfl,_,rfl,_,rfl,_,rfl,?_⟩
  simp only [G3]
  rw [Q3l]
  exact ⟨rfl,_,rfl,l3,_,rfl,key _ _ _ hxy⟩
theorem Z5b (h2 : L1 m1 m2) {way : Nat} {g : Bool -> Bool -> Bool} (hw : Way way g) {q : Nat} {E : E6} {o4 : Option Sl} : ∀ (seg T : List ((Nat × Nat) × Str)) (p n : Nat) (o6 o7 o8 o9 o10 o11 o12 : Option Sl),O7 (PU m1 m2) T -> T.drop p = seg ++ T.drop q -> p + seg.length = q -> q <= T.length -> seg.length <= n ->
  (∀ t,ftN (J1 m1 m2) (U7 g m1 m2) n T p = some t -> E.rt (.st (.str t))) ->
  (∀ T',O7 (PU m1 m2) T' -> q <= T'.length -> ftN (J1 m1 m2) (U7 g m1 m2) n T p = ftN (J1 m1 m2) (U7 g m1 m2) (n - seg.length) T' q -> ∀ o6 o7 o8 o9 o10 o11 o12,E.nx [some (.dat (mD m1)),some (.dat (mD m2)),some (.dat (iD way)),some (.own (T'.map fun q=>pD q.1)),o4,some (.own ((T'.drop q).map eD)),o6,o7,o8,o9,o10,o11,o12]) ->
  E2 (N5 2 (E8 (C2 6) (E8 (C2 7) O1))) wrL E (seg.map eD) [some (.dat (mD m1)),some (.dat (mD m2)),some (.dat (iD way)),some (.own (T.map fun q=>pD q.1)),o4,some (.own ((T.drop q).map eD)),o6,o7,o8,o9,o10,o11,o12]
 | [],T,p,n,o6,o7,o8,o9,o10,o11,o12,hI,_,hp,hq,_,_,h=>by
  have : p = q:=by simpa using hp
  subst this
  exact h T hI hq (by simp) _ _ _ _ _ _ _
 | (k,t) :: seg,T,p,n,o6,o7,o8,o9,o10,o11,o12,hI,hd,hp,hq,hn,hr,h=>by
  rw [List.length_cons] at hp hn
  obtain ⟨n,rfl⟩ : ∃ n',n = n' + 1:=⟨n - 1,by omega⟩
  have hlt : p < T.length:=by omega
  have hTp : T[p]? = some (k,t):=by
   have:=congrArg (fun l=>l[0]?) hd
   simp only [List.getElem?_drop,Nat.add_zero] at this
   rw [this]; rfl
  have kin : (k,t) ∈ T:=List.mem_of_getElem? hTp
  have hkU : k ∈ PU m1 m2:=hI.sub _ kin
  obtain ⟨hk1,hk2⟩:=Q2s.mp hkU
  rw [ftN,hTp] at hr h
  rw [List.map_cons,E2]
  simp only [wrL,Q1u,Q1i,S0,Q1b,G4,K2,E3,C3,F3,V7,Z4m,U9,Q0h,Z0e,D6,C6]
  refine ⟨_,rfl,rfl,_,_,rfl,_,_,rfl,rfl,_,rfl,K0 (i:=0) rfl ⟨_,rfl,K0 (i:=0) rfl ?_⟩⟩
  refine K0 (i:=k.1) (Q6s hk1) ?_
  rw [N1]
  refine ⟨_,rfl,K0 (i:=0) rfl ⟨_,rfl,K0 (i:=1) rfl ?_⟩⟩
  refine K0 (i:=k.2) (Q6s hk2) ?_
  rw [N1]
  refine W0h hw (x:=m1.1.getD k.1 false) (y:=m2.1.getD k.2 false) rfl rfl rfl ?_
  by_cases hf : U7 g m1 m2 k = true
  ·rw [if_pos (show g (m1.1.getD k.1 false) (m2.1.getD k.2 false) = true from hf)]
   refine ⟨_,rfl,?_⟩
   exact hr t (by show (if U7 g m1 m2 k = true then some t else _) = _; rw [if_pos hf])
  ·rw [if_neg (show ¬ g (m1.1.getD k.1 false) (m2.1.getD k.2 false) = true from hf)]
   simp only [hf] at hr h
   refine .inl ⟨_,rfl,?_⟩
   rw [enm4]
   refine forL h2 (k:=k) (t:=t) (q:=q) O9 T _ _ _ hI kin (fun c hc=>hc) hq fun o10 o11 o12=>?_
   have hpre:=Q7e (st:=J1 m1 m2 k) (t:=t) O9 T
   obtain ⟨add,hadd⟩:=hpre
   have hd2 : T.drop (p + 1) = seg ++ T.drop q:=by
    have:=congrArg List.tail hd
    rw [List.tail_drop] at this
    exact this
   refine Z5b h2 hw seg _ (p + 1) n _ _ _ _ _ _ _ (O7.go O9 T hI kin fun c hc=>⟨Q2h h2.w1 h2.w2 hkU (Y6 hc).1,(Y6 hc).2⟩) ?_ (by omega) (by rw [<- hadd]; simp; omega) (by omega) hr ?_
   ·rw [<- hadd,List.drop_append_of_le_length (by omega),List.drop_append_of_le_length hq,hd2,List.append_assoc]
   ·intro T' hT' hq' e
    have e0 : n + 1 - (seg.length + 1) = n - seg.length:=by omega
    simp only [List.length_cons,e0] at h
    exact h T' hT' hq' e
theorem Z8v {ds : List D} : D.eq (.lst ds) (.lst []) = ds.isEmpty:=by rw [o_e4,o_eN]
theorem Z5f (l : List ((Nat × Nat) × Str)) : D.depth (.lst (l.map eD)) <= 59:=by
 have h : D.depths (l.map eD) <= 2:=by
  induction l with
  | nil=>simp [D.depths]
  | cons q l ih =>
   rw [List.map_cons,D.depths]
   have : D.depth (eD q) <= 2:=by simp [D.depth,D.depths]
   omega
 simp only [D.depth]; omega
def wwL : WS:=(A7 (B7 5 (K1 A3)) (A7 (Q4h 5 (Q8 (Q4o (B1 (wV 4))) (N5 2 (E8 (C2 6) (E8 (C2 7) O1))) wrL)) (B7 4 (B1 (wV 5)))))
theorem W1v (h2 : L1 m1 m2) {way : Nat} {g : Bool -> Bool -> Bool} (hw : Way way g) {E : E6} : ∀ (m n : Nat) (T : List ((Nat × Nat) × Str)) (p : Nat) (o5 o6 o7 o8 o9 o10 o11 o12 : Option Sl),n <= m -> O7 (PU m1 m2) T -> p <= T.length -> (PU m1 m2).length <= n + p ->
  (∀ t,ftN (J1 m1 m2) (U7 g m1 m2) n T p = some t -> E.rt (.st (.str t))) -> (ftN (J1 m1 m2) (U7 g m1 m2) n T p = none -> ∀ τ,E.nx τ) ->
  F5 (A5 (eqD 59 true) (wV 4) (K1 A3)) wwL (m + 1) E [some (.dat (mD m1)),some (.dat (mD m2)),some (.dat (iD way)),some (.own (T.map fun q=>pD q.1)),some (.dat (.lst ((T.drop p).map eD))),o5,o6,o7,o8,o9,o10,o11,o12]:=by
 intro m
 induction m with
 | zero =>
  intro n T p o5 o6 o7 o8 o9 o10 o11 o12 hn hI hp hU hr h
  have b:=hI.bound
  have e : T.drop p = []:=by rw [List.drop_eq_nil_iff]; omega
  have n0 : n = 0:=by omega
  subst n0
  rw [F5]
  simp only [E3,C3,s_lst,C6]
  refine ⟨_,rfl,_,rfl,sz (by simp),?_⟩
  rw [G3,Q1q]
  refine ⟨_,_,rfl,rfl,Z5f _,?_⟩
  rw [Z8v,e,if_pos rfl,if_neg (by simp)]
  exact h rfl _
 | succ m ih =>
  intro n T p o5 o6 o7 o8 o9 o10 o11 o12 hn hI hp hU hr h
  have b:=hI.bound
  rw [F5]
  simp only [E3,C3,s_lst,C6]
  refine ⟨_,rfl,_,rfl,sz (by simp),?_⟩
  rw [G3,Q1q]
  refine ⟨_,_,rfl,rfl,Z5f _,?_⟩
  rw [Z8v,if_pos rfl]
  by_cases hlt : p < T.length
  ·have ne : T.drop p ≠ []:=by rw [Ne,List.drop_eq_nil_iff]; omega
   rw [if_pos (by simpa using hlt)]
   simp only [wwL,G4,K2,s_lst,C6,Z1g,Q0h,Z6m,G1,C3]
   refine ⟨_,rfl,sz (by simp),?_⟩
   rw [Q2o]
   refine ⟨_,rfl,_,rfl,?_⟩
   have hz : ([] : List D) = (T.drop T.length).map eD:=by simp
   rw [hz]
   refine Z5b h2 hw (T.drop p) T p n _ _ _ _ _ _ _ hI (by simp) (by simp; omega) (Nat.le_refl _) (by simp; omega) hr fun T' hT' hq' e o6 o7 o8 o9 o10 o11 o12=>?_
   refine ⟨_,rfl,_,rfl,?_⟩
   rw [G3,Q4x,N1]
   show F5 _ _ (m + 1) E [_,_,_,_,some (.dat (.lst ((T'.drop T.length).map eD))),_,_,_,_,_,_,_,_]
   rw [e] at hr h
   exact ih _ T' T.length _ _ _ _ _ _ _ _ (by simp; omega) hT' hq' (by simp; omega) hr h
  ·have e : T.drop p = []:=by rw [List.drop_eq_nil_iff]; omega
   rw [if_neg (by simp [e])]
   have e' : T[p]? = none:=List.getElem?_eq_none_iff.mpr (by omega)
   refine h ?_ _
   cases n with
   | zero=>rfl
   | succ n=>rw [ftN,e']
noncomputable def T5 : D8:=fun rs r=>∃ m1 m2 way g,rs = [.st (mD m1),.st (mD m2),.st (iD way)] /\ L1 m1 m2 /\ Way way g /\ r = .st (sD (B3 g m1 m2))
theorem W2k : ∀ rs r,rs.length = 3 -> T5 rs r -> Z0a (Y8 r) (E4 Y0q rs):=by
 rintro rs r _ ⟨m1,m2,way,g,rfl,h2,hw,rfl⟩
 unfold Z0a
 simp only [G4,K2,s_lst,D6,G1,s_tup,F3,C6,S9]
 refine ⟨_,rfl,sz (by simp),_,rfl,sz (by simp),?_⟩
 rw [Q2o]
 refine ⟨_,rfl,sz (by simp),_,rfl,sz (by simp),_,rfl,sz (by simp),?_⟩
 refine ⟨(PU m1 m2).length + 1,?_⟩
 refine W1v h2 hw (PU m1 m2).length (PU m1 m2).length [((0,0),"")] 0 _ _ _ _ _ _ _ _ (Nat.le_refl _) (Z0r (Q4g h2.w1 h2.w2)) (by simp) (by omega) (fun t e=>?_) (fun e τ=>?_)
 ·show R.st (.str t) = .st (sD (B3 g m1 m2))
  unfold B3 Q0i; rw [e]
 ·show R.st .non = .st (sD (B3 g m1 m2))
  unfold B3 Q0i; rw [e]
theorem way0 : Way 0 B9:=fun _ _=>rfl
theorem way1 : Way 1 N7:=fun _ _=>rfl
theorem way2 : Way 2 T4:=fun _ _=>rfl
end
section
variable {α : Type}
theorem Y2q {P : List Nat -> Prop} (h0 : P []) (hs : ∀ w c,P w -> P (w ++ [c])) (w : List Nat) : P w:=by
 have : ∀ w : List Nat,P w.reverse:=by
  intro w
  induction w with
  | nil=>exact h0
  | cons c w ih=>rw [List.reverse_cons]; exact hs _ _ ih
 have:=this w.reverse
 rwa [List.reverse_reverse] at this
noncomputable def run (step : α -> Nat -> α) (k : α) (w : List Nat) : α:=w.foldl step k
theorem Y0n (step : α -> Nat -> α) (k : α) (u w : List Nat) : run step k (u ++ w) = run step (run step k u) w:=List.foldl_append
def Q7 (w : List Nat) : Prop:=∀ c ∈ w,c ∈ C9
theorem Q7.nil : Q7 []:=fun c h=>by cases h
theorem Q7.app {u w : List Nat} (h1 : Q7 u) (h2 : Q7 w) : Q7 (u ++ w):=fun c h=>(List.mem_append.mp h).elim (h1 c) (h2 c)
theorem Q7.snoc {u : List Nat} {c : Nat} (h1 : Q7 u) (h2 : c ∈ C9) : Q7 (u ++ [c]):=h1.app fun d hd=>by rw [List.mem_singleton.mp hd]; exact h2
noncomputable def Z0t (c : Nat) : Str:=match c with
 | 0=>"0"
 | 1=>"1"
 | 2=>"a"
 | _=>"b"
noncomputable def Q2a (w : List Nat) : Str:=w.foldl (fun t c=>t ++ Z0t c) ""
theorem Y3v (w : List Nat) (c : Nat) : Q2a (w ++ [c]) = Q2a w ++ Z0t c:=by unfold Q2a; rw [List.foldl_append]; rfl
theorem W3z {c : Nat × Str} (h : c ∈ O9) : c.2 = Z0t c.1:=by
 simp only [O9,List.mem_cons,List.not_mem_nil,or_false] at h
 rcases h with rfl | rfl | rfl | rfl <;> rfl
end
section
variable {α : Type} [DecidableEq α]
structure FtI (step : α -> Nat -> α) (start : α) (fin : α -> Bool) (U : List α) (T : List (α × Str)) (p : Nat) : Prop where
 ti : O7 U T
 zero : start ∈ T.map (·.1)
 word : ∀ q ∈ T,∃ w,Q7 w /\ q.1 = run step start w /\ q.2 = Q2a w
 past : ∀ i,i < p -> ∀ q,T[i]? = some q -> fin q.1 = false /\ ∀ c ∈ C9,step q.1 c ∈ T.map (·.1)
theorem Z9o {st : Nat -> α} {t : Str} {q : α × Str} : ∀ (cs : List (Nat × Str)) (T : List (α × Str)),q ∈ goT st t cs T -> q ∈ T \/ ∃ c ∈ cs,q = (st c.1,t ++ c.2)
 | [],T,h=>.inl h
 | c :: cs,T,h=>by
  rcases Z9o cs _ h with h | ⟨c',h1,h2⟩
  ·unfold R9 at h
   split at h
   ·exact .inl h
   ·rcases List.mem_append.mp h with h | h
    ·exact .inl h
    ·exact .inr ⟨c,by simp,List.mem_singleton.mp h⟩
  ·exact .inr ⟨c',by simp [h1],h2⟩
theorem Z7z {st : Nat -> α} {t : Str} : ∀ (cs : List (Nat × Str)) (T : List (α × Str)),∀ c ∈ cs,st c.1 ∈ (goT st t cs T).map (·.1)
 | [],T,c,h=>by cases h
 | d :: cs,T,c,h=>by
  rw [goT]
  rcases List.mem_cons.mp h with rfl | h
  ·have : st c.1 ∈ (R9 T (st c.1) (t ++ c.2)).map (·.1):=by
    unfold R9
    split
    ·assumption
    ·simp
   obtain ⟨q,hq,e⟩:=List.mem_map.mp this
   exact List.mem_map.mpr ⟨q,(Q7e cs _).subset hq,e⟩
  ·exact Z7z cs _ c h
theorem W4v {c : Nat} (h : c ∈ C9) : ∃ s,(c,s) ∈ O9:=by
 simp only [C9,List.mem_cons,List.not_mem_nil,or_false] at h
 rcases h with rfl | rfl | rfl | rfl <;> exact ⟨_,by simp [O9]; rfl⟩
theorem FtI.next {step : α -> Nat -> α} {start : α} {fin : α -> Bool} {U : List α} {T : List (α × Str)} {p : Nat} {k : α} {t : Str} (hU : ∀ k ∈ U,∀ c ∈ C9,step k c ∈ U) (F : FtI step start fin U T p) (hp : T[p]? = some (k,t)) (hf : fin k = false) :
  FtI step start fin U (goT (step k) t O9 T) (p + 1):=by
 have kin:=List.mem_of_getElem? hp
 have pre:=Q7e (st:=step k) (t:=t) O9 T
 have mono : ∀ x,x ∈ T.map (·.1) -> x ∈ (goT (step k) t O9 T).map (·.1):=fun x hx=>by
  obtain ⟨q,hq,e⟩:=List.mem_map.mp hx
  exact List.mem_map.mpr ⟨q,pre.subset hq,e⟩
 refine ⟨O7.go O9 T F.ti kin fun c hc=>⟨hU k (F.ti.sub _ kin) _ (Y6 hc).1,(Y6 hc).2⟩,mono _ F.zero,fun q hq=>?_,fun i hi q hq=>?_⟩
 ·rcases Z9o O9 T hq with h | ⟨c,hc,rfl⟩
  ·exact F.word q h
  ·obtain ⟨w,h1,h2,h3⟩:=F.word _ kin
   refine ⟨w ++ [c.1],h1.snoc (Y6 hc).1,?_,?_⟩
   ·rw [Y0n,<- h2]; rfl
   ·rw [Y3v,<- W3z hc]
    have h3 : t = Q2a w:=h3
    rw [<- h3]
 ·obtain ⟨add,hadd⟩:=pre
  have hpl : p < T.length:=by obtain ⟨h,_⟩:=List.getElem?_eq_some_iff.mp hp; exact h
  rw [<- hadd,List.getElem?_append_left (by omega)] at hq
  rcases Nat.lt_or_ge i p with h | h
  ·obtain ⟨h1,h2⟩:=F.past i h q hq
   exact ⟨h1,fun c hc=>mono _ (h2 c hc)⟩
  ·have : i = p:=by omega
   subst this
   rw [hp] at hq; cases hq
   refine ⟨hf,fun c hc=>?_⟩
   obtain ⟨s,hs⟩:=W4v hc
   exact Z7z O9 T _ hs
theorem W0u {step : α -> Nat -> α} {start : α} {fin : α -> Bool} {U : List α} (hU : ∀ k ∈ U,∀ c ∈ C9,step k c ∈ U) : ∀ (n : Nat) (T : List (α × Str)) (p : Nat),FtI step start fin U T p -> U.length <= n + p ->
  (ftN step fin n T p = none -> ∀ w,Q7 w -> fin (run step start w) = false) /\ (∀ t,ftN step fin n T p = some t -> ∃ w,Q7 w /\ t = Q2a w /\ fin (run step start w) = true):=by
 have done : ∀ (T : List (α × Str)) (p : Nat),FtI step start fin U T p -> T.length <= p -> ∀ w,Q7 w -> fin (run step start w) = false:=by
  intro T p F hl w hw
  have all : ∀ w,Q7 w -> run step start w ∈ T.map (·.1):=by
   refine Y2q ?_ ?_
   ·exact fun _=>F.zero
   ·intro w c ih hw
    obtain ⟨q,hq,e⟩:=List.mem_map.mp (ih fun d hd=>hw d (by simp [hd]))
    obtain ⟨i,hi,e2⟩:=List.mem_iff_getElem.mp hq
    have:=(F.past i (by omega) q (by rw [List.getElem?_eq_getElem hi,e2])).2 c (hw c (by simp))
    rw [Y0n,<- e]
    exact this
  obtain ⟨q,hq,e⟩:=List.mem_map.mp (all w hw)
  obtain ⟨i,hi,e2⟩:=List.mem_iff_getElem.mp hq
  have:=(F.past i (by omega) q (by rw [List.getElem?_eq_getElem hi,e2])).1
  rw [<- e]; exact this
 intro n
 induction n with
 | zero =>
  intro T p F h
  have b:=F.ti.bound
  exact ⟨fun _=>done T p F (by omega),fun t e=>by cases e⟩
 | succ n ih =>
  intro T p F h
  rw [ftN]
  split
  ·rename_i e
   have:=List.getElem?_eq_none_iff.mp e
   exact ⟨fun _=>done T p F this,fun t e=>by cases e⟩
  ·rename_i q e
   obtain ⟨k,t⟩:=q
   by_cases hf : fin k = true
   ·simp only [hf,if_true]
    refine ⟨fun z=>by (cases z),fun t' e'=>?_⟩
    cases e'
    obtain ⟨w,h1,h2,h3⟩:=F.word _ (List.mem_of_getElem? e)
    exact ⟨w,h1,h3,by rw [<- h2]; exact hf⟩
   ·have hf' : fin k = false:=by simpa using hf
    simp only [hf',if_false,Bool.false_eq_true]
    exact ih _ _ (F.next hU e hf') (by omega)
theorem W0w {step : α -> Nat -> α} {start : α} {fin : α -> Bool} {U : List α} (hU : ∀ k ∈ U,∀ c ∈ C9,step k c ∈ U) (hs : start ∈ U) :
  (Q0i U.length step start fin = none -> ∀ w,Q7 w -> fin (run step start w) = false) /\ (∀ t,Q0i U.length step start fin = some t -> ∃ w,Q7 w /\ t = Q2a w /\ fin (run step start w) = true) :=
 W0u hU U.length _ 0 ⟨Z0r hs,by simp,fun q hq=>⟨[],Q7.nil,by rw [List.mem_singleton.mp hq]; rfl,by rw [List.mem_singleton.mp hq]; rfl⟩,fun i hi=>by omega⟩ (by omega)
end
noncomputable def stW (m : E5) (w : List Nat) : Nat:=run (U5 m.2) 0 w
noncomputable def Q0w (m : E5) (w : List Nat) : Bool:=m.1.getD (stW m w) false
theorem prun (m1 m2 : E5) : ∀ (w : List Nat) (p : Nat × Nat),run (J1 m1 m2) p w = (run (U5 m1.2) p.1 w,run (U5 m2.2) p.2 w)
 | [],p=>rfl
 | c :: w,p=>prun m1 m2 w (J1 m1 m2 p c)
theorem Z4c (g : Bool -> Bool -> Bool) (m1 m2 : E5) (w : List Nat) : U7 g m1 m2 (run (J1 m1 m2) (0,0) w) = g (Q0w m1 w) (Q0w m2 w):=by rw [prun]; rfl
theorem Q9z {g : Bool -> Bool -> Bool} {m1 m2 : E5} (w1 : K5 m1) (w2 : K5 m2) : B3 g m1 m2 = none ↔ ∀ w,Q7 w -> g (Q0w m1 w) (Q0w m2 w) = false:=by
 have S:=W0w (fin:=U7 g m1 m2) (fun k hk c hc=>Q2h w1 w2 hk hc) (Q4g w1 w2)
 constructor
 ·intro h w hw
  rw [<- Z4c g]
  exact S.1 h w hw
 ·intro h
  cases e : B3 g m1 m2 with
  | none=>rfl
  | some t =>
   obtain ⟨w,h1,_,h2⟩:=S.2 t e
   rw [Z4c,h w h1] at h2
   cases h2
theorem Y5z {m1 m2 : E5} (w1 : K5 m1) (w2 : K5 m2) : B3 T4 m1 m2 = none ↔ B3 B9 m1 m2 = none /\ B3 B9 m2 m1 = none:=by
 rw [Q9z w1 w2,Q9z w1 w2,Q9z w2 w1]
 constructor
 ·intro h
  refine ⟨fun w hw=>?_,fun w hw=>?_⟩ <;> have:=h w hw <;> revert this <;> unfold T4 B9 <;> cases Q0w m1 w <;> cases Q0w m2 w <;> simp
 ·rintro ⟨h1,h2⟩ w hw
  have a:=h1 w hw
  have b:=h2 w hw
  revert a b
  unfold T4 B9
  cases Q0w m1 w <;> cases Q0w m2 w <;> simp
end MC
end
section
namespace K24
open PySem PySem.Spec PyProof.Rows L2 TK MC
abbrev Z3n : List Str:=["_law_script","_law_one","_law_other","_law_way","_law_mine","_law_yours","_law_said","_law_due"]
def Z4p   (sp_law_machine : D8) (sp_law_drawn : D8) (sp_both_of : D9) (sp_either : D9) (T5 : D8) (sp_parting : D9) (sp_meeting : D9) (sp_unlike : D9) (sp_within : D9) (sp_how_they_lie : D9) : WS:=(A7 (B7 1 (J7 sp_law_machine (A0 (wV 0) (A0 (wC (.int 0)) (A0 (wC (.int 4)) A3))))) (A7 (B7 2 (J7 sp_law_machine (A0 (wV 0) (A0 (wC (.int 60)) (A0 (wC (.int 4)) A3))))) (A7 (B7 3 (J7 sp_law_drawn (A0 (wV 0) (A0 (wC (.int 120)) (A0 (wC (.int 4)) A3))))) (A7 (F9 (A5 (eqD 60 false) (wV 3) (wC (.int 0))) (B7 2 (E9 sp_both_of (A0 (wV 1) (A0 (wV 2) A3)))) G0) (A7 (F9 (A5 (eqD 60 false) (wV 3) (wC (.int 1))) (B7 2 (E9 sp_either (A0 (wV 1) (A0 (wV 2) A3)))) G0) (A7 (B7 4 (J7 T5 (A0 (wV 1) (A0 (wV 2) (A0 (wC (.int 0)) A3))))) (A7 (B7 5 (J7 T5 (A0 (wV 2) (A0 (wV 1) (A0 (wC (.int 0)) A3))))) (A7 (F9 (wOr (A5 G9 (E9 sp_parting (A0 (wV 1) (A0 (wV 2) A3))) (wV 4)) (A5 G9 (E9 sp_meeting (A0 (wV 1) (A0 (wV 2) A3))) (J7 T5 (A0 (wV 1) (A0 (wV 2) (A0 (wC (.int 1)) A3)))))) (F4 (wC (.bl false))) G0) (A7 (F9 (A5 G9 (E9 sp_unlike (A0 (wV 1) (A0 (wV 2) A3))) (J7 T5 (A0 (wV 1) (A0 (wV 2) (A0 (wC (.int 2)) A3))))) (F4 (wC (.bl false))) G0) (A7 (B7 6 (E9 sp_within (A0 (wV 1) (A0 (wV 2) A3)))) (A7 (F9 (wOr (Q6w (Z7 (Q8s "bool" (wV 6)))) (wOr (A5 G9 (wV 6) (wB (A5 (M9 false) (wV 4) (wC .non)))) (A5 G9 (E9 sp_within (A0 (wV 2) (A0 (wV 1) A3))) (wB (A5 (M9 false) (wV 5) (wC .non)))))) (F4 (wC (.bl false))) G0) (A7 (B7 7 (A5 B6 (K1 (A0 (B1 (wC (.str "cross"))) (A0 (B1 (wC (.str "apart"))) A3))) (D4 Q0p (A0 (wB (A5 (M9 false) (J7 T5 (A0 (wV 1) (A0 (wV 2) (A0 (wC (.int 1)) A3)))) (wC .non))) A3)))) (A7 (F9 (wOr (A5 (M9 false) (wV 4) (wC .non)) (A5 (M9 false) (wV 5) (wC .non))) (B7 7 (A5 B6 (K1 (A0 (B1 (wC (.str "more"))) (A0 (B1 (wC (.str "less"))) A3))) (D4 Q0p (A0 (wB (A5 (M9 false) (wV 4) (wC .non))) A3)))) G0) (A7 (F9 (Q8p (A5 (M9 false) (wV 4) (wC .non)) (A5 (M9 false) (wV 5) (wC .non))) (B7 7 (wC (.str "same"))) G0) (F4 (wB (A5 (eqD 60 false) (E9 sp_how_they_lie (A0 (wV 1) (A0 (wV 2) A3))) (wV 7))))))))))))))))))
noncomputable def sp_law : D9:=fun rs Pr=>∃ ns : List Int,rs = [.st (scr ns)] /\ ns.length <= 63 /\ Pr (.st (.bl true))
theorem Y3i (o : Option Str) : scD (sD o) (sD o) = true:=by cases o <;> rfl
theorem Y4g (o : Option Str) : D.eq (sD o) (sD o) = true:=D.eq_refl _
theorem Z3w {o : Option Str} {Q : Bool -> Prop} (h : Q false) : G9 (.st (sD o)) (.st (sD o)) Q:=by
 rw [Q3l]; exact ⟨Y3i o,by rw [Y4g]; exact h⟩
theorem Z4q {b : Bool} {Q : Bool -> Prop} (h : Q false) : G9 (.st (.bl b)) (.st (.bl b)) Q:=by
 rw [Q3l]; exact ⟨rfl,by rw [D.eq_refl]; exact h⟩
noncomputable def Q4m (m1 m2 : E5) : Str:=if (B3 B9 m1 m2).isNone && (B3 B9 m2 m1).isNone then "same" else if (B3 B9 m1 m2).isNone || (B3 B9 m2 m1).isNone then (if (B3 B9 m1 m2).isNone then "less" else "more") else if (B3 N7 m1 m2).isNone then "apart" else "cross"
theorem Y9t {m1 m2 : E5} (w1 : K5 m1) (w2 : K5 m2) : Q6v m1 m2 = Q4m m1 m2:=by
 have h:=Y5z w1 w2
 have h' : (B3 T4 m1 m2).isNone = ((B3 B9 m1 m2).isNone && (B3 B9 m2 m1).isNone):=by
  rw [Bool.eq_iff_iff,Bool.and_eq_true,Option.isNone_iff_eq_none,Option.isNone_iff_eq_none,Option.isNone_iff_eq_none]; exact h
 unfold Q6v Q4m
 rw [h']
 cases (B3 B9 m1 m2).isNone <;> cases (B3 B9 m2 m1).isNone <;> rfl
def ws0 : WS:=(B7 4 (J7 T5 (A0 (wV 1) (A0 (wV 2) (A0 (wC (.int 0)) A3)))))
def ws1 : WS:=(B7 5 (J7 T5 (A0 (wV 2) (A0 (wV 1) (A0 (wC (.int 0)) A3)))))
def ws2 : WS:=(F9 (wOr (A5 G9 (E9 (N4 B9) (A0 (wV 1) (A0 (wV 2) A3))) (wV 4)) (A5 G9 (E9 (N4 N7) (A0 (wV 1) (A0 (wV 2) A3))) (J7 T5 (A0 (wV 1) (A0 (wV 2) (A0 (wC (.int 1)) A3)))))) (F4 (wC (.bl false))) G0)
def ws3 : WS:=(F9 (A5 G9 (E9 (N4 T4) (A0 (wV 1) (A0 (wV 2) A3))) (J7 T5 (A0 (wV 1) (A0 (wV 2) (A0 (wC (.int 2)) A3))))) (F4 (wC (.bl false))) G0)
def ws4 : WS:=(B7 6 (E9 sp_within (A0 (wV 1) (A0 (wV 2) A3))))
def ws5 : WS:=(F9 (wOr (Q6w (Z7 (Q8s "bool" (wV 6)))) (wOr (A5 G9 (wV 6) (wB (A5 (M9 false) (wV 4) (wC .non)))) (A5 G9 (E9 sp_within (A0 (wV 2) (A0 (wV 1) A3))) (wB (A5 (M9 false) (wV 5) (wC .non)))))) (F4 (wC (.bl false))) G0)
def ws6 : WS:=(B7 7 (A5 B6 (K1 (A0 (B1 (wC (.str "cross"))) (A0 (B1 (wC (.str "apart"))) A3))) (D4 Q0p (A0 (wB (A5 (M9 false) (J7 T5 (A0 (wV 1) (A0 (wV 2) (A0 (wC (.int 1)) A3)))) (wC .non))) A3))))
def ws7 : WS:=(F9 (wOr (A5 (M9 false) (wV 4) (wC .non)) (A5 (M9 false) (wV 5) (wC .non))) (B7 7 (A5 B6 (K1 (A0 (B1 (wC (.str "more"))) (A0 (B1 (wC (.str "less"))) A3))) (D4 Q0p (A0 (wB (A5 (M9 false) (wV 4) (wC .non))) A3)))) G0)
def ws8 : WS:=(F9 (Q8p (A5 (M9 false) (wV 4) (wC .non)) (A5 (M9 false) (wV 5) (wC .non))) (B7 7 (wC (.str "same"))) G0)
def ws9 : WS:=(F4 (wB (A5 (eqD 60 false) (E9 Q3y (A0 (wV 1) (A0 (wV 2) A3))) (wV 7))))
theorem Q8h {x y : Str} {b : Bool} {Q : R -> Prop} (h : Q (.st (.str (if b then y else x)))) : B6 (.nw [.str x,.str y]) (.st (.int (if b then 1 else 0))) Q:=by
 rw [Z5d]
 cases b
 ·exact ⟨.str x,rfl,h⟩
 ·exact ⟨.str y,rfl,h⟩
theorem st0 {m1 m2 : E5} (h2 : L1 m1 m2) {o0 o3 o4 o5 o6 o7 : Option Sl} {E : E6} {ws : WS} (h : ws E [o0,some (.dat (mD m1)),some (.dat (mD m2)),o3,some (.dat (sD (B3 B9 m1 m2))),o5,o6,o7]) : (A7 ws0 ws) E [o0,some (.dat (mD m1)),some (.dat (mD m2)),o3,o4,o5,o6,o7]:=by
 unfold ws0
 simp only [G4,K2,W1,D6,C3,F3,C6]
 exact ⟨_,rfl,_,rfl,rfl,_,⟨m1,m2,0,_,rfl,h2,way0,rfl⟩,h⟩
theorem st1 {m1 m2 : E5} (h2 : L1 m1 m2) {o0 o3 o5 o6 o7 : Option Sl} {E : E6} {ws : WS} (h : ws E [o0,some (.dat (mD m1)),some (.dat (mD m2)),o3,some (.dat (sD (B3 B9 m1 m2))),some (.dat (sD (B3 B9 m2 m1))),o6,o7]) : (A7 ws1 ws) E [o0,some (.dat (mD m1)),some (.dat (mD m2)),o3,some (.dat (sD (B3 B9 m1 m2))),o5,o6,o7]:=by
 unfold ws1
 simp only [G4,K2,W1,D6,C3,F3,C6]
 exact ⟨_,rfl,_,rfl,rfl,_,⟨m2,m1,0,_,rfl,h2.swap,way0,rfl⟩,h⟩
theorem st2 {m1 m2 : E5} (h2 : L1 m1 m2) {o0 o3 o6 o7 : Option Sl} {E : E6} {ws : WS} (h : ws E [o0,some (.dat (mD m1)),some (.dat (mD m2)),o3,some (.dat (sD (B3 B9 m1 m2))),some (.dat (sD (B3 B9 m2 m1))),o6,o7]) : (A7 ws2 ws) E [o0,some (.dat (mD m1)),some (.dat (mD m2)),o3,some (.dat (sD (B3 B9 m1 m2))),some (.dat (sD (B3 B9 m2 m1))),o6,o7]:=by
 unfold ws2
 simp only [G4,V7,Z0v,E3,W1,S4,D6,C3,F3,C6,U9]
 refine ⟨_,rfl,_,rfl,rfl,m1,m2,rfl,h2,_,rfl,Z3w ?_⟩
 rw [if_neg (by decide)]
 refine ⟨_,rfl,_,rfl,rfl,m1,m2,rfl,h2,_,rfl,_,rfl,rfl,_,⟨m1,m2,1,_,rfl,h2,way1,rfl⟩,Z3w ?_⟩
 rw [if_neg (by decide)]
 exact h
theorem st3 {m1 m2 : E5} (h2 : L1 m1 m2) {o0 o3 o6 o7 : Option Sl} {E : E6} {ws : WS} (h : ws E [o0,some (.dat (mD m1)),some (.dat (mD m2)),o3,some (.dat (sD (B3 B9 m1 m2))),some (.dat (sD (B3 B9 m2 m1))),o6,o7]) : (A7 ws3 ws) E [o0,some (.dat (mD m1)),some (.dat (mD m2)),o3,some (.dat (sD (B3 B9 m1 m2))),some (.dat (sD (B3 B9 m2 m1))),o6,o7]:=by
 unfold ws3
 simp only [G4,V7,E3,W1,S4,D6,C3,F3,C6,U9]
 refine ⟨_,rfl,_,rfl,rfl,m1,m2,rfl,h2,_,rfl,_,rfl,rfl,_,⟨m1,m2,2,_,rfl,h2,way2,rfl⟩,Z3w ?_⟩
 rw [if_neg (by decide)]
 exact h
theorem st4 {m1 m2 : E5} (h2 : L1 m1 m2) {o0 o3 o6 o7 : Option Sl} {E : E6} {ws : WS} (h : ws E [o0,some (.dat (mD m1)),some (.dat (mD m2)),o3,some (.dat (sD (B3 B9 m1 m2))),some (.dat (sD (B3 B9 m2 m1))),some (.dat (.bl (B3 B9 m1 m2).isNone)),o7]) : (A7 ws4 ws) E [o0,some (.dat (mD m1)),some (.dat (mD m2)),o3,some (.dat (sD (B3 B9 m1 m2))),some (.dat (sD (B3 B9 m2 m1))),o6,o7]:=by
 unfold ws4
 simp only [G4,K2,S4,D6,C3,C6]
 exact ⟨_,rfl,_,rfl,rfl,m1,m2,rfl,h2,h⟩
theorem st5 {m1 m2 : E5} (h2 : L1 m1 m2) {o0 o3 o7 : Option Sl} {E : E6} {ws : WS} (h : ws E [o0,some (.dat (mD m1)),some (.dat (mD m2)),o3,some (.dat (sD (B3 B9 m1 m2))),some (.dat (sD (B3 B9 m2 m1))),some (.dat (.bl (B3 B9 m1 m2).isNone)),o7]) : (A7 ws5 ws) E [o0,some (.dat (mD m1)),some (.dat (mD m2)),o3,some (.dat (sD (B3 B9 m1 m2))),some (.dat (sD (B3 B9 m2 m1))),some (.dat (.bl (B3 B9 m1 m2).isNone)),o7]:=by
 unfold ws5
 simp only [G4,V7,Z0v,W2f,Q7j,W0n,C3,s_b,E3,F3,S4,D6,C6,U9]
 refine ⟨_,rfl,"bool",rfl,?_⟩
 rw [Q4q,if_neg (by simp [Q4d])]
 refine ⟨_,rfl,_,rfl,T9 ?_⟩
 refine Z4q ?_
 rw [if_neg (by decide)]
 refine ⟨_,rfl,_,rfl,rfl,m2,m1,rfl,h2.swap,_,rfl,T9 ?_⟩
 refine Z4q ?_
 rw [if_neg (by decide)]
 exact h
theorem st6 {m1 m2 : E5} (h2 : L1 m1 m2) {o0 o3 o7 : Option Sl} {E : E6} {ws : WS} (h : ws E [o0,some (.dat (mD m1)),some (.dat (mD m2)),o3,some (.dat (sD (B3 B9 m1 m2))),some (.dat (sD (B3 B9 m2 m1))),some (.dat (.bl (B3 B9 m1 m2).isNone)),some (.dat (.str (if (B3 N7 m1 m2).isNone then "apart" else "cross")))]) : (A7 ws6 ws) E [o0,some (.dat (mD m1)),some (.dat (mD m2)),o3,some (.dat (sD (B3 B9 m1 m2))),some (.dat (sD (B3 B9 m2 m1))),some (.dat (.bl (B3 B9 m1 m2).isNone)),o7]:=by
 unfold ws6
 simp only [G4,K2,E3,s_lst,D6,G1,F3,C6,L5,s_b,W1,C3]
 refine ⟨_,rfl,(by decide : 2 <= sizeLine),_,rfl,_,rfl,rfl,_,⟨m1,m2,1,_,rfl,h2,way1,rfl⟩,T9 ?_⟩
 rw [Q7f]
 exact Q8h h
theorem st7 {m1 m2 : E5} (h2 : L1 m1 m2) {o0 o3 : Option Sl} {E : E6} {ws : WS} (h : ws E [o0,some (.dat (mD m1)),some (.dat (mD m2)),o3,some (.dat (sD (B3 B9 m1 m2))),some (.dat (sD (B3 B9 m2 m1))),some (.dat (.bl (B3 B9 m1 m2).isNone)),some (.dat (.str (if (B3 B9 m1 m2).isNone || (B3 B9 m2 m1).isNone then (if (B3 B9 m1 m2).isNone then "less" else "more") else if (B3 N7 m1 m2).isNone then "apart" else "cross")))]) : (A7 ws7 ws) E [o0,some (.dat (mD m1)),some (.dat (mD m2)),o3,some (.dat (sD (B3 B9 m1 m2))),some (.dat (sD (B3 B9 m2 m1))),some (.dat (.bl (B3 B9 m1 m2).isNone)),some (.dat (.str (if (B3 N7 m1 m2).isNone then "apart" else "cross")))]:=by
 unfold ws7
 simp only [G4,V7,Z0v,K2,E3,s_lst,D6,G1,F3,C6,L5,s_b,C3,U9]
 refine ⟨_,rfl,T9 ?_⟩
 cases ha : (B3 B9 m1 m2).isNone <;> cases hb : (B3 B9 m2 m1).isNone <;> simp only [ha,hb] at h
 ·rw [if_neg (by decide)]
  refine ⟨_,rfl,T9 ?_⟩
  rw [hb,if_neg (by decide)]
  exact h
 ·rw [if_neg (by decide)]
  refine ⟨_,rfl,T9 ?_⟩
  rw [hb,if_pos rfl]
  refine ⟨_,rfl,(by decide : 2 <= sizeLine),_,rfl,T9 ?_⟩
  rw [Q7f]
  refine Q8h ?_
  rw [ha]
  exact h
 ·rw [if_pos rfl,if_pos trivial]
  refine ⟨_,rfl,(by decide : 2 <= sizeLine),_,rfl,T9 ?_⟩
  rw [Q7f]
  refine Q8h ?_
  rw [ha]
  exact h
 ·rw [if_pos rfl,if_pos trivial]
  refine ⟨_,rfl,(by decide : 2 <= sizeLine),_,rfl,T9 ?_⟩
  rw [Q7f]
  refine Q8h ?_
  rw [ha]
  exact h
theorem st8 {m1 m2 : E5} (h2 : L1 m1 m2) {o0 o3 : Option Sl} {E : E6} {ws : WS} (h : ws E [o0,some (.dat (mD m1)),some (.dat (mD m2)),o3,some (.dat (sD (B3 B9 m1 m2))),some (.dat (sD (B3 B9 m2 m1))),some (.dat (.bl (B3 B9 m1 m2).isNone)),some (.dat (.str (Q4m m1 m2)))]) : (A7 ws8 ws) E [o0,some (.dat (mD m1)),some (.dat (mD m2)),o3,some (.dat (sD (B3 B9 m1 m2))),some (.dat (sD (B3 B9 m2 m1))),some (.dat (.bl (B3 B9 m1 m2).isNone)),some (.dat (.str (if (B3 B9 m1 m2).isNone || (B3 B9 m2 m1).isNone then (if (B3 B9 m1 m2).isNone then "less" else "more") else if (B3 N7 m1 m2).isNone then "apart" else "cross")))]:=by
 unfold ws8
 simp only [G4,V7,Y3p,K2,E3,F3,C3,U9]
 refine ⟨_,rfl,T9 ?_⟩
 unfold Q4m at h
 cases ha : (B3 B9 m1 m2).isNone <;> cases hb : (B3 B9 m2 m1).isNone <;> simp only [ha,hb] at h
 ·rw [if_neg (by decide),if_neg (by decide)]
  exact h
 ·rw [if_neg (by decide),if_neg (by decide)]
  exact h
 ·rw [if_pos rfl]
  refine ⟨_,rfl,T9 ?_⟩
  rw [hb,if_neg (by decide)]
  exact h
 ·rw [if_pos rfl]
  refine ⟨_,rfl,T9 ?_⟩
  rw [hb,if_pos rfl]
  exact h
theorem st9 {m1 m2 : E5} (h2 : L1 m1 m2) {o0 o3 o4 o5 o6 : Option Sl} {Pr : R -> Prop} (h : Pr (.st (.bl true))) : ws9 (L8 Pr) [o0,some (.dat (mD m1)),some (.dat (mD m2)),o3,o4,o5,o6,some (.dat (.str (Q4m m1 m2)))]:=by
 unfold ws9
 simp only [S9,s_b,E3,S4,D6,C3,C6]
 refine ⟨_,rfl,_,rfl,rfl,m1,m2,rfl,h2,_,rfl,?_⟩
 rw [G3,Q1q]
 refine ⟨_,_,rfl,rfl,by simp [D.depth],?_⟩
 rw [Y9t h2.w1 h2.w2,D.eq_refl]
 exact h
def Q8k : WS:=(A7 ws0 (A7 ws1 (A7 ws2 (A7 ws3 (A7 ws4 (A7 ws5 (A7 ws6 (A7 ws7 (A7 ws8 ws9)))))))))
theorem Y7j {m1 m2 : E5} (h2 : L1 m1 m2) {o0 o3 o4 o5 o6 o7 : Option Sl} {Pr : R -> Prop} (h : Pr (.st (.bl true))) : Q8k (L8 Pr) [o0,some (.dat (mD m1)),some (.dat (mD m2)),o3,o4,o5,o6,o7] :=
 st0 h2 (st1 h2 (st2 h2 (st3 h2 (st4 h2 (st5 h2 (st6 h2 (st7 h2 (st8 h2 (st9 h2 h)))))))))
def Z7e (sp_law_machine : D8) (sp_law_drawn : D8) (sp_both_of : D9) (sp_either : D9) (wr : WS) : WS:=(A7 (B7 1 (J7 sp_law_machine (A0 (wV 0) (A0 (wC (.int 0)) (A0 (wC (.int 4)) A3))))) (A7 (B7 2 (J7 sp_law_machine (A0 (wV 0) (A0 (wC (.int 60)) (A0 (wC (.int 4)) A3))))) (A7 (B7 3 (J7 sp_law_drawn (A0 (wV 0) (A0 (wC (.int 120)) (A0 (wC (.int 4)) A3))))) (A7 (F9 (A5 (eqD 60 false) (wV 3) (wC (.int 0))) (B7 2 (E9 sp_both_of (A0 (wV 1) (A0 (wV 2) A3)))) G0) (A7 (F9 (A5 (eqD 60 false) (wV 3) (wC (.int 1))) (B7 2 (E9 sp_either (A0 (wV 1) (A0 (wV 2) A3)))) G0) wr)))))
theorem W3b : ∀ rs Pr,rs.length = 1 -> sp_law rs Pr -> Z4p Q5k Q1a (spS N7) (spS gOr) T5 (N4 B9) (N4 N7) (N4 T4) sp_within Q3y (L8 Pr) (E4 Z3n rs):=by
 rintro rs Pr _ ⟨ns,rfl,hn,h⟩
 have w1:=Y0u ns 0 (most:=4) (by decide)
 have w2:=Y0u ns 60 (most:=4) (by decide)
 have l1:=Z6z ns 0 (most:=4) (by decide)
 have l2:=Z6z ns 60 (most:=4) (by decide)
 have l12 : (N8 ns 0 4).1.length * (N8 ns 60 4).1.length <= 16:=Nat.mul_le_mul l1 l2
 have T0 : L1 (N8 ns 0 4) (N8 ns 60 4):=⟨w1,w2,by omega⟩
 have TS : ∀ g,L1 (N8 ns 0 4) (Q2w g (N8 ns 0 4) (N8 ns 60 4)):=fun g=>⟨w1,Y5v w1 w2,by
  have a:=Y3n (g:=g) w1 w2
  have : (N8 ns 0 4).1.length * (Q2w g (N8 ns 0 4) (N8 ns 60 4)).1.length <= 4 * 16:=Nat.mul_le_mul l1 (Nat.le_trans a l12)
  omega⟩
 show Z7e Q5k Q1a (spS N7) (spS gOr) Q8k (L8 Pr) (E4 Z3n [R.st (scr ns)])
 have hr : ∀ {m2 : E5} (h2 : L1 (N8 ns 0 4) m2) {o0 o3 o4 o5 o6 o7 : Option Sl},Q8k (L8 Pr) [o0,some (.dat (mD (N8 ns 0 4))),some (.dat (mD m2)),o3,o4,o5,o6,o7]:=fun h2=>Y7j h2 h
 generalize Q8k = wr at hr
 unfold Z7e
 simp only [G4,K2,W1,D6,C3,F3,C6,V7,E3,S4,U9]
 refine ⟨_,rfl,rfl,_,⟨ns,0,4,rfl,hn,by decide,by decide,rfl⟩,?_⟩
 rw [N1]
 refine ⟨_,rfl,rfl,_,⟨ns,60,4,rfl,hn,by decide,by decide,rfl⟩,?_⟩
 rw [N1]
 refine ⟨_,rfl,rfl,_,⟨ns,120,4,rfl,hn,by decide,rfl⟩,?_⟩
 rw [N1]
 refine ⟨_,rfl,?_⟩
 rw [G3,Q1q]
 refine ⟨_,_,rfl,rfl,by simp [D.depth],?_⟩
 simp only [Q7u,Bool.false_eq_true,if_false]
 by_cases c0 : U4 ns 120 4 = 0
 ·rw [if_pos (by rw [c0]; rfl)]
  refine ⟨_,rfl,_,rfl,rfl,_,_,rfl,T0,?_⟩
  simp only [N1]
  refine ⟨_,rfl,?_⟩
  rw [G3,Q1q]
  refine ⟨_,_,rfl,rfl,by simp [D.depth],?_⟩
  simp only [Q7u,Bool.false_eq_true,if_false]
  rw [if_neg (by rw [c0]; decide)]
  exact hr (TS N7)
 ·rw [if_neg (by simpa using c0)]
  refine ⟨_,rfl,?_⟩
  rw [G3,Q1q]
  refine ⟨_,_,rfl,rfl,by simp [D.depth],?_⟩
  simp only [Q7u,Bool.false_eq_true,if_false]
  by_cases c1 : U4 ns 120 4 = 1
  ·rw [if_pos (by rw [c1]; rfl)]
   refine ⟨_,rfl,_,rfl,rfl,_,_,rfl,T0,?_⟩
   exact hr (TS gOr)
  ·rw [if_neg (by simpa using c1)]
   exact hr T0
local macro_rules | `(tactic| trivial)=>`(tactic| first | exact Or.inl rfl | exact Or.inr rfl)
def L7 (i : Nat) : Stmt:=PySem.Challenge.pw_textkinds_k24_compared.main.body.getD i (.Pass ⟨0,0,0,0⟩)
structure Txt (K : Fg9) (mg : Str -> Option Value) (w : World) : Prop where
 m_bool : mg "bool" = none
 m_enumerate : mg "enumerate" = none
 m_int : mg "int" = none
 m_isinstance : mg "isinstance" = none
 m_len : mg "len" = none
 m_list : mg "list" = none
 m_max : mg "max" = none
 m_range : mg "range" = none
 m_tuple : mg "tuple" = none
 m_zip : mg "zip" = none
 c_SIGNS : ∃ t,mg "SIGNS" = some (.str "01ab" t)
theorem W4i : bootBuiltins "bool" = some (.type "bool"):=by decide +kernel
theorem Q5b : bootBuiltins "enumerate" = some (.type "enumerate"):=by decide +kernel
theorem Y0i : bootBuiltins "int" = some (.type "int"):=by decide +kernel
theorem W2n : bootBuiltins "isinstance" = some (.builtin "isinstance"):=by decide +kernel
theorem Y4f : bootBuiltins "list" = some (.type "list"):=by decide +kernel
theorem Z6j : bootBuiltins "max" = some (.builtin "max"):=by decide +kernel
theorem W2x : bootBuiltins "zip" = some (.type "zip"):=by decide +kernel
abbrev Q8x : Stmt:=L7 2
abbrev Q9g : Stmt:=L7 3
abbrev Q6t : Stmt:=L7 4
abbrev Q3q : Stmt:=L7 5
abbrev Q7s : Stmt:=L7 6
abbrev Q6f : Stmt:=L7 7
abbrev Q5d : Stmt:=L7 8
abbrev Q6i : Stmt:=L7 9
abbrev Q8d : Stmt:=L7 10
abbrev Q7g : Stmt:=L7 11
abbrev Z3s : Stmt:=L7 12
abbrev Z2r : Stmt:=L7 14
abbrev Q6k : Stmt:=L7 15
abbrev Q6u : Stmt:=L7 16
abbrev Q8j : Stmt:=L7 17
abbrev Z0j : Stmt:=L7 18
abbrev Q8w : Stmt:=L7 19
abbrev Q7d : Stmt:=L7 21
abbrev Q7b : Stmt:=L7 22
abbrev Z1q : Stmt:=L7 24
abbrev Z3k : Stmt:=L7 25
abbrev Q5u : Stmt:=L7 28
abbrev Z2u : Stmt:=L7 31
abbrev Z2q : Stmt:=L7 32
structure Env (P : Program) (w : World) (K : Fg9) (mg : Str -> Option Value) (base : Heap) (ts : List Addr) (ad : Nat -> Addr) (fn : Nat -> FuncData) : Prop where
 T : Txt K mg w
 hBM : X8 mg base
 D_walked : Df K mg "walked" Q8x ["start","step"] (ad 0) (fn 0)
 D_first_text : Df K mg "first_text" Q9g ["start","step","is_end"] (ad 1) (fn 1)
 D_all_reached : Df K mg "all_reached" Q6t ["some","onward"] (ad 2) (fn 2)
 D_distances : Df K mg "distances" Q3q ["ends","rows","wanted"] (ad 3) (fn 3)
 D_numbered : Df K mg "numbered" Q7s ["marks"] (ad 4) (fn 4)
 D_told_apart : Df K mg "told_apart" Q6f ["ends","rows"] (ad 5) (fn 5)
 D_least : Df K mg "least" Q5d ["ends","rows"] (ad 6) (fn 6)
 D_built : Df K mg "built" Q6i ["start","step","is_end"] (ad 7) (fn 7)
 D_pair_step : Df K mg "pair_step" Q8d ["one","other"] (ad 8) (fn 8)
 D_pair_end : Df K mg "pair_end" Q7g ["one","other","is_end"] (ad 9) (fn 9)
 D_side_by_side : Df K mg "side_by_side" Z3s ["one","other","is_end"] (ad 10) (fn 10)
 D_first_of_both : Df K mg "first_of_both" Z2r ["one","other","is_wanted"] (ad 11) (fn 11)
 D_parting : Df K mg "parting" Q6k ["one","other"] (ad 12) (fn 12)
 D_meeting : Df K mg "meeting" Q6u ["one","other"] (ad 13) (fn 13)
 D_unlike : Df K mg "unlike" Q8j ["one","other"] (ad 14) (fn 14)
 D_within : Df K mg "within" Z0j ["one","other"] (ad 15) (fn 15)
 D_how_they_lie : Df K mg "how_they_lie" Q8w ["one","other"] (ad 16) (fn 16)
 D_either : Df K mg "either" Q7d ["one","other"] (ad 17) (fn 17)
 D_both_of : Df K mg "both_of" Q7b ["one","other"] (ad 18) (fn 18)
 D_law_cell : Df K mg "_law_cell" Z1q ["_law_script","_law_k"] (ad 19) (fn 19)
 D_law_drawn : Df K mg "_law_drawn" Z3k ["_law_script","_law_k","_law_many"] (ad 20) (fn 20)
 D_law_machine : Df K mg "_law_machine" Q5u ["_law_script","_law_at","_law_most"] (ad 21) (fn 21)
 D_law_first : Df K mg "_law_first" Z2u ["_law_one","_law_other","_law_way"] (ad 22) (fn 22)
 D_law : Df K mg "law" Z2q ["_law_script"] (ad 23) (fn 23)
 C_least : ∃ c Pt,O6 K "least" "least" Q5d (ad 6) (fn 6) c Pt /\ Pt ∈ ts
 C_pair_step : ∃ c Pt,O6 K "pair_step" "pair_step" Q8d (ad 8) (fn 8) c Pt /\ Pt ∈ ts
 C_pair_end : ∃ c Pt,O6 K "pair_end" "pair_end" Q7g (ad 9) (fn 9) c Pt /\ Pt ∈ ts
 C_parting : ∃ c Pt,O6 K "parting" "parting" Q6k (ad 12) (fn 12) c Pt /\ Pt ∈ ts
 C_meeting : ∃ c Pt,O6 K "meeting" "meeting" Q6u (ad 13) (fn 13) c Pt /\ Pt ∈ ts
 C_unlike : ∃ c Pt,O6 K "unlike" "unlike" Q8j (ad 14) (fn 14) c Pt /\ Pt ∈ ts
 C_either : ∃ c Pt,O6 K "either" "either" Q7d (ad 17) (fn 17) c Pt /\ Pt ∈ ts
 C_both_of : ∃ c Pt,O6 K "both_of" "both_of" Q7b (ad 18) (fn 18) c Pt /\ Pt ∈ ts
section
variable {P : Program} {w : World} {K : Fg9} {mg : Str -> Option Value} {base : Heap} {ts : List Addr} {ad : Nat -> Addr} {fn : Nat -> FuncData} (Z : Env P w K mg base ts ad fn)
include Z
omit Z in
theorem Q8c : G2 MC.Y1c ["start","step"] (C0 Q8x):=M6 (by decide +kernel)
theorem Y3r : FnD P w K mg base 3 (ad 0) (fn 0) ["start","step"] (sp_walked (E7 P w K mg base 2)):=by
 have nd:=Q8c.nd
 refine Z.D_walked.ok Q8c (ws:=MC.Z0s (E7 P w K mg base 2) ) (fun cdv A outer s H E hr=>?_) MC.Y3w
 exact (A4.cons (DS.sv 2 (DE.lst (DA.one (DE.fz (DE.v 0)))) nd) (A4.cons (DS.dnew1 (i:=3) hr.units0 (DE.v 0) DE.int nd rfl (by trivial)) (A4.cons (DS.sv 4 (DE.lst DA.nil) nd) (A4.cons (DS.fzO 2 (DS.whl PassesOwn.never (DT.cmp Q7r Q5f (DE.len Z.T.m_len (DE.v 4)) (DE.len Z.T.m_len (DE.v 2)) (J3 _)) (A4.cons (DS.sv 5 (DE.ix (DE.v 2) (DE.len Z.T.m_len (DE.v 4)) (fun _ _=>rfl)) nd) (A4.cons (DS.sv 6 (DE.lst DA.nil) nd) (A4.cons (DS.for PassesOwn.never rfl (DI.rng1 rfl Z.T.m_range (DA.one (DE.len Z.T.m_len (DE.gstr rfl Z.T.c_SIGNS)))) (DG.nm (i:=7) nd rfl (by trivial)) (A4.cons (DS.sv 8 (DE.callC (k:=2) (hr.mono (by decide)) (pv 1) (DA.cons (DE.v 5) (DA.one (DE.v 7)))) nd) (A4.cons (DS.ife (DT.dnotin (C5.hu1 hr) (DE.v 8) (pv 3)) (A4.cons (DS.dput (C5.hu1 hr) (pv 3) (DE.v 8) (DE.len Z.T.m_len (DE.v 2))) (A4.one (DS.append (pv 2) (DE.fz (DE.v 8))))) A4.nil) (A4.one (DS.append (pv 6) (DE.fz (DE.dgetT (C5.hu1 hr) (pv 3) (DE.v 8) (fun _ _=>rfl)))))))) (A4.one (DS.append (pv 4) (DE.fz (DE.tpl Z.T.m_tuple (DE.v 6)))))))))) (A4.one (DS.ret (DE.tup (DA.cons (DE.fz (DE.v 2)) (DA.one (DE.fz (DE.tpl Z.T.m_tuple (DE.v 4))))))))))))
theorem Y9n : FnD P w K mg base 3 (ad 0) (fn 0) ["start","step"] (sp_walkedK (E7 P w K mg base 2)):=by
 have nd:=Q8c.nd
 refine Z.D_walked.ok Q8c (ws:=MC.Z2j (E7 P w K mg base 2) ) (fun cdv A outer s H E hr=>?_) MC.W2i
 exact (A4.cons (DS.sv 2 (DE.lst (DA.one (DE.fz (DE.v 0)))) nd) (A4.cons (DS.knew1 (i:=3) (DE.v 0) DE.int nd rfl (by trivial)) (A4.cons (DS.sv 4 (DE.lst DA.nil) nd) (A4.cons (DS.fzO 2 (DS.whl PassesOwn.never (DT.cmp Q7r Q5f (DE.len Z.T.m_len (DE.v 4)) (DE.len Z.T.m_len (DE.v 2)) (J3 _)) (A4.cons (DS.sv 5 (DE.ix (DE.v 2) (DE.len Z.T.m_len (DE.v 4)) (fun _ _=>rfl)) nd) (A4.cons (DS.sv 6 (DE.lst DA.nil) nd) (A4.cons (DS.for PassesOwn.never rfl (DI.rng1 rfl Z.T.m_range (DA.one (DE.len Z.T.m_len (DE.gstr rfl Z.T.c_SIGNS)))) (DG.nm (i:=7) nd rfl (by trivial)) (A4.cons (DS.sv 8 (DE.callC (k:=2) (hr.mono (by decide)) (pv 1) (DA.cons (DE.v 5) (DA.one (DE.v 7)))) nd) (A4.cons (DS.ife (DT.knotin (C5.hu1 hr) (DE.v 8) (pv 3)) (A4.cons (DS.kput (C5.hu1 hr) (pv 3) (DE.v 8) (DE.len Z.T.m_len (DE.v 2))) (A4.one (DS.append (pv 2) (DE.fz (DE.v 8))))) A4.nil) (A4.one (DS.append (pv 6) (DE.fz (DE.kget (C5.hu1 hr) (pv 3) (DE.v 8) (fun _ _=>rfl)))))))) (A4.one (DS.append (pv 4) (DE.fz (DE.tpl Z.T.m_tuple (DE.v 6)))))))))) (A4.one (DS.ret (DE.tup (DA.cons (DE.fz (DE.v 2)) (DA.one (DE.fz (DE.tpl Z.T.m_tuple (DE.v 4))))))))))))
omit Z in
theorem Y1z : G2 MC.Z4b ["start","step","is_end"] (C0 Q9g):=M6 (by decide +kernel)
theorem Y6e : FnD P w K mg base 3 (ad 1) (fn 1) ["start","step","is_end"] (sp_first_text (E7 P w K mg base 2)):=by
 have nd:=Y1z.nd
 refine Z.D_first_text.ok Y1z (ws:=MC.Z2b (E7 P w K mg base 2) ) (fun cdv A outer s H E hr=>?_) MC.W1b
 exact (A4.cons (DS.sv 3 (DE.lst (DA.one (DE.fz (DE.v 0)))) nd) (A4.cons (DS.dnew1 (i:=4) hr.units0 (DE.v 0) DE.str nd rfl (by trivial)) (A4.cons (DS.sv 5 DE.int nd) (A4.cons (DS.whl PassesOwn.never (DT.cmp Q7r Q5f (DE.v 5) (DE.len Z.T.m_len (DE.v 3)) (J3 _)) (A4.cons (DS.sv 6 (DE.ix (DE.v 3) (DE.v 5) (fun _ _=>rfl)) nd) (A4.cons (DS.ife (DT.tru (DE.callC (k:=2) (hr.mono (by decide)) (pv 2) (DA.one (DE.v 6))) (fun _=>rfl)) (A4.one (DS.ret (DE.dgetT (C5.hu1 hr) (pv 4) (DE.v 6) (fun _ _=>rfl)))) A4.nil) (A4.cons (DS.for PassesOwn.never rfl (DI.enumX rfl Z.T.m_enumerate Q5b (DA.one (DE.gstr rfl Z.T.c_SIGNS))) (DG.tp (n:=2) rfl (G5.cons (DG.nm (i:=7) nd rfl (by trivial)) (G5.cons (DG.nm (i:=8) nd rfl (by trivial)) G5.nil))) (A4.cons (DS.sv 9 (DE.callC (k:=2) (hr.mono (by decide)) (pv 1) (DA.cons (DE.v 6) (DA.one (DE.v 7)))) nd) (A4.one (DS.ife (DT.dnotin (C5.hu1 hr) (DE.v 9) (pv 4)) (A4.cons (DS.dput (C5.hu1 hr) (pv 4) (DE.v 9) (DE.op U2 T6 (DE.dgetT (C5.hu1 hr) (pv 4) (DE.v 6) (fun _ _=>rfl)) (DE.v 8))) (A4.one (DS.append (pv 3) (DE.fz (DE.v 9))))) A4.nil)))) (A4.one (DS.aug (i:=5) Z9e X2 DE.int nd rfl (by trivial))))))) (A4.one (DS.ret DE.non))))))
omit Z in
theorem Z4z : G2 MC.Z2w ["some","onward"] (C0 Q6t):=M6 (by decide +kernel)
theorem Y3f : P0 P w K mg base ts 1 (ad 2) (fn 2) ["some","onward"] (sp_all_reached K):=by
 have nd:=Z4z.nd
 refine O5.okP Z.D_all_reached.F Z4z (ws:=MC.Q9a  K ) (fun cdv A outer s H E hT hr=>?_) MC.W0t
 exact (A4.cons (DS.setKC (i:=2) rfl (Y0 (sc:=C0 Q6t) (N0:=MC.Z2w) (N:=["state"]) (nt:=1) (cap:=[]) rfl rfl (by decide +kernel)) (J8.lst (DE.v 0)) (fun _ _ _ _=>(DG.nm (i:=0) (show List.Nodup (["state"] : List Str) by decide +kernel) rfl (by trivial))) (fun _ _ _ _=>(DE.v 0)) (fun _ _ _ _=>(DE.fz DE.int)) nd rfl (by trivial)) (A4.cons (DS.sv 3 (DE.callTy (Y9e rfl) W4h rfl Z.T.m_list Y4f (DA.one (DE.v 2))) nd) (A4.cons (DS.sv 4 DE.int nd) (A4.cons (DS.whl PassesOwn.never (DT.cmp Q7r Q5f (DE.v 4) (DE.len Z.T.m_len (DE.v 3)) (J3 _)) (A4.cons (DS.sv 5 (DE.ix (DE.v 3) (DE.v 4) (fun _ _=>rfl)) nd) (A4.cons (DS.for PassesOwn.never rfl (DI.lst (DE.fz (DE.ix (DE.v 1) (DE.v 5) (fun _ _=>rfl)))) (DG.nm (i:=6) nd rfl (by trivial)) (A4.one (DS.ife (DT.knotin (C5.hu1 hr) (DE.v 6) (pv 2)) (A4.cons (DS.kput (C5.hu1 hr) (pv 2) (DE.v 6) (DE.op U2 T6 (DE.kget (C5.hu1 hr) (pv 2) (DE.v 5) (fun _ _=>rfl)) DE.int)) (A4.one (DS.append (pv 3) (DE.fz (DE.v 6))))) A4.nil))) (A4.one (DS.aug (i:=4) Z9e X2 DE.int nd rfl (by trivial)))))) (A4.one (DS.retK (pv 2)))))))
omit Z in
theorem Z4e : G2 MC.Q4j ["ends","rows","wanted"] (C0 Q3q):=M6 (by decide +kernel)
theorem Z9i : P0 P w K mg base ts 2 (ad 3) (fn 3) ["ends","rows","wanted"] sp_distances:=by
 have nd:=Z4e.nd
 refine O5.okP Z.D_distances.F Z4e (ws:=MC.Q9f  K (sp_all_reached K)) (fun cdv A outer s H E hT hr=>?_) MC.W0a
 exact (A4.cons (DS.setLC (i:=3) rfl (Y0 (sc:=C0 Q3q) (N0:=MC.Q4j) (N:=["row"]) (nt:=1) (cap:=[]) rfl rfl (by decide +kernel)) (J8.tup (DE.v 1)) (fun _ _ _ _=>(DG.nm (i:=0) (show List.Nodup (["row"] : List Str) by decide +kernel) rfl (by trivial))) (fun _ _ _ _=>(DE.lst DA.nil)) nd rfl (by trivial)) (A4.cons (DS.fzL 3 (DS.for PassesOwn.never rfl (DI.enumX rfl Z.T.m_enumerate Q5b (DA.one (DE.v 1))) (DG.tp (n:=2) rfl (G5.cons (DG.nm (i:=4) nd rfl (by trivial)) (G5.cons (DG.nm (i:=5) nd rfl (by trivial)) G5.nil))) (A4.one (DS.for PassesOwn.never rfl (DI.tup (DE.v 5)) (DG.nm (i:=6) nd rfl (by trivial)) (A4.one (DS.llapp (pv 3) (DE.v 6) (DE.fz (DE.v 4)) (fun _ _=>rfl) ⟨rfl,rfl,rfl,rfl⟩)))))) (A4.cons (DS.setF (i:=7) (DE.clP (Y4c) (Y3f Z) hr hT Z.D_all_reached (DA.cons (DE.comp rfl (Y0 (sc:=C0 Q3q) (N0:=MC.Q4j) (N:=["state","end","wanted"]) (nt:=2) (cap:=[2]) rfl rfl (by decide +kernel)) (J8.enumX rfl Z.T.m_enumerate Q5b (DA.one (DE.v 0))) (fun _ _ _ _=>(DG.tp (n:=2) rfl (G5.cons (DG.nm (i:=0) (show List.Nodup (["state","end","wanted"] : List Str) by decide +kernel) rfl (by trivial)) (G5.cons (DG.nm (i:=1) (show List.Nodup (["state","end","wanted"] : List Str) by decide +kernel) rfl (by trivial)) G5.nil)))) (fun _ _ _ _=>(DIf.one (DT.cmp (Q3f (n:=60) (Q3c hr)) Q2j (DE.v 1) (DE.v 2) (J3 _)))) (fun _ _ _ _=>(DE.fz (DE.v 0)))) (DA.one (DE.v 3)))) nd rfl (by trivial)) (A4.one (DS.ret (DE.comp rfl (Y0 (sc:=C0 Q3q) (N0:=MC.Q4j) (N:=["state","reached"]) (nt:=1) (cap:=[7]) rfl rfl (by decide +kernel)) (J8.rng1 rfl Z.T.m_range (DA.one (DE.len Z.T.m_len (DE.v 0)))) (fun _ _ _ _=>(DG.nm (i:=0) (show List.Nodup (["state","reached"] : List Str) by decide +kernel) rfl (by trivial))) (fun _ _ _ _=>DIf.nil) (fun _ _ _ _=>(DE.fz (DE.fget1 (C5.hu1 hr) (pv 1) (DE.v 0) ⟨rfl,rfl,rfl,rfl⟩)))))))))
omit Z in
theorem Z7n : G2 MC.Z3v ["marks"] (C0 Q7s):=M6 (by decide +kernel)
theorem Y2a : FnD P w K mg base 1 (ad 4) (fn 4) ["marks"] sp_numbered:=by
 have nd:=Z7n.nd
 refine Z.D_numbered.ok Z7n (ws:=MC.Q9q  ) (fun cdv A outer s H E hr=>?_) MC.W2c
 exact (A4.numb rfl (by have:=hr.units; show _ + 9 < cLine; exact Nat.lt_of_le_of_lt (Nat.add_le_add_left (by decide) _) this) (Y0 (sc:=C0 Q7s) (N0:=MC.Z3v) (N:=["mark","numbers"]) (nt:=1) (cap:=[1]) rfl rfl (by decide +kernel)) (J8.lst (DE.v 0)) (fun _ _ _ _=>Z5k (show List.Nodup (["mark","numbers"] : List Str) by decide +kernel) rfl (by trivial)) (fun _ _ _ _=>Y5x (by have:=hr.units; show _ + 9 < cLine; exact Nat.lt_of_le_of_lt (Nat.add_le_add_left (by decide) _) this) (pv 1) (pv 0) rfl Z.T.m_len (pv 1) ⟨rfl,rfl,rfl,rfl⟩) nd rfl (by trivial))
omit Z in
theorem Z6c : G2 MC.Z3q ["ends","rows"] (C0 Q6f):=M6 (by decide +kernel)
theorem Y2o : P0 P w K mg base ts 3 (ad 5) (fn 5) ["ends","rows"] sp_told_apart:=by
 have nd:=Z6c.nd
 refine O5.okP Z.D_told_apart.F Z6c (ws:=MC.Q9i  sp_numbered sp_distances) (fun cdv A outer s H E hT hr=>?_) MC.Y9c
 exact (A4.cons (DS.sv 2 (DE.fz (DE.cl (Y2a Z) hr Z.D_numbered (DA.one (DE.listZip rfl rfl Z.T.m_list rfl Z.T.m_zip (DA.cons (DE.clP (Y2j) (Z9i Z) hr hT Z.D_distances (DA.cons (DE.v 0) (DA.cons (DE.v 1) (DA.one DE.bl)))) (DA.one (DE.clP (Y2j) (Z9i Z) hr hT Z.D_distances (DA.cons (DE.v 0) (DA.cons (DE.v 1) (DA.one DE.bl)))))))))) nd) (A4.cons (DS.sv 3 DE.int nd) (A4.cons (DS.whl PassesOwn.never (DT.cmp Y9p Q5f (DE.callB (Y0o rfl) Z5m rfl Z.T.m_max Z6j (DA.one (DE.v 2))) (DE.v 3) (J3 _)) (A4.cons (DS.sv 3 (DE.op U2 T6 (DE.callB (Y0o rfl) Z5m rfl Z.T.m_max Z6j (DA.one (DE.v 2))) DE.int) nd) (A4.one (DS.sv 2 (DE.fz (DE.cl (Y2a Z) hr Z.D_numbered (DA.one (DE.comp rfl (Y0 (sc:=C0 Q6f) (N0:=MC.Z3q) (N:=["block","row","blocks"]) (nt:=2) (cap:=[2]) rfl rfl (by decide +kernel)) (J8.zipT rfl Z.T.m_zip W2x (DA.cons (DE.v 2) (DA.one (DE.v 1)))) (fun _ _ _ _=>(DG.tp (n:=2) rfl (G5.cons (DG.nm (i:=0) (show List.Nodup (["block","row","blocks"] : List Str) by decide +kernel) rfl (by trivial)) (G5.cons (DG.nm (i:=1) (show List.Nodup (["block","row","blocks"] : List Str) by decide +kernel) rfl (by trivial)) G5.nil)))) (fun _ _ _ _=>DIf.nil) (fun _ _ _ _=>(DE.fz (DE.tup (DA.cons (DE.fz (DE.v 0)) (DA.one (DE.fz (DE.tpl Z.T.m_tuple (DE.comp rfl (Y0 (N0:=["block","row","blocks"]) (N:=["goal","blocks"]) (nt:=1) (cap:=[2]) rfl rfl (by kernel_rfl)) (J8.tup (DE.v 1)) (fun _ _ _ _=>(DG.nm (i:=0) (show List.Nodup (["goal","blocks"] : List Str) by decide +kernel) rfl (by trivial))) (fun _ _ _ _=>DIf.nil) (fun _ _ _ _=>(DE.fz (DE.ix (DE.v 1) (DE.v 0) (fun _ _=>rfl)))))))))))))))) nd)))) (A4.one (DS.retV (pv 2))))))
omit Z in
theorem Y0p : G2 MC.Q9b ["ends","rows"] (C0 Q5d):=M6 (by decide +kernel)
theorem W4w : P0 P w K mg base ts 4 (ad 6) (fn 6) ["ends","rows"] sp_least:=by
 obtain ⟨c,Pt,C,hPt⟩:=Z.C_least
 have nd:=Y0p.nd
 refine O6.okP C Y0p (ws:=MC.Q8y (E7 P w K mg base 2) K sp_told_apart (sp_walkedK (E7 P w K mg base 2))) (fun A outer s H E hT hr=>?_) MC.W2d
 exact (A4.cons (DS.sv 2 (DE.fz (DE.clP (Y8x) (Y2o Z) hr hT Z.D_told_apart (DA.cons (DE.v 0) (DA.one (DE.v 1))))) nd) (A4.cons (DS.knew (i:=3) nd rfl (by trivial)) (A4.cons (DS.fzK 3 (DS.for PassesOwn.never rfl (DI.enumF rfl Z.T.m_enumerate Q5b (DA.one (DE.v 2))) (DG.tp (n:=2) rfl (G5.cons (DG.nm (i:=4) nd rfl (by trivial)) (G5.cons (DG.nm (i:=5) nd rfl (by trivial)) G5.nil))) (A4.one (DS.ksetd (pv 3) (DE.v 5) (DE.v 4) ⟨rfl,rfl,rfl,rfl⟩)))) (A4.cons (DS.asg (DE.callW (kl:=1) (ps:=["block","column"]) (cs:=[("samples",3),("rows",1),("blocks",2)]) (clos:=[("samples",s.heap.objs.size + 4),("rows",s.heap.objs.size + 2),("blocks",s.heap.objs.size + 3)]) (wb:=(MC.Q7q K)) (Y9n Z) (hr.mono (by decide)) rfl Z.D_walked.m Z.D_walked.k Z.D_walked.b (DE.ix (DE.v 2) DE.int (fun _ _=>rfl)) (hT _ hPt) Z.hBM rfl C.hd rfl rfl (List.forall_mem_cons.mpr ⟨rfl,List.forall_mem_cons.mpr ⟨rfl,List.forall_mem_cons.mpr ⟨rfl,fun _ h=>nomatch h⟩⟩⟩) (List.forall_mem_cons.mpr ⟨⟨rfl,rfl,rfl⟩,List.forall_mem_cons.mpr ⟨⟨rfl,rfl,rfl⟩,List.forall_mem_cons.mpr ⟨⟨rfl,rfl,rfl⟩,fun _ h=>nomatch h⟩⟩⟩) ⟨rfl,rfl,rfl,by decide +kernel,by decide +kernel,by decide +kernel,by decide +kernel,by decide +kernel⟩ (fun _ _ _ _ _ us hl=>match us,hl with | [_,_],_=>rfl) (fun caps f c' A outer s H q hn hr=>(DE.ix (DE.v 4) (DE.ix (DE.ix (DE.v 3) (DE.fget (C5.hu1 hr) (pv 2) (DE.v 0) (fun _ _=>rfl)) (fun _ _=>rfl)) (DE.v 1) (fun _ _=>rfl)) (fun _ _=>rfl)))) (DG.tp (n:=2) rfl (G5.cons (DG.nm (i:=6) nd rfl (by trivial)) (G5.cons (DG.nm (i:=7) nd rfl (by trivial)) G5.nil)))) (A4.one (DS.ret (DE.tup (DA.cons (DE.fz (DE.tpl Z.T.m_tuple (DE.comp rfl (Y0 (sc:=C0 Q5d) (N0:=MC.Q9b) (N:=["block","ends","samples"]) (nt:=1) (cap:=[0,3]) rfl rfl (by decide +kernel)) (J8.lst (DE.v 6)) (fun _ _ _ _=>(DG.nm (i:=0) (show List.Nodup (["block","ends","samples"] : List Str) by decide +kernel) rfl (by trivial))) (fun _ _ _ _=>DIf.nil) (fun _ _ _ _=>(DE.fz (DE.ix (DE.v 1) (DE.fget (C5.hu1 hr) (pv 2) (DE.v 0) (fun _ _=>rfl)) (fun _ _=>rfl))))))) (DA.one (DE.fz (DE.v 7)))))))))))
omit Z in
theorem Y1f : G2 MC.Z0c ["start","step","is_end"] (C0 Q6i):=M6 (by decide +kernel)
theorem Y3h : P0 P w K mg base ts 5 (ad 7) (fn 7) ["start","step","is_end"] (sp_built (E7 P w K mg base 2)):=by
 have nd:=Y1f.nd
 refine O5.okP Z.D_built.F Y1f (ws:=MC.Z3d (E7 P w K mg base 2) (sp_walked (E7 P w K mg base 2)) sp_least) (fun cdv A outer s H E hT hr=>?_) MC.Y9d
 exact (A4.cons (DS.asg (DE.cl (Y3r Z) hr Z.D_walked (DA.cons (DE.v 0) (DA.one (DE.v 1)))) (DG.tp (n:=2) rfl (G5.cons (DG.nm (i:=3) nd rfl (by trivial)) (G5.cons (DG.nm (i:=4) nd rfl (by trivial)) G5.nil)))) (A4.one (DS.ret (DE.clP (Y3k) (W4w Z) hr hT Z.D_least (DA.cons (DE.comp rfl (Y0 (sc:=C0 Q6i) (N0:=MC.Z0c) (N:=["key","is_end"]) (nt:=1) (cap:=[2]) rfl rfl (by decide +kernel)) (J8.lst (DE.v 3)) (fun _ _ _ _=>(DG.nm (i:=0) (show List.Nodup (["key","is_end"] : List Str) by decide +kernel) rfl (by trivial))) (fun _ _ _ _=>DIf.nil) (fun _ _ _ _=>(DE.fz (DE.callC (k:=2) (hr.mono (by decide)) (pv 1) (DA.one (DE.v 0)))))) (DA.one (DE.v 4)))))))
omit Z in
theorem Z4r : G2 MC.Z6i ["one","other"] (C0 Q8d):=M6 (by decide +kernel)
theorem Z6w : P0 P w K mg base ts 3 (ad 8) (fn 8) ["one","other"] (sp_pair_step (E7 P w K mg base 2)):=by
 obtain ⟨c,Pt,C,hPt⟩:=Z.C_pair_step
 have nd:=Z4r.nd
 refine O6.okL (lps:=["pair","column"]) (w1:=MC.Z0d) (w2:=MC.Z2e) (wb:=MC.Q8a ) (cs:=[("rows",2),("other_rows",3)]) (kl:=1) C Z4r rfl Z.hBM hPt (fun A outer s H E hr=>?_) (fun A outer s H E hr=>?_) (fun n=>[("rows",n + 2),("other_rows",n + 1)]) (fun n=>rfl) (fun n=>rfl) (fun n=>?_) ?_ ?_ (fun _ _ _ _ _ us hl=>match us,hl with | [_,_],_=>rfl) (fun caps g c' A outer s H q hn hr=>?_) (fun n=>rfl) MC.Y9y
 ·exact (DS.sv 2 (DE.ix (DE.v 0) DE.int (fun _ _=>rfl)) nd)
 ·exact (DS.sv 3 (DE.ix (DE.v 1) DE.int (fun _ _=>rfl)) nd)
 ·exact List.forall_mem_cons.mpr ⟨rfl,List.forall_mem_cons.mpr ⟨rfl,fun _ h=>nomatch h⟩⟩
 ·exact List.forall_mem_cons.mpr ⟨⟨rfl,rfl⟩,List.forall_mem_cons.mpr ⟨⟨rfl,rfl⟩,fun _ h=>nomatch h⟩⟩
 ·exact ⟨rfl,rfl,rfl,by decide +kernel,by decide +kernel,by decide +kernel,by decide +kernel,by decide +kernel⟩
 ·exact (DE.tup (DA.cons (DE.fz (DE.ix (DE.ix (DE.v 2) (DE.ix (DE.v 0) DE.int (fun _ _=>rfl)) (fun _ _=>rfl)) (DE.v 1) (fun _ _=>rfl))) (DA.one (DE.fz (DE.ix (DE.ix (DE.v 3) (DE.ix (DE.v 0) DE.int (fun _ _=>rfl)) (fun _ _=>rfl)) (DE.v 1) (fun _ _=>rfl))))))
omit Z in
theorem Y0h : G2 MC.Z5n ["one","other","is_end"] (C0 Q7g):=M6 (by decide +kernel)
theorem Z5r : P0 P w K mg base ts 3 (ad 9) (fn 9) ["one","other","is_end"] (sp_pair_end (E7 P w K mg base 1) (E7 P w K mg base 2)):=by
 obtain ⟨c,Pt,C,hPt⟩:=Z.C_pair_end
 have nd:=Y0h.nd
 refine O6.okL (lps:=["pair"]) (w1:=MC.Z2v) (w2:=MC.w2_pair_end) (wb:=MC.Q8t (E7 P w K mg base 1)) (cs:=[("other_ends",4),("is_end",2),("ends",3)]) (kl:=1) C Y0h rfl Z.hBM hPt (fun A outer s H E hr=>?_) (fun A outer s H E hr=>?_) (fun n=>[("other_ends",n + 3),("is_end",n + 1),("ends",n + 2)]) (fun n=>rfl) (fun n=>rfl) (fun n=>?_) ?_ ?_ (fun _ _ _ _ _ us hl=>match us,hl with | [_],_=>rfl) (fun caps g c' A outer s H q hn hr=>?_) (fun n=>rfl) MC.Y7e
 ·exact (DS.sv 3 (DE.ix (DE.v 0) DE.int (fun _ _=>rfl)) nd)
 ·exact (DS.sv 4 (DE.ix (DE.v 1) DE.int (fun _ _=>rfl)) nd)
 ·exact List.forall_mem_cons.mpr ⟨rfl,List.forall_mem_cons.mpr ⟨rfl,List.forall_mem_cons.mpr ⟨rfl,fun _ h=>nomatch h⟩⟩⟩
 ·exact List.forall_mem_cons.mpr ⟨⟨rfl,rfl⟩,List.forall_mem_cons.mpr ⟨⟨rfl,rfl⟩,List.forall_mem_cons.mpr ⟨⟨rfl,rfl⟩,fun _ h=>nomatch h⟩⟩⟩
 ·exact ⟨rfl,rfl,rfl,by decide +kernel,by decide +kernel,by decide +kernel,by decide +kernel,by decide +kernel⟩
 ·exact (DE.callC (k:=1) (hr.mono (Nat.le_refl 1)) (pv 2) (DA.cons (DE.ix (DE.v 3) (DE.ix (DE.v 0) DE.int (fun _ _=>rfl)) (fun _ _=>rfl)) (DA.one (DE.ix (DE.v 1) (DE.ix (DE.v 0) DE.int (fun _ _=>rfl)) (fun _ _=>rfl)))))
omit Z in
theorem Z9q : G2 MC.Z9z ["one","other","is_end"] (C0 Z3s):=M6 (by decide +kernel)
theorem Z7p : P0 P w K mg base ts 6 (ad 10) (fn 10) ["one","other","is_end"] (Q0z (E7 P w K mg base 1)):=by
 have nd:=Z9q.nd
 refine O5.okP Z.D_side_by_side.F Z9q (ws:=MC.Q9v  (sp_built (E7 P w K mg base 2)) (sp_pair_step (E7 P w K mg base 2)) (sp_pair_end (E7 P w K mg base 1) (E7 P w K mg base 2))) (fun cdv A outer s H E hT hr=>?_) MC.Y9f
 exact (A4.one (DS.ret (DE.clP (Y8l) (Y3h Z) hr hT Z.D_built (DA.cons (DE.tup (DA.cons (DE.fz DE.int) (DA.one (DE.fz DE.int)))) (DA.cons (DE.clP (Y1n) (Z6w Z) hr hT Z.D_pair_step (DA.cons (DE.v 0) (DA.one (DE.v 1)))) (DA.one (DE.clP (Z6v) (Z5r Z) hr hT Z.D_pair_end (DA.cons (DE.v 0) (DA.cons (DE.v 1) (DA.one (DE.v 2)))))))))))
omit Z in
theorem Z6f : G2 MC.Z8m ["one","other","is_wanted"] (C0 Z2r):=M6 (by decide +kernel)
theorem Z2i : P0 P w K mg base ts 4 (ad 11) (fn 11) ["one","other","is_wanted"] (sp_first_of_both (E7 P w K mg base 1)):=by
 have nd:=Z6f.nd
 refine O5.okP Z.D_first_of_both.F Z6f (ws:=MC.Z0h  (sp_first_text (E7 P w K mg base 2)) (sp_pair_step (E7 P w K mg base 2)) (sp_pair_end (E7 P w K mg base 1) (E7 P w K mg base 2))) (fun cdv A outer s H E hT hr=>?_) MC.W4k
 exact (A4.one (DS.ret (DE.cl (Y6e Z) hr Z.D_first_text (DA.cons (DE.tup (DA.cons (DE.fz DE.int) (DA.one (DE.fz DE.int)))) (DA.cons (DE.clP (Y1n) (Z6w Z) hr hT Z.D_pair_step (DA.cons (DE.v 0) (DA.one (DE.v 1)))) (DA.one (DE.clP (Z6v) (Z5r Z) hr hT Z.D_pair_end (DA.cons (DE.v 0) (DA.cons (DE.v 1) (DA.one (DE.v 2)))))))))))
omit Z in
theorem Z9r : G2 MC.Y1g ["one","other"] (C0 Q6k):=M6 (by decide +kernel)
theorem Y0s : P0 P w K mg base ts 5 (ad 12) (fn 12) ["one","other"] (N4 B9):=by
 obtain ⟨c,Pt,C,hPt⟩:=Z.C_parting
 have nd:=Z9r.nd
 refine O6.okP C Z9r (ws:=MC.Z4w (E7 P w K mg base 1) (sp_first_of_both (E7 P w K mg base 1))) (fun A outer s H E hT hr=>?_) MC.Y7h
 exact (A4.one (DS.ret (DE.clP (Z3p) (Z2i Z) hr hT Z.D_first_of_both (DA.cons (DE.v 0) (DA.cons (DE.v 1) (DA.one (DE.lam0 (k:=0) (ps:=["end","other_end"]) (wb:=MC.Q4r) (sp:=J5 MC.Q4r []) (hT _ hPt) Z.hBM rfl C.hd rfl ⟨rfl,rfl,rfl,by decide +kernel,by decide +kernel,by decide +kernel,by decide +kernel,by decide +kernel⟩ (fun _ _ _ _ us hl=>match us,hl with | [_,_],_=>rfl) (fun f c' A outer s H q hr=>(DE.and (DE.v 0) (DE.and1 (DE.nt (DE.v 1))))) (fun rs r _ ⟨ds,d,e1,e2,e3⟩=>⟨ds,d,e1,e2,by rw [List.map_nil,List.append_nil] at e3; exact e3⟩))))))))
omit Z in
theorem Y1j : G2 MC.Z5q ["one","other"] (C0 Q6u):=M6 (by decide +kernel)
theorem Z8n : P0 P w K mg base ts 5 (ad 13) (fn 13) ["one","other"] (N4 N7):=by
 obtain ⟨c,Pt,C,hPt⟩:=Z.C_meeting
 have nd:=Y1j.nd
 refine O6.okP C Y1j (ws:=MC.Z8j (E7 P w K mg base 1) (sp_first_of_both (E7 P w K mg base 1))) (fun A outer s H E hT hr=>?_) MC.W5k
 exact (A4.one (DS.ret (DE.clP (Z3p) (Z2i Z) hr hT Z.D_first_of_both (DA.cons (DE.v 0) (DA.cons (DE.v 1) (DA.one (DE.lam0 (k:=0) (ps:=["end","other_end"]) (wb:=MC.Q5m) (sp:=J5 MC.Q5m []) (hT _ hPt) Z.hBM rfl C.hd rfl ⟨rfl,rfl,rfl,by decide +kernel,by decide +kernel,by decide +kernel,by decide +kernel,by decide +kernel⟩ (fun _ _ _ _ us hl=>match us,hl with | [_,_],_=>rfl) (fun f c' A outer s H q hr=>(DE.and (DE.v 0) (DE.and1 (DE.v 1)))) (fun rs r _ ⟨ds,d,e1,e2,e3⟩=>⟨ds,d,e1,e2,by rw [List.map_nil,List.append_nil] at e3; exact e3⟩))))))))
omit Z in
theorem Z4k : G2 MC.Y1w ["one","other"] (C0 Q8j):=M6 (by decide +kernel)
theorem Z4f : P0 P w K mg base ts 5 (ad 14) (fn 14) ["one","other"] (N4 T4):=by
 obtain ⟨c,Pt,C,hPt⟩:=Z.C_unlike
 have nd:=Z4k.nd
 refine O6.okP C Z4k (ws:=MC.Z6k (E7 P w K mg base 1) (sp_first_of_both (E7 P w K mg base 1))) (fun A outer s H E hT hr=>?_) MC.W0g
 exact (A4.one (DS.ret (DE.clP (Z3p) (Z2i Z) hr hT Z.D_first_of_both (DA.cons (DE.v 0) (DA.cons (DE.v 1) (DA.one (DE.lam0 (k:=0) (ps:=["end","other_end"]) (wb:=MC.Q4k) (sp:=J5 MC.Q4k []) (hT _ hPt) Z.hBM rfl C.hd rfl ⟨rfl,rfl,rfl,by decide +kernel,by decide +kernel,by decide +kernel,by decide +kernel,by decide +kernel⟩ (fun _ _ _ _ us hl=>match us,hl with | [_,_],_=>rfl) (fun f c' A outer s H q hr=>(DE.cmp Q2n Q2d (DE.v 0) (DE.v 1) (J3 _))) (fun rs r _ ⟨ds,d,e1,e2,e3⟩=>⟨ds,d,e1,e2,by rw [List.map_nil,List.append_nil] at e3; exact e3⟩))))))))
omit Z in
theorem Z8c : G2 MC.Z6u ["one","other"] (C0 Z0j):=M6 (by decide +kernel)
theorem Q7i : P0 P w K mg base ts 6 (ad 15) (fn 15) ["one","other"] sp_within:=by
 have nd:=Z8c.nd
 refine O5.okP Z.D_within.F Z8c (ws:=MC.Z1j  (N4 B9)) (fun cdv A outer s H E hT hr=>?_) MC.Y3y
 exact (A4.one (DS.ret (DE.cmp Y3 Z3 (DE.clP (Q4b) (Y0s Z) hr hT Z.D_parting (DA.cons (DE.v 0) (DA.one (DE.v 1)))) DE.non (J3 _))))
omit Z in
theorem Z5j : G2 MC.Z7q ["one","other"] (C0 Q8w):=M6 (by decide +kernel)
theorem W3j : P0 P w K mg base ts 7 (ad 16) (fn 16) ["one","other"] Q3y:=by
 have nd:=Z5j.nd
 refine O5.okP Z.D_how_they_lie.F Z5j (ws:=MC.Z0l  (N4 T4) sp_within (N4 N7)) (fun cdv A outer s H E hT hr=>?_) MC.W1d
 exact (A4.cons (DS.ife (DT.cmp Y3 Z3 (DE.clP (Q4b) (Z4f Z) hr hT Z.D_unlike (DA.cons (DE.v 0) (DA.one (DE.v 1)))) DE.non (J3 _)) (A4.one (DS.ret DE.str)) A4.nil) (A4.cons (DS.ife (DT.tru (DE.clP (Q7y) (Q7i Z) hr hT Z.D_within (DA.cons (DE.v 0) (DA.one (DE.v 1)))) (fun _=>rfl)) (A4.one (DS.ret DE.str)) A4.nil) (A4.cons (DS.ife (DT.tru (DE.clP (Q7y) (Q7i Z) hr hT Z.D_within (DA.cons (DE.v 1) (DA.one (DE.v 0)))) (fun _=>rfl)) (A4.one (DS.ret DE.str)) A4.nil) (A4.one (DS.ret (DE.ife (DT.cmp Y3 Z3 (DE.clP (Q4b) (Z8n Z) hr hT Z.D_meeting (DA.cons (DE.v 0) (DA.one (DE.v 1)))) DE.non (J3 _)) DE.str DE.str))))))
omit Z in
theorem Y0y : G2 MC.Z6b ["one","other"] (C0 Q7d):=M6 (by decide +kernel)
theorem Y7w : P0 P w K mg base ts 7 (ad 17) (fn 17) ["one","other"] (spS gOr):=by
 obtain ⟨c,Pt,C,hPt⟩:=Z.C_either
 have nd:=Y0y.nd
 refine O6.okP C Y0y (ws:=MC.Y1q (E7 P w K mg base 1) (Q0z (E7 P w K mg base 1))) (fun A outer s H E hT hr=>?_) MC.W3o
 exact (A4.one (DS.ret (DE.clP (Z6n) (Z7p Z) hr hT Z.D_side_by_side (DA.cons (DE.v 0) (DA.cons (DE.v 1) (DA.one (DE.lam0 (k:=0) (ps:=["end","other_end"]) (wb:=MC.Q5o) (sp:=J5 MC.Q5o []) (hT _ hPt) Z.hBM rfl C.hd rfl ⟨rfl,rfl,rfl,by decide +kernel,by decide +kernel,by decide +kernel,by decide +kernel,by decide +kernel⟩ (fun _ _ _ _ us hl=>match us,hl with | [_,_],_=>rfl) (fun f c' A outer s H q hr=>(DE.or (DE.v 0) (DE.or1 (DE.v 1)))) (fun rs r _ ⟨ds,d,e1,e2,e3⟩=>⟨ds,d,e1,e2,by rw [List.map_nil,List.append_nil] at e3; exact e3⟩))))))))
omit Z in
theorem Y1s : G2 MC.Y0z ["one","other"] (C0 Q7b):=M6 (by decide +kernel)
theorem W0j : P0 P w K mg base ts 7 (ad 18) (fn 18) ["one","other"] (spS N7):=by
 obtain ⟨c,Pt,C,hPt⟩:=Z.C_both_of
 have nd:=Y1s.nd
 refine O6.okP C Y1s (ws:=MC.Y0b (E7 P w K mg base 1) (Q0z (E7 P w K mg base 1))) (fun A outer s H E hT hr=>?_) MC.Y5d
 exact (A4.one (DS.ret (DE.clP (Z6n) (Z7p Z) hr hT Z.D_side_by_side (DA.cons (DE.v 0) (DA.cons (DE.v 1) (DA.one (DE.lam0 (k:=0) (ps:=["end","other_end"]) (wb:=MC.Q5a) (sp:=J5 MC.Q5a []) (hT _ hPt) Z.hBM rfl C.hd rfl ⟨rfl,rfl,rfl,by decide +kernel,by decide +kernel,by decide +kernel,by decide +kernel,by decide +kernel⟩ (fun _ _ _ _ us hl=>match us,hl with | [_,_],_=>rfl) (fun f c' A outer s H q hr=>(DE.and (DE.v 0) (DE.and1 (DE.v 1)))) (fun rs r _ ⟨ds,d,e1,e2,e3⟩=>⟨ds,d,e1,e2,by rw [List.map_nil,List.append_nil] at e3; exact e3⟩))))))))
omit Z in
theorem Z9n : G2 MC.Z8z ["_law_script","_law_k"] (C0 Z1q):=M6 (by decide +kernel)
theorem Y5n : FnD P w K mg base 1 (ad 19) (fn 19) ["_law_script","_law_k"] Q5w:=by
 have nd:=Z9n.nd
 refine Z.D_law_cell.ok Z9n (ws:=MC.Q8q  ) (fun cdv A outer s H E hr=>?_) MC.Y3g
 exact (A4.cons (DS.ife (DT.cmp (Q3f (n:=60) (Q3c hr)) Q2j (DE.v 0) (DE.lst DA.nil) (J3 _)) (A4.one (DS.ret (DE.op Q2q Q2p DE.int (DE.v 1)))) A4.nil) (A4.one (DS.ret (DE.op U2 T6 (DE.ix (DE.v 0) (DE.op Q3o X2 (DE.v 1) (DE.len Z.T.m_len (DE.v 0))) (fun _ _=>rfl)) (DE.op Q2q Q2p DE.int (DE.op Q6m X2 (DE.v 1) (DE.len Z.T.m_len (DE.v 0))))))))
omit Z in
theorem Z9y : G2 MC.Z9x ["_law_script","_law_k","_law_many"] (C0 Z3k):=M6 (by decide +kernel)
theorem Q7z : FnD P w K mg base 2 (ad 20) (fn 20) ["_law_script","_law_k","_law_many"] Q1a:=by
 have nd:=Z9y.nd
 refine Z.D_law_drawn.ok Z9y (ws:=MC.Q8v  Q5w) (fun cdv A outer s H E hr=>?_) MC.Y8q
 exact (A4.cons (DS.sv 3 (DE.op Q3o X2 (DE.op U2 T6 (DE.op Q2q Q2p (DE.op Q3o X2 (DE.cl (Y5n Z) hr Z.D_law_cell (DA.cons (DE.v 0) (DA.one (DE.v 1)))) DE.int) DE.int) (DE.op Q2q Q2p DE.int (DE.op U2 T6 (DE.v 1) DE.int))) DE.int) nd) (A4.cons (DS.sv 3 (DE.op Q3o X2 (DE.op U2 T6 (DE.op Q2q Q2p (DE.v 3) (DE.v 3)) (DE.op Q6m X2 (DE.v 3) DE.int)) DE.int) nd) (A4.one (DS.ret (DE.op Q3o X2 (DE.op Q6m X2 (DE.op Q3o X2 (DE.op U2 T6 (DE.op Q2q Q2p (DE.v 3) (DE.v 3)) (DE.op Q6m X2 (DE.v 3) DE.int)) DE.int) DE.int) (DE.v 2))))))
omit Z in
theorem Z8t : G2 MC.Q7m ["_law_script","_law_at","_law_most"] (C0 Q5u):=M6 (by decide +kernel)
theorem Z8y : FnD P w K mg base 3 (ad 21) (fn 21) ["_law_script","_law_at","_law_most"] Q5k:=by
 have nd:=Z8t.nd
 refine Z.D_law_machine.ok Z8t (ws:=MC.Z2c  Q1a) (fun cdv A outer s H E hr=>?_) MC.W4r
 exact (A4.cons (DS.sv 3 (DE.op U2 T6 DE.int (DE.cl (Q7z Z) hr Z.D_law_drawn (DA.cons (DE.v 0) (DA.cons (DE.v 1) (DA.one (DE.v 2)))))) nd) (A4.cons (DS.sv 4 (DE.tpl Z.T.m_tuple (DE.comp rfl (Y0 (sc:=C0 Q5u) (N0:=MC.Q7m) (N:=["_law_k","_law_script","_law_at"]) (nt:=1) (cap:=[0,1]) rfl rfl (by decide +kernel)) (J8.rng1 rfl Z.T.m_range (DA.one (DE.v 3))) (fun _ _ _ _=>(DG.nm (i:=0) (show List.Nodup (["_law_k","_law_script","_law_at"] : List Str) by decide +kernel) rfl (by trivial))) (fun _ _ _ _=>DIf.nil) (fun _ _ _ _=>(DE.fz (DE.cmp (Q3f (n:=60) (Q3c hr)) Q2j (DE.cl (Q7z Z) hr Z.D_law_drawn (DA.cons (DE.v 1) (DA.cons (DE.op U2 T6 (DE.op U2 T6 (DE.v 2) DE.int) (DE.v 0)) (DA.one DE.int)))) DE.int (J3 _)))))) nd) (A4.cons (DS.sv 5 (DE.lst DA.nil) nd) (A4.cons (DS.for PassesOwn.never rfl (DI.rng1 rfl Z.T.m_range (DA.one (DE.v 3))) (DG.nm (i:=6) nd rfl (by trivial)) (A4.one (DS.append (pv 5) (DE.fz (DE.tpl Z.T.m_tuple (DE.comp rfl (Y0 (sc:=C0 Q5u) (N0:=MC.Q7m) (N:=["_law_j","_law_script","_law_size","_law_at","_law_k"]) (nt:=1) (cap:=[0,3,1,6]) rfl rfl (by decide +kernel)) (J8.rng1 rfl Z.T.m_range (DA.one DE.int)) (fun _ _ _ _=>(DG.nm (i:=0) (show List.Nodup (["_law_j","_law_script","_law_size","_law_at","_law_k"] : List Str) by decide +kernel) rfl (by trivial))) (fun _ _ _ _=>DIf.nil) (fun _ _ _ _=>(DE.fz (DE.cl (Q7z Z) hr Z.D_law_drawn (DA.cons (DE.v 1) (DA.cons (DE.op U2 T6 (DE.op U2 T6 (DE.op U2 T6 (DE.v 3) DE.int) (DE.op Q2q Q2p DE.int (DE.v 4))) (DE.v 0)) (DA.one (DE.v 2))))))))))))) (A4.one (DS.ret (DE.tup (DA.cons (DE.fz (DE.v 4)) (DA.one (DE.fz (DE.tpl Z.T.m_tuple (DE.v 5))))))))))))
omit Z in
theorem Z7w : G2 MC.Y0q ["_law_one","_law_other","_law_way"] (C0 Z2u):=M6 (by decide +kernel)
theorem Q5r : FnD P w K mg base 1 (ad 22) (fn 22) ["_law_one","_law_other","_law_way"] T5:=by
 have nd:=Z7w.nd
 refine Z.D_law_first.ok Z7w (ws:=MC.Z0a  ) (fun cdv A outer s H E hr=>?_) MC.W2k
 exact (A4.cons (DS.sv 3 (DE.lst (DA.one (DE.fz (DE.tup (DA.cons (DE.fz DE.int) (DA.one (DE.fz DE.int))))))) nd) (A4.cons (DS.sv 4 (DE.fz (DE.lst (DA.one (DE.fz (DE.tup (DA.cons (DE.fz DE.str) (DA.one (DE.fz (DE.tup (DA.cons (DE.fz DE.int) (DA.one (DE.fz DE.int)))))))))))) nd) (A4.cons (DS.whl PassesOwn.never (DT.cmp (Y6j (n:=59) (hu59 hr)) Q2j (DE.v 4) (DE.lst DA.nil) (J3 _)) (A4.cons (DS.sv 5 (DE.lst DA.nil) nd) (A4.cons (DS.fzO 5 (DS.for PassesOwn.never rfl (DI.lst (DE.fz (DE.v 4))) (DG.tp (n:=2) rfl (G5.cons (DG.nm (i:=6) nd rfl (by trivial)) (G5.cons (DG.nm (i:=7) nd rfl (by trivial)) G5.nil))) (A4.cons (DS.sv 8 (DE.ix (DE.ix (DE.v 0) DE.int (fun _ _=>rfl)) (DE.ix (DE.v 7) DE.int (fun _ _=>rfl)) (fun _ _=>rfl)) nd) (A4.cons (DS.sv 9 (DE.ix (DE.ix (DE.v 1) DE.int (fun _ _=>rfl)) (DE.ix (DE.v 7) DE.int (fun _ _=>rfl)) (fun _ _=>rfl)) nd) (A4.cons (DS.ife (DT.tru (DE.ix (DE.lst (DA.cons (DE.fz (DE.and (DE.v 8) (DE.and1 (DE.nt (DE.v 9))))) (DA.cons (DE.fz (DE.and (DE.v 8) (DE.and1 (DE.v 9)))) (DA.one (DE.fz (DE.cmp Q2n Q2d (DE.v 8) (DE.v 9) (J3 _))))))) (DE.v 2) (fun _ _=>rfl)) (fun _=>rfl)) (A4.one (DS.retV (pv 6))) A4.nil) (A4.one (DS.for PassesOwn.never rfl (DI.enumX rfl Z.T.m_enumerate Q5b (DA.one DE.str)) (DG.tp (n:=2) rfl (G5.cons (DG.nm (i:=10) nd rfl (by trivial)) (G5.cons (DG.nm (i:=11) nd rfl (by trivial)) G5.nil))) (A4.cons (DS.sv 12 (DE.tup (DA.cons (DE.fz (DE.ix (DE.ix (DE.ix (DE.v 0) DE.int (fun _ _=>rfl)) (DE.ix (DE.v 7) DE.int (fun _ _=>rfl)) (fun _ _=>rfl)) (DE.v 10) (fun _ _=>rfl))) (DA.one (DE.fz (DE.ix (DE.ix (DE.ix (DE.v 1) DE.int (fun _ _=>rfl)) (DE.ix (DE.v 7) DE.int (fun _ _=>rfl)) (fun _ _=>rfl)) (DE.v 10) (fun _ _=>rfl)))))) nd) (A4.one (DS.ife (DT.cmp (Y2s (n:=59) (hu59 hr)) Y7v (DE.v 12) (DE.v 3) (by with_unfolding_all rfl)) (A4.cons (DS.append (pv 3) (DE.fz (DE.v 12))) (A4.one (DS.append (pv 5) (DE.fz (DE.tup (DA.cons (DE.fz (DE.op U2 T6 (DE.v 6) (DE.v 11))) (DA.one (DE.fz (DE.v 12))))))))) A4.nil)))))))))) (A4.one (DS.sv 4 (DE.fz (DE.v 5)) nd))))) (A4.one (DS.ret DE.non)))))
omit Z in
theorem Z8k : G2 Z3n ["_law_script"] (C0 Z2q):=M6 (by decide +kernel)
theorem Y4b : P0 P w K mg base ts 8 (ad 23) (fn 23) ["_law_script"] sp_law:=by
 have nd:=Z8k.nd
 refine O5.okP Z.D_law.F Z8k (ws:=Z4p  Q5k Q1a (spS N7) (spS gOr) T5 (N4 B9) (N4 N7) (N4 T4) sp_within Q3y) (fun cdv A outer s H E hT hr=>?_) W3b
 exact (A4.cons (DS.sv 1 (DE.cl (Z8y Z) hr Z.D_law_machine (DA.cons (DE.v 0) (DA.cons DE.int (DA.one DE.int)))) nd) (A4.cons (DS.sv 2 (DE.cl (Z8y Z) hr Z.D_law_machine (DA.cons (DE.v 0) (DA.cons DE.int (DA.one DE.int)))) nd) (A4.cons (DS.sv 3 (DE.cl (Q7z Z) hr Z.D_law_drawn (DA.cons (DE.v 0) (DA.cons DE.int (DA.one DE.int)))) nd) (A4.cons (DS.ife (DT.cmp (Q3f (n:=60) (Q3c hr)) Q2j (DE.v 3) DE.int (J3 _)) (A4.one (DS.sv 2 (DE.clP (MC.Z4i) (W0j Z) hr hT Z.D_both_of (DA.cons (DE.v 1) (DA.one (DE.v 2)))) nd)) A4.nil) (A4.cons (DS.ife (DT.cmp (Q3f (n:=60) (Q3c hr)) Q2j (DE.v 3) DE.int (J3 _)) (A4.one (DS.sv 2 (DE.clP (MC.Z4i) (Y7w Z) hr hT Z.D_either (DA.cons (DE.v 1) (DA.one (DE.v 2)))) nd)) A4.nil) (A4.cons (DS.sv 4 (DE.cl (Q5r Z) hr Z.D_law_first (DA.cons (DE.v 1) (DA.cons (DE.v 2) (DA.one DE.int)))) nd) (A4.cons (DS.sv 5 (DE.cl (Q5r Z) hr Z.D_law_first (DA.cons (DE.v 2) (DA.cons (DE.v 1) (DA.one DE.int)))) nd) (A4.cons (DS.ife (DW.t (DW.or (DT.cmp Q2n Q2d (DE.clP (Q4b) (Y0s Z) hr hT Z.D_parting (DA.cons (DE.v 1) (DA.one (DE.v 2)))) (DE.v 4) (J3 _)) (DW.or1 (DT.cmp Q2n Q2d (DE.clP (Q4b) (Z8n Z) hr hT Z.D_meeting (DA.cons (DE.v 1) (DA.one (DE.v 2)))) (DE.cl (Q5r Z) hr Z.D_law_first (DA.cons (DE.v 1) (DA.cons (DE.v 2) (DA.one DE.int)))) (J3 _))))) (A4.one (DS.ret DE.bl)) A4.nil) (A4.cons (DS.ife (DT.cmp Q2n Q2d (DE.clP (Q4b) (Z4f Z) hr hT Z.D_unlike (DA.cons (DE.v 1) (DA.one (DE.v 2)))) (DE.cl (Q5r Z) hr Z.D_law_first (DA.cons (DE.v 1) (DA.cons (DE.v 2) (DA.one DE.int)))) (J3 _)) (A4.one (DS.ret DE.bl)) A4.nil) (A4.cons (DS.sv 6 (DE.clP (Q7y) (Q7i Z) hr hT Z.D_within (DA.cons (DE.v 1) (DA.one (DE.v 2)))) nd) (A4.cons (DS.ife (DW.t (DW.or (DT.nt (DT.tru (DE.isi (DE.v 6) rfl Z.T.m_isinstance W2n rfl Z.T.m_bool W4i (Y2y _ (by decide))) (fun _=>rfl))) (DW.or (DT.cmp Q2n Q2d (DE.v 6) (DE.cmp Y3 Z3 (DE.v 4) DE.non (J3 _)) (J3 _)) (DW.or1 (DT.cmp Q2n Q2d (DE.clP (Q7y) (Q7i Z) hr hT Z.D_within (DA.cons (DE.v 2) (DA.one (DE.v 1)))) (DE.cmp Y3 Z3 (DE.v 5) DE.non (J3 _)) (J3 _)))))) (A4.one (DS.ret DE.bl)) A4.nil) (A4.cons (DS.sv 7 (DE.ix (DE.lst (DA.cons (DE.fz DE.str) (DA.one (DE.fz DE.str)))) (DE.callTy Z7c Y2k rfl Z.T.m_int Y0i (DA.one (DE.cmp Y3 Z3 (DE.cl (Q5r Z) hr Z.D_law_first (DA.cons (DE.v 1) (DA.cons (DE.v 2) (DA.one DE.int)))) DE.non (J3 _)))) (fun _ _=>rfl)) nd) (A4.cons (DS.ife (DW.t (DW.or (DT.cmp Y3 Z3 (DE.v 4) DE.non (J3 _)) (DW.or1 (DT.cmp Y3 Z3 (DE.v 5) DE.non (J3 _))))) (A4.one (DS.sv 7 (DE.ix (DE.lst (DA.cons (DE.fz DE.str) (DA.one (DE.fz DE.str)))) (DE.callTy Z7c Y2k rfl Z.T.m_int Y0i (DA.one (DE.cmp Y3 Z3 (DE.v 4) DE.non (J3 _)))) (fun _ _=>rfl)) nd)) A4.nil) (A4.cons (DS.ife (DW.t (DW.and (DT.cmp Y3 Z3 (DE.v 4) DE.non (J3 _)) (DW.and1 (DT.cmp Y3 Z3 (DE.v 5) DE.non (J3 _))))) (A4.one (DS.sv 7 DE.str nd)) A4.nil) (A4.one (DS.ret (DE.cmp (Q3f (n:=60) (Q3c hr)) Q2j (DE.clP (W3a) (W3j Z) hr hT Z.D_how_they_lie (DA.cons (DE.v 1) (DA.one (DE.v 2)))) (DE.v 7) (J3 _))))))))))))))))))
end
theorem Y3s {l : PySem.W.OpenLaw} {w : World} {K : Fg9} {h : Heap} {mg : Str -> Option Value} {fa : Addr} {ts : List Addr} (X : K.In h) (G : h.Ns mainGlobals mg) (hfa : mg "law" = some (.ref fa))
  {f0 : Addr} {d0 : FuncData} (H0 : Hr K "walked" Q8x f0 d0)
  {f1 : Addr} {d1 : FuncData} (H1 : Hr K "first_text" Q9g f1 d1)
  {f2 : Addr} {d2 : FuncData} (H2 : Hr K "all_reached" Q6t f2 d2)
  {f3 : Addr} {d3 : FuncData} (H3 : Hr K "distances" Q3q f3 d3)
  {f4 : Addr} {d4 : FuncData} (H4 : Hr K "numbered" Q7s f4 d4)
  {f5 : Addr} {d5 : FuncData} (H5 : Hr K "told_apart" Q6f f5 d5)
  {f6 c6 p6 : Addr} {d6 : FuncData} (H6 : HrC K "least" Q5d f6 d6 c6 p6 ts)
  {f7 : Addr} {d7 : FuncData} (H7 : Hr K "built" Q6i f7 d7)
  {f8 c8 p8 : Addr} {d8 : FuncData} (H8 : HrC K "pair_step" Q8d f8 d8 c8 p8 ts)
  {f9 c9 p9 : Addr} {d9 : FuncData} (H9 : HrC K "pair_end" Q7g f9 d9 c9 p9 ts)
  {f10 : Addr} {d10 : FuncData} (H10 : Hr K "side_by_side" Z3s f10 d10)
  {f11 : Addr} {d11 : FuncData} (H11 : Hr K "first_of_both" Z2r f11 d11)
  {f12 c12 p12 : Addr} {d12 : FuncData} (H12 : HrC K "parting" Q6k f12 d12 c12 p12 ts)
  {f13 c13 p13 : Addr} {d13 : FuncData} (H13 : HrC K "meeting" Q6u f13 d13 c13 p13 ts)
  {f14 c14 p14 : Addr} {d14 : FuncData} (H14 : HrC K "unlike" Q8j f14 d14 c14 p14 ts)
  {f15 : Addr} {d15 : FuncData} (H15 : Hr K "within" Z0j f15 d15)
  {f16 : Addr} {d16 : FuncData} (H16 : Hr K "how_they_lie" Q8w f16 d16)
  {f17 c17 p17 : Addr} {d17 : FuncData} (H17 : HrC K "either" Q7d f17 d17 c17 p17 ts)
  {f18 c18 p18 : Addr} {d18 : FuncData} (H18 : HrC K "both_of" Q7b f18 d18 c18 p18 ts)
  {f19 : Addr} {d19 : FuncData} (H19 : Hr K "_law_cell" Z1q f19 d19)
  {f20 : Addr} {d20 : FuncData} (H20 : Hr K "_law_drawn" Z3k f20 d20)
  {f21 : Addr} {d21 : FuncData} (H21 : Hr K "_law_machine" Q5u f21 d21)
  {f22 : Addr} {d22 : FuncData} (H22 : Hr K "_law_first" Z2u f22 d22)
  {f23 : Addr} {d23 : FuncData} (H23 : Hr K "law" Z2q f23 d23)
  (z0 : PySem.W.nsIn K mainGlobals "bool" = some none)    (z1 : PySem.W.nsIn K mainGlobals "enumerate" = some none)    (z2 : PySem.W.nsIn K mainGlobals "int" = some none)    (z3 : PySem.W.nsIn K mainGlobals "isinstance" = some none)    (z4 : PySem.W.nsIn K mainGlobals "len" = some none)    (z5 : PySem.W.nsIn K mainGlobals "list" = some none)    (z6 : PySem.W.nsIn K mainGlobals "max" = some none)    (z7 : PySem.W.nsIn K mainGlobals "range" = some none)    (z8 : PySem.W.nsIn K mainGlobals "tuple" = some none)    (z9 : PySem.W.nsIn K mainGlobals "zip" = some none) {t0 : Tok} (s0 : PySem.W.nsIn K mainGlobals "SIGNS" = some (some (.str "01ab" t0))) (hsub : ∀ Pt ∈ ts,Pt = p6 \/ Pt = p8 \/ Pt = p9 \/ Pt = p12 \/ Pt = p13 \/ Pt = p14 \/ Pt = p17 \/ Pt = p18) :
  (∀ Pt ∈ ts,(∃ c,PySem.W.codeHdIn K c Pt = true) /\ K.lookup Pt = none) /\ ∃ fd : FuncData,(∀ (s : Shared) (v : Value),BindsTo s fd ⟨[v],[]⟩ [("_law_script",v)]) /\ ∀ base : Heap,K.In base -> base.Ns mainGlobals mg -> X8 mg base -> P8 l.prog w K mg base K6 8 fa fd ["_law_script"] (Q3m K ts 1 sp_law):=by
 have e:=hfa.symm.trans (PySem.W.mg_of X G H23.1)
 cases e
 refine ⟨fun Pt hp=>by
  rcases hsub Pt hp with rfl | rfl | rfl | rfl | rfl | rfl | rfl | rfl
  ·exact H6.at
  ·exact H8.at
  ·exact H9.at
  ·exact H12.at
  ·exact H13.at
  ·exact H14.at
  ·exact H17.at
  ·exact H18.at
  ,?_⟩
 have T : Txt K mg w:={ m_bool:=PySem.W.mg_none_of X G z0,m_enumerate:=PySem.W.mg_none_of X G z1,m_int:=PySem.W.mg_none_of X G z2,m_isinstance:=PySem.W.mg_none_of X G z3,m_len:=PySem.W.mg_none_of X G z4,m_list:=PySem.W.mg_none_of X G z5,m_max:=PySem.W.mg_none_of X G z6,m_range:=PySem.W.mg_none_of X G z7,m_tuple:=PySem.W.mg_none_of X G z8,m_zip:=PySem.W.mg_none_of X G z9,c_SIGNS:=⟨t0,PySem.W.mg_of X G s0⟩ }
 have Lw:=H23.df (ps:=["_law_script"]) X G fun _ _ _ _ _ _ us hl=>match us,hl with | [_],_=>rfl
 obtain ⟨⟨oc,od,kV,dc,pm,an,cd,ct,sl,e,l1,l2⟩,kp⟩:=H23.2
 refine ⟨d23,fun s v=>by subst e; exact .of_eq rfl,fun base hB _ hBM=>?_⟩
 exact Y4b (ad:=fun i=>([f0,f1,f2,f3,f4,f5,f6,f7,f8,f9,f10,f11,f12,f13,f14,f15,f16,f17,f18,f19,f20,f21,f22,fa] : List Addr).getD i 0) (fn:=fun i=>([d0,d1,d2,d3,d4,d5,d6,d7,d8,d9,d10,d11,d12,d13,d14,d15,d16,d17,d18,d19,d20,d21,d22,d23] : List FuncData).getD i d0) ⟨T,hBM,
  H0.df X G fun _ _ _ _ _ _ us hl=>match us,hl with | [_,_],_=>rfl,
  H1.df X G fun _ _ _ _ _ _ us hl=>match us,hl with | [_,_,_],_=>rfl,
  H2.df X G fun _ _ _ _ _ _ us hl=>match us,hl with | [_,_],_=>rfl,
  H3.df X G fun _ _ _ _ _ _ us hl=>match us,hl with | [_,_,_],_=>rfl,
  H4.df X G fun _ _ _ _ _ _ us hl=>match us,hl with | [_],_=>rfl,
  H5.df X G fun _ _ _ _ _ _ us hl=>match us,hl with | [_,_],_=>rfl,
  H6.hr.df X G fun _ _ _ _ _ _ us hl=>match us,hl with | [_,_],_=>rfl,
  H7.df X G fun _ _ _ _ _ _ us hl=>match us,hl with | [_,_,_],_=>rfl,
  H8.hr.df X G fun _ _ _ _ _ _ us hl=>match us,hl with | [_,_],_=>rfl,
  H9.hr.df X G fun _ _ _ _ _ _ us hl=>match us,hl with | [_,_,_],_=>rfl,
  H10.df X G fun _ _ _ _ _ _ us hl=>match us,hl with | [_,_,_],_=>rfl,
  H11.df X G fun _ _ _ _ _ _ us hl=>match us,hl with | [_,_,_],_=>rfl,
  H12.hr.df X G fun _ _ _ _ _ _ us hl=>match us,hl with | [_,_],_=>rfl,
  H13.hr.df X G fun _ _ _ _ _ _ us hl=>match us,hl with | [_,_],_=>rfl,
  H14.hr.df X G fun _ _ _ _ _ _ us hl=>match us,hl with | [_,_],_=>rfl,
  H15.df X G fun _ _ _ _ _ _ us hl=>match us,hl with | [_,_],_=>rfl,
  H16.df X G fun _ _ _ _ _ _ us hl=>match us,hl with | [_,_],_=>rfl,
  H17.hr.df X G fun _ _ _ _ _ _ us hl=>match us,hl with | [_,_],_=>rfl,
  H18.hr.df X G fun _ _ _ _ _ _ us hl=>match us,hl with | [_,_],_=>rfl,
  H19.df X G fun _ _ _ _ _ _ us hl=>match us,hl with | [_,_],_=>rfl,
  H20.df X G fun _ _ _ _ _ _ us hl=>match us,hl with | [_,_,_],_=>rfl,
  H21.df X G fun _ _ _ _ _ _ us hl=>match us,hl with | [_,_,_],_=>rfl,
  H22.df X G fun _ _ _ _ _ _ us hl=>match us,hl with | [_,_,_],_=>rfl,
  H23.df X G fun _ _ _ _ _ _ us hl=>match us,hl with | [_],_=>rfl,⟨_,_,H6.fc,H6.tb⟩,⟨_,_,H8.fc,H8.tb⟩,⟨_,_,H9.fc,H9.tb⟩,⟨_,_,H12.fc,H12.tb⟩,⟨_,_,H13.fc,H13.tb⟩,⟨_,_,H14.fc,H14.tb⟩,⟨_,_,H17.fc,H17.tb⟩,⟨_,_,H18.fc,H18.tb⟩⟩
theorem walk {l : PySem.W.OpenLaw} {q : Program} {loose : List Str} {XP : (Str -> Option Value) -> Heap -> Prop} {YP : World -> Heap -> Prop} {d : DefRec} {K : Params -> Fg9} {ts : List Addr} (hn : l.most = some 63) (hdf : d.params.defaults = [])
  (hY : ∀ (w : World) (h : Heap),YP w h -> (K w.params).In h) (hYt : ∀ (w : World) (h : Heap),YP w h -> ∀ Pt ∈ ts,h.get? Pt = some (PySem.W.tabObj #[]))
  (F : ∀ (w : World) (mg : Str -> Option Value) (fa : Addr) (h : Heap),(K w.params).In h -> h.Ns mainGlobals mg -> mg d.name = some (.ref fa) ->
   (∀ Pt ∈ ts,(∃ c,PySem.W.codeHdIn (K w.params) c Pt = true) /\ (K w.params).lookup Pt = none) /\
   ∃ fd : FuncData,(∀ (s : Shared) (u : Value),BindsTo s fd ⟨[u],[]⟩ [("_law_script",u)]) /\ ∀ base : Heap,(K w.params).In base -> base.Ns mainGlobals mg -> X8 mg base -> P8 l.prog w (K w.params) mg base K6 8 fa fd ["_law_script"] (Q3m (K w.params) ts 1 sp_law)) :
  PySem.W.WalkO q loose XP YP l.row.toRowW d [] (fun f vs=>PySem.call f vs) :=
 L2.Y7r (n:=63) (k:=8) (x:="_law_script") (sp:=fun w=>Q3m (K w.params) ts 1 sp_law) hn (by decide) hdf ⟨rfl,by decide,by decide⟩ hY hYt F
  (fun w H a ns hl hT hz=>⟨[.st (scr ns)],fun r=>r = .st (.bl true),rfl,⟨_,_,rfl,A2.s_lst hz AllS.ints,rfl⟩,rfl,hT,⟨ns,rfl,hl,rfl⟩,fun r v H' e sm ir=>⟨by subst e; exact ir,fun Pt hp=>sm _ _ (hT Pt hp)⟩⟩)
end K24
end
open PySem PySem.W PyProof.Rows TK
theorem PySem.Challenge.cw_textkinds_k24_compared_holds : PySem.Challenge.rw_textkinds_k24_compared.Holds := by
 w_on; o_law; k_head; (case hw=>w_witness2)
 k_fill
 refine K24.walk (l:=PySem.Challenge.rw_textkinds_k24_compared) rfl rfl (fun w h Y=>PySem.W.km_in_of Y) (fun w h Y=>PySem.W.km_tabs_of Y) ?F
 case F =>
  intro w mg fa h KX G hmg
  refine' K24.Y3s KX G hmg ?H0 ?H1 ?H2 ?H3 ?H4 ?H5 ?H6 ?H7 ?H8 ?H9 ?H10 ?H11 ?H12 ?H13 ?H14 ?H15 ?H16 ?H17 ?H18 ?H19 ?H20 ?H21 ?H22 ?H23 ?z0 ?z1 ?z2 ?z3 ?z4 ?z5 ?z6 ?z7 ?z8 ?z9 ?s0 ?hsub
  (case H0=>(refine' S3 ?_ ?_ ?_ ?_; any_goals k_is))
  (case H1=>(refine' S3 ?_ ?_ ?_ ?_; any_goals k_is))
  (case H2=>(refine' S3 ?_ ?_ ?_ ?_; any_goals k_is))
  (case H3=>(refine' S3 ?_ ?_ ?_ ?_; any_goals k_is))
  (case H4=>(refine' S3 ?_ ?_ ?_ ?_; any_goals k_is))
  (case H5=>(refine' S3 ?_ ?_ ?_ ?_; any_goals k_is))
  (case H6=>(refine' Q1r ?xa ?xl ?xc ?xk ?xq ?xp ?xh ?xn ?xm; (case xa=>k_is); (case xl=>k_is); (case xc=>k_is); (case xk=>k_is); (case xq=>k_is); (case xp=>rfl); (case xh=>kernel_rfl); (case xn=>kernel_rfl); (case xm=>decide)))
  (case H7=>(refine' S3 ?_ ?_ ?_ ?_; any_goals k_is))
  (case H8=>(refine' Q1r ?xa ?xl ?xc ?xk ?xq ?xp ?xh ?xn ?xm; (case xa=>k_is); (case xl=>k_is); (case xc=>k_is); (case xk=>k_is); (case xq=>k_is); (case xp=>rfl); (case xh=>kernel_rfl); (case xn=>kernel_rfl); (case xm=>decide)))
  (case H9=>(refine' Q1r ?xa ?xl ?xc ?xk ?xq ?xp ?xh ?xn ?xm; (case xa=>k_is); (case xl=>k_is); (case xc=>k_is); (case xk=>k_is); (case xq=>k_is); (case xp=>rfl); (case xh=>kernel_rfl); (case xn=>kernel_rfl); (case xm=>decide)))
  (case H10=>(refine' S3 ?_ ?_ ?_ ?_; any_goals k_is))
  (case H11=>(refine' S3 ?_ ?_ ?_ ?_; any_goals k_is))
  (case H12=>(refine' Q1r ?xa ?xl ?xc ?xk ?xq ?xp ?xh ?xn ?xm; (case xa=>k_is); (case xl=>k_is); (case xc=>k_is); (case xk=>k_is); (case xq=>k_is); (case xp=>rfl); (case xh=>kernel_rfl); (case xn=>kernel_rfl); (case xm=>decide)))
  (case H13=>(refine' Q1r ?xa ?xl ?xc ?xk ?xq ?xp ?xh ?xn ?xm; (case xa=>k_is); (case xl=>k_is); (case xc=>k_is); (case xk=>k_is); (case xq=>k_is); (case xp=>rfl); (case xh=>kernel_rfl); (case xn=>kernel_rfl); (case xm=>decide)))
  (case H14=>(refine' Q1r ?xa ?xl ?xc ?xk ?xq ?xp ?xh ?xn ?xm; (case xa=>k_is); (case xl=>k_is); (case xc=>k_is); (case xk=>k_is); (case xq=>k_is); (case xp=>rfl); (case xh=>kernel_rfl); (case xn=>kernel_rfl); (case xm=>decide)))
  (case H15=>(refine' S3 ?_ ?_ ?_ ?_; any_goals k_is))
  (case H16=>(refine' S3 ?_ ?_ ?_ ?_; any_goals k_is))
  (case H17=>(refine' Q1r ?xa ?xl ?xc ?xk ?xq ?xp ?xh ?xn ?xm; (case xa=>k_is); (case xl=>k_is); (case xc=>k_is); (case xk=>k_is); (case xq=>k_is); (case xp=>rfl); (case xh=>kernel_rfl); (case xn=>kernel_rfl); (case xm=>decide)))
  (case H18=>(refine' Q1r ?xa ?xl ?xc ?xk ?xq ?xp ?xh ?xn ?xm; (case xa=>k_is); (case xl=>k_is); (case xc=>k_is); (case xk=>k_is); (case xq=>k_is); (case xp=>rfl); (case xh=>kernel_rfl); (case xn=>kernel_rfl); (case xm=>decide)))
  (case H19=>(refine' S3 ?_ ?_ ?_ ?_; any_goals k_is))
  (case H20=>(refine' S3 ?_ ?_ ?_ ?_; any_goals k_is))
  (case H21=>(refine' S3 ?_ ?_ ?_ ?_; any_goals k_is))
  (case H22=>(refine' S3 ?_ ?_ ?_ ?_; any_goals k_is))
  (case H23=>(refine' S3 ?_ ?_ ?_ ?_; any_goals k_is))
  (case z0=>k_is)
  (case z1=>k_is)
  (case z2=>k_is)
  (case z3=>k_is)
  (case z4=>k_is)
  (case z5=>k_is)
  (case z6=>k_is)
  (case z7=>k_is)
  (case z8=>k_is)
  (case z9=>k_is)
  (case s0=>k_is)
  (case hsub=>decide)
#print axioms PySem.Challenge.cw_textkinds_k24_compared_holds
