import PyProof.Rows.All
import Wide.All
import OpenK.AllK
import Wide.FinOn
import Lean
import PyProof.EqAt
import PyProof.EqKinds
import PyProof.TupleCall
import PySem.Challenge.RW_textkinds_k06_stretches
set_option Elab.async false
set_option linter.all false
section
set_option maxRecDepth 100000
namespace L2
open PySem PySem.Spec PyProof.Rows
abbrev Key := Sum Int Str
def keyIs : Key → Value → Bool
  | .inl k, v => Value.isInt k v
  | .inr x, v => Value.isStrOf x v
def keyH (w : World) : Key → Int
  | .inl k => hashInt k
  | .inr x => hashStr w x
theorem keyIs_shape : ∀ {k : Key} {v : Value}, keyIs k v = true → (∃ i t, k = Sum.inl i ∧ v = Value.int i t) ∨ (∃ x t, k = Sum.inr x ∧ v = Value.str x t)
  | .inl i, v, h => by
    obtain ⟨t, e⟩ := Value.isInt_shape (k := i) (v := v) h
    exact .inl ⟨i, t, rfl, e⟩
  | .inr x, v, h => by
    obtain ⟨t, e⟩ := Value.isStrOf_shape (x := x) (v := v) h
    exact .inr ⟨x, t, rfl, e⟩
theorem keyIs_int (i : Int) (t : Tok) : keyIs (.inl i) (.int i t) = true := by simp [keyIs, Value.isInt]
theorem keyIs_str (x : Str) (t : Tok) : keyIs (.inr x) (.str x t) = true := by simp [keyIs, Value.isStrOf]
theorem key_ll (a b : Int) : decide ((Sum.inl a : Key) = Sum.inl b) = (a == b) := by
  by_cases e : a = b
  · subst e; simp
  · have h : ¬ (Sum.inl a : Key) = Sum.inl b := fun q => e (Sum.inl.inj q)
    rw [decide_eq_false h]
    exact (beq_eq_false_iff_ne.mpr e).symm
theorem key_rr (a b : Str) : decide ((Sum.inr a : Key) = Sum.inr b) = decide (a = b) := by
  by_cases e : a = b
  · subst e; simp
  · have h : ¬ (Sum.inr a : Key) = Sum.inr b := fun q => e (Sum.inr.inj q)
    rw [decide_eq_false h, decide_eq_false e]
theorem key_lr (a : Int) (b : Str) : decide ((Sum.inl a : Key) = Sum.inr b) = false := decide_eq_false (fun q => nomatch q)
theorem key_rl (a : Str) (b : Int) : decide ((Sum.inr a : Key) = Sum.inl b) = false := decide_eq_false (fun q => nomatch q)
def mixKind (prog : Program) (w : World) : PySem.KeyKind prog w Key where
  is := keyIs
  hash := keyH w
  inj := fun v a b ha hb => by
    rcases keyIs_shape ha with ⟨i, t, rfl, rfl⟩ | ⟨x, t, rfl, rfl⟩
    · rcases keyIs_shape hb with ⟨j, u, rfl, e⟩ | ⟨y, u, rfl, e⟩
      · injection e with e1 _; rw [e1]
      · exact nomatch e
    · rcases keyIs_shape hb with ⟨j, u, rfl, e⟩ | ⟨y, u, rfl, e⟩
      · exact nomatch e
      · injection e with e1 _; rw [e1]
  byValue := fun k v h => by
    rcases keyIs_shape h with ⟨i, t, rfl, rfl⟩ | ⟨x, t, rfl, rfl⟩ <;> rfl
  pyHash := fun hv h => by
    rcases keyIs_shape hv with ⟨i, t, rfl, rfl⟩ | ⟨x, t, rfl, rfl⟩
    · exact wpAny_pyHash_int h
    · exact wpAny_pyHash_str h
  eqBool := fun hu hv h => by
    rcases keyIs_shape hu with ⟨i, t, rfl, rfl⟩ | ⟨x, t, rfl, rfl⟩
    · rcases keyIs_shape hv with ⟨j, u, rfl, rfl⟩ | ⟨y, u, rfl, rfl⟩
      · rw [key_ll] at h; exact wpAny_eqBool_int h
      · rw [key_lr] at h; exact SeqAt.EqAt.int_str i t y u _ _ _ _ h
    · rcases keyIs_shape hv with ⟨j, u, rfl, rfl⟩ | ⟨y, u, rfl, rfl⟩
      · rw [key_rl] at h; exact SeqAt.EqAt.str_int x t j u _ _ _ _ h
      · rw [key_rr] at h; exact wpAny_eqBool_str h
  «strs» := fun k x t v h => by
    rcases keyIs_shape h with ⟨i, u, rfl, e⟩ | ⟨y, u, rfl, e⟩
    · exact nomatch e
    · injection e with e1 _
      subst e1
      cases v <;> rfl
theorem mixKind_int (prog : Program) (w : World) (i : Int) (t : Tok) : (mixKind prog w).is (.inl i) (.int i t) = true := keyIs_int i t
theorem mixKind_str (prog : Program) (w : World) (x : Str) (t : Tok) : (mixKind prog w).is (.inr x) (.str x t) = true := keyIs_str x t
end L2
namespace L2
open PySem PySem.Spec PyProof.Rows
inductive V where
  | non | bl (b : Bool) | int (i : Int) | str (x : Str) | byt (b : Array UInt8) | flt (b : UInt64) | ref (a : Addr) | ty (n : String)
  deriving DecidableEq
def RelV : V → Value → Prop
  | .non, u => u = Value.none
  | .bl b, u => u = Value.bool b
  | .int i, u => ∃ t, u = Value.int i t
  | .str x, u => ∃ t, u = Value.str x t
  | .byt b, u => ∃ t, u = Value.bytes b t
  | .flt b, u => ∃ t, u = Value.float b t
  | .ref a, u => u = Value.ref a
  | .ty n, u => u = Value.type n
abbrev Vals : List V → List Value → Prop := Paired RelV
theorem Vals.length {xs : List V} {us : List Value} (r : Vals xs us) : xs.length = us.length := Paired.length r
theorem Vals.get : ∀ {xs : List V} {us : List Value} {i : Nat} {x : V}, Vals xs us → xs[i]? = some x → ∃ u, us[i]? = some u ∧ RelV x u
  | _, _, _, _, .nil, e => by simp at e
  | _, _, 0, _, .cons r _, e => by simp at e; subst e; exact ⟨_, rfl, r⟩
  | _, _, i + 1, x, .cons _ t, e => by
    obtain ⟨u, h1, h2⟩ := Vals.get (i := i) (x := x) t (by simpa using e)
    exact ⟨u, by simpa using h1, h2⟩
theorem Vals.set {x : V} {u : Value} (r : RelV x u) : ∀ {xs : List V} {us : List Value} (i : Nat), Vals xs us → Vals (xs.set i x) (us.set i u)
  | _, _, _, .nil => .nil
  | _, _, 0, .cons _ t => .cons r t
  | _, _, i + 1, .cons q t => .cons q (Vals.set r i t)
theorem Vals.append : ∀ {xs ys : List V} {us ws : List Value}, Vals xs us → Vals ys ws → Vals (xs ++ ys) (us ++ ws)
  | _, _, _, _, .nil, s => s
  | _, _, _, _, .cons r t, s => .cons r (Vals.append t s)
theorem Vals.take : ∀ {xs : List V} {us : List Value} (n : Nat), Vals xs us → Vals (xs.take n) (us.take n)
  | _, _, 0, _ => .nil
  | _, _, _ + 1, .nil => .nil
  | _, _, n + 1, .cons r t => .cons r (Vals.take n t)
theorem Vals.drop : ∀ {xs : List V} {us : List Value} (n : Nat), Vals xs us → Vals (xs.drop n) (us.drop n)
  | _, _, 0, r => r
  | _, _, _ + 1, .nil => .nil
  | _, _, n + 1, .cons _ t => Vals.drop n t
def RelO : Option V → Option Value → Prop
  | some v, some u => RelV v u
  | none, none => True
  | _, _ => False
def KV {κ : Type} : List (κ × V) → List (κ × Value) → Prop := Paired fun (p : κ × V) (q : κ × Value) => p.1 = q.1 ∧ RelV p.2 q.2
def kV : Key → V
  | .inl i => .int i
  | .inr x => .str x
inductive HO where
  | lst (xs : List V)
  | tup (xs : List V)
  | dK (kvs : List (Key × V)) | dT (kvs : List (List Key × V))
  | set (S : Int → Bool) (n : Nat)
  | ins (C dx : Addr) (fs : List (Str × V))
  | own (x : Addr)
  | xd (fs : List (Str × V))
  | met (f x : Addr)
  | rng (lo hi : Int)
  | frz (o : Obj) (u : HO)
  | tbl (ps : Array Value)
  | ext (φ : Heap → Prop)
abbrev Hp := Addr → Option HO
def upd (H : Hp) (a : Addr) (o : HO) : Hp := fun b => if b = a then some o else H b
theorem upd_same {H : Hp} {a : Addr} {o : HO} : upd H a o a = some o := by unfold upd; rw [if_pos rfl]
theorem upd_ne {H : Hp} {a b : Addr} {o : HO} (h : b ≠ a) : upd H a o b = H b := by unfold upd; rw [if_neg h]
theorem ne_of {H : Hp} {a b : Addr} {o u : HO} (h : H a = some o) (h' : H b = some u) (d : o ≠ u) : a ≠ b := by
  intro e; subst e; rw [h] at h'; exact d (Option.some.inj h')
theorem ne_of_none {H : Hp} {a b : Addr} {o : HO} (h : H a = some o) (h' : H b = none) : a ≠ b := by
  intro e; subst e; rw [h] at h'; cases h'
section
variable (P : Program) (w : World)
def ObjOk (H : Hp) (h : Heap) (a : Addr) : HO → Prop
  | .lst xs => xs.length ≤ sizeLine ∧ ∃ (its : List Value) (n : Nat), Vals xs its ∧ h.get? a = some { cls := .type "list", data := .seq its.toArray n }
  | .tup xs => xs.length ≤ sizeLine ∧ ∃ its : List Value, Vals xs its ∧ IsTup h a its.toArray
  | .dK kvs => kvs.length ≤ sizeLine ∧ (a == sysModules) = false ∧ ∃ vs, KV kvs vs ∧ h.DictOf (mixKind P w) a vs
  | .dT kvs => kvs.length ≤ sizeLine ∧ (a == sysModules) = false ∧ ∃ xs : List (List Key × Addr × Value),
      Paired (fun (p : List Key × V) (q : List Key × Addr × Value) => p.1 = q.1 ∧ H q.2.1 = some (.tup (p.1.map kV)) ∧ RelV p.2 q.2.2) kvs xs ∧
      ∃ o es ep, h.get? a = some o ∧ o.ExactDict ∧ o.data = .dict es ep ∧ es.toList = xs.map (entryOfKey (tupleKind (mixKind P w))) ∧ (xs.map (·.1)).Nodup
  | .set S n => h.SetOf (intKind P w) a S n
  | .ins C dx fs => H dx = some (.own a) ∧ fs.length ≤ 1000 ∧ dx ≠ a ∧ h.get? a = some (PySem.W.instObj C dx) ∧
      ∃ mA, h.Ns1 dx mA ∧ (∀ f, RelO (fs.lookup f) (mA f)) ∧ PySem.Within mA (fs.map (·.1))
  | .own _ => ∃ o, h.get? a = some o
  | .xd fs => ∃ mA, h.Ns1 a mA ∧ ∀ f, RelO (fs.lookup f) (mA f)
  | .rng lo hi => ∃ t u v, h.get? a = some { cls := .type "range", data := .fields #[.int lo t, .int hi u, .int 1 v] }
  | .frz o u => h.get? a = some o ∧ ObjOk H h a u
  | .tbl ps => h.get? a = some { cls := .none, data := .fields ps }
  | .met f x => h.get? a = some (PySem.W.methodObj (.ref f) (.ref x))
  | .ext φ => φ h ∧ (∃ o, h.get? a = some o) ∧ ∀ h1 h2 : Heap, φ h1 → (∀ o, h1.get? a = some o → h2.get? a = some o) → φ h2
def HOk (H : Hp) (h : Heap) : Prop := ∀ a o, H a = some o → ObjOk P w H h a o
end
section
variable {P : Program} {w : World} {H H' : Hp} {h h' : Heap} {a : Addr} {o : HO}
theorem ObjOk.lt (x : ObjOk P w H h a o) : a < h.objs.size := by
  cases o with
  | lst xs => obtain ⟨_, _, _, _, e⟩ := x; exact Heap.lt_size e
  | tup xs => obtain ⟨_, _, _, p⟩ := x; exact p.lt
  | dK kvs => obtain ⟨_, _, _, _, o, _, _, e, _⟩ := x; exact Heap.lt_size e
  | dT kvs => obtain ⟨_, _, _, _, o, _, _, e, _⟩ := x; exact Heap.lt_size e
  | set S n => obtain ⟨o, _, _, _, e, _⟩ := x; exact Heap.lt_size e
  | ins C dx fs => obtain ⟨_, _, _, e, _⟩ := x; exact Heap.lt_size e
  | own y => obtain ⟨_, e⟩ := x; exact Heap.lt_size e
  | xd fs => obtain ⟨_, ⟨_, _, _, e, _⟩, _⟩ := x; exact Heap.lt_size e
  | rng lo hi => obtain ⟨_, _, _, e⟩ := x; exact Heap.lt_size e
  | frz ob u => obtain ⟨e, _⟩ := x; exact Heap.lt_size e
  | tbl ps => exact Heap.lt_size (show h.get? a = some _ from x)
  | met f y => exact Heap.lt_size (show h.get? a = some _ from x)
  | ext φ => obtain ⟨_, ⟨_, e⟩, _⟩ := x; exact Heap.lt_size e
theorem Paired.mapP {α β : Type} {F G : α → β → Prop} : ∀ {l₁ : List α} {l₂ : List β}, Paired F l₁ l₂ → (∀ a b, F a b → G a b) → Paired G l₁ l₂
  | _, _, .nil, _ => .nil
  | _, _, .cons r t, f => .cons (f _ _ r) (Paired.mapP t f)
theorem ObjOk.stay (x : ObjOk P w H h a o) (k : ∀ b u, (b = a ∨ H b = some (.own a)) → h.get? b = some u → h'.get? b = some u)
    (ho : ∀ b, H b = some (.own a) → H' b = some (.own a)) (ht : ∀ b xs, H b = some (.tup xs) → H' b = some (.tup xs)) : ObjOk P w H' h' a o := by
  induction o with
  | lst xs => obtain ⟨z, its, n, r, e⟩ := x; exact ⟨z, its, n, r, k _ _ (.inl rfl) e⟩
  | tup xs => obtain ⟨z, its, r, ob, e, c⟩ := x; exact ⟨z, its, r, ob, k _ _ (.inl rfl) e, c⟩
  | dK kvs => obtain ⟨z, y, vs, r, ob, es, ep, e, c⟩ := x; exact ⟨z, y, vs, r, ob, es, ep, k _ _ (.inl rfl) e, c⟩
  | dT kvs =>
    obtain ⟨z, y, xs, r, ob, es, ep, e, c⟩ := x
    exact ⟨z, y, xs, Paired.mapP r fun p q z => ⟨z.1, ht _ _ z.2.1, z.2.2⟩, ob, es, ep, k _ _ (.inl rfl) e, c⟩
  | set S n => obtain ⟨ob, es, ep, t, e, c⟩ := x; exact ⟨ob, es, ep, t, k _ _ (.inl rfl) e, c⟩
  | ins C dx fs =>
    obtain ⟨d, z, ne, e, mA, ⟨od, es, ep, e2, c⟩, r⟩ := x
    exact ⟨ho _ d, z, ne, k _ _ (.inl rfl) e, mA, ⟨od, es, ep, k _ _ (.inr d) e2, c⟩, r⟩
  | own y => obtain ⟨ob, e⟩ := x; exact ⟨ob, k _ _ (.inl rfl) e⟩
  | xd fs => obtain ⟨mA, ⟨od, es, ep, e, c⟩, r⟩ := x; exact ⟨mA, ⟨od, es, ep, k _ _ (.inl rfl) e, c⟩, r⟩
  | rng lo hi => obtain ⟨t, u, v, e⟩ := x; exact ⟨t, u, v, k _ _ (.inl rfl) e⟩
  | frz ob u ih => obtain ⟨e, q⟩ := x; exact ⟨k _ _ (.inl rfl) e, ih q⟩
  | tbl ps =>
    have e : h.get? a = some { cls := .none, data := .fields ps } := x
    show h'.get? a = some { cls := .none, data := .fields ps }
    exact k a _ (.inl rfl) e
  | met f y =>
    have e : h.get? a = some (PySem.W.methodObj (.ref f) (.ref y)) := x
    show h'.get? a = some (PySem.W.methodObj (.ref f) (.ref y))
    exact k a _ (.inl rfl) e
  | ext φ => obtain ⟨p, ⟨o, e⟩, st⟩ := x; exact ⟨st _ _ p fun o q => k _ _ (.inl rfl) q, ⟨o, k _ _ (.inl rfl) e⟩, st⟩
theorem HOk.lt (x : HOk P w H h) (e : H a = some o) : a < h.objs.size := (x a o e).lt
theorem HOk.fresh (x : HOk P w H h) (e : h.objs.size ≤ a) : H a = none := by
  cases q : H a with
  | none => rfl
  | some u => exact absurd (Nat.lt_of_lt_of_le (x.lt q) e) (Nat.lt_irrefl _)
theorem HOk.kept (x : HOk P w H h) (k : ∀ b u, h.get? b = some u → h'.get? b = some u) : HOk P w H h' := fun a o e =>
  (x a o e).stay (fun b u _ q => k b u q) (fun _ q => q) fun _ _ q => q
theorem HOk.laid (x : HOk P w H h) (k : ∀ b u, h.get? b = some u → h'.get? b = some u) (hp : h.objs.size ≤ a) (new : ObjOk P w (upd H a o) h' a o) : HOk P w (upd H a o) h' := fun b u e => by
  have hn := x.fresh hp
  by_cases hb : b = a
  · subst hb; rw [upd_same] at e; cases e; exact new
  · rw [upd_ne hb] at e
    exact (x b u e).stay (fun c v _ q => k c v q) (fun c q => by rw [upd_ne (ne_of_none q hn)]; exact q) fun c xs q => by rw [upd_ne (ne_of_none q hn)]; exact q
end
def Rd (H : Hp) (a : Addr) (u : HO) : Prop := H a = some u ∨ ∃ o, H a = some (.frz o u)
theorem Rd.ok {P : Program} {w : World} {H : Hp} {h : Heap} {a : Addr} {u : HO} (r : Rd H a u) (x : HOk P w H h) : ObjOk P w H h a u := by
  rcases r with r | ⟨o, r⟩
  · exact x a u r
  · obtain ⟨_, q⟩ := x a _ r
    exact q
def Mut : Option HO → Prop
  | some (.lst _) => True
  | some (.dK _) => True
  | some (.dT _) => True
  | some (.set _ _) => True
  | some (.ins _ _ _) => True
  | some (.ext _) => True
  | _ => False
section
variable {P : Program} {w : World} {H : Hp} {h h' : Heap} {x e : Addr} {o' : HO}
theorem HOk.write (ok : HOk P w H h) (mu : Mut (H x)) (he : e = x ∨ H e = some (.own x)) (k : ∀ b u, b ≠ e → h.get? b = some u → h'.get? b = some u) (heo : ∃ u, h'.get? e = some u)
    (new : ObjOk P w (upd H x o') h' x o') : HOk P w (upd H x o') h' := fun b u q => by
  have nown : ∀ c y, H c = some (.own y) → c ≠ x := fun c y r z => by subst z; rw [r] at mu; exact mu
  have ntup : ∀ c xs, H c = some (.tup xs) → c ≠ x := fun c xs r z => by subst z; rw [r] at mu; exact mu
  by_cases hb : b = x
  · subst hb; rw [upd_same] at q; cases q; exact new
  · rw [upd_ne hb] at q
    by_cases hbe : b = e
    · have q' : H b = some (.own x) := by
        rcases he with z | z
        · exact absurd (hbe.trans z) hb
        · rw [hbe]; exact z
      rw [q] at q'; cases q'
      obtain ⟨v, hv⟩ := heo
      exact ⟨v, by rw [hbe]; exact hv⟩
    · refine (ok b u q).stay (fun c v hc r => k c v ?_ r) (fun c r => by rw [upd_ne (nown c b r)]; exact r) fun c xs r => by rw [upd_ne (ntup c xs r)]; exact r
      rcases hc with rfl | hc
      · exact hbe
      · rintro rfl
        rcases he with z | z
        · exact nown c b hc z
        · rw [hc] at z; cases z; exact hb rfl
end
structure Un (fs ex : List Addr) (H H' : Hp) (h h' : Heap) : Prop where
  keep : ∀ b o, h.get? b = some o → H b = none → b ∉ fs → b ∉ ex → h'.get? b = some o
  slot : ∀ b o, h.get? b = some o → H b = none → b ∈ fs → b ∉ ex → ∃ sl, h'.get? b = some { o with slots := sl }
  free : ∀ b o, h.get? b = some o → H b = none → b ∉ ex → H' b = none
  there : ∀ b o, h.get? b = some o → b ∉ ex → ∃ o', h'.get? b = some o'
  tups : ∀ b xs, H b = some (.tup xs) → H' b = some (.tup xs)
  frzs : ∀ b o u, H b = some (.frz o u) → H' b = some (.frz o u)
  tbls : ∀ b ps, H b = some (.tbl ps) → ∃ more, H' b = some (.tbl (ps ++ more))
section
variable {fs fs' ex ex' : List Addr} {H H1 H2 : Hp} {h h1 h2 h' : Heap} {a x e : Addr} {o : HO}
theorem Un.any (u : Un fs ex H H1 h h1) {b : Addr} {ob : Obj} (q : h.get? b = some ob) (n : H b = none) (hx : b ∉ ex) : ∃ sl, h1.get? b = some { ob with slots := sl } := by
  by_cases hb : b ∈ fs
  · exact u.slot b ob q n hb hx
  · exact ⟨ob.slots, u.keep b ob q n hb hx⟩
theorem Un.kept (k : ∀ b u, h.get? b = some u → h'.get? b = some u) : Un fs ex H H h h' :=
  ⟨fun b ob q _ _ _ => k b ob q, fun b ob q _ _ _ => ⟨ob.slots, k b ob q⟩, fun _ _ _ n _ => n, fun b ob q _ => ⟨ob, k b ob q⟩, fun _ _ q => q, fun _ _ _ q => q, fun _ ps q => ⟨#[], by rw [q]; simp⟩⟩
theorem Un.refl : Un fs ex H H h h := Un.kept fun _ _ q => q
theorem Un.laid (k : ∀ b u, h.get? b = some u → h'.get? b = some u) (hp : h.objs.size ≤ a) (hn : H a = none) : Un fs ex H (upd H a o) h h' where
  keep := fun b u q _ _ _ => k b u q
  slot := fun b u q _ _ _ => ⟨u.slots, k b u q⟩
  free := fun b u q n _ => by rw [upd_ne (Nat.ne_of_lt (Nat.lt_of_lt_of_le (Heap.lt_size q) hp))]; exact n
  there := fun b u q _ => ⟨u, k b u q⟩
  tups := fun b xs q => by rw [upd_ne (ne_of_none q hn)]; exact q
  frzs := fun b u xs q => by rw [upd_ne (ne_of_none q hn)]; exact q
  tbls := fun b ps q => ⟨#[], by rw [upd_ne (ne_of_none q hn), q]; simp⟩
theorem Un.write (mu : Mut (H x)) (he : e = x ∨ H e = some (.own x)) (k : ∀ b u, b ≠ e → h.get? b = some u → h'.get? b = some u) (heo : ∃ u, h'.get? e = some u) : Un fs ex H (upd H x o) h h' := by
  have hx : ∀ b, H b = none → b ≠ x := fun b n z => by subst z; rw [n] at mu; exact mu
  have hb : ∀ b, H b = none → b ≠ e := fun b n z => by
    subst z
    rcases he with r | r
    · exact hx b n r
    · rw [n] at r; cases r
  have hm : ∀ b u, H b = some u → ¬ Mut (some u) → b ≠ x := fun b u q nm z => by subst z; rw [q] at mu; exact nm mu
  refine ⟨fun b u q n _ _ => k b u (hb b n) q, fun b u q n _ _ => ⟨u.slots, k b u (hb b n) q⟩, fun b u q n _ => by rw [upd_ne (hx b n)]; exact n, fun b u q _ => ?_,
    fun b xs q => by rw [upd_ne (hm b _ q fun z => z)]; exact q, fun b u xs q => by rw [upd_ne (hm b _ q fun z => z)]; exact q, fun b ps q => ⟨#[], by rw [upd_ne (hm b _ q fun z => z), q]; simp⟩⟩
  by_cases hbe : b = e
  · subst hbe; exact heo
  · exact ⟨u, k b u hbe q⟩
end
def trk (h : Heap) (H : Hp) : List Addr := (List.range h.objs.size).filter fun a => (H a).isSome
def hidT (h : Heap) (H : Hp) : Heap := PySem.W.hideAll h (trk h H)
theorem hidT_size (h : Heap) (H : Hp) : (hidT h H).objs.size = h.objs.size := PySem.W.hideAll_size _ _
theorem hidT_get {h : Heap} {H : Hp} {b : Addr} {o : Obj} (e : h.get? b = some o) (n : H b = none) : (hidT h H).get? b = some o :=
  PySem.W.hideAll_get _ e fun hm => by
    have q : (H b).isSome = true := (List.mem_filter.mp hm).2
    rw [n] at q; simp at q
theorem of_hidT {h : Heap} {H : Hp} {b : Addr} {o : Obj} (e : (hidT h H).get? b = some o) : h.get? b = some o ∧ H b = none := by
  have e' : h.get? b = some o := PySem.W.of_hideAll (trk h H) e
  refine ⟨e', ?_⟩
  cases q : H b with
  | none => rfl
  | some x =>
    have hm : b ∈ trk h H := List.mem_filter.mpr ⟨List.mem_range.mpr (Heap.lt_size e'), by simp [q]⟩
    have z : (hidT h H).get? b = none := PySem.W.hideAll_none (trk h H) hm
    rw [z] at e; cases e
end L2
namespace L2
open PySem PySem.Spec PyProof.Rows
structure Mod (K : PySem.W.Frag) (mg : Str → Option Value) (base : Heap) : Prop where
  kin : K.In base
  glob : base.Ns mainGlobals mg
  blt : ∃ mb, base.Ns builtinsNs mb ∧ ∀ x : Str, x ≠ "__name__" → mb x = bootBuiltins x
  nolimit : base.NoLimit
structure Cx where
  prog : Program
  w : World
  K : PySem.W.Frag
  mg : Str → Option Value
  base : Heap
  A : Around
  N : List Str
  s₀ : Shared
  H₀ : Hp
  env : Env
  outer : List Env
  stack : List Env
  ex : List Addr
  fn : Str → Bool
  calm : Bool
  pn : List (Addr × Obj)
  xe : Value → Shared → Prop
def frs (l : List Env) : List Addr := l.filterMap (·.frame)
abbrev Cx.fs (X : Cx) : List Addr := frs X.outer
def Vis (sc : Scope) (x : Str) : Prop := sc.names.lookup x = some .local ∨ sc.names.lookup x = some .cell ∨ sc.names.lookup x = some .free
def Loc (sc : Scope) (x : Str) : Prop := sc.names.lookup x = some .local ∨ sc.names.lookup x = some .cell
def Look (env : Env) (h : Heap) (m : Str → Option Value) (x : Str) (u : Value) : Prop :=
  (env.kindOf x = some .local ∧ m x = some u) ∨ ((env.kindOf x = some .cell ∨ env.kindOf x = some .free) ∧ ∃ c, env.cells.lookup x = some c ∧ h.IsCell c (some u))
structure Cx.Ok (X : Cx) : Prop where
  mod : Mod X.K X.mg X.base
  kind : X.env.scope.kind = .function
  glob : X.env.globals = mainGlobals
  blt : X.env.builtins = builtinsNs
  above : X.s₀.heap.objs.size ≤ X.env.locals
  inj : ∀ x y c, X.env.cells.lookup x = some c → X.env.cells.lookup y = some c → x = y
  has : ∀ x, (X.env.kindOf x = some .cell ∨ X.env.kindOf x = some .free) → ∃ c, X.env.cells.lookup x = some c
  cab : ∀ x c, X.fn x = true → X.env.cells.lookup x = some c → X.s₀.heap.objs.size ≤ c
  hd : X.calm = true → X.A.handled = none
  frames : X.A.frames = some X.stack
  stk : X.stack = X.outer ∨ (X.stack = X.env :: X.outer ∧ X.env.frame = some X.env.locals)
  exf : ∀ b ∈ X.ex, b ≠ X.env.locals ∧ ∀ x c, X.env.cells.lookup x = some c → c ≠ b
  bs : ∀ b o, X.base.get? b = some o → X.s₀.heap.get? b = some o ∧ X.H₀ b = none
  bsz : X.base.objs.size ≤ X.s₀.heap.objs.size
  noex : ∀ b o, X.base.get? b = some o → b ∉ X.ex
  exfs : ∀ b ∈ X.ex, b ∉ X.fs
  funs : X.s₀.heap.FunFrames X.base X.outer
  frf : ∀ b ∈ X.fs, X.H₀ b = none
structure Inv (X : Cx) (pins : List (Addr × Obj)) (σ : List (Option V)) (H : Hp) (s : Shared) : Prop where
  ok : X.Ok
  os : s.os = X.s₀.os
  bare : AllBare s.gens
  base : Un X.fs X.ex X.H₀ H X.s₀.heap s.heap
  loc : ∃ m, s.heap.Ns X.env.locals m ∧ ∀ (i : Nat) (x : Str) (v : V), X.N[i]? = some x → σ[i]? = some (some v) → Vis X.env.scope x → ∃ u, RelV v u ∧ Look X.env s.heap m x u
  cell : ∀ x c, X.env.cells.lookup x = some c → ∃ v, s.heap.IsCell c v
  free : H X.env.locals = none
  freeC : ∀ x c, X.env.cells.lookup x = some c → H c = none
  pin : ∀ p ∈ X.pn ++ pins, s.heap.get? p.1 = some p.2 ∧ H p.1 = none ∧ p.1 ≠ X.env.locals ∧ p.1 ∉ X.fs ∧ ∀ v, p.2.data ≠ .cell v
  hok : HOk X.prog X.w H s.heap
  len : σ.length = X.N.length
section
variable {X : Cx} {pins : List (Addr × Obj)} {σ : List (Option V)} {H H' : Hp} {s : Shared} {h' : Heap}
theorem Cx.Ok.nofr (ok : X.Ok) {b : Addr} {o : Obj} (e : X.base.get? b = some o) : b ∉ X.fs := fun hb => by
  have := (ok.funs.mem hb).1
  rw [e] at this; cases this
theorem Inv.bs (I : Inv X pins σ H s) : ∀ b o, X.base.get? b = some o → s.heap.get? b = some o ∧ H b = none := fun b o e =>
  ⟨I.base.keep b o (I.ok.bs b o e).1 (I.ok.bs b o e).2 (I.ok.nofr e) (I.ok.noex b o e), I.base.free b o (I.ok.bs b o e).1 (I.ok.bs b o e).2 (I.ok.noex b o e)⟩
theorem Inv.bk (I : Inv X pins σ H s) : ∀ b o, X.base.get? b = some o → s.heap.get? b = some o := fun b o e => (I.bs b o e).1
theorem Inv.mod (I : Inv X pins σ H s) : Mod X.K X.mg X.base := I.ok.mod
theorem Inv.kIn (I : Inv X pins σ H s) : X.K.In s.heap := I.ok.mod.kin.keeps I.bk
theorem Inv.lt (I : Inv X pins σ H s) : X.env.locals < s.heap.objs.size := let ⟨_, hn, _⟩ := I.loc; hn.lt
theorem Inv.sz (I : Inv X pins σ H s) : X.s₀.heap.objs.size ≤ s.heap.objs.size := Nat.le_trans I.ok.above (Nat.le_of_lt I.lt)
theorem Inv.nofs (I : Inv X pins σ H s) {a : Addr} (h : s.heap.objs.size ≤ a) : a ∉ X.fs := fun hb => by
  obtain ⟨_, o, ho, _⟩ := I.ok.funs.mem hb
  exact absurd (Nat.lt_of_lt_of_le (Heap.lt_size ho) (Nat.le_trans I.sz h)) (Nat.lt_irrefl _)
theorem Inv.cne (I : Inv X pins σ H s) : ∀ x c, X.env.cells.lookup x = some c → c ≠ X.env.locals := fun x c e z => by
  obtain ⟨v, o, ho, hd⟩ := I.cell x c e
  obtain ⟨m, ⟨o', es, ep, ho', hd', _⟩, _⟩ := I.loc
  rw [z, ho'] at ho; cases ho; rw [hd'] at hd; cases hd
theorem Inv.funs (I : Inv X pins σ H s) : s.heap.FunFrames X.base X.outer := by
  have all : ∀ (l : List Env), (∀ b ∈ frs l, b ∈ X.fs) → X.s₀.heap.FunFrames X.base l → s.heap.FunFrames X.base l := by
    intro l
    induction l with
    | nil => intro _ _; trivial
    | cons env r ih =>
      intro hs hl
      obtain ⟨hk, ⟨L, o, hf, hn, ho, hd⟩, hr⟩ := hl
      have hL : L ∈ X.fs := hs L (by unfold frs; rw [List.filterMap_cons, hf]; exact List.mem_cons_self)
      obtain ⟨sl, e⟩ := I.base.slot L o ho (I.ok.frf L hL) hL fun z => I.ok.exfs L z hL
      exact ⟨hk, ⟨L, _, hf, hn, e, hd⟩, ih (fun b hb => hs b (by unfold frs; rw [List.filterMap_cons, hf]; exact List.mem_cons_of_mem _ hb)) hr⟩
  exact all X.outer (fun _ hb => hb) I.ok.funs
theorem Inv.stack (I : Inv X pins σ H s) : s.heap.FunFrames X.base X.stack := by
  rcases I.ok.stk with e | ⟨e, hf⟩
  · rw [e]; exact I.funs
  · rw [e]
    obtain ⟨m, hn, _⟩ := I.loc
    refine .cons (by rw [I.ok.kind]; decide) hf hn ?_ I.funs
    exact Heap.get?_none_of_le (Nat.le_trans I.ok.bsz I.ok.above)
theorem Inv.stkSub (I : Inv X pins σ H s) : ∀ b ∈ frs X.stack, b ∈ X.env.locals :: X.fs := fun b hb => by
  rcases I.ok.stk with e | ⟨e, hf⟩
  · rw [e] at hb; exact List.mem_cons_of_mem _ hb
  · rw [e] at hb
    unfold frs at hb
    rw [List.filterMap_cons, hf] at hb
    exact hb
theorem Inv.stkFree (I : Inv X pins σ H s) : ∀ b ∈ frs X.stack, H b = none := fun b hb => by
  rcases List.mem_cons.mp (I.stkSub b hb) with e | hb
  · rw [e]; exact I.free
  · obtain ⟨_, o, ho, _⟩ := I.ok.funs.mem hb
    exact I.base.free b o ho (I.ok.frf b hb) fun z => I.ok.exfs b z hb
theorem Inv.step {g' : Array GenState} {t' : Nat} {d' : Drawn} {ch : List Addr} (I : Inv X pins σ H s)
    (hch : ∀ b ∈ ch, (b ∈ X.ex ∨ X.s₀.heap.objs.size ≤ b) ∧ b ≠ X.env.locals ∧ (∀ x c, X.env.cells.lookup x = some c → c ≠ b) ∧ ∀ p ∈ X.pn ++ pins, p.1 ≠ b)
    (keep : ∀ b o, b ≠ X.env.locals → b ∉ X.fs → b ∉ ch → s.heap.get? b = some o → H b = none → h'.get? b = some o)
    (slot : ∀ b o, b ≠ X.env.locals → b ∈ X.fs → b ∉ ch → s.heap.get? b = some o → H b = none → ∃ sl, h'.get? b = some { o with slots := sl }) (free : ∀ b o, b ∉ ch → s.heap.get? b = some o → H b = none → H' b = none)
    (there : ∀ b o, b ∉ ch → s.heap.get? b = some o → ∃ o', h'.get? b = some o')
    (tups : ∀ b xs, H b = some (.tup xs) → H' b = some (.tup xs)) (frzs : ∀ b o u, H b = some (.frz o u) → H' b = some (.frz o u)) (tbls : ∀ b ps, H b = some (.tbl ps) → ∃ more, H' b = some (.tbl (ps ++ more)))
    (ns : ∀ m, s.heap.Ns X.env.locals m → h'.Ns X.env.locals m) (hok : HOk X.prog X.w H' h') (hg : AllBare g') :
    Inv X pins σ H' { s with heap := h', gens := g', drawn := d', toks := t' } := by
  have neL : ∀ b o, X.s₀.heap.get? b = some o → b ≠ X.env.locals := fun b o e => Nat.ne_of_lt (Nat.lt_of_lt_of_le (Heap.lt_size e) I.ok.above)
  have neC : ∀ b o, X.s₀.heap.get? b = some o → b ∉ X.ex → b ∉ ch := fun b o e hx hb => by
    rcases (hch b hb).1 with z | z
    · exact hx z
    · exact absurd (Nat.lt_of_lt_of_le (Heap.lt_size e) z) (Nat.lt_irrefl _)
  have cellK : ∀ x c, X.env.cells.lookup x = some c → ∀ v, s.heap.IsCell c v → h'.IsCell c v := fun x c e v ⟨o, ho, hd⟩ => by
    have nch : c ∉ ch := fun z => (hch c z).2.2.1 x c e rfl
    by_cases hc : c ∈ X.fs
    · obtain ⟨sl, q⟩ := slot c o (I.cne x c e) hc nch ho (I.freeC x c e)
      exact ⟨_, q, hd⟩
    · exact ⟨o, keep c o (I.cne x c e) hc nch ho (I.freeC x c e), hd⟩
  refine ⟨I.ok, I.os, hg, ⟨fun b o e n hb hx => ?_, fun b o e n hb hx => ?_, fun b o e n hx => ?_, fun b o e hx => ?_, fun b xs e => tups b xs (I.base.tups b xs e), fun b o xs e => frzs b o xs (I.base.frzs b o xs e), fun b ps e => ?_⟩, ?_, fun x c e => ?_, ?_, fun x c e => ?_, fun p hp => ?_, hok, I.len⟩
  · exact keep b o (neL b o e) hb (neC b o e hx) (I.base.keep b o e n hb hx) (I.base.free b o e n hx)
  · obtain ⟨sl, e1⟩ := I.base.slot b o e n hb hx
    obtain ⟨sl', e2⟩ := slot b _ (neL b o e) hb (neC b o e hx) e1 (I.base.free b o e n hx)
    exact ⟨sl', e2⟩
  · obtain ⟨o', e1⟩ := I.base.there b o e hx
    exact free b o' (neC b o e hx) e1 (I.base.free b o e n hx)
  · obtain ⟨o', e1⟩ := I.base.there b o e hx
    exact there b o' (neC b o e hx) e1
  · obtain ⟨m1, e1⟩ := I.base.tbls b ps e
    obtain ⟨m2, e2⟩ := tbls b _ e1
    exact ⟨m1 ++ m2, by rw [e2, Array.append_assoc]⟩
  · obtain ⟨m, hn, hl⟩ := I.loc
    refine ⟨m, ns m hn, fun i x v e1 e2 e3 => ?_⟩
    obtain ⟨u, r, l⟩ := hl i x v e1 e2 e3
    refine ⟨u, r, ?_⟩
    rcases l with l | ⟨k, c, e, z⟩
    · exact .inl l
    · exact .inr ⟨k, c, e, cellK x c e _ z⟩
  · obtain ⟨v, z⟩ := I.cell x c e
    exact ⟨v, cellK x c e v z⟩
  · obtain ⟨m, ⟨o, _, _, ho, _⟩, _⟩ := I.loc
    exact free _ o (fun z => (hch _ z).2.1 rfl) ho I.free
  · obtain ⟨v, o, ho, hd⟩ := I.cell x c e
    exact free c o (fun z => (hch c z).2.2.1 x c e rfl) ho (I.freeC x c e)
  · obtain ⟨e, n, ne, nf, d⟩ := I.pin p hp
    have nch : p.1 ∉ ch := fun z => (hch p.1 z).2.2.2 p hp rfl
    exact ⟨keep p.1 p.2 ne nf nch e n, free p.1 p.2 nch e n, ne, nf, d⟩
theorem Inv.un {t' : Nat} (I : Inv X pins σ H s) (u : Un X.fs [] H H' s.heap h') (hok : HOk X.prog X.w H' h') : Inv X pins σ H' { s with heap := h', toks := t' } := by
  obtain ⟨m, ⟨o, es, ep, ho, r⟩, _⟩ := id I.loc
  obtain ⟨sl, hL⟩ := u.any ho I.free (by simp)
  exact I.step (g' := s.gens) (d' := s.drawn) (ch := []) (fun _ z => nomatch z) (fun b o _ hb _ e n => u.keep b o e n hb (by simp)) (fun b o _ hb _ e n => u.slot b o e n hb (by simp)) (fun b o _ e n => u.free b o e n (by simp)) (fun b o _ e => u.there b o e (by simp)) u.tups u.frzs u.tbls (fun m' hm => by
    obtain ⟨o', es', ep', ho', r'⟩ := hm
    rw [ho] at ho'; cases ho'
    exact ⟨_, es', ep', hL, r'⟩) hok I.bare
theorem Inv.call {g' : Array GenState} {t' : Nat} {d' : Drawn} {ch : List Addr} (I : Inv X pins σ H s) (u : Un (frs X.stack) ch H H' s.heap h') (hok : HOk X.prog X.w H' h') (hg : AllBare g')
    (hch : ∀ b ∈ ch, (b ∈ X.ex ∨ X.s₀.heap.objs.size ≤ b) ∧ b ≠ X.env.locals ∧ (∀ x c, X.env.cells.lookup x = some c → c ≠ b) ∧ ∀ p ∈ X.pn ++ pins, p.1 ≠ b) :
    Inv X pins σ H' { s with heap := h', gens := g', drawn := d', toks := t' } := by
  obtain ⟨m, ⟨o, es, ep, ho, r⟩, _⟩ := id I.loc
  obtain ⟨sl, hL⟩ := u.any ho I.free fun z => (hch _ z).2.1 rfl
  exact I.step (ch := ch) hch (fun b o hL hb hc e n => u.keep b o e n (fun z => (List.mem_cons.mp (I.stkSub b z)).elim hL hb) hc) (fun b o _ _ hc e n => u.any e n hc) (fun b o hc e n => u.free b o e n hc) (fun b o hc e => u.there b o e hc) u.tups u.frzs u.tbls (fun m' hm => by
    obtain ⟨o', es', ep', ho', r'⟩ := hm
    rw [ho] at ho'; cases ho'
    exact ⟨_, es', ep', hL, r'⟩) hok hg
theorem Inv.turned {t' : Nat} {it : Addr} (I : Inv X pins σ H s) (k : ∀ b o, b ≠ it → s.heap.get? b = some o → h'.get? b = some o) (hn : H it = none) (hL : it ≠ X.env.locals)
    (h1 : it ∈ X.ex ∨ X.s₀.heap.objs.size ≤ it) (h2 : ∀ x c, X.env.cells.lookup x = some c → c ≠ it) (h3 : ∀ p ∈ X.pn ++ pins, p.1 ≠ it) : Inv X pins σ H { s with heap := h', toks := t' } := by
  have nit : ∀ b u, H b = some u → b ≠ it := fun b u e z => by rw [z, hn] at e; cases e
  refine I.step (g' := s.gens) (d' := s.drawn) (ch := [it]) (fun b hb => ?_) (fun b o _ _ hc e _ => k b o (fun z => hc (by simp [z])) e) (fun b o _ _ hc e _ => ⟨o.slots, k b o (fun z => hc (by simp [z])) e⟩) (fun _ _ _ _ n => n)
    (fun b o hc e => ⟨o, k b o (fun z => hc (by simp [z])) e⟩) (fun _ _ e => e) (fun _ _ _ e => e) (fun b ps e => ⟨#[], by rw [e]; simp⟩) (fun m hm => ?_) (fun b u e => ?_) I.bare
  · have e : b = it := by simpa using hb
    subst e
    exact ⟨h1, hL, h2, h3⟩
  · obtain ⟨o, es, ep, ho, r⟩ := hm
    exact ⟨o, es, ep, k _ o (Ne.symm hL) ho, r⟩
  · refine (I.hok b u e).stay (fun c v hc q => k c v ?_ q) (fun _ q => q) fun _ _ q => q
    rcases hc with z | z
    · rw [z]; exact nit b u e
    · exact nit c _ z
theorem Inv.tok (I : Inv X pins σ H s) (t : Nat) : Inv X pins σ H { s with toks := t } := I.un (h' := s.heap) (t' := t) Un.refl I.hok
theorem Inv.kept {t' : Nat} (I : Inv X pins σ H s) (k : ∀ b u, s.heap.get? b = some u → h'.get? b = some u) : Inv X pins σ H { s with heap := h', toks := t' } := I.un (Un.kept k) (I.hok.kept k)
theorem Inv.laid {a : Addr} {o : HO} {t' : Nat} (I : Inv X pins σ H s) (k : ∀ b u, s.heap.get? b = some u → h'.get? b = some u) (hp : s.heap.objs.size ≤ a) (new : ObjOk X.prog X.w (upd H a o) h' a o) :
    Inv X pins σ (upd H a o) { s with heap := h', toks := t' } := I.un (Un.laid k hp (I.hok.fresh hp)) (I.hok.laid k hp new)
theorem Inv.write {x e : Addr} {o : HO} {t' : Nat} (I : Inv X pins σ H s) (mu : Mut (H x)) (he : e = x ∨ H e = some (.own x)) (k : ∀ b u, b ≠ e → s.heap.get? b = some u → h'.get? b = some u) (heo : ∃ u, h'.get? e = some u)
    (new : ObjOk X.prog X.w (upd H x o) h' x o) : Inv X pins σ (upd H x o) { s with heap := h', toks := t' } := I.un (Un.write mu he k heo) (I.hok.write mu he k heo new)
theorem Inv.pins_of {pins' : List (Addr × Obj)} (I : Inv X pins σ H s) (h : ∀ p ∈ pins', s.heap.get? p.1 = some p.2 ∧ H p.1 = none ∧ p.1 ≠ X.env.locals ∧ p.1 ∉ X.fs ∧ ∀ v, p.2.data ≠ .cell v) : Inv X pins' σ H s :=
  ⟨I.ok, I.os, I.bare, I.base, I.loc, I.cell, I.free, I.freeC, fun p hp => (List.mem_append.mp hp).elim (fun z => I.pin p (List.mem_append_left _ z)) (h p), I.hok, I.len⟩
theorem nodup_ix {N : List Str} (hN : N.Nodup) {i j : Nat} {x : Str} (a : N[i]? = some x) (b : N[j]? = some x) : i = j := by
  obtain ⟨h1, e1⟩ := List.getElem?_eq_some_iff.mp a
  obtain ⟨h2, e2⟩ := List.getElem?_eq_some_iff.mp b
  exact (List.getElem_inj hN).mp (e1.trans e2.symm)
theorem store_ok2 {M : Model} {A : Around} {E : Value → Shared → Prop} {i : Nat} {x : Str} {v : V} {u : Value} {Q : Unit → Shared → Prop} (I : Inv X pins σ H s) (hN : X.N.Nodup) (hi : X.N[i]? = some x) (hx : Loc X.env.scope x) (r : RelV v u)
    (h : ∀ s', Inv X pins (σ.set i (some v)) H s' → (∃ a, Heap.SameBut a s.heap s'.heap ∧ (a = X.env.locals ∨ X.env.cells.lookup x = some a)) → Q () s') (hf : X.fn x = true ∨ X.env.scope.names.lookup x = some .local := by first | exact .inl rfl | exact .inr rfl | assumption) : wpAny M A (storeName X.env x u) Q E s := by
  obtain ⟨m, hn, hl⟩ := id I.loc
  have hcls : (X.env.scope.kind == .class || (X.env.scope.kind == .module && X.env.locals != X.env.globals)) = false := by rw [I.ok.kind]; rfl
  have hiσ : i < σ.length := by rw [I.len]; exact (List.getElem?_eq_some_iff.mp hi).1
  have cne := I.cne
  have tracked : ∀ {a : Addr} {h' : Heap}, (∃ o, s.heap.get? a = some o ∧ H a = none) → Heap.SameBut a s.heap h' → HOk X.prog X.w H h' := fun {a h'} ha hs b ob e => by
    obtain ⟨_, _, hfree⟩ := ha
    refine (I.hok b ob e).stay (fun c w' hc q => (hs.2 c ?_).trans q) (fun _ q => q) fun _ _ q => q
    rintro rfl
    rcases hc with rfl | hc
    · rw [hfree] at e; cases e
    · rw [hfree] at hc; cases hc
  rcases hx with hk | hk
  · refine wpAny_storeName_local hk hn (fun h' hn' hs => ?_) hcls
    obtain ⟨oL, _, _, hoL, _⟩ := id hn
    refine h _ ⟨I.ok, I.os, I.bare, ⟨fun b o e n hb hx => ?_, fun b o e n hb hx => ?_, I.base.free, fun b o e hx => ?_, I.base.tups, I.base.frzs, I.base.tbls⟩, ⟨_, hn', fun j y v' e1 e2 e3 => ?_⟩, fun y c e => ?_, I.free, I.freeC, fun p hp => ?_, tracked ⟨oL, hoL, I.free⟩ hs, by simpa using I.len⟩ ⟨_, hs, .inl rfl⟩
    · exact (hs.2 b (Nat.ne_of_lt (Nat.lt_of_lt_of_le (Heap.lt_size e) I.ok.above))).trans (I.base.keep b o e n hb hx)
    · obtain ⟨sl, e1⟩ := I.base.slot b o e n hb hx
      exact ⟨sl, (hs.2 b (Nat.ne_of_lt (Nat.lt_of_lt_of_le (Heap.lt_size e) I.ok.above))).trans e1⟩
    · obtain ⟨o', e1⟩ := I.base.there b o e hx
      exact ⟨o', (hs.2 b (Nat.ne_of_lt (Nat.lt_of_lt_of_le (Heap.lt_size e) I.ok.above))).trans e1⟩
    · by_cases hj : j = i
      · subst hj
        rw [hi] at e1; cases e1
        rw [List.getElem?_set_self hiσ] at e2
        cases e2
        exact ⟨u, r, .inl ⟨hk, by simp⟩⟩
      · rw [List.getElem?_set_ne (Ne.symm hj)] at e2
        obtain ⟨u', r', q⟩ := hl j y v' e1 e2 e3
        refine ⟨u', r', ?_⟩
        rcases q with ⟨k, e⟩ | ⟨k, c, e, z⟩
        · refine .inl ⟨k, ?_⟩
          have : y ≠ x := fun e => hj (nodup_ix hN e1 (e ▸ hi))
          simp [this, e]
        · exact .inr ⟨k, c, e, z.sameBut hs (cne y c e)⟩
    · obtain ⟨w', z⟩ := I.cell y c e
      exact ⟨w', z.sameBut hs (cne y c e)⟩
    · obtain ⟨e, n, ne, nf, d⟩ := I.pin p hp
      exact ⟨(hs.2 p.1 ne).trans e, n, ne, nf, d⟩
  · have hfn : X.fn x = true := by
      rcases hf with z | z
      · exact z
      · rw [z] at hk; cases hk
    obtain ⟨c, hc⟩ := I.ok.has x (.inl hk)
    obtain ⟨w', z⟩ := I.cell x c hc
    refine wpAny_storeName_cell I.ok.kind hk hc z (fun h' hc' hs => ?_)
    obtain ⟨oc, hoc, hocd⟩ := id z
    refine h { s with heap := h' } ⟨I.ok, I.os, I.bare, ⟨fun b o e n hb hx => ?_, fun b o e n hb hx => ?_, I.base.free, fun b o e hx => ?_, I.base.tups, I.base.frzs, I.base.tbls⟩, ⟨m, hn.sameBut hs (Ne.symm (cne x c hc)), fun j y v' e1 e2 e3 => ?_⟩, fun y c' e => ?_, I.free, I.freeC, fun p hp => ?_, tracked ⟨oc, hoc, I.freeC x c hc⟩ hs, by simpa using I.len⟩ ⟨c, hs, .inr hc⟩
    · exact (hs.2 b (Nat.ne_of_lt (Nat.lt_of_lt_of_le (Heap.lt_size e) (I.ok.cab x c hfn hc)))).trans (I.base.keep b o e n hb hx)
    · obtain ⟨sl, e1⟩ := I.base.slot b o e n hb hx
      exact ⟨sl, (hs.2 b (Nat.ne_of_lt (Nat.lt_of_lt_of_le (Heap.lt_size e) (I.ok.cab x c hfn hc)))).trans e1⟩
    · obtain ⟨o', e1⟩ := I.base.there b o e hx
      exact ⟨o', (hs.2 b (Nat.ne_of_lt (Nat.lt_of_lt_of_le (Heap.lt_size e) (I.ok.cab x c hfn hc)))).trans e1⟩
    · by_cases hj : j = i
      · subst hj
        rw [hi] at e1; cases e1
        rw [List.getElem?_set_self hiσ] at e2
        cases e2
        exact ⟨u, r, .inr ⟨.inl hk, c, hc, hc'⟩⟩
      · rw [List.getElem?_set_ne (Ne.symm hj)] at e2
        obtain ⟨u', r', q⟩ := hl j y v' e1 e2 e3
        refine ⟨u', r', ?_⟩
        rcases q with q | ⟨k, c', e, z'⟩
        · exact .inl q
        · refine .inr ⟨k, c', e, z'.sameBut hs ?_⟩
          rintro rfl
          exact hj (nodup_ix hN e1 (I.ok.inj _ _ _ e hc ▸ hi))
    · by_cases hcc : c' = c
      · subst hcc; exact ⟨_, hc'⟩
      · obtain ⟨w2, z2⟩ := I.cell y c' e
        exact ⟨w2, z2.sameBut hs hcc⟩
    · obtain ⟨e, n, ne, nf, d⟩ := I.pin p hp
      refine ⟨(hs.2 p.1 ?_).trans e, n, ne, nf, d⟩
      intro q
      rw [q, hoc] at e
      have q' : oc = p.2 := Option.some.inj e
      exact d w' (by rw [← q']; exact hocd)
theorem store_ok {M : Model} {A : Around} {E : Value → Shared → Prop} {i : Nat} {x : Str} {v : V} {u : Value} {Q : Unit → Shared → Prop} (I : Inv X pins σ H s) (hN : X.N.Nodup) (hi : X.N[i]? = some x) (hx : Loc X.env.scope x) (r : RelV v u)
    (h : ∀ s', Inv X pins (σ.set i (some v)) H s' → Q () s') (hf : X.fn x = true ∨ X.env.scope.names.lookup x = some .local := by first | exact .inl rfl | exact .inr rfl | assumption) : wpAny M A (storeName X.env x u) Q E s :=
  store_ok2 I hN hi hx r (fun s' I' _ => h s' I') hf
theorem Inv.call' {s' : Shared} {ch : List Addr} (I : Inv X pins σ H s) (ho : s'.os = s.os) (u : Un (frs X.stack) ch H H' s.heap s'.heap) (hok : HOk X.prog X.w H' s'.heap) (hg : AllBare s'.gens)
    (hch : ∀ b ∈ ch, (b ∈ X.ex ∨ X.s₀.heap.objs.size ≤ b) ∧ b ≠ X.env.locals ∧ (∀ x c, X.env.cells.lookup x = some c → c ≠ b) ∧ ∀ p ∈ X.pn ++ pins, p.1 ≠ b) : Inv X pins σ H' s' := by
  obtain ⟨h', g', d', t', o'⟩ := s'
  have e : o' = s.os := ho
  subst e
  exact I.call (g' := g') (t' := t') (d' := d') u hok hg hch
end
abbrev XK := Value → Option Addr → Hp → Prop
abbrev St := List (Option V)
abbrev VK := V → Hp → Prop
abbrev TE := St → Hp → VK → Prop
abbrev TT := St → Hp → (Bool → Hp → Prop) → Prop
abbrev TA := St → Hp → (List V → Hp → Prop) → Prop
structure Ends where
  nx : St → Hp → Prop
  rt : VK
  bk : St → Hp → Prop := fun _ _ => False
  ct : St → Hp → Prop := fun _ _ => False
abbrev TS := Ends → St → Hp → Prop
def EP (X : Cx) (pins : List (Addr × Obj)) (σ : St) (Q : VK) (u : Value) (s' : Shared) : Prop := ∃ v H', Inv X pins σ H' s' ∧ RelV v u ∧ Q v H'
def TP (X : Cx) (pins : List (Addr × Obj)) (σ : St) (Q : Bool → Hp → Prop) (b : Bool) (s' : Shared) : Prop := ∃ H', Inv X pins σ H' s' ∧ Q b H'
def AP (X : Cx) (pins : List (Addr × Obj)) (σ : St) (Q : List V → Hp → Prop) (us : List Value) (s' : Shared) : Prop := ∃ vs H', Inv X pins σ H' s' ∧ Vals vs us ∧ Q vs H'
def SP (X : Cx) (pins : List (Addr × Obj)) (D : Ends) (f : Flow) (s' : Shared) : Prop :=
  match f with
  | .next => ∃ σ' H', Inv X pins σ' H' s' ∧ D.nx σ' H'
  | .brk => ∃ σ' H', Inv X pins σ' H' s' ∧ D.bk σ' H'
  | .cont => ∃ σ' H', Inv X pins σ' H' s' ∧ D.ct σ' H'
  | .ret u => ∃ v σ' H', Inv X pins σ' H' s' ∧ RelV v u ∧ D.rt v H'
def PE (X : Cx) (e : Expr) (t : TE) : Prop :=
  ∀ (pins : List (Addr × Obj)) (s : Shared) (σ : St) (H : Hp) (Q : VK), Inv X pins σ H s → t σ H Q → wpAny (model X.prog X.w) X.A (eval e X.env) (EP X pins σ Q) X.xe s
def PT (X : Cx) (e : Expr) (t : TT) : Prop :=
  ∀ (pins : List (Addr × Obj)) (s : Shared) (σ : St) (H : Hp) (Q : Bool → Hp → Prop), Inv X pins σ H s → t σ H Q → wpAny (model X.prog X.w) X.A (isTrue e X.env (eval e X.env)) (TP X pins σ Q) X.xe s
def PW (X : Cx) (e : Expr) (t : TT) : Prop :=
  ∀ (whole : Sem Value) (pins : List (Addr × Obj)) (s : Shared) (σ : St) (H : Hp) (Q : Bool → Hp → Prop), Inv X pins σ H s → t σ H Q → wpAny (model X.prog X.w) X.A (isTrue e X.env whole) (TP X pins σ Q) X.xe s
theorem PW.pt {X : Cx} {e : Expr} {t : TT} (h : PW X e t) : PT X e t := h _
def PA (X : Cx) (es : List Expr) (t : TA) : Prop :=
  ∀ (pos : Pos) (pins : List (Addr × Obj)) (s : Shared) (σ : St) (H : Hp) (Q : List V → Hp → Prop), Inv X pins σ H s → t σ H Q → wpAny (model X.prog X.w) X.A (spliced (backTo pos (starEach es X.env))) (AP X pins σ Q) X.xe s
def PS (X : Cx) (st : Stmt) (t : TS) : Prop :=
  ∀ (pins : List (Addr × Obj)) (s : Shared) (σ : St) (H : Hp) (D : Ends), Inv X pins σ H s → t D σ H → wpAny (model X.prog X.w) X.A (exec st X.env) (SP X pins D) X.xe s
def PSs (X : Cx) (st : List Stmt) (t : TS) : Prop :=
  ∀ (pins : List (Addr × Obj)) (s : Shared) (σ : St) (H : Hp) (D : Ends), Inv X pins σ H s → t D σ H → wpAny (model X.prog X.w) X.A (execs st X.env) (SP X pins D) X.xe s
theorem thn {α : Type} {t : Sem α} {Q Q' : α → Shared → Prop} {M : Model} {A : Around} {E : Value → Shared → Prop} {s : Shared} (h : wpAny M A t Q E s) (hQ : ∀ a s, Q a s → Q' a s) : wpAny M A t Q' E s := wpAny_mono h hQ fun _ _ x => x
end L2
namespace L2
open PySem PySem.Spec PyProof.Rows
section
variable {X : Cx}
theorem bin {a b : Expr} {ta tb : TE} (ha : PE X a ta) (hb : PE X b tb) {pins : List (Addr × Obj)} {s : Shared} {σ : St} {H : Hp} {R : V → V → Hp → Prop} (I : Inv X pins σ H s) (h : ta σ H fun x H1 => tb σ H1 fun y H2 => R x y H2)
    {α : Type} {Q : α → Shared → Prop} {f : Value → Value → Sem α}
    (hf : ∀ v u s2 x y H2, Inv X pins σ H2 s2 → RelV x v → RelV y u → R x y H2 → wpAny (model X.prog X.w) X.A (f v u) Q X.xe s2) :
    wpAny (model X.prog X.w) X.A (eval a X.env) (fun v s₁ => wpAny (model X.prog X.w) X.A (eval b X.env) (fun u s₂ => wpAny (model X.prog X.w) X.A (f v u) Q X.xe s₂) X.xe s₁) X.xe s := by
  refine thn (ha pins s σ H _ I h) fun v s1 ⟨x, H1, I1, r1, q1⟩ => ?_
  refine thn (hb pins s1 σ H1 _ I1 q1) fun u s2 ⟨y, H2, I2, r2, q2⟩ => ?_
  exact hf v u s2 x y H2 I2 r1 r2 q2
def tVar (i : Nat) : TE := fun σ H Q => ∃ v, σ[i]? = some (some v) ∧ Q v H
def tC (v : V) : TE := fun _ H Q => Q v H
theorem pe_var {i : Nat} {x : Str} {pos : Pos} (hN : X.N[i]? = some x) (hv : Vis X.env.scope x) (hd : (x == ("__debug__" : Str)) = false := by decide) (hcd : (x == ("__classdict__" : Str)) = false := by decide) : PE X (.Name x pos) (tVar i) := by
  intro pins s σ H Q I h
  obtain ⟨v, e, h⟩ := h
  obtain ⟨m, hn, hl⟩ := I.loc
  obtain ⟨u, r, l⟩ := hl i x v hN e hv
  have fin : EP X pins σ Q u s := ⟨v, H, I, r, h⟩
  rcases l with ⟨hk, hm⟩ | ⟨hk, c, hc, hcell⟩
  · exact wpAny_Name (wpAny_loadName_local I.ok.kind hk hn hm fin) hd
  · rcases hk with hk | hk
    · exact wpAny_Name (wpAny_loadName_cell I.ok.kind hk hc hcell fin) hd
    · exact wpAny_Name (wpAny_loadName_free I.ok.kind hk hc hcell fin hcd) hd
theorem pe_int {i j pos} : PE X (.Constant (.int i) j pos) (tC (.int i)) := fun _ _ _ H _ I h => wpAny_Constant_int ⟨.int i, H, I.tok _, ⟨_, rfl⟩, h⟩
theorem pe_bl {b j pos} : PE X (.Constant (.bool b) j pos) (tC (.bl b)) := fun _ _ _ H _ I h => Constant_bool ⟨.bl b, H, I, rfl, h⟩
theorem pe_non {j pos} : PE X (.Constant .none j pos) (tC .non) := fun _ _ _ H _ I h => Constant_none ⟨.non, H, I, rfl, h⟩
theorem pe_str {x j pos} : PE X (.Constant (.str x) j pos) (tC (.str x)) := fun _ _ _ H _ I h => Calls.Constant_str ⟨.str x, H, I.tok _, ⟨_, rfl⟩, h⟩
def Gl (X : Cx) (x : Str) : Prop := X.env.kindOf x = some .globalImplicit
theorem ld_glob {E : Value → Shared → Prop} {pins : List (Addr × Obj)} {s : Shared} {σ : St} {H : Hp} {x : Str} {u : Value} {pos : Pos} {Q : Value → Shared → Prop} (I : Inv X pins σ H s) (hg : Gl X x) (hm : X.mg x = some u) (h : Q u s)
    (hd : (x == ("__debug__" : Str)) = false := by decide) : wpAny (model X.prog X.w) X.A (eval (.Name x pos) X.env) Q E s :=
  Calls.Name_function_global I.ok.kind hg (Calls.loadGlobal_global (by rw [I.ok.glob]; exact I.mod.glob.keeps I.bk) hm h) hd
theorem ld_blt {E : Value → Shared → Prop} {pins : List (Addr × Obj)} {s : Shared} {σ : St} {H : Hp} {x : Str} {u : Value} {pos : Pos} {Q : Value → Shared → Prop} (I : Inv X pins σ H s) (hg : Gl X x) (hm : X.mg x = none) (hv : bootBuiltins x = some u) (h : Q u s)
    (hn : x ≠ "__name__" := by decide) (hd : (x == ("__debug__" : Str)) = false := by decide) : wpAny (model X.prog X.w) X.A (eval (.Name x pos) X.env) Q E s := by
  obtain ⟨mb, h1, h2⟩ := I.mod.blt
  exact Calls.Name_function_global I.ok.kind hg (Calls.loadGlobal_builtin (by rw [I.ok.glob]; exact I.mod.glob.keeps I.bk) hm (by rw [I.ok.blt]; exact h1.keeps I.bk) ((h2 x hn).trans hv) h) hd
theorem pe_glob {x : Str} {v : V} {u : Value} {pos : Pos} (hg : Gl X x) (hm : X.mg x = some u) (r : RelV v u) (hd : (x == ("__debug__" : Str)) = false := by decide) : PE X (.Name x pos) (tC v) :=
  fun _ _ _ H _ I h => ld_glob I hg hm ⟨v, H, I, r, h⟩ hd
variable {a b : Expr} {ta tb : TE} {pos : Pos}
def PC (X : Cx) (op : CmpOp) (a b : Expr) (t : TE) : Prop :=
  ∀ (pins : List (Addr × Obj)) (s : Shared) (σ : St) (H : Hp) (Q : VK), Inv X pins σ H s → t σ H Q →
    wpAny (model X.prog X.w) X.A (eval a X.env) (fun v s₁ => wpAny (model X.prog X.w) X.A (eval b X.env) (fun u s₂ => wpAny (model X.prog X.w) X.A (compareOp op v u) (EP X pins σ Q) X.xe s₂) X.xe s₁) X.xe s
def tB (t : TE) : TT := fun σ H Q => t σ H fun x H1 => ∃ c, x = .bl c ∧ Q c H1
theorem pt_cmp {op : CmpOp} {t : TE} (h : PC X op a b t) (h1 : behindInMarks op b = false := by first | exact nobehind _ (by decide) (by decide) | rfl) : PT X (.Compare a [op] [b] pos) (tB t) := by
  intro pins s σ H Q I hw
  refine wpAny_isTrue_Compare1 (thn (h pins s σ H _ I hw) fun v s1 h1 => thn h1 fun u s2 h2 => thn h2 fun c s3 ⟨x, H1, I1, r1, q1⟩ => ?_) h1
  obtain ⟨d, rfl, q⟩ := q1
  cases r1
  exact wpAny_truthy_bool ⟨H1, I1, q⟩
variable {tA tB' : TT} {rest : List Expr}
def tAnd (t u : TT) : TT := fun σ H Q => t σ H fun c H1 => if c = true then u σ H1 Q else Q false H1
def tOr (t u : TT) : TT := fun σ H Q => t σ H fun c H1 => if c = true then Q true H1 else u σ H1 Q
def tNot (t : TT) : TT := fun σ H Q => t σ H fun c H1 => Q (!c) H1
theorem pw_and1 (ha : PT X a tA) : PW X (.BoolOp .And [a] pos) tA := by
  intro wh pins s σ H Q I h
  refine isTrue_and (thn (ha pins s σ H Q I h) fun c s1 e => ?_)
  cases c with
  | true => exact isTrue_and_nil e
  | false => exact e
theorem pw_or1 (ha : PT X a tA) : PW X (.BoolOp .Or [a] pos) tA := by
  intro wh pins s σ H Q I h
  refine isTrue_or (thn (ha pins s σ H Q I h) fun c s1 e => ?_)
  cases c with
  | false => exact isTrue_or_nil e
  | true => exact e
theorem pw_and (ha : PT X a tA) (hb : PW X (.BoolOp .And (b :: rest) pos) tB') : PW X (.BoolOp .And (a :: b :: rest) pos) (tAnd tA tB') := by
  intro wh pins s σ H Q I h
  refine isTrue_and (thn (ha pins s σ H _ I h) fun c s1 ⟨H1, I1, q1⟩ => ?_)
  cases c with
  | true => exact hb wh pins s1 σ H1 Q I1 q1
  | false => exact ⟨H1, I1, q1⟩
theorem pw_or (ha : PT X a tA) (hb : PW X (.BoolOp .Or (b :: rest) pos) tB') : PW X (.BoolOp .Or (a :: b :: rest) pos) (tOr tA tB') := by
  intro wh pins s σ H Q I h
  refine isTrue_or (thn (ha pins s σ H _ I h) fun c s1 ⟨H1, I1, q1⟩ => ?_)
  cases c with
  | true => exact ⟨H1, I1, q1⟩
  | false => exact hb wh pins s1 σ H1 Q I1 q1
theorem pt_not (ha : PT X a tA) : PT X (.UnaryOp .Not a pos) (tNot tA) := by
  intro pins s σ H Q I h
  exact isTrue_not (ha pins s σ H (fun c H1 => Q (!c) H1) I h)
def tAndV (ta tb : TE) : TE := fun σ H Q => ta σ H fun x H1 => ∃ c, x = .bl c ∧ if c = true then tb σ H1 Q else Q (.bl false) H1
def tOrV (ta tb : TE) : TE := fun σ H Q => ta σ H fun x H1 => ∃ c, x = .bl c ∧ if c = true then Q (.bl true) H1 else tb σ H1 Q
def tNotV (ta : TE) : TE := fun σ H Q => ta σ H fun x H1 => ∃ c, x = .bl c ∧ Q (.bl (!c)) H1
theorem pe_one {op} {t : TE} (h : PE X a t) : PE X (.BoolOp op [a] pos) t := fun pins s σ H Q I hw => BoolOp_one (h pins s σ H Q I hw)
theorem pe_and (ha : PE X a ta) (hb : PE X (.BoolOp .And (b :: rest) pos) tb) : PE X (.BoolOp .And (a :: b :: rest) pos) (tAndV ta tb) := by
  intro pins s σ H Q I h
  refine BoolOp_and (thn (ha pins s σ H _ I h) fun v s1 ⟨x, H1, I1, r1, q1⟩ => ?_)
  obtain ⟨c, rfl, q1⟩ := q1
  cases r1
  refine wpAny_truthy_bool ?_
  cases c with
  | true => exact hb pins s1 σ H1 Q I1 q1
  | false => exact ⟨.bl false, H1, I1, rfl, q1⟩
theorem pe_or (ha : PE X a ta) (hb : PE X (.BoolOp .Or (b :: rest) pos) tb) : PE X (.BoolOp .Or (a :: b :: rest) pos) (tOrV ta tb) := by
  intro pins s σ H Q I h
  refine BoolOp_or (thn (ha pins s σ H _ I h) fun v s1 ⟨x, H1, I1, r1, q1⟩ => ?_)
  obtain ⟨c, rfl, q1⟩ := q1
  cases r1
  refine wpAny_truthy_bool ?_
  cases c with
  | false => exact hb pins s1 σ H1 Q I1 q1
  | true => exact ⟨.bl true, H1, I1, rfl, q1⟩
theorem pe_not (ha : PE X a ta) : PE X (.UnaryOp .Not a pos) (tNotV ta) := by
  intro pins s σ H Q I h
  refine UnaryOp_ (thn (ha pins s σ H _ I h) fun v s1 ⟨x, H1, I1, r1, q1⟩ => ?_)
  obtain ⟨c, rfl, q1⟩ := q1
  cases r1
  exact not_of (wpAny_truthy_bool ⟨.bl (!c), H1, I1, rfl, q1⟩)
def tIf (t : TT) (ta tb : TE) : TE := fun σ H Q => t σ H fun c H1 => if c = true then ta σ H1 Q else tb σ H1 Q
theorem pe_ifExp {c : Expr} (hc : PT X c tA) (ha : PE X a ta) (hb : PE X b tb) : PE X (.IfExp c a b pos) (tIf tA ta tb) := by
  intro pins s σ H Q I h
  refine wpAny_IfExp (thn (hc pins s σ H _ I h) fun d s1 ⟨H1, I1, q1⟩ => ?_)
  cases d with
  | true => exact ha pins s1 σ H1 Q I1 q1
  | false => exact hb pins s1 σ H1 Q I1 q1
end
end L2
namespace L2
open PySem PySem.Spec PyProof.Rows
def SqL (K : PySem.W.Frag) (H : Hp) (a : Addr) (xs : List V) : Prop :=
  Rd H a (.lst xs) ∨
    ∃ (o : Obj) (its : Array Value) (n : Nat), K.lookup a = some o ∧ o.cls = .type "list" ∧ o.dict = none ∧ o.data = .seq its n ∧ its.size ≤ sizeLine ∧ Vals xs its.toList
def SqT (K : PySem.W.Frag) (H : Hp) (a : Addr) (xs : List V) : Prop :=
  Rd H a (.tup xs) ∨
    ∃ (o : Obj) (its : Array Value) (n : Nat), K.lookup a = some o ∧ o.cls = .type "tuple" ∧ o.data = .seq its n ∧ its.size ≤ sizeLine ∧ Vals xs its.toList
def absV : Value → Option V
  | .none => some .non
  | .bool b => some (.bl b)
  | .int i _ => some (.int i)
  | .str x _ => some (.str x)
  | .bytes b _ => some (.byt b)
  | .float b _ => some (.flt b)
  | .ref a => some (.ref a)
  | .type n => some (.ty n)
  | _ => none
theorem RelV.abs {x : V} {u : Value} (r : RelV x u) : absV u = some x := by
  cases x with
  | non => cases r; rfl
  | bl _ => cases r; rfl
  | int _ => obtain ⟨t, rfl⟩ := r; rfl
  | str _ => obtain ⟨t, rfl⟩ := r; rfl
  | byt _ => obtain ⟨t, rfl⟩ := r; rfl
  | flt _ => obtain ⟨t, rfl⟩ := r; rfl
  | ref _ => cases r; rfl
  | ty _ => cases r; rfl
theorem RelV.inj {x y : V} {u : Value} (r : RelV x u) (q : RelV y u) : x = y := Option.some.inj (r.abs.symm.trans q.abs)
theorem Vals.inj : ∀ {xs ys : List V} {us : List Value}, Vals xs us → Vals ys us → xs = ys
  | _, _, _, .nil, .nil => rfl
  | _, _, _, .cons r t, .cons r' t' => by rw [r.inj r', Vals.inj t t']
section
variable {X : Cx} {pins : List (Addr × Obj)} {σ : St} {H : Hp} {s : Shared} {a : Addr} {xs ys : List V}
theorem SqL.of {K : PySem.W.Frag} (h : H a = some (.lst xs)) : SqL K H a xs := .inl (.inl h)
theorem SqT.of {K : PySem.W.Frag} (h : H a = some (.tup xs)) : SqT K H a xs := .inl (.inl h)
theorem Inv.list (I : Inv X pins σ H s) (h : SqL X.K H a xs) : ∃ its : List Value, Vals xs its ∧ PlainL s.heap a its.toArray ∧ xs.length ≤ sizeLine := by
  rcases h with h | ⟨o, its, n, hk, hc, hd, hs, hz, r⟩
  · obtain ⟨z, its, n, r, e⟩ := h.ok I.hok
    exact ⟨its, r, ⟨_, n, e, rfl, rfl, rfl⟩, z⟩
  · refine ⟨its.toList, r, ⟨o, n, I.kIn a o hk, hc, hd, by simpa using hs⟩, ?_⟩
    have e := r.length
    simp only [Array.length_toList] at e
    omega
theorem Inv.tuple (I : Inv X pins σ H s) (h : SqT X.K H a xs) : ∃ its : List Value, Vals xs its ∧ IsTup s.heap a its.toArray ∧ xs.length ≤ sizeLine := by
  rcases h with h | ⟨o, its, n, hk, hc, hs, hz, r⟩
  · obtain ⟨z, its, r, p⟩ := h.ok I.hok
    exact ⟨its, r, p, z⟩
  · refine ⟨its.toList, r, ⟨o, I.kIn a o hk, hc, n, by simpa using hs⟩, ?_⟩
    have e := r.length
    simp only [Array.length_toList] at e
    omega
theorem Inv.list_inj (I : Inv X pins σ H s) (h : SqL X.K H a xs) (h' : SqL X.K H a ys) : xs = ys := by
  obtain ⟨its, r, ⟨o, n, e, _, _, d⟩, _⟩ := I.list h
  obtain ⟨its', r', ⟨o', n', e', _, _, d'⟩, _⟩ := I.list h'
  rw [e] at e'; cases e'
  rw [d] at d'
  injection d' with d1 _
  have : its = its' := by simpa using congrArg Array.toList d1
  subst this
  exact r.inj r'
theorem Inv.tuple_inj (I : Inv X pins σ H s) (h : SqT X.K H a xs) (h' : SqT X.K H a ys) : xs = ys := by
  obtain ⟨its, r, ⟨o, e, _, n, d⟩, _⟩ := I.tuple h
  obtain ⟨its', r', ⟨o', e', _, n', d'⟩, _⟩ := I.tuple h'
  rw [e] at e'; cases e'
  rw [d] at d'
  injection d' with d1 _
  have : its = its' := by simpa using congrArg Array.toList d1
  subst this
  exact r.inj r'
end
abbrev Cx.wish (X : Cx) (E : Value → Shared → Prop) : Cx := { X with xe := E }
abbrev Cx.nox (X : Cx) : Cx := X.wish fun _ _ => False
theorem Cx.Ok.wish {X : Cx} (ok : X.Ok) (E : Value → Shared → Prop) : (X.wish E).Ok :=
  ⟨ok.mod, ok.kind, ok.glob, ok.blt, ok.above, ok.inj, ok.has, ok.cab, ok.hd, ok.frames, ok.stk, ok.exf, ok.bs, ok.bsz, ok.noex, ok.exfs, ok.funs, ok.frf⟩
theorem Cx.Ok.unwish {X : Cx} {E : Value → Shared → Prop} (ok : (X.wish E).Ok) : X.Ok :=
  ⟨ok.mod, ok.kind, ok.glob, ok.blt, ok.above, ok.inj, ok.has, ok.cab, ok.hd, ok.frames, ok.stk, ok.exf, ok.bs, ok.bsz, ok.noex, ok.exfs, ok.funs, ok.frf⟩
section
variable {X : Cx} {pins : List (Addr × Obj)} {σ : St} {H : Hp} {s : Shared} {E : Value → Shared → Prop}
theorem Inv.wish (I : Inv X pins σ H s) (E : Value → Shared → Prop) : Inv (X.wish E) pins σ H s := ⟨I.ok.wish E, I.os, I.bare, I.base, I.loc, I.cell, I.free, I.freeC, I.pin, I.hok, I.len⟩
theorem Inv.unwish (I : Inv (X.wish E) pins σ H s) : Inv X pins σ H s := ⟨I.ok.unwish, I.os, I.bare, I.base, I.loc, I.cell, I.free, I.freeC, I.pin, I.hok, I.len⟩
theorem SP.unwish {D : Ends} {f : Flow} {s' : Shared} (h : SP (X.wish E) pins D f s') : SP X pins D f s' := by
  cases f with
  | next => obtain ⟨σ', H', I, q⟩ := h; exact ⟨σ', H', I.unwish, q⟩
  | brk => obtain ⟨σ', H', I, q⟩ := h; exact ⟨σ', H', I.unwish, q⟩
  | cont => obtain ⟨σ', H', I, q⟩ := h; exact ⟨σ', H', I.unwish, q⟩
  | ret u => obtain ⟨v, σ', H', I, r, q⟩ := h; exact ⟨v, σ', H', I.unwish, r, q⟩
theorem PSs.nox {st : List Stmt} {t : TS} (h : PSs X.nox st t) : PSs X st t := fun pins s σ H D I hw =>
  wpAny_mono (h pins s σ H D (I.wish _) hw) (fun _ _ q => q.unwish) fun _ _ z => False.elim z
end
section
variable {X : Cx} {st : Stmt} {rest : List Stmt} {t u : TS} {e : Expr} {te : TE} {pos : Pos}
def tNext : TS := fun D σ H => D.nx σ H
def tSeq (t u : TS) : TS := fun D σ H => t { D with nx := u D } σ H
theorem pss_nil : PSs X [] tNext := fun _ _ σ H _ I h => wpAny_execs_nil ⟨σ, H, I, h⟩
theorem pss_cons (h1 : PS X st t) (h2 : PSs X rest u) : PSs X (st :: rest) (tSeq t u) := by
  intro pins s σ H D I h
  refine wpAny_execs_cons (thn (h1 pins s σ H { D with nx := u D } I h) fun f s1 q => ?_)
  cases f with
  | next =>
    obtain ⟨σ', H', I', q⟩ := q
    exact h2 pins s1 σ' H' D I' q
  | ret v => exact q
  | brk => exact q
  | cont => exact q
theorem pss_one (h1 : PS X st t) : PSs X [st] t := by
  intro pins s σ H D I h
  refine wpAny_execs_cons (thn (h1 pins s σ H D I h) fun f s1 q => ?_)
  cases f with
  | next => exact wpAny_execs_nil q
  | ret v => exact q
  | brk => exact q
  | cont => exact q
def tCont : TS := fun D σ H => D.ct σ H
theorem ps_continue : PS X (.Continue pos) tCont := fun _ _ σ H _ I h => wpAny_Continue ⟨σ, H, I, h⟩
theorem Inv.quiet {pins : List (Addr × Obj)} {σ : St} {H : Hp} {s : Shared} (I : Inv X pins σ H s) : interactive X.env = false := by simp [interactive, I.ok.kind]
def tDrop (te : TE) : TS := fun D σ H => te σ H fun _ H1 => D.nx σ H1
theorem ps_expr (he : PE X e te) (hs : swapsWith e none pos.line X.env = pure false := by rfl) : PS X (.Expr e pos) (tDrop te) := by
  intro pins s σ H D I h
  exact wpAny_Expr_any (thn (he pins s σ H _ I h) fun v s1 ⟨x, H1, I1, r1, q1⟩ => ⟨σ, H1, I1, q1⟩) I.quiet hs
def tRet (te : TE) : TS := fun D σ H => te σ H D.rt
theorem ps_ret (he : PE X e te) : PS X (.Return (some e) pos) (tRet te) := by
  intro pins s σ H D I h
  exact wpAny_Return_some (thn (he pins s σ H _ I h) fun v s1 ⟨x, H1, I1, r1, q1⟩ => ⟨x, σ, H1, I1, r1, q1⟩)
def tIfS (c : TT) (t u : TS) : TS := fun D σ H => c σ H fun b H1 => if b = true then t D σ H1 else u D σ H1
theorem ps_if {c : Expr} {a b : List Stmt} {tc : TT} (hc : PT X c tc) (ha : PSs X a t) (hb : PSs X b u) : PS X (.If c a b pos) (tIfS tc t u) := by
  intro pins s σ H D I h
  refine wpAny_If (thn (hc pins s σ H _ I h) fun d s1 ⟨H1, I1, q1⟩ => ?_)
  cases d with
  | true => exact ha pins s1 σ H1 D I1 q1
  | false => exact hb pins s1 σ H1 D I1 q1
def tNever : TS := fun _ _ _ => False
theorem pss_never {sts : List Stmt} : PSs X sts tNever := fun _ _ _ _ _ _ h => h.elim
end
abbrev TG := V → St → Hp → (St → Hp → Prop) → Prop
abbrev TGs := List V → St → Hp → (St → Hp → Prop) → Prop
def PG (X : Cx) (target : Expr) (t : TG) : Prop :=
  ∀ (pins : List (Addr × Obj)) (s : Shared) (σ : St) (H : Hp) (v : V) (u : Value) (Q : St → Hp → Prop), Inv X pins σ H s → RelV v u → t v σ H Q →
    wpAny (model X.prog X.w) X.A (assign target X.env u) (fun _ s' => ∃ σ' H', Inv X pins σ' H' s' ∧ Q σ' H') X.xe s
def PGs (X : Cx) (ts : List Expr) (t : TGs) : Prop :=
  ∀ (pins : List (Addr × Obj)) (s : Shared) (σ : St) (H : Hp) (vs : List V) (us : List Value) (Q : St → Hp → Prop), Inv X pins σ H s → Vals vs us → t vs σ H Q →
    wpAny (model X.prog X.w) X.A (assignInOrder ((assignEach ts X.env).map (·.2)) us) (fun _ s' => ∃ σ' H', Inv X pins σ' H' s' ∧ Q σ' H') X.xe s
abbrev TSet := V → V → V → Hp → (Hp → Prop) → Prop
def PSet (X : Cx) (t : TSet) : Prop :=
  ∀ (pins : List (Addr × Obj)) (s : Shared) (σ : St) (H : Hp) (o i v : V) (ov iv u : Value) (Q : Hp → Prop), Inv X pins σ H s → RelV o ov → RelV i iv → RelV v u → t o i v H Q →
    wpAny (model X.prog X.w) X.A (setItem ov iv u) (fun _ s' => ∃ H', Inv X pins σ H' s' ∧ Q H') X.xe s
abbrev TIp := V → V → Hp → VK → Prop
def PIp (X : Cx) (op : Operator) (t : TIp) : Prop :=
  ∀ (pins : List (Addr × Obj)) (s : Shared) (σ : St) (H : Hp) (x y : V) (v u : Value) (Q : VK), Inv X pins σ H s → RelV x v → RelV y u → t x y H Q →
    wpAny (model X.prog X.w) X.A (inplaceOp op v u) (EP X pins σ Q) X.xe s
section
variable {X : Cx} {pos : Pos}
def gName (i : Nat) : TG := fun v σ H Q => Q (σ.set i (some v)) H
theorem pg_name {i : Nat} {x : Str} (hN : X.N.Nodup) (hi : X.N[i]? = some x) (hx : Loc X.env.scope x) (hf : X.fn x = true ∨ X.env.scope.names.lookup x = some .local := by first | exact .inl rfl | exact .inr rfl | assumption) : PG X (.Name x pos) (gName i) := by
  intro pins s σ H v u Q I r h
  exact wpAny_assign_Name (store_ok I hN hi hx r (fun s' I' => ⟨_, H, I', h⟩) hf)
def gNil : TGs := fun vs σ H Q => vs = [] ∧ Q σ H
def gCons (t : TG) (u : TGs) : TGs := fun vs σ H Q => ∃ v r, vs = v :: r ∧ t v σ H fun σ' H' => u r σ' H' Q
theorem pgs_nil : PGs X [] gNil := by
  intro pins s σ H vs us Q I r h
  obtain ⟨e, h⟩ := h
  subst e
  cases r
  exact assignInOrder_nil ⟨σ, H, I, h⟩
theorem pgs_cons {e : Expr} {es : List Expr} {t : TG} {u : TGs} (h1 : PG X e t) (h2 : PGs X es u)
    (hs : (assignEach (e :: es) X.env).map (·.2) = assign e X.env :: (assignEach es X.env).map (·.2) := by rfl) : PGs X (e :: es) (gCons t u) := by
  intro pins s σ H vs us Q I r h
  obtain ⟨v, vr, e1, h⟩ := h
  subst e1
  cases r with
  | cons r rr =>
    rw [hs]
    refine assignInOrder_cons (thn (h1 pins s σ H _ _ _ I r h) fun _ s1 ⟨σ1, H1, I1, q1⟩ => ?_)
    exact h2 pins s1 σ1 H1 _ _ Q I1 rr q1
def gTup (K : PySem.W.Frag) (n : Nat) (t : TGs) : TG := fun v σ H Q => ∃ a xs, v = .ref a ∧ SqT K H a xs ∧ xs.length = n ∧ t xs σ H Q
theorem pg_tup {es : List Expr} {k : Nat} {t : TGs} {n : Nat} (hc : X.calm = true) (h : PGs X es t)
    (hn : (assignEach es X.env).length = n := by rfl) (hst : (assignEach es X.env).findIdx? (·.1) = none := by rfl) : PG X (.Tuple es k pos) (gTup X.K n t) := by
  intro pins s σ H v u Q I r hw
  obtain ⟨a, xs, e1, hq, hl, hw⟩ := hw
  subst e1
  cases r
  obtain ⟨its, rv, ht, hz⟩ := I.tuple hq
  refine assign_Tuple_tuple (I.ok.hd hc) ht (by simp [hn, ← hl, rv.length]) hst fun h' hx => ?_
  have I1 : Inv X pins σ H { s with heap := h' } := I.kept (t' := s.toks) fun b o e => hx b o (Nat.ne_of_lt (Heap.lt_size e)) e
  exact h pins _ σ H xs _ Q I1 (by simpa using rv) hw
def gSub (to ti : TE) (t : TSet) : TG := fun v σ H Q => to σ H fun o H1 => ti σ H1 fun i H2 => t o i v H2 fun H3 => Q σ H3
theorem pg_sub {o i : Expr} {to ti : TE} {t : TSet} (ho : PE X o to) (hi : PE X i ti) (hs : PSet X t)
    (ha : ∀ v, assign (.Subscript o i pos) X.env v = (do
      let ov ← holding [v] (eval o X.env)
      let iv ← holding [v, ov] (eval i X.env)
      standAt pos
      holding [v, ov, iv] (setItem ov iv v)
      release [v, ov, iv] []) := by intro _; rfl) : PG X (.Subscript o i pos) (gSub to ti t) := by
  intro pins s σ H v u Q I r h
  rw [ha]
  refine wpAny_bind (wpAny_holding (thn (ho pins s σ H _ I h) fun ov s1 ⟨x, H1, I1, r1, q1⟩ => ?_))
  refine wpAny_bind (wpAny_holding (thn (hi pins s1 σ H1 _ I1 q1) fun iv s2 ⟨y, H2, I2, r2, q2⟩ => ?_))
  refine wpAny_bind (wpAny_standAt (wpAny_bind (wpAny_holding (thn (hs pins s2 σ H2 x y v ov iv u _ I2 r1 r2 r q2) fun _ s3 ⟨H3, I3, q3⟩ => ?_))))
  exact wpAny_release ⟨σ, H3, I3, q3⟩
def tAsg (te : TE) (g : TG) : TS := fun D σ H => te σ H fun x H1 => g x σ H1 D.nx
theorem ps_asg {tg e : Expr} {te : TE} {g : TG} (he : PE X e te) (hg : PG X tg g) (hs : swapsWithSole [tg] e pos.line X.env = pure false := by rfl) (hw : swappedStores [tg] e X.env = pure none := by rfl)
    (h1 : (assignEach [tg] X.env).map (·.2) = [assign tg X.env] := by rfl) : PS X (.Assign [tg] e pos) (tAsg te g) := by
  intro pins s σ H D I h
  refine wpAny_Assign_stores (thn (he pins s σ H _ I h) fun v s1 ⟨x, H1, I1, r1, q1⟩ => ?_) hs hw
  rw [h1]
  exact thn (hg pins s1 σ H1 x v _ I1 r1 q1) fun _ s2 q => q
theorem ps_set {i : Nat} {x : Str} {e : Expr} {te : TE} {pos' : Pos} (hN : X.N.Nodup) (hi : X.N[i]? = some x) (hx : Loc X.env.scope x) (he : PE X e te) (hs : swapsWith e (some (.Name x pos')) pos.line X.env = pure false := by rfl) (hf : X.fn x = true ∨ X.env.scope.names.lookup x = some .local := by first | exact .inl rfl | exact .inr rfl | assumption) :
    PS X (.Assign [.Name x pos'] e pos) (tAsg te (gName i)) := by
  intro pins s σ H D I h
  refine wpAny_Assign_Name (thn (he pins s σ H _ I h) fun v s1 ⟨y, H1, I1, r1, q1⟩ => ?_) hs
  exact store_ok I1 hN hi hx r1 (fun s2 I2 => ⟨_, H1, I2, q1⟩) hf
def tAug (i : Nat) (te : TE) (ti : TIp) : TS := fun D σ H => ∃ x, σ[i]? = some (some x) ∧ te σ H fun y H1 => ti x y H1 fun z H2 => D.nx (σ.set i (some z)) H2
theorem ps_aug {i : Nat} {x : Str} {e : Expr} {te : TE} {op : Operator} {ti : TIp} {pos' : Pos} (hN : X.N.Nodup) (hi : X.N[i]? = some x) (hx : Loc X.env.scope x) (he : PE X e te) (ho : PIp X op ti) (hf : X.fn x = true ∨ X.env.scope.names.lookup x = some .local := by first | exact .inl rfl | exact .inr rfl | assumption) :
    PS X (.AugAssign (.Name x pos') op e pos) (tAug i te ti) := by
  intro pins s σ H D I h
  obtain ⟨v, e1, h⟩ := h
  obtain ⟨m, hn, hl⟩ := I.loc
  have vis : Vis X.env.scope x := by rcases hx with k | k; exact .inl k; exact .inr (.inl k)
  obtain ⟨u, r, l⟩ := hl i x v hi e1 vis
  refine wpAny_AugAssign_Name ?_
  have go : wpAny (model X.prog X.w) X.A (eval e X.env) (fun w s₂ => wpAny (model X.prog X.w) X.A (inplaceOp op u w) (fun r s₃ => wpAny (model X.prog X.w) X.A (storeName X.env x r) (fun _ => SP X pins D .next) X.xe s₃) X.xe s₂) X.xe s := by
    refine thn (he pins s σ H _ I h) fun w s1 ⟨y, H1, I1, r1, q1⟩ => ?_
    refine thn (ho pins s1 σ H1 v y u w _ I1 r r1 q1) fun z s2 ⟨zv, H2, I2, r2, q2⟩ => ?_
    exact store_ok I2 hN hi hx r2 (fun s3 I3 => ⟨_, H2, I3, q2⟩) hf
  rcases l with ⟨hk, hm⟩ | ⟨hk, c, hc, hcell⟩
  · exact wpAny_loadName_local I.ok.kind hk hn hm go
  · rcases hk with hk | hk
    · exact wpAny_loadName_cell I.ok.kind hk hc hcell go
    · rcases hx with k | k
      · have : X.env.scope.names.lookup x = some .free := hk
        rw [k] at this; cases this
      · have : X.env.scope.names.lookup x = some .free := hk
        rw [k] at this; cases this
end
section
variable {X : Cx} {pos : Pos}
def tWhile (c : TT) (tb : TS) : TS := fun D σ H => ∃ W : Nat → St → Hp → Prop, (∃ m, W m σ H) ∧ ∀ m σ H, W m σ H →
  c σ H fun b H1 => if b = true then ∃ N : St → Hp → Prop, (∀ σ' H', N σ' H' → ∃ m', m' < m ∧ W m' σ' H') ∧ tb { D with nx := N, ct := N, bk := D.nx } σ H1 else D.nx σ H1
theorem ps_while {c : Expr} {body : List Stmt} {tc : TT} {tb : TS} (hp : PassesOwn (model X.prog X.w) X.A X.env X.xe) (hc : PT X c tc) (hb : PSs X body tb) : PS X (.While c body [] pos) (tWhile tc tb) := by
  intro pins s σ H D I h
  obtain ⟨W, ⟨m0, w0⟩, turn⟩ := h
  refine wpAny_While (codeAny_whileLoop (fun n s' => ∃ σ' H', Inv X pins σ' H' s' ∧ W n σ' H') ?_ m0 ⟨σ, H, I, w0⟩)
  rintro n s1 ⟨σ1, H1, I1, w1⟩
  refine wpAny_passesOwn hp (thn (hc pins s1 σ1 H1 _ I1 (turn n σ1 H1 w1)) fun b s2 ⟨H2, I2, q2⟩ => ?_)
  cases b with
  | true =>
    obtain ⟨N, hN, q2⟩ := q2
    rw [if_pos rfl]
    refine wpAny_passesOwn hp (thn (hb pins s2 σ1 H2 _ I2 q2) fun f s3 q3 => ?_)
    cases f with
    | next =>
      obtain ⟨σ3, H3, I3, n3⟩ := q3
      obtain ⟨m', hm, w3⟩ := hN σ3 H3 n3
      exact ⟨m', hm, σ3, H3, I3, w3⟩
    | cont =>
      obtain ⟨σ3, H3, I3, n3⟩ := q3
      obtain ⟨m', hm, w3⟩ := hN σ3 H3 n3
      exact ⟨m', hm, σ3, H3, I3, w3⟩
    | brk => exact q3
    | ret v => exact q3
  | false =>
    rw [if_neg Bool.false_ne_true]
    exact wpAny_execs_nil ⟨σ1, H2, I2, q2⟩
end
structure It where
  go : Nat → Hp → Prop
  yld : Nat → Hp → V → Hp → Prop
  stop : Nat → Hp → Prop
def FpOk (X : Cx) (pins : List (Addr × Obj)) (H : Hp) (b : Addr) : Prop :=
  H b = none ∧ b ≠ X.env.locals ∧ b ∉ X.fs ∧ (b ∈ X.ex ∨ X.s₀.heap.objs.size ≤ b) ∧ (∀ x c, X.env.cells.lookup x = some c → c ≠ b) ∧ ∀ p ∈ X.pn ++ pins, p.1 ≠ b
theorem Inv.fpOk {X : Cx} {pins : List (Addr × Obj)} {σ : St} {H H' : Hp} {s : Shared} {b : Addr} (I : Inv X pins σ H s) (hb : s.heap.objs.size ≤ b) (hn : H' b = none) : FpOk X pins H' b := by
  refine ⟨hn, Nat.ne_of_gt (Nat.lt_of_lt_of_le I.lt hb), I.nofs hb, .inr (Nat.le_trans I.sz hb), fun x c e z => ?_, fun p hp z => ?_⟩
  · obtain ⟨v, q⟩ := I.cell x c e
    exact absurd (Nat.lt_of_lt_of_le q.lt (by rw [z]; exact hb)) (Nat.lt_irrefl _)
  · exact absurd (Nat.lt_of_lt_of_le (Heap.lt_size (I.pin p hp).1) (by rw [z]; exact hb)) (Nat.lt_irrefl _)
structure Turn (P : Program) (w : World) (K : PySem.W.Frag) (tg : Expr) (J : It) (fp : List Addr) (it : Addr) (tn : Nat → Heap → Prop) : Prop where
  mem : it ∈ fp
  obj : ∀ i h, tn i h → ∀ b ∈ fp, ∃ o, h.get? b = some o ∧ ∀ v, o.data ≠ .cell v
  keep : ∀ i h h', tn i h → (∀ b ∈ fp, ∀ o, h.get? b = some o → h'.get? b = some o) → tn i h'
  item : ∀ (X : Cx), X.prog = P → X.w = w → X.K = K → X.calm = true → ∀ (i : Nat) (pins : List (Addr × Obj)) (s : Shared) (σ : St) (H : Hp) (E : Value → Shared → Prop), Inv X pins σ H s → (∀ b ∈ fp, FpOk X pins H b) → tn i s.heap → J.go i H →
    wpAny (model P w) X.A (pyNext (.ref it)) (fun r s1 => ∃ u, r = some u ∧
      wpAny (model P w) X.A (letOwnedTupleGo tg (.ref it) u) (fun _ s2 => ∃ x H', Inv X pins σ H' s2 ∧ RelV x u ∧ J.yld i H x H' ∧ tn (i + 1) s2.heap ∧ ∀ b ∈ fp, H' b = none) E s1) E s
  done : ∀ (X : Cx), X.prog = P → X.w = w → X.K = K → X.calm = true → ∀ (i : Nat) (pins : List (Addr × Obj)) (s : Shared) (σ : St) (H : Hp) (E : Value → Shared → Prop), Inv X pins σ H s → (∀ b ∈ fp, FpOk X pins H b) → tn i s.heap → J.stop i H →
    wpAny (model P w) X.A (pyNext (.ref it)) (fun r s1 => r = none ∧ Inv X pins σ H s1) E s
  self : ∀ (A : Around) (i : Nat) (s : Shared) (Q : Value → Shared → Prop) (E : Value → Shared → Prop), tn i s.heap → Q (.ref it) s → wpAny (model P w) A (pyIter (.ref it)) Q E s
abbrev TI := St → Hp → (It → Hp → Prop) → Prop
def PIE (X : Cx) (pins : List (Addr × Obj)) (σ : St) (tg : Expr) (R : It → Hp → Prop) (itv : Value) (s2 : Shared) : Prop :=
  ∃ (it : Addr) (fp : List Addr) (tn : Nat → Heap → Prop) (J : It) (H' : Hp), itv = .ref it ∧ Inv X pins σ H' s2 ∧ Turn X.prog X.w X.K tg J fp it tn ∧ tn 0 s2.heap ∧ (∀ b ∈ fp, FpOk X pins H' b) ∧ R J H'
def PI (X : Cx) (tg iter : Expr) (wi : TI) : Prop :=
  ∀ (pins : List (Addr × Obj)) (s : Shared) (σ : St) (H : Hp) (R : It → Hp → Prop), Inv X pins σ H s → wi σ H R →
    wpAny (model X.prog X.w) X.A (eval iter X.env) (fun v s1 => wpAny (model X.prog X.w) X.A (pyIter v) (PIE X pins σ tg R) X.xe s1) X.xe s
theorem go_of {M : Model} {A : Around} {E : Value → Shared → Prop} {s : Shared} {tg : Expr} {it : Addr} {u : Value} {o : Obj} {n : String} {vs : Array Value} {Q : Unit → Shared → Prop} (ho : s.heap.get? it = some o) (hc : o.cls = .type n) (hd : o.data = .fields vs)
    (hn : ["enumerate", "zip", "dict_itemiterator", "dict_reverseitemiterator", "odict_iterator", "itertools.zip_longest", "itertools.pairwise"].contains n = false) (hQ : Q () s) : wpAny M A (letOwnedTupleGo tg (.ref it) u) Q E s := by
  unfold letOwnedTupleGo
  cases tg <;> first
    | exact wpAny_pure hQ
    | (cases u <;> first
        | exact wpAny_pure hQ
        | (refine wpAny_bind (wpAny_load ho ?_)
           rw [hc, hd]
           show wpAny M A (if (["enumerate", "zip", "dict_itemiterator", "dict_reverseitemiterator", "odict_iterator", "itertools.zip_longest", "itertools.pairwise"].contains n && vs[0]? == some (rawInt _)) = true then _ else _) Q E s
           rw [if_neg (by intro h; rw [hn, Bool.false_and] at h; cases h)]
           exact wpAny_pure hQ))
def Itl (K : PySem.W.Frag) (a : Addr) : It :=
  ⟨fun i H => ∃ xs x, SqL K H a xs ∧ xs[i]? = some x, fun i H x H' => H' = H ∧ ∀ xs, SqL K H a xs → xs[i]? = some x, fun i H => ∃ xs, SqL K H a xs ∧ xs.length ≤ i⟩
def Itr (lo : Int) (n : Nat) : It := ⟨fun i _ => i < n, fun i H x H' => H' = H ∧ x = .int (lo + i), fun i _ => n ≤ i⟩
theorem turn_list {P : Program} {w : World} {K : PySem.W.Frag} {tg : Expr} (a it : Addr) : Turn P w K tg (Itl K a) [it] it (fun i h => h.IsListIter it a i) where
  mem := by simp
  obj := fun i h st b hb => by
    have e : b = it := by simpa using hb
    subst e
    obtain ⟨o, e, c, d⟩ := st
    exact ⟨o, e, fun v z => by rw [d] at z; cases z⟩
  keep := fun i h h' st k => st.at fun o e => k it (by simp) o e
  item := by
    intro X hP hw hK hc i pins s σ H E I hf st hg
    subst hP hw hK
    obtain ⟨xs, x, hq, hx⟩ := hg
    obtain ⟨its, rv, p, hz⟩ := I.list hq
    obtain ⟨u, hu, ru⟩ := rv.get hx
    obtain ⟨f0, f1, f2, f3, f4, f5⟩ := hf it (by simp)
    refine wpAny_pyNext_list_item st p.isList (x := u) (by simpa using hu) fun h' st' sb => ?_
    have I1 : Inv X pins σ H { s with heap := h' } := I.turned (t' := s.toks) (fun b o hb e => (sb.2 b hb).trans e) f0 f1 f3 f4 f5
    obtain ⟨o, e, c, d⟩ := id st'
    exact ⟨u, rfl, go_of (s := { s with heap := h' }) e c d (by decide) ⟨x, H, I1, ru, ⟨rfl, fun ys hy => by rw [I.list_inj hy hq]; exact hx⟩, st', fun b hb => (hf b hb).1⟩⟩
  done := by
    intro X hP hw hK hc i pins s σ H E I hf st hg
    subst hP hw hK
    obtain ⟨xs, hq, hx⟩ := hg
    obtain ⟨its, rv, p, hz⟩ := I.list hq
    obtain ⟨f0, f1, f2, f3, f4, f5⟩ := hf it (by simp)
    have hl := rv.length
    exact wpAny_pyNext_list_end (I.ok.hd hc) st p.isList (by simp; omega) fun h' eb => ⟨rfl, I.turned (t' := s.toks) (fun b o hb e => eb b o hb e) f0 f1 f3 f4 f5⟩
  self := fun _ _ _ _ _ st h => wpAny_pyIter_listiter st h
theorem turn_range {P : Program} {w : World} {K : PySem.W.Frag} {tg : Expr} (it : Addr) (lo : Int) (n : Nat) : Turn P w K tg (Itr lo n) [it] it (fun i h => IsRangeIter h it (lo + (i : Nat) * 1) ((n : Int) - (i : Nat)) 1) where
  mem := by simp
  obj := fun i h st b hb => by
    have e : b = it := by simpa using hb
    subst e
    exact ⟨_, st, fun v z => by
      have z' : Data.fields _ = Data.cell v := z
      cases z'⟩
  keep := fun i h h' st k => k it (by simp) _ st
  item := by
    intro X hP hw hK hc i pins s σ H E I hf st hg
    subst hP hw hK
    obtain ⟨f0, f1, f2, f3, f4, f5⟩ := hf it (by simp)
    have W := Walks.range (prog := X.prog) (w := X.w) (I.ok.hd hc) it lo 1 n
    refine W.item i s _ _ hg st fun v h' tk hv st' kk => ?_
    obtain ⟨t, rfl⟩ := hv
    have I1 : Inv X pins σ H { s with heap := h', toks := tk } := I.turned (fun b o hb e => kk b o (by simpa using hb) e) f0 f1 f3 f4 f5
    refine ⟨_, rfl, go_of (s := { s with heap := h', toks := tk }) (n := "range_iterator") st' rfl rfl (by decide) ⟨.int (lo + i), H, I1, ⟨t, ?_⟩, ⟨rfl, rfl⟩, st', fun b hb => (hf b hb).1⟩⟩
    rw [Int.mul_one]
  done := by
    intro X hP hw hK hc i pins s σ H E I hf st hg
    subst hP hw hK
    obtain ⟨f0, f1, f2, f3, f4, f5⟩ := hf it (by simp)
    exact wpAny_pyNext_range_end (I.ok.hd hc) st (by have : n ≤ i := hg; omega) fun h' eb => ⟨rfl, I.turned (t' := s.toks) (fun b o hb e => eb b o hb e) f0 f1 f3 f4 f5⟩
  self := fun _ _ _ _ _ st h => wpAny_pyIter_rangeiter st h
end L2
namespace L2
open PySem PySem.Spec PyProof.Rows
section
variable {X : Cx} {tg : Expr}
def iList (K : PySem.W.Frag) (tl : TE) : TI := fun σ H R => tl σ H fun x H1 => ∃ a, x = .ref a ∧ (∃ xs, SqL K H1 a xs) ∧ R (Itl K a) H1
theorem pi_list {l : Expr} {tl : TE} (hl : PE X l tl) : PI X tg l (iList X.K tl) := by
  intro pins s σ H R I h
  refine thn (hl pins s σ H _ I h) fun v s1 ⟨x, H1, I1, r1, q1⟩ => ?_
  obtain ⟨a, e, ⟨xs, hq⟩, q⟩ := q1
  subst e
  cases r1
  obtain ⟨its, rv, p, hz⟩ := I1.list hq
  refine wpAny_pyIter_list p.isList ?_
  refine ⟨s1.heap.objs.size, [s1.heap.objs.size], _, _, H1, rfl, I1.kept (t' := s1.toks) fun b o e => Heap.get?_push_of_some _ e, turn_list a _, ⟨_, Heap.get?_push_size _ rfl, rfl, rfl⟩, fun b hb => ?_, q⟩
  have e : b = s1.heap.objs.size := by simpa using hb
  subst e
  exact I1.fpOk (Nat.le_refl _) (I1.hok.fresh (Nat.le_refl _))
theorem range_it {pins : List (Addr × Obj)} {σ : St} {H : Hp} {s : Shared} {R : It → Hp → Prop} {E : Value → Shared → Prop} {lo hi : Int} {t u v : Tok} {tk : Nat} (I : Inv X pins σ H s) (h1 : -(2 ^ 62) ≤ lo) (h2 : lo < 2 ^ 62) (h3 : -(2 ^ 62) ≤ hi) (h4 : hi < 2 ^ 62)
    (q : R (Itr lo (hi - lo).toNat) H) : wpAny (model X.prog X.w) X.A (pyIter (.ref s.heap.objs.size)) (PIE X pins σ tg R) E { s with heap := s.heap.push { cls := .type "range", data := .fields #[.int lo t, .int hi u, .int 1 v] }, toks := tk } := by
  refine wpAny_pyIter_range (IsRange.new ..) (small_one h1 h2 h3 h4) ?_
  have I1 : Inv X pins σ H { s with heap := s.heap.push { cls := .type "range", data := .fields #[.int lo t, .int hi u, .int 1 v] }, toks := tk } := I.kept fun b o e => Heap.get?_push_of_some _ e
  refine ⟨(s.heap.push { cls := .type "range", data := .fields #[.int lo t, .int hi u, .int 1 v] }).objs.size, [(s.heap.push { cls := .type "range", data := .fields #[.int lo t, .int hi u, .int 1 v] }).objs.size], _, _, H, rfl,
    I1.kept (t' := tk) fun b o e => Heap.get?_push_of_some _ e, turn_range _ lo (hi - lo).toNat, ?_, fun b hb => ?_, q⟩
  · have e1 : lo + ((0 : Nat) : Int) * 1 = lo := by simp
    have e2 : (((hi - lo).toNat : Nat) : Int) - ((0 : Nat) : Int) = Builtin.Range.rangeSize lo hi 1 := by rw [rangeSize_one]; split <;> omega
    show IsRangeIter _ _ (lo + ((0 : Nat) : Int) * 1) ((((hi - lo).toNat : Nat) : Int) - ((0 : Nat) : Int)) 1
    rw [e1, e2]
    exact Heap.get?_push_size _ rfl
  · have e : b = (s.heap.push { cls := .type "range", data := .fields #[.int lo t, .int hi u, .int 1 v] }).objs.size := by simpa using hb
    subst e
    exact I1.fpOk (Nat.le_refl _) (I1.hok.fresh (Nat.le_refl _))
def iRng1 (ta : TA) : TI := fun σ H R => ta σ H fun vs H1 => ∃ j : Int, vs = [.int j] ∧ -(2 ^ 62) ≤ j ∧ j < 2 ^ 62 ∧ R (Itr 0 j.toNat) H1
def iRng2 (ta : TA) : TI := fun σ H R => ta σ H fun vs H1 => ∃ i j : Int, vs = [.int i, .int j] ∧ (-(2 ^ 62) ≤ i ∧ i < 2 ^ 62 ∧ -(2 ^ 62) ≤ j ∧ j < 2 ^ 62) ∧ R (Itr i (j - i).toNat) H1
theorem pi_range1 {a : Expr} {ta : TA} {p pos : Pos} (hg : Gl X "range") (hm : X.mg "range" = none) (ha : PA X [a] ta) (hs : starEach [a] X.env = [(false, eval a X.env)] := by rfl) : PI X tg (.Call (.Name "range" p) [a] [] pos) (iRng1 ta) := by
  intro pins s σ H R I h
  refine Call_ (ld_blt I hg hm boot_range (PyProof.Rows.callWith_type1 (thn (ha pos pins s σ H _ I h) fun us s1 ⟨vs, H1, I1, r1, q1⟩ => ?_) hs rfl))
  obtain ⟨j, e, q1, q2, q⟩ := q1
  subst e
  cases r1 with
  | cons r rr =>
    cases rr
    obtain ⟨t, rfl⟩ := r
    exact call_range_1 (range_it I1 (by omega) (by omega) q1 q2 (by simpa using q))
theorem pi_range2 {a b : Expr} {ta : TA} {p pos : Pos} (hg : Gl X "range") (hm : X.mg "range" = none) (ha : PA X [a, b] ta) (hs : starEach [a, b] X.env = [(false, eval a X.env), (false, eval b X.env)] := by rfl) (hs2 : starEach [b] X.env = [(false, eval b X.env)] := by rfl) :
    PI X tg (.Call (.Name "range" p) [a, b] [] pos) (iRng2 ta) := by
  intro pins s σ H R I h
  refine Call_ (ld_blt I hg hm boot_range (PyProof.Rows.callWith_type1 (thn (ha pos pins s σ H _ I h) fun us s1 ⟨vs, H1, I1, r1, q1⟩ => ?_) (by rw [hs, hs2]) (by rw [hs2]; rfl)))
  obtain ⟨i, j, e, ⟨q1, q2, q3, q4⟩, q⟩ := q1
  subst e
  cases r1 with
  | cons r rr =>
    cases rr with
    | cons r' rr =>
      cases rr
      obtain ⟨t, rfl⟩ := r
      obtain ⟨t', rfl⟩ := r'
      exact call_range_2 (range_it I1 q1 q2 q3 q4 q)
def tFor (wi : TI) (g : TG) (tb : TS) : TS := fun D σ H => wi σ H fun J H1 => ∃ W : Nat → Nat → St → Hp → Prop, (∃ m, W 0 m σ H1) ∧ ∀ i m σ H, W i m σ H →
  (J.stop i H ∧ D.nx σ H) ∨ (J.go i H ∧ ∃ N : St → Hp → Prop, (∀ σ' H', N σ' H' → ∃ m', m' < m ∧ W (i + 1) m' σ' H') ∧ ∀ x H', J.yld i H x H' → g x σ H' fun σ2 H2 => tb { D with nx := N, ct := N, bk := D.nx } σ2 H2)
def pinsAt (fp : List Addr) (h : Heap) : List (Addr × Obj) := fp.filterMap fun b => (h.get? b).map fun o => (b, o)
theorem mem_pinsAt {fp : List Addr} {h : Heap} {b : Addr} {o : Obj} (hb : b ∈ fp) (e : h.get? b = some o) : (b, o) ∈ pinsAt fp h := List.mem_filterMap.mpr ⟨b, hb, by rw [e]; rfl⟩
theorem of_pinsAt {fp : List Addr} {h : Heap} {p : Addr × Obj} (hp : p ∈ pinsAt fp h) : p.1 ∈ fp ∧ h.get? p.1 = some p.2 := by
  obtain ⟨b, hb, e⟩ := List.mem_filterMap.mp hp
  cases q : h.get? b with
  | none => rw [q] at e; cases e
  | some o =>
    rw [q] at e
    have e' : (b, o) = p := Option.some.inj e
    subst e'
    exact ⟨hb, q⟩
theorem Inv.pinned {pins : List (Addr × Obj)} {σ : St} {H : Hp} {s : Shared} {fp : List Addr} (I : Inv X pins σ H s) (hf : ∀ b ∈ fp, FpOk X pins H b) (ho : ∀ b ∈ fp, ∃ o, s.heap.get? b = some o ∧ ∀ v, o.data ≠ .cell v) : Inv X (pins ++ pinsAt fp s.heap) σ H s :=
  I.pins_of fun p hp => (List.mem_append.mp hp).elim (fun z => I.pin p (List.mem_append_right _ z)) fun z => by
    obtain ⟨hb, e⟩ := of_pinsAt z
    obtain ⟨f0, f1, f2, _⟩ := hf p.1 hb
    obtain ⟨o, e', d⟩ := ho p.1 hb
    rw [e] at e'; cases e'
    exact ⟨e, f0, f1, f2, d⟩
theorem Inv.unpinned {pins pl : List (Addr × Obj)} {σ : St} {H : Hp} {s : Shared} (I : Inv X (pins ++ pl) σ H s) : Inv X pins σ H s := I.pins_of fun p hp => I.pin p (List.mem_append_right _ (List.mem_append_left _ hp))
theorem ps_for {iter : Expr} {body : List Stmt} {wi : TI} {g : TG} {tb : TS} {pos : Pos} (hp : PassesOwn (model X.prog X.w) X.A X.env X.xe) (hc : X.calm = true) (hi : PI X tg iter wi) (hg : PG X tg g) (hb : PSs X body tb)
    (hs : ∀ x, foldedSetIterable iter X.env x = pure x := by intro _; rfl) : PS X (.For tg iter body [] pos) (tFor wi g tb) := by
  intro pins s σ H D I h
  refine wpAny_For (thn (hi pins s σ H _ I h) fun v s1 h1 => thn h1 fun itv s2 h2 => ?_) hs
  obtain ⟨it, fp, tn, J, H2, e, I2, T, st2, f2, W, ⟨m0, w0⟩, turn⟩ := h2
  subst e
  have stat : ∀ {H' : Hp}, (∀ b ∈ fp, H' b = none) → ∀ b ∈ fp, FpOk X pins H' b := fun hn b hb => ⟨hn b hb, (f2 b hb).2⟩
  refine codeAny_forLoop_any (fun n s' => ∃ i σ' H', Inv X pins σ' H' s' ∧ tn i s'.heap ∧ (∀ b ∈ fp, H' b = none) ∧ W i n σ' H') ?_ m0 ⟨0, σ, H2, I2, st2, fun b hb => (f2 b hb).1, w0⟩
  rintro n s3 ⟨i, σ3, H3, I3, st3, fr3, w3⟩
  rcases turn i n σ3 H3 w3 with ⟨stop, qn⟩ | ⟨go, N, hN, step⟩
  · refine wpAny_passesOwn hp (thn (T.done X rfl rfl rfl hc i pins s3 σ3 H3 X.xe I3 (stat fr3) st3 stop) fun r s4 ⟨hr, I4⟩ => ?_)
    subst hr
    exact wpAny_execs_nil ⟨σ3, H3, I4, qn⟩
  · refine wpAny_passesOwn hp (thn (T.item X rfl rfl rfl hc i pins s3 σ3 H3 X.xe I3 (stat fr3) st3 go) fun r s4 ⟨u, hr, h4⟩ => ?_)
    subst hr
    refine wpAny_passesOwn hp (thn h4 fun _ s5 ⟨x, H5, I5, r5, y5, st5, fr5⟩ => ?_)
    have I5' := I5.pinned (stat fr5) (T.obj _ _ st5)
    refine wpAny_passesOwn hp (thn (hg _ s5 σ3 H5 x u _ I5' r5 (step x H5 y5)) fun _ s6 ⟨σ6, H6, I6, q6⟩ => ?_)
    refine wpAny_passesOwn hp (thn (hb _ s6 σ6 H6 _ I6 q6) fun f s7 q7 => ?_)
    have again : ∀ {σ7 : St} {H7 : Hp}, Inv X (pins ++ pinsAt fp s5.heap) σ7 H7 s7 → N σ7 H7 → ∃ m, m < n ∧ ∃ i σ' H', Inv X pins σ' H' s7 ∧ tn i s7.heap ∧ (∀ b ∈ fp, H' b = none) ∧ W i m σ' H' := fun {σ7 H7} I7 n7 => by
      obtain ⟨m', hm, w7⟩ := hN σ7 H7 n7
      refine ⟨m', hm, i + 1, σ7, H7, I7.unpinned, T.keep _ _ _ st5 fun b hb o e => (I7.pin (b, o) (List.mem_append_right _ (List.mem_append_right _ (mem_pinsAt hb e)))).1, fun b hb => ?_, w7⟩
      obtain ⟨o, e, d⟩ := T.obj _ _ st5 b hb
      exact (I7.pin (b, o) (List.mem_append_right _ (List.mem_append_right _ (mem_pinsAt hb e)))).2.1
    cases f with
    | next => obtain ⟨σ7, H7, I7, n7⟩ := q7; exact again I7 n7
    | cont => obtain ⟨σ7, H7, I7, n7⟩ := q7; exact again I7 n7
    | brk => obtain ⟨σ7, H7, I7, q7⟩ := q7; exact ⟨σ7, H7, I7.unpinned, q7⟩
    | ret v => obtain ⟨x7, σ7, H7, I7, r7, q7⟩ := q7; exact ⟨x7, σ7, H7, I7.unpinned, r7, q7⟩
end
end L2
namespace L2
open PySem PySem.Spec PyProof.Rows
abbrev R2 := V → V → Hp → VK → Prop
def OpR (X : Cx) (f : Value → Value → Sem Value) (r : R2) : Prop :=
  ∀ (pins : List (Addr × Obj)) (s : Shared) (σ : St) (H : Hp) (x y : V) (v u : Value) (Q : VK), Inv X pins σ H s → RelV x v → RelV y u → r x y H Q →
    wpAny (model X.prog X.w) X.A (f v u) (EP X pins σ Q) X.xe s
def UnR (X : Cx) (f : Value → Sem Value) (r : V → Hp → VK → Prop) : Prop :=
  ∀ (pins : List (Addr × Obj)) (s : Shared) (σ : St) (H : Hp) (x : V) (v : Value) (Q : VK), Inv X pins σ H s → RelV x v → r x H Q →
    wpAny (model X.prog X.w) X.A (f v) (EP X pins σ Q) X.xe s
def CallR (X : Cx) (f : Value) (r : List V → Hp → VK → Prop) : Prop :=
  ∀ (pins : List (Addr × Obj)) (s : Shared) (σ : St) (H : Hp) (xs : List V) (us : List Value) (Q : VK), Inv X pins σ H s → Vals xs us → r xs H Q →
    wpAny (model X.prog X.w) X.A (call f us) (EP X pins σ Q) X.xe s
def TruR (X : Cx) (r : V → Hp → (Bool → Hp → Prop) → Prop) : Prop :=
  ∀ (pins : List (Addr × Obj)) (s : Shared) (σ : St) (H : Hp) (x : V) (v : Value) (Q : Bool → Hp → Prop), Inv X pins σ H s → RelV x v → r x H Q →
    wpAny (model X.prog X.w) X.A (truthy v) (TP X pins σ Q) X.xe s
def tOp (r : R2) (ta tb : TE) : TE := fun σ H Q => ta σ H fun x H1 => tb σ H1 fun y H2 => r x y H2 Q
def tUn (r : V → Hp → VK → Prop) (ta : TE) : TE := fun σ H Q => ta σ H fun x H1 => r x H1 Q
def rI (C : Int → Int → Prop) (g : Int → Int → V) : R2 := fun x y H Q => ∃ i j, x = .int i ∧ y = .int j ∧ C i j ∧ Q (g i j) H
def rI0 (g : Int → Int → V) : R2 := fun x y H Q => ∃ i j, x = .int i ∧ y = .int j ∧ Q (g i j) H
def rU (g : Int → V) : V → Hp → VK → Prop := fun x H Q => ∃ i, x = .int i ∧ Q (g i) H
section
variable {X : Cx} {a b c : Expr} {ta tb tc : TE} {pos : Pos}
theorem binT (ha : PE X a ta) (hb : PE X b tb) {pins : List (Addr × Obj)} {s : Shared} {σ : St} {H : Hp} {R : V → V → Hp → Prop} (I : Inv X pins σ H s)
    (h : ta σ H fun x H1 => tb σ H1 fun y H2 => R x y H2) {Q : Value → Shared → Prop} {f : Value → Value → Sem Value}
    (hf : ∀ v u s2 x y H2, Inv X pins σ H2 s2 → RelV x v → RelV y u → R x y H2 → wpAny (model X.prog X.w) X.A (f v u) Q X.xe s2) :
    wpAny (model X.prog X.w) X.A (eval a X.env) (fun v s₁ => wpAny (model X.prog X.w) X.A (eval b X.env) (fun u s₂ => wpAny (model X.prog X.w) X.A (f v u) Q X.xe s₂) X.xe s₁) X.xe s := by
  refine thn (ha pins s σ H _ I h) fun v s1 ⟨x, H1, I1, r1, q1⟩ => ?_
  refine thn (hb pins s1 σ H1 _ I1 q1) fun u s2 ⟨y, H2, I2, r2, q2⟩ => ?_
  exact hf v u s2 x y H2 I2 r1 r2 q2
theorem pe_op {op : Operator} {r : R2} (ho : OpR X (binaryOp op) r) (ha : PE X a ta) (hb : PE X b tb) : PE X (.BinOp a op b pos) (tOp r ta tb) := by
  intro pins s σ H Q I h
  exact wpAny_BinOp (binT ha hb I h fun v u s2 x y H2 I2 rx ry q => ho pins s2 σ H2 x y v u Q I2 rx ry q)
theorem pe_un {op : UnaryOp} {r : V → Hp → VK → Prop} (ho : UnR X (unaryOp op) r) (ha : PE X a ta) : PE X (.UnaryOp op a pos) (tUn r ta) := by
  intro pins s σ H Q I h
  exact UnaryOp_ (thn (ha pins s σ H _ I h) fun v s1 ⟨x, H1, I1, r1, q1⟩ => ho pins s1 σ H1 x v Q I1 r1 q1)
theorem opI {f : Value → Value → Sem Value} {C : Int → Int → Prop} {g : Int → Int → Int}
    (rule : ∀ (i j : Int) (t u : Tok) (s : Shared) (Q : Value → Shared → Prop) (E : Value → Shared → Prop), C i j → Q (.int (g i j) s.toks) { s with toks := s.toks + 1 } → wpAny (model X.prog X.w) X.A (f (.int i t) (.int j u)) Q E s) :
    OpR X f (rI C fun i j => .int (g i j)) := by
  intro pins s σ H x y v u Q I rx ry h
  obtain ⟨i, j, rfl, rfl, hc, q⟩ := h
  obtain ⟨t, rfl⟩ := rx
  obtain ⟨t', rfl⟩ := ry
  exact rule i j t t' s _ _ hc ⟨.int (g i j), H, I.tok _, ⟨_, rfl⟩, q⟩
theorem opI0 {f : Value → Value → Sem Value} {g : Int → Int → Int}
    (rule : ∀ (i j : Int) (t u : Tok) (s : Shared) (Q : Value → Shared → Prop) (E : Value → Shared → Prop), Q (.int (g i j) s.toks) { s with toks := s.toks + 1 } → wpAny (model X.prog X.w) X.A (f (.int i t) (.int j u)) Q E s) :
    OpR X f (rI0 fun i j => .int (g i j)) := by
  intro pins s σ H x y v u Q I rx ry h
  obtain ⟨i, j, rfl, rfl, q⟩ := h
  obtain ⟨t, rfl⟩ := rx
  obtain ⟨t', rfl⟩ := ry
  exact rule i j t t' s _ _ ⟨.int (g i j), H, I.tok _, ⟨_, rfl⟩, q⟩
theorem opB0 {f : Value → Value → Sem Value} {g : Int → Int → Bool}
    (rule : ∀ (i j : Int) (t u : Tok) (s : Shared) (Q : Value → Shared → Prop) (E : Value → Shared → Prop), Q (.bool (g i j)) s → wpAny (model X.prog X.w) X.A (f (.int i t) (.int j u)) Q E s) :
    OpR X f (rI0 fun i j => .bl (g i j)) := by
  intro pins s σ H x y v u Q I rx ry h
  obtain ⟨i, j, rfl, rfl, q⟩ := h
  obtain ⟨t, rfl⟩ := rx
  obtain ⟨t', rfl⟩ := ry
  exact rule i j t t' s _ _ ⟨.bl (g i j), H, I, rfl, q⟩
def CDiv (i j : Int) : Prop := 0 < j ∧ j < 1073741824
def CPow (i j : Int) : Prop := 0 ≤ j ∧ j ≤ 1000000 ∧ i.natAbs < 2 ^ 64
def CMul (i j : Int) : Prop := (-(2 ^ 64) < i ∧ i < 2 ^ 64) ∨ (-(2 ^ 64) < j ∧ j < 2 ^ 64)
theorem CMul.ok {i j : Int} (h : CMul i j) : IntMulOk i j := by
  rcases h with ⟨h1, h2⟩ | ⟨h1, h2⟩
  · exact .of_left (intBits_le_64 h1 h2)
  · exact .of_right (intBits_le_64 h1 h2)
theorem two_pow_nn (k : Nat) : (0 : Int) ≤ 2 ^ k := by
  rw [two_pow_cast]
  exact Int.natCast_nonneg _
theorem op_add : OpR X (binaryOp .Add) (rI0 fun i j => .int (i + j)) := opI0 fun _ _ _ _ _ _ _ q => add_int q
theorem op_sub : OpR X (binaryOp .Sub) (rI0 fun i j => .int (i - j)) := opI0 fun _ _ _ _ _ _ _ q => sub_int q
theorem op_mul : OpR X (binaryOp .Mult) (rI CMul fun i j => .int (i * j)) := opI fun _ _ _ _ _ _ _ hc q => mul_int q hc.ok
theorem op_fdiv : OpR X (binaryOp .FloorDiv) (rI CDiv fun i j => .int (i / j)) := opI fun i j _ _ _ _ _ hc q => by
  have h1 : (0 : Int) < j := hc.1
  have h2 : j < 1073741824 := hc.2
  exact floordiv_int (by omega) (by rw [Int.fdiv_eq_ediv_of_nonneg i (by omega)]; exact q) (.inl (PyProof.noPylong_small (by omega)))
theorem op_mod : OpR X (binaryOp .Mod) (rI (fun _ j => 0 < j) fun i j => .int (i % j)) := opI fun i j _ _ _ _ _ hc q => by
  have h1 : (0 : Int) < j := hc
  exact mod_int' (by omega) (by rw [Int.fmod_eq_emod_of_nonneg i (by omega)]; exact q)
theorem op_shl : OpR X (binaryOp .LShift) (rI CPow fun i j => .int (i * 2 ^ j.toNat)) := opI fun _ _ _ _ _ _ _ hc q => lshift_int_small hc.1 hc.2.1 hc.2.2 q
theorem op_shr : OpR X (binaryOp .RShift) (rI (fun _ j => 0 ≤ j) fun i j => .int (i / 2 ^ j.toNat)) := opI fun i j _ _ _ _ _ hc q =>
  rshift_int hc (by rw [Int.fdiv_eq_ediv_of_nonneg i (two_pow_nn _)]; exact q)
theorem op_and : OpR X (binaryOp .BitAnd) (rI0 fun i j => .int (Builtin.bitAnd i j)) := opI0 fun _ _ _ _ _ _ _ q => and_int q
theorem op_or : OpR X (binaryOp .BitOr) (rI0 fun i j => .int (Builtin.bitOr i j)) := opI0 fun _ _ _ _ _ _ _ q => or_int q
theorem op_xor : OpR X (binaryOp .BitXor) (rI0 fun i j => .int (Builtin.bitXor i j)) := opI0 fun _ _ _ _ _ _ _ q => xor_int q
theorem iop_sub : OpR X (inplaceOp .Sub) (rI0 fun i j => .int (i - j)) := opI0 fun _ _ _ _ _ _ _ q => isub_int q
theorem iop_or : OpR X (inplaceOp .BitOr) (rI0 fun i j => .int (Builtin.bitOr i j)) := opI0 fun _ _ _ _ _ _ _ q => ior_int q
theorem unI {f : Value → Sem Value} {g : Int → Int}
    (rule : ∀ (i : Int) (t : Tok) (s : Shared) (Q : Value → Shared → Prop) (E : Value → Shared → Prop), Q (.int (g i) s.toks) { s with toks := s.toks + 1 } → wpAny (model X.prog X.w) X.A (f (.int i t)) Q E s) :
    UnR X f (rU fun i => .int (g i)) := by
  intro pins s σ H x v Q I rx h
  obtain ⟨i, rfl, q⟩ := h
  obtain ⟨t, rfl⟩ := rx
  exact rule i t s _ _ ⟨.int (g i), H, I.tok _, ⟨_, rfl⟩, q⟩
theorem un_neg : UnR X (unaryOp .USub) (rU fun i => .int (-i)) := unI fun _ _ _ _ _ q => neg_int q
theorem un_inv : UnR X (unaryOp .Invert) (rU fun i => .int (Builtin.bitNot i)) := unI fun _ _ _ _ _ q => invert_int q
end
section
variable {X : Cx} {a b c : Expr} {ta tb tc : TE} {pos : Pos}
theorem fin_bl {pins : List (Addr × Obj)} {σ : St} {H : Hp} {s : Shared} {Q : VK} {k k' : Bool} (I : Inv X pins σ H s) (q : Q (.bl k) H) (e : k = k') : EP X pins σ Q (.bool k') s := by
  subst e
  exact ⟨.bl k, H, I, rfl, q⟩
theorem op_lt : OpR X (compareOp .Lt) (rI0 fun i j => .bl (decide (i < j))) := opB0 fun _ _ _ _ _ _ _ q => lt_int q
theorem op_le : OpR X (compareOp .LtE) (rI0 fun i j => .bl (decide (i ≤ j))) := opB0 fun _ _ _ _ _ _ _ q => le_int q
theorem op_gt : OpR X (compareOp .Gt) (rI0 fun i j => .bl (decide (j < i))) := opB0 fun _ _ _ _ _ _ _ q => gt_int q
theorem op_in_str : OpR X (compareOp .In) (fun x y H Q => ∃ i j, x = .str i ∧ y = .str j ∧ Q (.bl (!(Builtin.Str.occurrences j i 0 j.length 1).isEmpty)) H) := by
  intro pins s σ H x y v u Q I rx ry h
  obtain ⟨i, j, rfl, rfl, q⟩ := h
  obtain ⟨t, rfl⟩ := rx
  obtain ⟨t', rfl⟩ := ry
  exact in_str (fin_bl I q rfl)
theorem op_isN : OpR X (compareOp .Is) (fun x y H Q => y = .non ∧ Q (.bl (decide (x = .non))) H) := by
  intro pins s σ H x y v u Q I rx ry h
  obtain ⟨rfl, q⟩ := h
  cases ry
  refine is_none_gen (fin_bl I q ?_)
  cases x <;> first
    | (cases rx; rfl)
    | (obtain ⟨t, rfl⟩ := rx; rfl)
theorem nomark (b : Expr) {op : CmpOp} (h : op ≠ .In := by decide) (h2 : op ≠ .NotIn := by decide) : behindInMarks op b = false := by
  have e1 : (op == CmpOp.In) = false := by cases op <;> first | rfl | exact absurd rfl h
  have e2 : (op == CmpOp.NotIn) = false := by cases op <;> first | rfl | exact absurd rfl h2
  cases b <;> simp [behindInMarks, e1, e2]
theorem pe_cmpR {op : CmpOp} {r : R2} (ho : OpR X (compareOp op) r) (ha : PE X a ta) (hb : PE X b tb) (hm : behindInMarks op b = false) : PE X (.Compare a [op] [b] pos) (tOp r ta tb) := by
  intro pins s σ H Q I h
  exact wpAny_Compare1 (binT ha hb I h fun v u s2 x y H2 I2 rx ry q => ho pins s2 σ H2 x y v u Q I2 rx ry q) hm
def tTest (t : TE) : TT := fun σ H Q => t σ H fun x H' => ∃ k, x = .bl k ∧ Q k H'
theorem pt_cmpR {op : CmpOp} {r : R2} (ho : OpR X (compareOp op) r) (ha : PE X a ta) (hb : PE X b tb) (hm : behindInMarks op b = false) : PT X (.Compare a [op] [b] pos) (tTest (tOp r ta tb)) := by
  intro pins s σ H Q I h
  refine wpAny_isTrue_Compare1 (thn (ha pins s σ H _ I h) fun v s1 ⟨x, H1, I1, r1, q1⟩ => thn (hb pins s1 σ H1 _ I1 q1) fun u s2 ⟨y, H2, I2, r2, q2⟩ =>
    thn (ho pins s2 σ H2 x y v u _ I2 r1 r2 q2) fun c s3 ⟨z, H3, I3, r3, k, e, q3⟩ => ?_) hm
  subst e
  cases r3
  exact wpAny_truthy_bool ⟨H3, I3, q3⟩
def TruV (K : PySem.W.Frag) (x : V) (H : Hp) (k : Bool) : Prop :=
  match x with
  | .non => k = false
  | .bl b => k = b
  | .int i => k = (i != 0)
  | .str y => y.length ≤ sizeLine ∧ k = ((y.length : Int) != 0)
  | .byt y => y.size ≤ sizeLine ∧ k = ((y.size : Int) != 0)
  | .ref p => (∃ xs, SqL K H p xs ∧ k = !xs.isEmpty) ∨ (∃ xs, SqT K H p xs ∧ k = !xs.isEmpty) ∨ ∃ kvs, H p = some (.dK kvs) ∧ k = !kvs.isEmpty
  | _ => False
theorem isEmpty_kv {κ : Type} {kvs : List (κ × V)} {vs : List (κ × Value)} (r : KV kvs vs) : (!vs.isEmpty) = !kvs.isEmpty := by
  cases r <;> rfl
theorem isEmpty_of {xs : List V} {its : List Value} (r : Vals xs its) : (!its.toArray.isEmpty) = !xs.isEmpty := by
  cases r <;> simp
theorem line63 : (sizeLine : Nat) < 2 ^ 63 := by rw [sizeLine_eq]; decide
theorem tru_ok : TruR X (fun x H Q => ∃ k, TruV X.K x H k ∧ Q k H) := by
  intro pins s σ H x v Q I rx h
  obtain ⟨k, e, q⟩ := h
  have hl := line63
  have hs : sizeLine = 16777216 := sizeLine_eq
  cases x with
  | non =>
    cases rx
    have e' : k = false := e
    subst e'
    exact truthy_none ⟨H, I, q⟩
  | bl b =>
    cases rx
    have e' : k = b := e
    subst e'
    exact wpAny_truthy_bool ⟨H, I, q⟩
  | int i =>
    obtain ⟨t, rfl⟩ := rx
    have e' : k = (i != 0) := e
    subst e'
    exact PySem.P.truthy_int ⟨H, I, q⟩
  | str y =>
    obtain ⟨t, rfl⟩ := rx
    obtain ⟨hy, e'⟩ : y.length ≤ sizeLine ∧ k = ((y.length : Int) != 0) := e
    subst e'
    exact PySem.P.truthy_str (by omega) ⟨H, I.tok _, q⟩
  | byt y =>
    obtain ⟨t, rfl⟩ := rx
    obtain ⟨hy, e'⟩ : y.size ≤ sizeLine ∧ k = ((y.size : Int) != 0) := e
    subst e'
    exact PySem.W.truthy_bytes (by omega) ⟨H, I.tok _, q⟩
  | ref p =>
    cases rx
    have e' : (∃ xs, SqL X.K H p xs ∧ k = !xs.isEmpty) ∨ (∃ xs, SqT X.K H p xs ∧ k = !xs.isEmpty) ∨ ∃ kvs, H p = some (.dK kvs) ∧ k = !kvs.isEmpty := e
    rcases e' with ⟨xs, hx, e'⟩ | ⟨xs, hx, e'⟩ | ⟨kvs, hx, e'⟩
    · subst e'
      obtain ⟨its, r, pl, hz⟩ := I.list hx
      have hlen := r.length
      exact wpAny_truthy_list pl.isList (by simp only [List.size_toArray]; omega) ⟨H, I.tok _, by rw [isEmpty_of r]; exact q⟩
    · subst e'
      obtain ⟨its, r, pl, hz⟩ := I.tuple hx
      have hlen := r.length
      exact truthy_tuple pl (by simp only [List.size_toArray]; omega) ⟨H, I.tok _, by rw [isEmpty_of r]; exact q⟩
    · subst e'
      obtain ⟨hz, hS, vs, r, m⟩ : kvs.length ≤ sizeLine ∧ (p == sysModules) = false ∧ ∃ vs, KV kvs vs ∧ s.heap.DictOf (mixKind X.prog X.w) p vs := I.hok p _ hx
      have hlen : kvs.length = vs.length := Paired.length r
      exact wpAny_truthy_dict hS m (by omega) ⟨H, I.tok _, by rw [isEmpty_kv r]; exact q⟩
  | _ => exact (show False from e).elim
theorem pt_truth (ha : PE X a ta) (he : ∀ whole, isTrue a X.env whole = (do let v ← whole; standAt a.pos; holding [v] (truthy v))) :
    PT X a (fun σ H Q => ta σ H fun x H' => ∃ k, TruV X.K x H' k ∧ Q k H') := by
  intro pins s σ H Q I h
  exact isTrue_plain (thn (ha pins s σ H _ I h) fun v s1 ⟨x, H1, I1, r1, q1⟩ => tru_ok pins s1 σ H1 x v Q I1 r1 q1) (he _)
theorem op_add_str : OpR X (binaryOp .Add) (fun x y H Q => ∃ i j, x = .str i ∧ y = .str j ∧ i.length + j.length ≤ sizeLine ∧ Q (.str (i ++ j)) H) := by
  intro pins s σ H x y v u Q I rx ry h
  obtain ⟨i, j, rfl, rfl, hz, q⟩ := h
  obtain ⟨t, rfl⟩ := rx
  obtain ⟨t', rfl⟩ := ry
  exact add_str (fun t' tk => ⟨.str (i ++ j), H, I.tok _, ⟨_, rfl⟩, q⟩) hz
theorem vals1 {x : V} {us : List Value} (r : Vals [x] us) : ∃ u, us = [u] ∧ RelV x u := by
  cases r with
  | cons r1 r2 => cases r2; exact ⟨_, rfl, r1⟩
theorem call_int1 : CallR X (.type "int") (fun xs H Q => (∃ i, xs = [.int i] ∧ Q (.int i) H) ∨ ∃ k, xs = [.bl k] ∧ Q (.int (if k then 1 else 0)) H) := by
  intro pins s σ H xs us Q I r h
  rcases h with ⟨i, rfl, q⟩ | ⟨k, rfl, q⟩
  · obtain ⟨u, rfl, t, rfl⟩ := vals1 r
    exact call_int_int ⟨.int i, H, I, ⟨_, rfl⟩, q⟩
  · obtain ⟨u, rfl, r1⟩ := vals1 r
    cases r1
    exact call_int_bool ⟨.int (if k then 1 else 0), H, I.tok _, ⟨_, rfl⟩, q⟩
def LenV (K : PySem.W.Frag) (x : V) (H : Hp) (n : Nat) : Prop :=
  match x with
  | .str y => y.length ≤ sizeLine ∧ n = y.length
  | .byt y => y.size ≤ sizeLine ∧ n = y.size
  | .ref p => (∃ xs, SqL K H p xs ∧ n = xs.length) ∨ ∃ xs, SqT K H p xs ∧ n = xs.length
  | _ => False
theorem call_len : CallR X (.builtin "len") (fun xs H Q => ∃ x n, xs = [x] ∧ LenV X.K x H n ∧ Q (.int n) H) := by
  intro pins s σ H xs us Q I r h
  obtain ⟨x, n, rfl, e, q⟩ := h
  obtain ⟨u, rfl, rx⟩ := vals1 r
  have hl := line63
  have hs : sizeLine = 16777216 := sizeLine_eq
  cases x with
  | str y =>
    obtain ⟨t, rfl⟩ := rx
    obtain ⟨hy, e'⟩ : y.length ≤ sizeLine ∧ n = y.length := e
    subst e'
    exact len_str (by omega) ⟨.int _, H, I.tok _, ⟨_, rfl⟩, q⟩
  | byt y =>
    obtain ⟨t, rfl⟩ := rx
    obtain ⟨hy, e'⟩ : y.size ≤ sizeLine ∧ n = y.size := e
    subst e'
    exact PySem.W.len_bytes (by omega) ⟨.int _, H, I.tok _, ⟨_, rfl⟩, q⟩
  | ref p =>
    cases rx
    have e' : (∃ xs, SqL X.K H p xs ∧ n = xs.length) ∨ ∃ xs, SqT X.K H p xs ∧ n = xs.length := e
    rcases e' with ⟨xs, hx, e'⟩ | ⟨xs, hx, e'⟩
    · subst e'
      obtain ⟨its, r', pl, hz⟩ := I.list hx
      have hlen := r'.length
      exact Calls.call_len_list pl.isList (by simp only [List.size_toArray]; omega) ⟨.int xs.length, H, I.tok _, ⟨_, by simp only [List.size_toArray]; rw [hlen]⟩, q⟩
    · subst e'
      obtain ⟨its, r', pl, hz⟩ := I.tuple hx
      have hlen := r'.length
      exact len_tuple pl (by simp only [List.size_toArray]; omega) ⟨.int xs.length, H, I.tok _, ⟨_, by simp only [List.size_toArray]; rw [hlen]⟩, q⟩
  | _ => exact (show False from e).elim
end
end L2
namespace L2
open PySem PySem.Spec PyProof.Rows
structure ObjM (h : Heap) (x dx C : Addr) (mA : Str → Option Value) : Prop where
  obj : h.get? x = some (PySem.W.instObj C dx)
  ns : h.Ns1 dx mA
  ne : dx ≠ x
section
variable {prog : Program} {w : World} {A : Around} {E : Value → Shared → Prop} {s : Shared} {K : PySem.W.Frag} {x dx C f : Addr} {mA : Str → Option Value} {name : Str} {v : Value}
end
theorem RelO.some_of {v : V} {o : Option Value} (r : RelO (some v) o) : ∃ u, o = some u ∧ RelV v u := by
  cases o with
  | none => exact (show False from r).elim
  | some u => exact ⟨u, rfl, r⟩
section
variable {P : Program} {w : World} {H H' : Hp} {h h' : Heap} {a C dx : Addr} {fs fs' : List (Str × V)}
end
structure Cls (K : PySem.W.Frag) (C : Addr) : Prop where
  pg : PySem.W.plainGet K C Str.empty = true
  hd : PySem.W.hasDictIn K C = true
  po : PySem.W.plainOver K C = true
  sa : PySem.W.findIn K (.ref C) "__setattr__" = some (some (.builtin "object.__setattr__"))
structure Con (K : PySem.W.Frag) (C : Addr) (f : Str) (v : V) (u : Value) : Prop where
  at_ : PySem.W.findIn K (.ref C) f = some (some u)
  rel : RelV v u
  get : PySem.W.specialIn K u "__get__" = some none
  cp : PySem.W.copiedNames.contains f = false
structure Meth (K : PySem.W.Frag) (C : Addr) (m : Str) (f : Addr) : Prop where
  at_ : PySem.W.findIn K (.ref C) m = some (some (.ref f))
  fn : PySem.W.isFn K (.ref f) = true
  kp : PySem.W.keepIn K (.ref f) = true
section
variable {X : Cx} {pins : List (Addr × Obj)} {σ : St} {H : Hp} {s : Shared} {a C dx : Addr} {fs : List (Str × V)} {f : Str} {v : V} {A : Around} {E : Value → Shared → Prop}
end
section
variable {X : Cx} {o e value : Expr} {f : Str} {pos pos' tpos : Pos} {ta tv : TE}
end
section
variable {X : Cx} {pins : List (Addr × Obj)} {σ : St} {H : Hp} {s : Shared} {A : Around} {E : Value → Shared → Prop} {Q : Value → Shared → Prop} {c : Value} {b : Bool}
inductive TyOf (K : PySem.W.Frag) (H : Hp) : V → Value → Prop where
  | non : TyOf K H .non (.type "NoneType")
  | bl (x : Bool) : TyOf K H (.bl x) (.type "bool")
  | int (i : Int) : TyOf K H (.int i) (.type "int")
  | str (x : Str) : TyOf K H (.str x) (.type "str")
  | flt (x : UInt64) : TyOf K H (.flt x) (.type "float")
  | lst {a : Addr} {xs : List V} (e : H a = some (.lst xs)) : TyOf K H (.ref a) (.type "list")
  | frz {a : Addr} {o : Obj} {xs : List V} (e : H a = some (.frz o (.lst xs))) : TyOf K H (.ref a) (.type "list")
  | tup {a : Addr} {xs : List V} (e : H a = some (.tup xs)) : TyOf K H (.ref a) (.type "tuple")
  | dK {a : Addr} {kvs : List (Key × V)} (e : H a = some (.dK kvs)) : TyOf K H (.ref a) (.type "dict")
  | dT {a : Addr} {kvs : List (List Key × V)} (e : H a = some (.dT kvs)) : TyOf K H (.ref a) (.type "dict")
  | ins {a C dx : Addr} {fs : List (Str × V)} (e : H a = some (.ins C dx fs)) (cl : Cls K C) (ha : PySem.W.findIn K (.ref C) "__class__" = some (some (.builtin "object.__class__")))
      (hn : PySem.W.specialIn K (.builtin "object.__class__") "__get__" = some (some (.builtin "getset_descriptor.__get__"))) (htk : PySem.W.takesIn K (.builtin "object.__class__") = some true)
      (hm : PySem.W.mroIn K C (.type "object") = some true) : TyOf K H (.ref a) (.ref C)
end
end L2
namespace L2
open PySem PySem.Spec PyProof.Rows
structure Room (k : Nat) (A : Around) : Prop where
  hd : A.handled = none
  dp : A.depth + 3 * k + 5 < recursionLimit
  un : A.units + 16 * k + 200 < cLine
theorem Room.mono {j k : Nat} {A : Around} (r : Room k A) (h : j ≤ k) : Room j A := ⟨r.hd, by have := r.dp; omega, by have := r.un; omega⟩
theorem Room.deeper {k : Nat} {A : Around} (r : Room (k + 1) A) (env : Env) : Room k (A.deeper env) :=
  ⟨r.hd, by have := r.dp; show A.depth + 1 + 3 * k + 5 < _; omega, by have := r.un; show A.units + 3 + 16 * k + 200 < _; omega⟩
theorem Room.depth {k : Nat} {A : Around} (r : Room k A) : A.depth < recursionLimit := by have := r.dp; omega
theorem Room.units {k : Nat} {A : Around} (r : Room k A) : A.units + 64 < cLine := by have := r.un; omega
def tNil : TA := fun _ H Q => Q [] H
def tCons (ta : TE) (tr : TA) : TA := fun σ H Q => ta σ H fun x H1 => tr σ H1 fun xs H2 => Q (x :: xs) H2
section
variable {X : Cx} {e : Expr} {es : List Expr} {te : TE} {t : TA} {pos : Pos}
theorem pa_nil : PA X [] tNil := fun _ _ _ _ H Q I h => Calls.spliced_nil ⟨[], H, I, .nil, h⟩
theorem pa_cons (ha : PE X e te) (hr : PA X es t) (hs : starEach (e :: es) X.env = (false, eval e X.env) :: starEach es X.env := by rfl) : PA X (e :: es) (tCons te t) := by
  intro pos pins s σ H Q I h
  rw [hs]
  show wpAny _ _ (spliced ((false, eval e X.env) :: backTo pos (starEach es X.env))) _ _ s
  refine Calls.spliced_cons (thn (ha pins s σ H _ I h) fun u s1 ⟨x, H1, I1, r1, q1⟩ => ?_)
  exact thn (hr pos pins s1 σ H1 _ I1 q1) fun us s2 ⟨xs, H2, I2, r2, q2⟩ => ⟨x :: xs, H2, I2, .cons r1 r2, q2⟩
def tTup (t : TA) : TE := fun σ H Q => t σ H fun xs H1 => xs.length ≤ sizeLine ∧ ∀ p, H1 p = none → Q (.ref p) (upd H1 p (.tup xs))
def tLst (t : TA) : TE := fun σ H Q => t σ H fun xs H1 => xs.length ≤ sizeLine ∧ ∀ p, H1 p = none → Q (.ref p) (upd H1 p (.lst xs))
theorem pe_tup {x1} (h : PA X es t) : PE X (.Tuple es x1 pos) (tTup t) := by
  intro pins s σ H Q I hq
  refine wpAny_Tuple_spliced (thn (h pos pins s σ H _ I hq) fun us s1 ⟨xs, H1, I1, r, z, q⟩ => ⟨by rw [← r.length]; exact z, ?_⟩)
  have hf : H1 s1.heap.objs.size = none := I1.hok.fresh (Nat.le_refl _)
  refine ⟨.ref s1.heap.objs.size, upd H1 s1.heap.objs.size (.tup xs), I1.laid (t' := s1.toks) (fun b u e => Heap.get?_push_of_some _ e) (Nat.le_refl _) ?_, rfl, q _ hf⟩
  exact ⟨z, us, r, ⟨_, Heap.get?_push_size _ rfl, rfl, _, rfl⟩⟩
theorem pe_lst (h : PA X es t) : PE X (.List es pos) (tLst t) := by
  intro pins s σ H Q I hq
  refine wpAny_List_spliced (thn (h pos pins s σ H _ I hq) fun us s1 ⟨xs, H1, I1, r, z, q⟩ => ⟨by rw [← r.length]; exact z, ?_⟩)
  have hf : H1 s1.heap.objs.size = none := I1.hok.fresh (Nat.le_refl _)
  refine ⟨.ref s1.heap.objs.size, upd H1 s1.heap.objs.size (.lst xs), I1.laid (t' := s1.toks) (fun b u e => Heap.get?_push_of_some _ e) (Nat.le_refl _) ?_, rfl, q _ hf⟩
  exact ⟨z, us, 0, r, Heap.get?_push_size _ rfl⟩
end
abbrev Sp := List V → Hp → VK → XK → Prop
abbrev CXT := List Env → Hp → Shared → XK → Value → Shared → Prop
structure Env0 (P : Program) (w : World) (K : PySem.W.Frag) (mg : Str → Option Value) (base : Heap) (A : Around) (outer : List Env) (s : Shared) (H : Hp) : Prop where
  frames : A.frames = some outer
  mod : Mod K mg base
  bs : ∀ b o, base.get? b = some o → s.heap.get? b = some o ∧ H b = none
  bsz : base.objs.size ≤ s.heap.objs.size
  funs : s.heap.FunFrames base outer
  frf : ∀ b ∈ frs outer, H b = none
  hok : HOk P w H s.heap
  bare : AllBare s.gens
def CE (outer : List Env) (P : Program) (w : World) (H : Hp) (s : Shared) (Q : VK) (u : Value) (s' : Shared) : Prop :=
  ∃ v H', s'.os = s.os ∧ AllBare s'.gens ∧ Un (frs outer) [] H H' s.heap s'.heap ∧ HOk P w H' s'.heap ∧ RelV v u ∧ Q v H'
def CR (CX : CXT) (outer : List Env) (P : Program) (w : World) (H : Hp) (s : Shared) (Q : VK) (E : XK) (r : Result) (s' : Shared) : Prop :=
  match r with
  | .ok (.ret u) => CE outer P w H s Q u s'
  | .ok _ => False
  | .error e => CX outer H s E e s'
structure FnOk (P : Program) (w : World) (K : PySem.W.Frag) (mg : Str → Option Value) (base : Heap) (CX : CXT) (k : Nat) (f : Addr) (fd : FuncData) (ps : List Str) (sp : Sp) : Prop where
  len : ∀ vs H Q E, sp vs H Q E → vs.length = ps.length
  run : ∀ (A : Around) (outer : List Env) (s : Shared) (H : Hp) (args : Args) (us : List Value) (vs : List V) (Q : VK) (E : XK), Room k A → Env0 P w K mg base A outer s H → BindsTo s fd args (ps.zip us) → Vals vs us → sp vs H Q E →
    codeAny (model P w) A (.call (.ref f) args) (CR CX outer P w H s Q E) s
section
variable {X : Cx} {pins : List (Addr × Obj)} {σ : St} {H : Hp} {s s' : Shared}
theorem Inv.env0 (I : Inv X pins σ H s) : Env0 X.prog X.w X.K X.mg X.base X.A X.stack s H :=
  ⟨I.ok.frames, I.ok.mod, I.bs, Nat.le_trans I.ok.bsz I.sz, I.stack, I.stkFree, I.hok, I.bare⟩
theorem Inv.after {Q : VK} {u : Value} (I : Inv X pins σ H s) (h : CE X.stack X.prog X.w H s Q u s') : EP X pins σ Q u s' := by
  obtain ⟨v, H', os, bare, un, hok, r, q⟩ := h
  obtain ⟨hh, g, d, t, os'⟩ := s'
  obtain rfl : os' = s.os := os
  exact ⟨v, H', I.call (h' := hh) (g' := g) (d' := d) (t' := t) (ch := []) un hok bare (fun b z => absurd z (by simp)), r, q⟩
end
def tCall (sp : Sp) (dvs : List V) (E : XK) (t : TA) : TE := fun σ H Q => t σ H fun vs H1 => sp (vs ++ dvs) H1 Q E
def Binds (K : PySem.W.Frag) (fd : FuncData) (ps : List Str) (ds : List Value) : Prop :=
  ∀ (s : Shared) (us : List Value), K.In s.heap → (us ++ ds).length = ps.length → BindsTo s fd ⟨us, []⟩ (ps.zip (us ++ ds))
theorem Binds.all {K : PySem.W.Frag} {fd : FuncData} {ps : List Str} (h : ∀ us : List Value, us.length = ps.length → bindArgs fd ⟨us, []⟩ = pure (ps.zip us)) : Binds K fd ps [] := fun s us _ hl => by
  rw [List.append_nil] at hl ⊢
  exact .of_eq (h us hl)
def Passes (CX : CXT) (X : Cx) (E : XK) : Prop := ∀ (pins : List (Addr × Obj)) (σ : St) (H : Hp) (s : Shared) (e : Value) (s' : Shared), Inv X pins σ H s → CX X.stack H s E e s' → X.xe e s'
section
variable {X : Cx} {CX : CXT} {k : Nat} {f C : Addr} {fd : FuncData} {ps : List Str} {sp : Sp} {dvs : List V} {ds : List Value} {E : XK} {x m : Str} {p pos apos : Pos} {e o : Expr} {es : List Expr} {ta : TE} {t : TA}
theorem run_fn {pins : List (Addr × Obj)} {σ : St} {H : Hp} {s : Shared} {Q : VK} {us : List Value} {vs : List V} (F : FnOk X.prog X.w X.K X.mg X.base CX k f fd ps sp) (hr : Room k X.A) (hb : Binds X.K fd ps ds) (hd : Vals dvs ds) (hx : Passes CX X E)
    (I : Inv X pins σ H s) (r : Vals vs us) (h : sp (vs ++ dvs) H Q E) : wpAny (model X.prog X.w) X.A (call (.ref f) us) (EP X pins σ Q) X.xe s := by
  have r2 : Vals (vs ++ dvs) (us ++ ds) := r.append hd
  have hl : (us ++ ds).length = ps.length := by rw [← r2.length]; exact F.len _ _ _ _ h
  refine wpAny_call (codeAny_mono (F.run X.A X.stack s H ⟨us, []⟩ (us ++ ds) (vs ++ dvs) Q E hr I.env0 (hb s us I.kIn hl) r2 h) fun r s' hq => ?_)
  cases r with
  | error e => exact hx pins σ H s e s' I hq
  | ok fl =>
    cases fl with
    | ret u => exact I.after hq
    | next => exact False.elim hq
    | brk => exact False.elim hq
    | cont => exact False.elim hq
theorem pe_call (F : FnOk X.prog X.w X.K X.mg X.base CX k f fd ps sp) (hr : Room k X.A) (hg : Gl X x) (hm : X.mg x = some (.ref f)) (hk : PySem.W.keepIn X.K (.ref f) = true) (hb : Binds X.K fd ps ds) (hd : Vals dvs ds) (hx : Passes CX X E)
    (ha : PA X (e :: es) t) (hdb : (x == ("__debug__" : Str)) = false := by decide) (he : starEach (e :: es) X.env = (false, eval e X.env) :: starEach es X.env := by rfl) (hpl : (backTo pos (starEach es X.env)).any (·.1) = false := by rfl) :
    PE X (.Call (.Name x p) (e :: es) [] pos) (tCall sp dvs E t) := by
  intro pins s σ H Q I h
  refine wpAny_Call_Name_kw (ld_glob I hg hm ?_ hdb)
  refine PySem.W.callWith_K (h₀ := X.base) I.ok.mod.kin hk (thn (ha pos pins s σ H _ I h) fun us s1 ⟨vs, H1, I1, r, q⟩ => ⟨I1.kIn, ?_⟩) he hpl
  exact run_fn F hr hb hd hx I1 r q
structure Mk (K : PySem.W.Frag) (C f : Addr) : Prop where
  makes : PySem.W.makesIn K C = true
  init : PySem.W.findIn K (.ref C) "__init__" = some (some (.ref f))
  fn : PySem.W.isFn K (.ref f) = true
  kp : PySem.W.keepIn K (.ref C) = true
end
section
variable {X : Cx} {CX : CXT} {k : Nat} {f C : Addr} {fd : FuncData} {ps ks : List Str} {sp : Sp} {E : XK} {x m : Str} {p pos apos kpos : Pos} {e o : Expr} {es : List Expr} {kws : List Keyword} {te ta : TE} {t tk : TA} {nm : Option Str}
structure KBinds (K : PySem.W.Frag) (fd : FuncData) (ps ks : List Str) (g : List Value → List Value → List Value) (gV : List V → List V → List V) : Prop where
  to : ∀ (s : Shared) (us ws : List Value), K.In s.heap → (g us ws).length = ps.length → BindsTo s fd ⟨us, ks.zip ws⟩ (ps.zip (g us ws))
  rel : ∀ {vs : List V} {us : List Value} {zs : List V} {ws : List Value}, Vals vs us → Vals zs ws → Vals (gV vs zs) (g us ws)
variable {g : List Value → List Value → List Value} {gV : List V → List V → List V}
end
structure FnScope (N P : List Str) (sc : Scope) : Prop where
  kind : sc.kind = .function
  co : sc.isCoroutine = false
  gen : sc.isGenerator = false
  nd : N.Nodup
  pre : N.take P.length = P
  par : ∀ x ∈ P, sc.names.lookup x = some .local ∨ sc.names.lookup x = some .cell
  nofree : ∀ y ∈ sc.names, y.2 ≠ .free
theorem bindL_out {kindOf : Str → Option NameKind} {x : Str} : ∀ {binds : List (Str × Value)} {m : Str → Option Value}, (∀ v, (x, v) ∉ binds) → bindL kindOf binds m x = m x
  | [], _, _ => rfl
  | (n, v) :: r, m, h => by
    unfold bindL
    rw [bindL_out fun w hw => h w (List.mem_cons_of_mem _ hw)]
    split
    · have : x ≠ n := by rintro rfl; exact h v List.mem_cons_self
      simp [this]
    · rfl
theorem bindC_out {kindOf : Str → Option NameKind} {x : Str} : ∀ {binds : List (Str × Value)} {m : Str → Option Value}, (∀ v, (x, v) ∉ binds) → bindC kindOf binds m x = m x
  | [], _, _ => rfl
  | (n, v) :: r, m, h => by
    unfold bindC
    rw [bindC_out fun w hw => h w (List.mem_cons_of_mem _ hw)]
    split
    · rfl
    · have : x ≠ n := by rintro rfl; exact h v List.mem_cons_self
      simp [this]
theorem bindL_get {kindOf : Str → Option NameKind} {x : Str} {v : Value} : ∀ {P : List Str} {vs : List Value} {i : Nat} {m : Str → Option Value}, P.Nodup → P[i]? = some x → vs[i]? = some v → kindOf x = some .local →
    bindL kindOf (P.zip vs) m x = some v
  | [], _, _, _, _, h, _, _ => by simp at h
  | _ :: _, [], _, _, _, _, h, _ => by simp at h
  | p :: P, w :: vs, 0, m, nd, h1, h2, hk => by
    simp at h1 h2; subst h1; subst h2
    show bindL kindOf ((p, w) :: P.zip vs) m p = _
    unfold bindL
    rw [bindL_out fun v hv => (List.nodup_cons.mp nd).1 (List.of_mem_zip hv).1, if_pos hk]
    simp
  | p :: P, w :: vs, i + 1, m, nd, h1, h2, hk => by
    show bindL kindOf ((p, w) :: P.zip vs) m x = _
    unfold bindL
    exact bindL_get (i := i) (List.nodup_cons.mp nd).2 (by simpa using h1) (by simpa using h2) hk
theorem bindC_get {kindOf : Str → Option NameKind} {x : Str} {v : Value} : ∀ {P : List Str} {vs : List Value} {i : Nat} {m : Str → Option Value}, P.Nodup → P[i]? = some x → vs[i]? = some v → kindOf x ≠ some .local →
    bindC kindOf (P.zip vs) m x = some v
  | [], _, _, _, _, h, _, _ => by simp at h
  | _ :: _, [], _, _, _, _, h, _ => by simp at h
  | p :: P, w :: vs, 0, m, nd, h1, h2, hk => by
    simp at h1 h2; subst h1; subst h2
    show bindC kindOf ((p, w) :: P.zip vs) m p = _
    unfold bindC
    rw [bindC_out fun v hv => (List.nodup_cons.mp nd).1 (List.of_mem_zip hv).1, if_neg hk]
    simp
  | p :: P, w :: vs, i + 1, m, nd, h1, h2, hk => by
    show bindC kindOf ((p, w) :: P.zip vs) m x = _
    unfold bindC
    exact bindC_get (i := i) (List.nodup_cons.mp nd).2 (by simpa using h1) (by simpa using h2) hk
def start (N : List Str) (vs : List V) : St := vs.map some ++ List.replicate (N.length - vs.length) none
def cxOf (CX : CXT) (P : Program) (w : World) (K : PySem.W.Frag) (mg : Str → Option Value) (base : Heap) (N : List Str) (qual : Str) (scope : Scope) (f : Addr) (cd : Value) (A : Around) (outer : List Env) (s : Shared) (H : Hp) (E : XK) : Cx where
  prog := P
  w := w
  K := K
  mg := mg
  base := base
  A := A.deeper (envOfC qual scope s.heap.objs.size f cd)
  N := N
  s₀ := s
  H₀ := H
  env := envOfC qual scope s.heap.objs.size f cd
  outer := outer
  stack := envOfC qual scope s.heap.objs.size f cd :: outer
  ex := []
  calm := true
  fn := fun _ => true
  pn := []
  xe := fun e s' => wpAny (model P w) (A.deeper (envOfC qual scope s.heap.objs.size f cd)) (leaving (envOfC qual scope s.heap.objs.size f cd) e) (fun _ s'' => CX outer H s E e s'') (fun e' s'' => CX outer H s E e' s'') s'
theorem cell_has {sc : Scope} {n : Nat} {x : Str} (h : sc.names.lookup x = some .cell) : ∃ c, (cellsFrom n sc.names []).lookup x = some c := by
  have q := PySem.W.cellsFrom_some sc.names n [] (.inl h)
  exact Option.isSome_iff_exists.mp q
theorem inv_start {CX : CXT} {P : Program} {w : World} {K : PySem.W.Frag} {mg : Str → Option Value} {base : Heap} {N ps : List Str} {qual : Str} {scope : Scope} {f : Addr} {cd : Value} {A : Around} {outer : List Env} {s s1 : Shared} {H : Hp} {E : XK} {us : List Value} {vs : List V}
    (S : FnScope N ps scope) (hd : A.handled = none) (e0 : Env0 P w K mg base A outer s H) (hl : vs.length = ps.length) (r : Vals vs us)
    (x : InCallC s s.heap.objs.size (bindL (envOfC qual scope s.heap.objs.size f cd).kindOf (ps.zip us) fun _ => none) (cellsFrom (s.heap.objs.size + 1) scope.names []) (bindC (envOfC qual scope s.heap.objs.size f cd).kindOf (ps.zip us) fun _ => none) s1) :
    Inv (cxOf CX P w K mg base N qual scope f cd A outer s H E) [] (start N vs) H s1 := by
  have hpl : ps.length ≤ N.length := by have := congrArg List.length S.pre; rw [List.length_take] at this; omega
  obtain ⟨h1, tk, rfl, hk⟩ := x.done
  have noA : ∀ b : Addr, b ∉ (cxOf CX P w K mg base N qual scope f cd A outer s H E).ex := fun b z => absurd (show b ∈ ([] : List Addr) from z) (by simp)
  refine ⟨⟨e0.mod, S.kind, rfl, rfl, Nat.le_refl _, fun y z c h1 h2 => ?_, fun y hy => ?_, fun y c _ h => ?_, fun _ => hd, Around.frames_deeper e0.frames, .inr ⟨rfl, rfl⟩, fun b z => absurd z (noA b), e0.bs, e0.bsz, fun b _ _ => noA b, fun b z => absurd z (noA b), e0.funs, e0.frf⟩,
    rfl, e0.bare, Un.kept hk, ⟨_, x.toInCall.ns, fun i y v h1 h2 h3 => ?_⟩, fun y c h => ⟨_, x.cell y c h⟩, e0.hok.fresh (Nat.le_refl _), fun y c h => ?_, fun p hp => absurd (show p ∈ ([] : List (Addr × Obj)) from hp) (by simp), e0.hok.kept hk, ?_⟩
  · exact name_of_addr x.apart (PySem.mem_of_lookup h1) (PySem.mem_of_lookup h2)
  · have hy : scope.names.lookup y = some .cell ∨ scope.names.lookup y = some .free := hy
    rcases hy with hy | hy
    · exact cell_has hy
    · exact absurd rfl (S.nofree _ (PySem.mem_of_lookup hy))
  · exact Nat.le_of_lt (x.above y c (PySem.mem_of_lookup h))
  · have hi : i < vs.length := by
      unfold start at h2
      by_cases hi : i < vs.length
      · exact hi
      · rw [List.getElem?_append_right (by simpa using hi)] at h2
        rw [List.getElem?_replicate] at h2
        split at h2 <;> cases h2
    have ha : vs[i]? = some v := by
      unfold start at h2
      rw [List.getElem?_append_left (by simpa using hi), List.getElem?_map] at h2
      cases e : vs[i]? with
      | none => rw [e] at h2; cases h2
      | some a => rw [e] at h2; cases h2; rfl
    obtain ⟨u, hu, rv⟩ := r.get ha
    have hp : ps[i]? = some y := by
      rw [← S.pre, List.getElem?_take_of_lt (by omega)]; exact h1
    have ndP : ps.Nodup := by rw [← S.pre]; exact S.nd.sublist (List.take_sublist _ _)
    refine ⟨u, rv, ?_⟩
    rcases S.par y (List.mem_of_getElem? hp) with k | k
    · exact .inl ⟨k, bindL_get ndP hp hu k⟩
    · obtain ⟨c, e⟩ := cell_has (n := s.heap.objs.size + 1) k
      refine .inr ⟨.inl k, c, e, ?_⟩
      have q := x.cell y c e
      rw [bindC_get ndP hp hu (by show scope.names.lookup y ≠ _; rw [k]; decide)] at q
      exact q
  · exact e0.hok.fresh (Nat.le_of_lt (x.above y c (PySem.mem_of_lookup h)))
  · unfold start
    show _ = N.length
    rw [List.length_append, List.length_map, List.length_replicate]
    omega
theorem fn_of {CX : CXT} {P : Program} {w : World} {K : PySem.W.Frag} {mg : Str → Option Value} {base : Heap} {k : Nat} {f : Addr} {name qual : Str} {params : Arguments} {body : List Stmt} {scope : Scope} {dV kV doc pm cdv ct oc : Value} {an od : Option Addr}
    {osl : Array (Option Value)} {N ps : List Str} {sp : Sp} (lk : K.lookup f = some ⟨oc, od, .func (PySem.W.fnOf name qual params body scope dV kV doc pm an cdv ct), osl⟩) (hcd : PySem.W.codeIn K cdv qual = true) (S : FnScope N ps scope)
    (len : ∀ vs H Q E, sp vs H Q E → vs.length = ps.length)
    (hbody : ∀ (A : Around) (outer : List Env) (s : Shared) (H : Hp) (vs : List V) (Q : VK) (E : XK), Room k (A.deeper (envOfC qual scope s.heap.objs.size f cdv)) → sp vs H Q E →
      ∃ t, PSs (cxOf CX P w K mg base N qual scope f cdv A outer s H E) body t ∧ t { nx := fun _ H' => Q .non H', rt := Q } (start N vs) H) :
    FnOk P w K mg base CX (k + 1) f (PySem.W.fnOf name qual params body scope dV kV doc pm an cdv ct) ps sp := by
  refine ⟨len, fun A outer s H args us vs Q E hr e0 hb r hsp => ?_⟩
  have hl := len _ _ _ _ hsp
  have KX : K.In s.heap := e0.mod.kin.keeps fun b o e => (e0.bs b o e).1
  have lim : s.heap.NoLimit := e0.mod.nolimit.keeps fun b o e => (e0.bs b o e).1
  have hkind : ∀ y ∈ ps.zip us, scope.names.lookup y.1 = some .local ∨ (scope.names.lookup y.1 = some .cell ∧ ((cellsFrom (s.heap.objs.size + 1) scope.names []).lookup y.1).isSome = true) := fun ⟨n, v⟩ hy => by
    rcases S.par n (List.of_mem_zip hy).1 with q | q
    · exact .inl q
    · exact .inr ⟨q, PySem.W.cellsFrom_some _ _ _ (.inl q)⟩
  refine codeAny_call_function hr.depth (KX _ _ lk) rfl S.co S.gen rfl (PySem.W.codeRec_of KX hcd) (hb _ _ _ _ ?_)
  refine wpAny_newFunctionEnv_cells S.kind hkind fun env he s1 x => ?_
  subst he
  refine ⟨lim.keeps x.toInCall.keep, codeAny_func ?_⟩
  obtain ⟨t, ht, hq⟩ := hbody A outer s H vs Q E (hr.deeper _) hsp
  have I : Inv (cxOf CX P w K mg base N qual scope f cdv A outer s H E) [] (start N vs) H s1 := inv_start S hr.hd e0 hl r x
  refine wpAny_mono (ht [] s1 (start N vs) H _ I hq) (fun fl s' hs => ?_) fun e s' hs => hs
  have fin : ∀ {σ' : St} {H' : Hp} {v : V} {u : Value}, Inv (cxOf CX P w K mg base N qual scope f cdv A outer s H E) [] σ' H' s' → RelV v u → Q v H' → CE outer P w H s Q u s' :=
    fun {σ' H' v u} J rv q => ⟨v, H', J.os, J.bare, J.base, J.hok, rv, q⟩
  cases fl with
  | ret u =>
    obtain ⟨v, σ', H', J, rv, q⟩ := hs
    exact fin J rv q
  | next =>
    obtain ⟨σ', H', J, q⟩ := hs
    exact fin (v := V.non) (u := Value.none) J rfl q
  | brk =>
    obtain ⟨_, _, _, q⟩ := hs
    exact False.elim q
  | cont =>
    obtain ⟨_, _, _, q⟩ := hs
    exact False.elim q
end L2
namespace L2
open PySem PySem.Spec PyProof.Rows
section
variable {X : Cx} {x : Str} {p pos : Pos} {e : Expr} {es : List Expr} {t : TA} {id T : String} {r : List V → Hp → VK → Prop}
def tCB (r : List V → Hp → VK → Prop) (t : TA) : TE := fun σ H Q => t σ H fun vs H1 => r vs H1 Q
theorem pe_callB (hc : CallR X (.builtin id) r) (hg : Gl X x) (hm : X.mg x = none) (hv : bootBuiltins x = some (.builtin id)) (ha : PA X (e :: es) t) (hn : x ≠ "__name__" := by decide) (hdb : (x == ("__debug__" : Str)) = false := by decide)
    (he : starEach (e :: es) X.env = (false, eval e X.env) :: starEach es X.env := by rfl) (hpl : (backTo pos (starEach es X.env)).any (·.1) = false := by rfl) : PE X (.Call (.Name x p) (e :: es) [] pos) (tCB r t) := by
  intro pins s σ H Q I h
  refine wpAny_Call_Name_kw (ld_blt I hg hm hv ?_ hn hdb)
  exact PyProof.Rows.callWith_builtin1 (thn (ha pos pins s σ H _ I h) fun us s1 ⟨vs, H1, I1, r1, q1⟩ => hc pins s1 σ H1 vs us Q I1 r1 q1) he hpl
theorem pe_callTy (hc : CallR X (.type T) r) (hg : Gl X x) (hm : X.mg x = none) (hv : bootBuiltins x = some (.type T)) (ha : PA X (e :: es) t) (hn : x ≠ "__name__" := by decide) (hdb : (x == ("__debug__" : Str)) = false := by decide)
    (he : starEach (e :: es) X.env = (false, eval e X.env) :: starEach es X.env := by rfl) (hpl : (backTo pos (starEach es X.env)).any (·.1) = false := by rfl) : PE X (.Call (.Name x p) (e :: es) [] pos) (tCB r t) := by
  intro pins s σ H Q I h
  refine wpAny_Call_Name_kw (ld_blt I hg hm hv ?_ hn hdb)
  exact PyProof.Rows.callWith_type1 (thn (ha pos pins s σ H _ I h) fun us s1 ⟨vs, H1, I1, r1, q1⟩ => hc pins s1 σ H1 vs us Q I1 r1 q1) he hpl
end
end L2
namespace HT
open PySem PyProof.Rows
section
open PySem.SeqAt
open PySem.AutoSeq1 (wpAny_loadPart')
open PySem.MeetsSeq PySem.MeetsSeq2 PySem.MeetsSeq3
end
section
variable {prog : Program} {w : World} {A : Around} {E : Value → Shared → Prop} {s : Shared}
theorem cat_tup {t b : Addr} {vs ws : List Value} {Q : Value → Shared → Prop} (ht : IsTup s.heap t vs.toArray) (hb : IsTup s.heap b ws.toArray) (hv : vs ≠ [])
    (h1 : ws = [] → Q (.ref t) s) (h2 : ws ≠ [] → Q (.ref s.heap.objs.size) { s with heap := s.heap.push { cls := .type "tuple", data := .seq (vs ++ ws).toArray } })
    (hsz : vs.length + ws.length ≤ sizeLine) : wpAny (model prog w) A (binaryOp .Add (.ref t) (.ref b)) Q E s := by
  obtain ⟨⟨cls, dd, data, sl⟩, ho, hc, n, hd⟩ := id ht
  obtain ⟨⟨cls2, dd2, data2, sl2⟩, ho2, hc2, n2, hd2⟩ := id hb
  simp only at hc hd hc2 hd2
  subst hc hd hc2 hd2
  have e : vs.toArray ++ ws.toArray = (vs ++ ws).toArray := by simp
  by_cases hw : ws = []
  · exact concat_meets ⟨_, ho, rfl⟩ ⟨_, ho2, rfl⟩ noFill_tuple_add seq_tuple_add PySem.F.slot_tuple_add PySem.F.entry_tuple_add (PySem.F.args_tuple_add_2 _ _)
      (tuple_addW1 t b vs.toArray ws.toArray n n2 dd dd2 sl sl2 (by simpa using hv) (by simp [hw])) ⟨ho, ho2, h1 hw⟩
  · refine concat_meets ⟨_, ho, rfl⟩ ⟨_, ho2, rfl⟩ noFill_tuple_add seq_tuple_add PySem.F.slot_tuple_add PySem.F.entry_tuple_add (PySem.F.args_tuple_add_2 _ _)
      (tuple_addW2 t b vs.toArray ws.toArray n n2 dd dd2 sl sl2 (by simpa using hv) (by simpa using hw) (by rw [List.size_toArray, List.size_toArray]; exact hsz)) ⟨ho, ho2, ?_⟩
    rw [e]
    exact h2 hw
def sIx (n d : Nat) : Option Int → Nat
  | none => d
  | some v => if v < 0 then (v + (n : Int)).toNat else min v.toNat n
theorem sIx_none (n d : Nat) : sIx n d none = d := rfl
theorem sIx_nat (n d k : Nat) : sIx n d (some (k : Int)) = min k n := by
  show (if (k : Int) < 0 then ((k : Int) + (n : Int)).toNat else min (k : Int).toNat n) = min k n
  rw [if_neg (by omega), Int.toNat_natCast]
theorem sIx_le (n d : Nat) (hd : d ≤ n) (o : Option Int) : sIx n d o ≤ n := by
  cases o with
  | none => exact hd
  | some v =>
    show (if v < 0 then (v + (n : Int)).toNat else min v.toNat n) ≤ n
    by_cases hv : v < 0
    · rw [if_pos hv]; omega
    · rw [if_neg hv]; exact Nat.min_le_right _ _
theorem clip_eq (v : Int) (n d : Nat) : (if v < 0 then max (v + (n : Int)) 0 else min v (n : Int)) = ((sIx n d (some v) : Nat) : Int) := by
  show (if v < 0 then max (v + (n : Int)) 0 else min v (n : Int)) = (((if v < 0 then (v + (n : Int)).toNat else min v.toNat n) : Nat) : Int)
  by_cases hv : v < 0
  · simp only [if_pos hv]; omega
  · simp only [if_neg hv]; omega
theorem adjust_gen (lo hi : Option Int) (n : Nat) : Builtin.Slice.sliceAdjust lo hi 1 (n : Int) = (((sIx n 0 lo : Nat) : Int), ((sIx n n hi : Nat) : Int)) := by
  have h1 : ¬ ((1 : Int) < 0) := by omega
  unfold Builtin.Slice.sliceAdjust
  simp only [h1, if_false]
  refine Prod.ext ?_ ?_
  · cases lo with
    | none => rfl
    | some v => exact clip_eq v n 0
  · cases hi with
    | none => rfl
    | some v => exact clip_eq v n n
theorem places_gen (i j : Nat) : Builtin.Slice.slicePlaces (i : Int) (j : Int) 1 = j - i := by
  unfold Builtin.Slice.slicePlaces
  have h1 : (1 : Int) > 0 := by omega
  simp only [h1, if_true, Int.ediv_one]
  split <;> omega
theorem slicePart_ {v : Value} {o : Option Int} {Q : Option Int → Shared → Prop} (p : IsPart v o) (h : Q o s) : wpAny (model prog w) A (Builtin.Slice.slicePartIndex v) Q E s := by
  cases p with
  | none => exact slicePart_none h
  | int i t => exact slicePart_int h
theorem sliceApplied_gen {sl : Addr} {vl vu : Value} {lo hi : Option Int} {n : Nat} {Q : Int × Int × Nat → Shared → Prop} (hs : s.heap.IsSliceOf sl vl vu .none) (pl : IsPart vl lo) (pu : IsPart vu hi)
    (h : Q (((sIx n 0 lo : Nat) : Int), 1, sIx n n hi - sIx n 0 lo) s) : wpAny (model prog w) A (Builtin.Slice.sliceApplied (.ref sl) (pure (n : Int))) Q E s := by
  obtain ⟨os, hos, hcs, hds⟩ := id hs
  unfold Builtin.Slice.sliceApplied Builtin.Slice.sliceFields
  refine wpAny_bind (wpAny_bind (wpAny_field hos hds (x := vl) rfl (wpAny_bind (wpAny_field hos hds (x := vu) rfl (wpAny_bind (wpAny_field hos hds (x := .none) rfl (wpAny_pure ?_)))))))
  refine wpAny_bind (slicePart_none ?_)
  show wpAny _ _ (if ((1 : Int) == 0) = true then _ else _) _ _ s
  rw [if_neg (by decide)]
  refine wpAny_bind (slicePart_ pl (wpAny_bind (slicePart_ pu (wpAny_bind (wpAny_pure ?_)))))
  show wpAny _ _ (match Builtin.Slice.sliceAdjust lo hi 1 (n : Int) with | (lo, hi) => pure (lo, (1 : Int), Builtin.Slice.slicePlaces lo hi 1)) _ _ s
  rw [adjust_gen lo hi n]
  show wpAny _ _ (pure (((sIx n 0 lo : Nat) : Int), (1 : Int), Builtin.Slice.slicePlaces ((sIx n 0 lo : Nat) : Int) ((sIx n n hi : Nat) : Int) 1)) _ _ s
  rw [places_gen]
  exact wpAny_pure h
theorem pick_gen (xs : Array Value) (i k : Nat) : ((List.range k).filterMap fun (m : Nat) => xs[((i : Int) + (m : Int) * 1).toNat]?).toArray = ((xs.toList.drop i).take k).toArray := by
  have e : (fun (m : Nat) => xs[((i : Int) + (m : Int) * 1).toNat]?) = fun m => xs[i + m]? := by
    funext m
    have : ((i : Int) + (m : Int) * 1).toNat = i + m := by omega
    rw [this]
  rw [e]
  have := pick_run xs i k
  rw [List.filterMap_map] at this
  have e2 : ((fun x => xs[x]?) ∘ fun x => i + x) = fun m => xs[i + m]? := rfl
  rw [e2] at this
  rw [this]
theorem getItem_tuple_cut {t sl : Addr} {items : Array Value} {vl vu : Value} {lo hi : Option Int} {Q : Value → Shared → Prop} (ht : IsTup s.heap t items) (hs : s.heap.IsSliceOf sl vl vu .none) (pl : IsPart vl lo) (pu : IsPart vu hi)
    (hw : ¬ (sIx items.size 0 lo = 0 ∧ sIx items.size items.size hi = items.size))
    (h : Q (.ref s.heap.objs.size) { s with heap := s.heap.push { cls := .type "tuple", data := .seq ((items.toList.drop (sIx items.size 0 lo)).take (sIx items.size items.size hi - sIx items.size 0 lo)).toArray } })
    (hsz : items.size ≤ sizeLine) : wpAny (model prog w) A (getItem (.ref t) (.ref sl)) Q E s := by
  have htake : sizeOk (.seq ((items.toList.drop (sIx items.size 0 lo)).take (sIx items.size items.size hi - sIx items.size 0 lo)).toArray) := by
    show ((items.toList.drop (sIx items.size 0 lo)).take (sIx items.size items.size hi - sIx items.size 0 lo)).toArray.size ≤ sizeLine
    rw [List.size_toArray, List.length_take, List.length_drop, Array.length_toList]
    omega
  have hj : sIx items.size items.size hi ≤ items.size := sIx_le _ _ (Nat.le_refl _) hi
  obtain ⟨os, hos, hcs, hds⟩ := id hs
  have hTs : s.TypeIs (.ref sl) "slice" := ⟨os, hos, hcs⟩
  unfold getItem
  try with_reducible refine wpAny_holding ?_
  first | refine wpAny_bind (wpAny_pure ?_) | skip
  refine wpAny_bind (wpAny_sequenceKey ht.typeIs (by decide) ?_)
  refine wpAny_bind (wpAny_callSpecial?_slot (name := Str.ofString "__getitem__") ht.typeIs PyProof.Rows.slot_tuple_getitem
    (wpAny_call_entry PyProof.Rows.slot_tuple_getitem ht.typeIs entry_tuple_getitem ?_ (args_tuple_getitem _ _)))
  show wpAny _ _ (Builtin.Tuple.tupleItemsOf (.ref t) >>= _) _ _ s
  refine wpAny_bind (tupleItemsOf_ ht ?_)
  refine wpAny_bind (wpAny_typeOf hTs ?_)
  rw [if_pos (by decide)]
  refine wpAny_bind (sliceApplied_gen hs pl pu ?_)
  have hno : ¬ ((((sIx items.size 0 lo : Nat) : Int) == 0 && (1 : Int) == 1 && (sIx items.size items.size hi - sIx items.size 0 lo) == items.size) = true) := by
    intro q
    rw [Bool.and_eq_true, Bool.and_eq_true] at q
    have q1 : ((sIx items.size 0 lo : Nat) : Int) = 0 := eq_of_beq q.1.1
    have q2 : sIx items.size items.size hi - sIx items.size 0 lo = items.size := eq_of_beq q.2
    exact hw ⟨by omega, by omega⟩
  show wpAny _ _ (if (((sIx items.size 0 lo : Nat) : Int) == 0 && (1 : Int) == 1 && (sIx items.size items.size hi - sIx items.size 0 lo) == items.size) = true then _ else _) _ _ s
  rw [if_neg hno, pick_gen]
  first
    | exact wpAny_bind (m := Builtin.Tuple.tupleExact _) (wpAny_newObj_type (wpAny_pure ⟨_, rfl, wpAny_pure h⟩) htake)
    | exact wpAny_bind (m := Builtin.Tuple.tupleExact _) (wpAny_newObj_type (wpAny_bind (wpAny_pure (wpAny_pure ⟨_, rfl, wpAny_pure h⟩))) htake)
    | exact wpAny_bind (wpAny_bind (m := Builtin.Tuple.tupleExact _) (wpAny_newObj_type (wpAny_pure (wpAny_pure ⟨_, rfl, wpAny_pure h⟩)) htake))
    | exact wpAny_bind (wpAny_bind (m := Builtin.Tuple.tupleExact _) (wpAny_newObj_type (wpAny_pure ⟨_, rfl, wpAny_pure h⟩) htake))
end
end HT
namespace L2
open PySem PySem.Spec PyProof.Rows
abbrev TO := St → Hp → (Option Int → Hp → Prop) → Prop
def PO (X : Cx) (e : Option Expr) (t : TO) : Prop :=
  ∀ (pins : List (Addr × Obj)) (s : Shared) (σ : St) (H : Hp) (Q : Option Int → Hp → Prop), Inv X pins σ H s → t σ H Q →
    wpAny (model X.prog X.w) X.A (evalPart e X.env) (fun u s' => ∃ o H', Inv X pins σ H' s' ∧ IsPart u o ∧ Q o H') X.xe s
def tNoPart : TO := fun _ H Q => Q none H
def tPart (t : TE) : TO := fun σ H Q => t σ H fun x H1 => ∃ i, x = .int i ∧ Q (some i) H1
section
variable {X : Cx} {e : Expr} {te : TE} {lo hi : Option Expr} {tl th : TO} {pos p2 : Pos}
theorem po_none : PO X none tNoPart := by
  intro pins s σ H Q I h
  rw [evalPart_none]
  exact wpAny_pure ⟨none, H, I, .none, h⟩
theorem po_some (h : PE X e te) : PO X (some e) (tPart te) := by
  intro pins s σ H Q I hw
  rw [evalPart_some]
  refine thn (h pins s σ H _ I hw) fun u s1 ⟨x, H1, I1, r1, q1⟩ => ?_
  obtain ⟨i, rfl, q⟩ := q1
  obtain ⟨t, rfl⟩ := r1
  exact ⟨some i, H1, I1, .int i t, q⟩
def SlR (X : Cx) (r : V → Option Int → Option Int → Hp → VK → Prop) : Prop :=
  ∀ (pins : List (Addr × Obj)) (s : Shared) (σ : St) (H : Hp) (x : V) (v vl vu : Value) (lo hi : Option Int) (sl : Addr) (Q : VK), Inv X pins σ H s → RelV x v → s.heap.IsSliceOf sl vl vu .none → IsPart vl lo → IsPart vu hi → r x lo hi H Q →
    ∃ T id, typeLookup (.type T) "__getitem__" = pure (some (.builtin id)) ∧ s.TypeIs v T ∧ wpAny (model X.prog X.w) X.A (getItem v (.ref sl)) (EP X pins σ Q) X.xe s
theorem SlR.or {r r' : V → Option Int → Option Int → Hp → VK → Prop} (h : SlR X r) (h' : SlR X r') : SlR X (fun x lo hi H Q => r x lo hi H Q ∨ r' x lo hi H Q) := by
  intro pins s σ H x v vl vu lo hi sl Q I rx hs pl pu q
  rcases q with q | q
  · exact h pins s σ H x v vl vu lo hi sl Q I rx hs pl pu q
  · exact h' pins s σ H x v vl vu lo hi sl Q I rx hs pl pu q
def tSl (r : V → Option Int → Option Int → Hp → VK → Prop) (te : TE) (tl th : TO) : TE := fun σ H Q => te σ H fun x H1 => tl σ H1 fun l H2 => th σ H2 fun u H3 => r x l u H3 Q
theorem pe_slice {r : V → Option Int → Option Int → Hp → VK → Prop} (hr : SlR X r) (he : PE X e te) (hl : PO X lo tl) (hu : PO X hi th) : PE X (.Subscript e (.Slice lo hi none p2) pos) (tSl r te tl th) := by
  intro pins s σ H Q I h
  refine Subscript_ (thn (he pins s σ H _ I h) fun v s1 ⟨x, H1, I1, r1, q1⟩ => ?_)
  refine wpAny_Slice (thn (hl pins s1 σ H1 _ I1 q1) fun vl s2 ⟨l, H2, I2, pl, q2⟩ => thn (hu pins s2 σ H2 _ I2 q2) fun vu s3 ⟨u, H3, I3, pu, q3⟩ => ?_)
  rw [evalPart_none]
  refine wpAny_pure ?_
  have I4 : Inv X pins σ H3 { s3 with heap := s3.heap.push { cls := .type "slice", data := .fields #[vl, vu, .none] } } := I3.kept (t' := s3.toks) fun b ob q => Heap.get?_push_of_some _ q
  obtain ⟨T, id, hT, ht, hg⟩ := hr pins { s3 with heap := s3.heap.push { cls := .type "slice", data := .fields #[vl, vu, .none] } } σ H3 x v vl vu l u s3.heap.objs.size Q I4 r1 (Heap.IsSliceOf.new ..) pl pu q3
  show wpAny (model X.prog X.w) X.A (subscriptTail e (.Slice lo hi none p2) v (.ref s3.heap.objs.size)) (EP X pins σ Q) X.xe { s3 with heap := s3.heap.push { cls := .type "slice", data := .fields #[vl, vu, .none] } }
  exact tail_any (ops := [.ref s3.heap.objs.size, v]) ht hT hg (by with_unfolding_all rfl)
def cutV (xs : List V) (lo hi : Option Int) : List V := (xs.drop (HT.sIx xs.length 0 lo)).take (HT.sIx xs.length xs.length hi - HT.sIx xs.length 0 lo)
theorem cutV_length (xs : List V) (lo hi : Option Int) : (cutV xs lo hi).length ≤ xs.length := by
  unfold cutV
  rw [List.length_take, List.length_drop]
  omega
def rSlT (K : PySem.W.Frag) : V → Option Int → Option Int → Hp → VK → Prop := fun x lo hi H Q => ∃ a xs, x = .ref a ∧ SqT K H a xs ∧
  ¬ (HT.sIx xs.length 0 lo = 0 ∧ HT.sIx xs.length xs.length hi = xs.length) ∧ ∀ p, H p = none → Q (.ref p) (upd H p (.tup (cutV xs lo hi)))
theorem sl_tup : SlR X (rSlT X.K) := by
  intro pins s σ H x v vl vu lo hi sl Q I rx hs pl pu h
  obtain ⟨a, xs, rfl, hx, hw, q⟩ := h
  cases rx
  obtain ⟨its, r, ht, hz⟩ := I.tuple hx
  have hlen : its.toArray.size = xs.length := by rw [List.size_toArray]; exact r.length.symm
  refine ⟨"tuple", _, PyProof.Rows.slot_tuple_getitem.lookup, ht.typeIs, ?_⟩
  refine HT.getItem_tuple_cut ht hs pl pu (by rw [hlen]; exact hw) ?_ (by rw [hlen]; exact hz)
  rw [hlen]
  refine ⟨.ref s.heap.objs.size, _, I.laid (t' := s.toks) (o := .tup (cutV xs lo hi)) (fun b ob q => Heap.get?_push_of_some _ q) (Nat.le_refl _) ?_, rfl, q _ (I.hok.fresh (Nat.le_refl _))⟩
  exact ⟨Nat.le_trans (cutV_length xs lo hi) hz, _, (r.drop (HT.sIx xs.length 0 lo)).take (HT.sIx xs.length xs.length hi - HT.sIx xs.length 0 lo), IsTup.new _ _⟩
def rCatT (K : PySem.W.Frag) : R2 := fun x y H Q => ∃ a b xs ys, x = .ref a ∧ y = .ref b ∧ SqT K H a xs ∧ SqT K H b ys ∧ xs ≠ [] ∧ xs.length + ys.length ≤ sizeLine ∧
  (ys = [] → Q (.ref a) H) ∧ (ys ≠ [] → ∀ p, H p = none → Q (.ref p) (upd H p (.tup (xs ++ ys))))
theorem Vals.nil_iff {xs : List V} {us : List Value} (r : Vals xs us) : us = [] ↔ xs = [] := by
  cases r with
  | nil => simp
  | cons _ _ => simp
theorem op_catT : OpR X (binaryOp .Add) (rCatT X.K) := by
  intro pins s σ H x y v u Q I rx ry h
  obtain ⟨a, b, xs, ys, rfl, rfl, ha, hb, hx, hz, q1, q2⟩ := h
  cases rx
  cases ry
  obtain ⟨its, r1, p1, _⟩ := I.tuple ha
  obtain ⟨its2, r2, p2, _⟩ := I.tuple hb
  refine HT.cat_tup p1 p2 (fun z => hx (r1.nil_iff.mp z)) (fun z => ⟨.ref a, H, I, rfl, q1 (r2.nil_iff.mp z)⟩) (fun z => ?_) (by rw [← r1.length, ← r2.length]; exact hz)
  refine ⟨.ref s.heap.objs.size, _, I.laid (t' := s.toks) (o := .tup (xs ++ ys)) (fun b ob q => Heap.get?_push_of_some _ q) (Nat.le_refl _) ?_, rfl, q2 (fun w => z (r2.nil_iff.mpr w)) _ (I.hok.fresh (Nat.le_refl _))⟩
  exact ⟨by rw [List.length_append]; exact hz, _, r1.append r2, IsTup.new _ _⟩
end
end L2
namespace L2
open PySem PySem.Spec PyProof.Rows
def ixN (n : Nat) (i : Int) : Option Nat := if 0 ≤ i then (if i < n then some i.toNat else none) else if -(n : Int) ≤ i then some (i + n).toNat else none
def atI {α : Type} (xs : List α) (i : Int) : Option α := (ixN xs.length i).bind fun j => xs[j]?
theorem ixN_seq {n : Nat} {i : Int} {j : Nat} (h : ixN n i = some j) : seqIndex? i n = some j ∧ j < n ∧ -(n : Int) ≤ i ∧ i < n := by
  unfold ixN at h
  by_cases h0 : 0 ≤ i
  · rw [if_pos h0] at h
    by_cases h1 : i < n
    · rw [if_pos h1] at h
      have e : i.toNat = j := Option.some.inj h
      exact ⟨by rw [seqIndex_of h0 h1, e], by omega, by omega, h1⟩
    · rw [if_neg h1] at h; cases h
  · rw [if_neg h0] at h
    by_cases h1 : -(n : Int) ≤ i
    · rw [if_pos h1] at h
      have e : (i + n).toNat = j := Option.some.inj h
      exact ⟨by rw [seqIndex_neg (by omega) h1, e], by omega, h1, by omega⟩
    · rw [if_neg h1] at h; cases h
theorem atI_get {α : Type} {xs : List α} {i : Int} {v : α} (h : atI xs i = some v) : ∃ j, seqIndex? i xs.length = some j ∧ xs[j]? = some v ∧ j < xs.length ∧ -(xs.length : Int) ≤ i ∧ i < xs.length := by
  unfold atI at h
  cases e : ixN xs.length i with
  | none => rw [e] at h; cases h
  | some j =>
    rw [e] at h
    obtain ⟨h1, h2, h3, h4⟩ := ixN_seq e
    exact ⟨j, h1, h, h2, h3, h4⟩
theorem atI_nat {α : Type} {xs : List α} {j : Nat} {v : α} (h : xs[j]? = some v) : atI xs (j : Int) = some v := by
  have hj : j < xs.length := (List.getElem?_eq_some_iff.mp h).1
  have e : ixN xs.length (j : Int) = some j := by
    unfold ixN
    rw [if_pos (by omega), if_pos (by omega)]; simp
  unfold atI; rw [e]; exact h
def PlainIx (b : Expr) : Prop := ∀ o i, subscripted b false o i = operate [o, i] (getItem o i)
def IxR (X : Cx) (r : R2) : Prop :=
  ∀ (value slice : Expr) (pins : List (Addr × Obj)) (s : Shared) (σ : St) (H : Hp) (x y : V) (v u : Value) (Q : VK), Inv X pins σ H s → RelV x v → RelV y u → r x y H Q →
    subscripted slice false v u = operate [v, u] (getItem v u) → wpAny (model X.prog X.w) X.A (subscriptTail value slice v u) (EP X pins σ Q) X.xe s
def MtR (X : Cx) (id : String) (r : V → List V → Hp → VK → Prop) : Prop :=
  ∀ (pins : List (Addr × Obj)) (s : Shared) (σ : St) (H : Hp) (x : V) (xs : List V) (v : Value) (us : List Value) (Q : VK), Inv X pins σ H s → RelV x v → Vals xs us → r x xs H Q →
    wpAny (model X.prog X.w) X.A (call (.builtin id) (v :: us)) (EP X pins σ Q) X.xe s
section
variable {X : Cx} {a b : Expr} {ta tb : TE} {pos : Pos}
theorem IxR.or {r r' : R2} (h : IxR X r) (h' : IxR X r') : IxR X (fun x y H Q => r x y H Q ∨ r' x y H Q) := by
  intro value slice pins s σ H x y v u Q I rx ry q hs
  rcases q with q | q
  · exact h value slice pins s σ H x y v u Q I rx ry q hs
  · exact h' value slice pins s σ H x y v u Q I rx ry q hs
theorem pe_ix {r : R2} (hr : IxR X r) (ha : PE X a ta) (hb : PE X b tb) (hs : PlainIx b) : PE X (.Subscript a b pos) (tOp r ta tb) := by
  intro pins s σ H Q I h
  exact Subscript_ (binT ha hb I h fun v u s2 x y H2 I2 rx ry q => hr a b pins s2 σ H2 x y v u Q I2 rx ry q (hs _ _))
def rIxL (K : PySem.W.Frag) : R2 := fun x y H Q => ∃ p xs i v, x = .ref p ∧ y = .int i ∧ SqL K H p xs ∧ atI xs i = some v ∧ Q v H
def rIxT (K : PySem.W.Frag) : R2 := fun x y H Q => ∃ p xs i v, x = .ref p ∧ y = .int i ∧ SqT K H p xs ∧ atI xs i = some v ∧ Q v H
def rIxS : R2 := fun x y H Q => ∃ z i c, x = .str z ∧ y = .int i ∧ z.length ≤ sizeLine ∧ atI z.cps.toList i = some c ∧ Q (.str ⟨#[c]⟩) H
theorem ix_list : IxR X (rIxL X.K) := by
  intro value slice pins s σ H x y v u Q I rx ry h hs
  obtain ⟨p, xs, i, z, rfl, rfl, hq, he, q⟩ := h
  cases rx
  obtain ⟨t, rfl⟩ := ry
  obtain ⟨its, r, pl, hz⟩ := I.list hq
  obtain ⟨j, h1, h2, h3, h4, h5⟩ := atI_get he
  obtain ⟨w, ew, rw'⟩ := r.get h2
  have hl := r.length
  have hn := line63
  have fin : EP X pins σ Q w s := ⟨z, H, I, rw', q⟩
  by_cases h0 : 0 ≤ i
  · have hj : i.toNat = j := by
      rw [seqIndex_of h0 h5] at h1
      exact Option.some.inj h1
    exact item_listR pl.isList h0 (by omega) (by rw [hj]; simpa using ew) fin hs
  · have hj : (i + (its.toArray.size : Int)).toNat = j := by
      rw [seqIndex_neg (by omega) h4] at h1
      rw [List.size_toArray, ← hl]
      exact Option.some.inj h1
    exact subscriptTail_builtinR (x := w) pl.isList.typeIs slot_list_getitem.lookup
      (wpAny_getItem_list_neg (Q := fun r s' => r = w ∧ EP X pins σ Q r s') pl.isList (by omega) (by rw [List.size_toArray] <;> omega) (by omega) (by rw [hj]; simpa using ew) ⟨rfl, fin⟩) hs
theorem ix_tup : IxR X (rIxT X.K) := by
  intro value slice pins s σ H x y v u Q I rx ry h hs
  obtain ⟨p, xs, i, z, rfl, rfl, hq, he, q⟩ := h
  cases rx
  obtain ⟨t, rfl⟩ := ry
  obtain ⟨its, r, pl, hz⟩ := I.tuple hq
  obtain ⟨j, h1, h2, h3, h4, h5⟩ := atI_get he
  obtain ⟨w, ew, rw'⟩ := r.get h2
  have hl := r.length
  have hn := line63
  have fin : EP X pins σ Q w s := ⟨z, H, I, rw', q⟩
  exact subscriptTail_builtinR (x := w) pl.typeIs slot_tuple_getitem.lookup
    (getItem_tuple (j := j) (Q := fun r s' => r = w ∧ EP X pins σ Q r s') pl (by omega) (by omega) (by rw [List.size_toArray, ← hl]; exact h1) (by simpa using ew) ⟨rfl, fin⟩) hs
theorem ix_str : IxR X rIxS := by
  intro value slice pins s σ H x y v u Q I rx ry h hs
  obtain ⟨z, i, c, rfl, rfl, hz, he, q⟩ := h
  obtain ⟨t, rfl⟩ := rx
  obtain ⟨t', rfl⟩ := ry
  obtain ⟨j, h1, h2, h3, h4, h5⟩ := atI_get he
  have hl : z.cps.toList.length = z.length := by simp [Str.length]
  rw [hl] at h1 h4 h5
  have hn := line63
  exact tail_any (typeIs_str s z t) slot_str_getitem.lookup (getItem_str (c := c) (by
    have e1 : decide (i < -(2 ^ 63 : Int)) = false := decide_eq_false (by omega)
    have e2 : decide (i ≥ 2 ^ 63) = false := decide_eq_false (by omega)
    rw [e1, e2, Bool.or_false]) (by rw [h1]; simpa using h2) ⟨.str ⟨#[c]⟩, H, I.tok _, ⟨_, rfl⟩, q⟩) hs
def rIx (K : PySem.W.Frag) : R2 := fun x y H Q => rIxL K x y H Q ∨ rIxT K x y H Q ∨ rIxS x y H Q
theorem ix_seq : IxR X (rIx X.K) := ix_list.or (ix_tup.or ix_str)
theorem mapSeq_set (its : List Value) (n j : Nat) (u : Value) : Obj.mapSeq (·.setIfInBounds j u) { cls := .type "list", data := .seq its.toArray n } = { cls := .type "list", data := .seq (its.set j u).toArray n } := by
  simp [Obj.mapSeq]
theorem Inv.lst {pins : List (Addr × Obj)} {σ : St} {H : Hp} {s : Shared} {p : Addr} {xs : List V} (I : Inv X pins σ H s) (h : H p = some (.lst xs)) :
    ∃ (its : List Value) (n : Nat), Vals xs its ∧ s.heap.get? p = some { cls := .type "list", data := .seq its.toArray n } ∧ xs.length ≤ sizeLine := by
  obtain ⟨z, its, n, r, e⟩ := I.hok p _ h
  exact ⟨its, n, r, e, z⟩
theorem Inv.lstUpd {pins : List (Addr × Obj)} {σ : St} {H : Hp} {s : Shared} {p : Addr} {xs ys : List V} {its its' : List Value} {n n' : Nat} {f : Obj → Obj} (I : Inv X pins σ H s) (h : H p = some (.lst xs))
    (ho : s.heap.get? p = some { cls := .type "list", data := .seq its.toArray n }) (hf : f { cls := .type "list", data := .seq its.toArray n } = { cls := .type "list", data := .seq its'.toArray n' }) (r : Vals ys its') (hz : ys.length ≤ sizeLine) (t : Nat) :
    Inv X pins σ (upd H p (.lst ys)) { s with heap := s.heap.update p f, toks := t } := by
  have e : (s.heap.update p f).get? p = some { cls := .type "list", data := .seq its'.toArray n' } := by
    rw [Heap.get?_update_self f ho (by rw [hf] <;> rfl), hf]
  refine I.write (x := p) (e := p) (by rw [h]; trivial) (.inl rfl) (fun b u hb q => (Heap.get?_update_other _ _ (Ne.symm hb)).trans q) ⟨_, e⟩ ?_
  exact ⟨hz, its', n', r, e⟩
def rSetL : V → V → V → Hp → (Hp → Prop) → Prop := fun o i v H Q => ∃ p xs k j, o = .ref p ∧ i = .int k ∧ H p = some (.lst xs) ∧ ixN xs.length k = some j ∧ Q (upd H p (.lst (xs.set j v)))
theorem set_list : PSet X rSetL := by
  intro pins s σ H o i v ov iv u Q I ro ri rv h
  obtain ⟨p, xs, k, j, rfl, rfl, hp, hj, q⟩ := h
  cases ro
  obtain ⟨t, rfl⟩ := ri
  obtain ⟨its, n, r, ho, hz⟩ := I.lst hp
  obtain ⟨h1, h2, h3, h4⟩ := ixN_seq hj
  have hl := r.length
  have hn := line63
  have I' : Inv X pins σ (upd H p (.lst (xs.set j v))) { s with heap := s.heap.update p (Obj.mapSeq (·.setIfInBounds j u)) } :=
    I.lstUpd hp ho (mapSeq_set its n j u) (r.set rv j) (by rw [List.length_set]; exact hz) s.toks
  by_cases h0 : 0 ≤ k
  · have hk : k.toNat = j := by
      rw [seqIndex_of h0 h4] at h1
      exact Option.some.inj h1
    exact PySem.W.ki_setAt ho h0 (by omega) (by rw [List.size_toArray, ← hl]; exact h4) (by rw [hk]; exact ⟨_, I', q⟩)
  · have hk : (k + (its.toArray.size : Int)).toNat = j := by
      rw [seqIndex_neg (by omega) h3] at h1
      rw [List.size_toArray, ← hl]
      exact Option.some.inj h1
    exact PySem.W.ki_setBack ho (by omega) (by rw [List.size_toArray, ← hl]; exact h3) (by omega) (by rw [hk]; exact ⟨_, I', q⟩)
theorem slice_bounds (lo hi : Option Int) (n : Nat) : (sliceBounds lo hi none n).1 = ((HT.sIx n 0 lo : Nat) : Int) ∧ (sliceBounds lo hi none n).2.1 = ((HT.sIx n n hi : Nat) : Int) ∧ (sliceBounds lo hi none n).2.2 = 1 := by
  refine ⟨?_, ?_, rfl⟩
  · cases lo with
    | none => simp [sliceBounds, HT.sIx]
    | some i =>
      simp only [sliceBounds, HT.sIx, Option.getD_none, show (1 : Int) > 0 by decide, if_true]
      by_cases h : i < 0
      · simp only [h, if_true] <;> omega
      · simp only [h, if_false] <;> omega
  · cases hi with
    | none => simp [sliceBounds, HT.sIx]
    | some i =>
      simp only [sliceBounds, HT.sIx, Option.getD_none, show (1 : Int) > 0 by decide, if_true]
      by_cases h : i < 0
      · simp only [h, if_true] <;> omega
      · simp only [h, if_false] <;> omega
theorem slicePick_cut (its : List Value) (lo hi : Option Int) : slicePick its.toArray lo hi none = ((its.drop (HT.sIx its.length 0 lo)).take (HT.sIx its.length its.length hi - HT.sIx its.length 0 lo)).toArray := by
  obtain ⟨h1, h2, h3⟩ := slice_bounds lo hi its.toArray.size
  unfold slicePick
  rw [h1, h2, h3]
  simp only [sliceRange_one, pick_run, List.size_toArray] <;> rfl
def rSlL (K : PySem.W.Frag) : V → Option Int → Option Int → Hp → VK → Prop := fun x lo hi H Q => ∃ a xs, x = .ref a ∧ SqL K H a xs ∧ ∀ p, H p = none → Q (.ref p) (upd H p (.lst (cutV xs lo hi)))
theorem sl_list : SlR X (rSlL X.K) := by
  intro pins s σ H x v vl vu lo hi sl Q I rx hs pl pu h
  obtain ⟨a, xs, rfl, hx, q⟩ := h
  cases rx
  obtain ⟨its, r, ht, hz⟩ := I.list hx
  have hlen := r.length
  refine ⟨"list", _, slot_list_getitem.lookup, ht.isList.typeIs, ?_⟩
  refine wpAny_getItem_list_slice ht.isList hs pl pu .none (by simp) ?_ (by rw [List.size_toArray] <;> omega)
  rw [slicePick_cut, ← hlen]
  refine ⟨.ref s.heap.objs.size, _, I.laid (t' := s.toks) (o := .lst (cutV xs lo hi)) (fun b ob q => Heap.get?_push_of_some _ q) (Nat.le_refl _) ?_, rfl, q _ (I.hok.fresh (Nat.le_refl _))⟩
  exact ⟨Nat.le_trans (cutV_length xs lo hi) hz, _, 0, (r.drop (HT.sIx xs.length 0 lo)).take (HT.sIx xs.length xs.length hi - HT.sIx xs.length 0 lo), Heap.get?_push_size _ rfl⟩
theorem call_list_of : CallR X (.type "list") (fun xs H Q => ∃ p ys, xs = [.ref p] ∧ (SqL X.K H p ys ∨ SqT X.K H p ys) ∧ ∀ l, H l = none → Q (.ref l) (upd H l (.lst ys))) := by
  intro pins s σ H xs us Q I r h
  obtain ⟨p, ys, rfl, hq, q⟩ := h
  obtain ⟨u, rfl, rx⟩ := vals1 r
  cases rx
  have fin : ∀ (its : List Value), Vals ys its → ys.length ≤ sizeLine → ∀ (h' : Heap) (c' : Nat), (∀ b o', s.heap.get? b = some o' → h'.get? b = some o') →
      h'.get? s.heap.objs.size = some { cls := .type "list", dict := none, data := .seq its.toArray c', slots := #[] } → EP X pins σ Q (.ref s.heap.objs.size) { s with heap := h' } := fun its r' hz h' c' kp e =>
    ⟨.ref s.heap.objs.size, _, I.laid (t' := s.toks) kp (Nat.le_refl _) (show ObjOk X.prog X.w _ h' _ (.lst ys) from ⟨hz, its, c', r', e⟩), rfl, q _ (I.hok.fresh (Nat.le_refl _))⟩
  rcases hq with hq | hq
  · obtain ⟨its, r', pl, hz⟩ := I.list hq
    have hlen := r'.length
    obtain ⟨o, ho, hc, n, hd⟩ := pl.isList
    exact call_list_seq p (.inl rfl) ho hc hd (fun h' c' kp e => fin its r' hz h' c' kp e) (by simp only [List.size_toArray] <;> omega)
  · obtain ⟨its, r', pl, hz⟩ := I.tuple hq
    have hlen := r'.length
    obtain ⟨o, ho, hc, n, hd⟩ := pl
    exact call_list_seq p (.inr rfl) ho hc hd (fun h' c' kp e => fin its r' hz h' c' kp e) (by simp only [List.size_toArray] <;> omega)
theorem call_tuple_of : CallR X (.type "tuple") (fun xs H Q => ∃ p ys, xs = [.ref p] ∧ ((SqL X.K H p ys ∧ ∀ l, H l = none → Q (.ref l) (upd H l (.tup ys))) ∨ (SqT X.K H p ys ∧ Q (.ref p) H))) := by
  intro pins s σ H xs us Q I r h
  obtain ⟨p, ys, rfl, h⟩ := h
  obtain ⟨u, rfl, rx⟩ := vals1 r
  cases rx
  rcases h with ⟨hq, q⟩ | ⟨hq, q⟩
  · obtain ⟨its, r', pl, hz⟩ := I.list hq
    have hlen := r'.length
    refine call_tuple_list pl.isList (fun h' kp => ?_) (by simp only [List.size_toArray] <;> omega)
    have I1 : Inv X pins σ H { s with heap := h' } := I.kept (t' := s.toks) kp
    have I2 : Inv X pins σ (upd H h'.objs.size (.tup ys)) { s with heap := h'.push { cls := .type "tuple", data := .seq its.toArray } } :=
      I1.laid (t' := s.toks) (fun b o e => Heap.get?_push_of_some _ e) (Nat.le_refl _) (show ObjOk X.prog X.w _ _ _ (.tup ys) from ⟨hz, its, r', IsTup.new _ _⟩)
    exact ⟨.ref h'.objs.size, _, I2, rfl, q _ (I1.hok.fresh (Nat.le_refl _))⟩
  · obtain ⟨its, r', pl, hz⟩ := I.tuple hq
    exact call_tuple_same pl ⟨.ref p, H, I, rfl, q⟩
def tyV (K : PySem.W.Frag) (T : String) (x : V) (H : Hp) : Prop := match x with
  | .str _ => T = "str"
  | .int _ => T = "int"
  | .ref p => (T = "list" ∧ ∃ xs, SqL K H p xs) ∨ (T = "tuple" ∧ ∃ o, K.lookup p = some o ∧ o.cls = .type "tuple" ∧ o.dict = none) ∨
      (T = "dict" ∧ ((∃ kvs, H p = some (.dK kvs)) ∨ ∃ kvs, H p = some (.dT kvs))) ∨ (T = "set" ∧ ∃ S n, H p = some (.set S n))
  | _ => False
theorem tyV_is {pins : List (Addr × Obj)} {σ : St} {H : Hp} {s : Shared} {T : String} {x : V} {v : Value} (I : Inv X pins σ H s) (r : RelV x v) (ty : tyV X.K T x H) :
    s.TypeIs v T ∧ ∀ a, v = .ref a → ∃ ob, s.heap.get? a = some ob ∧ ob.dict = none := by
  cases x with
  | str z =>
    obtain ⟨t, rfl⟩ := r
    cases (show T = "str" from ty)
    exact ⟨typeIs_str s z t, fun _ e => nomatch e⟩
  | int i =>
    obtain ⟨t, rfl⟩ := r
    cases (show T = "int" from ty)
    exact ⟨typeIs_int s i t, fun _ e => nomatch e⟩
  | ref p =>
    cases r
    rcases ty with ⟨rfl, xs, hq⟩ | ⟨rfl, o, hk, hc, hd⟩ | ⟨rfl, hk⟩ | ⟨rfl, S, n, hk⟩
    · obtain ⟨its, _, pl, _⟩ := I.list hq
      refine ⟨pl.isList.typeIs, fun a e => ?_⟩
      cases e
      obtain ⟨o, n, e, c, hd, _⟩ := pl
      exact ⟨o, e, hd⟩
    · refine ⟨⟨o, I.kIn p o hk, hc⟩, fun a e => ?_⟩
      cases e
      exact ⟨o, I.kIn _ o hk, hd⟩
    · have z : ∃ o, s.heap.get? p = some o ∧ o.ExactDict := by
        rcases hk with ⟨kvs, hk⟩ | ⟨kvs, hk⟩
        · obtain ⟨_, _, _, _, o, _, _, e, ex, _⟩ := I.hok p _ hk
          exact ⟨o, e, ex⟩
        · obtain ⟨_, _, _, _, o, _, _, e, ex, _⟩ := I.hok p _ hk
          exact ⟨o, e, ex⟩
      obtain ⟨o, e, ex⟩ := z
      refine ⟨⟨o, e, ex.1⟩, fun a e2 => ?_⟩
      cases e2
      exact ⟨o, e, ex.2.1⟩
    · obtain ⟨o, _, _, _, e, ex, _⟩ := I.hok p _ hk
      refine ⟨⟨o, e, ex.1⟩, fun a e2 => ?_⟩
      cases e2
      exact ⟨o, e, ex.2.1⟩
  | _ => exact False.elim ty
def tBM0 (K : PySem.W.Frag) (T : String) (r : V → List V → Hp → VK → Prop) (to : TE) : TE := fun σ H Q => to σ H fun x H1 => tyV K T x H1 ∧ r x [] H1 Q
def tBM (K : PySem.W.Frag) (T : String) (r : V → List V → Hp → VK → Prop) (to : TE) (t : TA) : TE := fun σ H Q => to σ H fun x H1 => tyV K T x H1 ∧ t σ H1 fun xs H2 => r x xs H2 Q
variable {o e : Expr} {es : List Expr} {to : TE} {t : TA} {name : Str} {apos cpos : Pos} {T id : String} {r : V → List V → Hp → VK → Prop}
theorem pe_bm0 (pa : PlainAttrs T) (slot : Slot T name id) (hty : typeOf (.builtin id) = pure (.type "method_descriptor")) (hm : MtR X id r) (ho : PE X o to)
    (hbase : attributeBase o name X.env (eval o X.env) = eval o X.env := by rfl) (hline : (apos.endLine == cpos.line) = true := by rfl) : PE X (.Call (.Attribute o name apos) [] [] cpos) (tBM0 X.K T r to) := by
  intro pins s σ H Q I h
  refine wpAny_Call_method0_late hbase hline (thn (ho pins s σ H _ I h) fun v s1 ⟨x, H1, I1, r1, ty, q1⟩ => ?_)
  obtain ⟨h1, h2⟩ := tyV_is I1 r1 ty
  exact ⟨T, id, pa, slot, hty, h1, h2, Calls.callWith_builtin rfl (PySem.evalArgs_none (hm pins s1 σ H1 x [] v [] Q I1 r1 .nil q1))⟩
theorem pe_bm (pa : PlainAttrs T) (slot : Slot T name id) (hty : typeOf (.builtin id) = pure (.type "method_descriptor")) (hm : MtR X id r) (ho : PE X o to) (ha : PA X (e :: es) t)
    (hbase : attributeBase o name X.env (eval o X.env) = eval o X.env := by rfl)
    (hfew : ((backTo cpos (starEach (e :: es) X.env)).all (fun x => !x.1) && (backToKw cpos (keywordEach [] X.env)).all (fun x => x.1.isSome)
      && decide ((e :: es).length + ([] : List Keyword).length + (if ([] : List Keyword).isEmpty then 0 else 1) < 30)) = true := by rfl)
    (hline : (apos.endLine == cpos.line) = true := by rfl) (hs : starEach (e :: es) X.env = (false, eval e X.env) :: starEach es X.env := by rfl) (hplain : (backTo cpos (starEach es X.env)).any (·.1) = false := by rfl) :
    PE X (.Call (.Attribute o name apos) (e :: es) [] cpos) (tBM X.K T r to t) := by
  intro pins s σ H Q I h
  refine wpAny_Call_method_late hbase hfew hline rfl (thn (ho pins s σ H _ I h) fun v s1 ⟨x, H1, I1, r1, ty, q1⟩ => ?_)
  obtain ⟨h1, h2⟩ := tyV_is I1 r1 ty
  refine ⟨T, id, pa, slot, hty, h1, h2, ?_⟩
  have hA := ha cpos pins s1 σ H1 _ I1 q1
  rw [hs] at hA ⊢
  refine Calls.callWith_builtin (by show (false || (backTo cpos (starEach es X.env)).any (·.1)) = false; rw [hplain] <;> rfl) (Calls.evalArgs_plain ?_)
  exact thn hA fun us s2 ⟨vs, H2, I2, r2, q2⟩ => hm pins s2 σ H2 x vs v us Q I2 r1 r2 q2
/- xs.append(e), list.index on a module's tuple .. are MtR facts of 06m -/
end
end L2
namespace L2
open PySem PySem.Spec PyProof.Rows
def MtM (X : Cx) (id : String) (r : V → List V → Hp → VK → Prop) : Prop :=
  ∀ (pins : List (Addr × Obj)) (s : Shared) (σ : St) (H : Hp) (x : V) (xs : List V) (v : Value) (us : List Value) (Q : VK), Inv X pins σ H s → RelV x v → Vals xs us → r x xs H Q →
    wpAny (model X.prog X.w) X.A (call (.builtin id) (v :: us)) (EP X pins σ Q) X.xe s
theorem Vals.one : ∀ {x : V} {us : List Value}, Vals [x] us → ∃ u, us = [u] ∧ RelV x u
  | _, _, .cons r .nil => ⟨_, rfl, r⟩
theorem Vals.zero : ∀ {us : List Value}, Vals [] us → us = []
  | _, .nil => rfl
theorem Vals.dropLast {xs : List V} {us : List Value} (h : Vals xs us) : Vals xs.dropLast us.dropLast := by
  induction h with
  | nil => exact .nil
  | cons r t ih =>
    cases t with
    | nil => exact .nil
    | cons q t' => exact .cons r ih
theorem Vals.rep {xs : List V} {us : List Value} (h : Vals xs us) : ∀ k : Nat, Vals (List.replicate k xs).flatten (List.replicate k us).flatten
  | 0 => .nil
  | k + 1 => by
    rw [List.replicate_succ, List.replicate_succ, List.flatten_cons, List.flatten_cons]
    exact Vals.append h (Vals.rep h k)
theorem erase_last {α : Type} (l : List α) : l.eraseIdx (l.length - 1) = l.dropLast := by
  induction l with
  | nil => rfl
  | cons a r ih =>
    cases r with
    | nil => rfl
    | cons b r =>
      have e : (a :: b :: r).length - 1 = ((b :: r).length - 1) + 1 := by
        have h1 : (a :: b :: r).length = r.length + 2 := rfl
        have h2 : (b :: r).length = r.length + 1 := rfl
        omega
      rw [e, List.eraseIdx_cons_succ, ih]
      all_goals rfl
theorem foldl_rep (its : List Value) : ∀ (k : Nat) (acc : List Value),
    List.foldl (fun x1 x2 => x1 ++ x2) acc.toArray (List.replicate k its.toArray) = (acc ++ (List.replicate k its).flatten).toArray
  | 0, acc => by simp
  | k + 1, acc => by
    have e : acc.toArray ++ its.toArray = (acc ++ its).toArray := by simp
    have e2 : (acc ++ its) ++ (List.replicate k its).flatten = acc ++ (List.replicate (k + 1) its).flatten := by
      rw [List.replicate_succ, List.flatten_cons, List.append_assoc]
    rw [← e2, ← foldl_rep its k (acc ++ its), ← e, List.replicate_succ, List.foldl_cons]
section
variable {X : Cx} {pins : List (Addr × Obj)} {σ : St} {H : Hp} {s : Shared} {l b : Addr} {xs ys zs : List V}
theorem Inv.lset {its its' : List Value} {n : Nat} {f : Array Value → Array Value} {t' : Nat} (I : Inv X pins σ H s) (hH : H l = some (.lst xs))
    (e : s.heap.get? l = some { cls := .type "list", data := .seq its.toArray n }) (hf : f its.toArray = its'.toArray) (hv : Vals ys its') (hz : ys.length ≤ sizeLine) :
    Inv X pins σ (upd H l (.lst ys)) { s with heap := s.heap.update l (Obj.mapSeq f), toks := t' } := by
  have q := PySem.IsL.update e f
  rw [hf] at q
  refine I.write (x := l) (e := l) (by rw [hH]; exact trivial) (.inl rfl) (fun b' u hb hu => (Heap.get?_update_other s.heap (Obj.mapSeq f) (Ne.symm hb)).trans hu) ⟨_, q⟩ ?_
  exact ⟨hz, its', _, hv, q⟩
theorem Inv.lnew {its : List Value} {t' : Nat} (I : Inv X pins σ H s) (hv : Vals ys its) (hz : ys.length ≤ sizeLine) :
    Inv X pins σ (upd H s.heap.objs.size (.lst ys)) { s with heap := s.heap.push { cls := .type "list", data := .seq its.toArray }, toks := t' } :=
  I.laid (fun _ _ q => Heap.get?_push_of_some _ q) (Nat.le_refl _) ⟨hz, its, 0, hv, Heap.get?_push_size _ rfl⟩
theorem Inv.fresh (I : Inv X pins σ H s) : H s.heap.objs.size = none := I.hok.fresh (Nat.le_refl _)
theorem Inv.lstM (I : Inv X pins σ H s) (hH : H l = some (.lst xs)) : xs.length ≤ sizeLine ∧ ∃ (its : List Value) (n : Nat), Vals xs its ∧ xs.length = its.length ∧ s.heap.get? l = some { cls := .type "list", data := .seq its.toArray n } := by
  obtain ⟨z, its, n, r, e⟩ := I.hok l _ hH
  exact ⟨z, its, n, r, r.length, e⟩
theorem notLongL {n : Nat} (h : n ≤ sizeLine) : Builtin.List.listTooLong n = false := by
  unfold Builtin.List.listTooLong
  exact decide_eq_false (by omega)
end
section
variable {X : Cx}
def rAppend : V → List V → Hp → VK → Prop := fun x vs H Q => ∃ l xs y, x = .ref l ∧ vs = [y] ∧ H l = some (.lst xs) ∧ xs.length < sizeLine ∧ Q .non (upd H l (.lst (xs ++ [y])))
theorem mt_append : MtM X "list.append" rAppend := by
  intro pins s σ H x vs v us Q I rx rv h
  obtain ⟨l, xs, y, rfl, rfl, hH, hz, q⟩ := h
  cases rx
  obtain ⟨u, rfl, ru⟩ := rv.one
  obtain ⟨z, its, n, r, hl, e⟩ := I.lstM hH
  refine call_meets F.slot_list_append ⟨_, e, rfl⟩ F.entry_list_append (F.args_list_append_2 _ _) (PySem.list_append l its.toArray n u (by rw [List.size_toArray]; omega)) ⟨e, ?_⟩
  refine ⟨.non, _, I.lset (its' := its ++ [u]) hH e (by simp) (r.append (.cons ru .nil)) ?_, rfl, q⟩
  rw [List.length_append, List.length_singleton]
  omega
def rExtend : V → List V → Hp → VK → Prop := fun x vs H Q => ∃ l b xs zs, x = .ref l ∧ vs = [.ref b] ∧ H l = some (.lst xs) ∧ H b = some (.lst zs) ∧ xs.length + zs.length ≤ sizeLine ∧ Q .non (upd H l (.lst (xs ++ zs)))
theorem mt_extend : MtM X "list.extend" rExtend := by
  intro pins s σ H x vs v us Q I rx rv h
  obtain ⟨l, b, xs, zs, rfl, rfl, hH, hB, hz, q⟩ := h
  cases rx
  obtain ⟨u, rfl, ru⟩ := rv.one
  cases ru
  obtain ⟨z, its, n, r, hl, e⟩ := I.lstM hH
  obtain ⟨z2, its2, n2, r2, hl2, e2⟩ := I.lstM hB
  have hsz : its.toArray.size + its2.toArray.size ≤ sizeLine := by rw [List.size_toArray, List.size_toArray]; omega
  have hlong : ¬ (!its.toArray.isEmpty && Builtin.List.listTooLong (its.toArray.size + its2.toArray.size)) = true := by
    rw [notLongL hsz, Bool.and_false]
    exact Bool.false_ne_true
  refine call_meets F.slot_list_extend ⟨_, e, rfl⟩ F.entry_list_extend (F.args_list_extend_2 _ _)
    (AutoSeq1.list_extend_list_list_0 l its.toArray n b its2.toArray n2 hlong (by rw [List.size_toArray]; omega) (by omega)) ⟨e, e2, ?_⟩
  refine ⟨.non, _, I.lset (its' := its ++ its2) hH e (by simp) (r.append r2) ?_, rfl, q⟩
  rw [List.length_append]
  omega
def rPop : V → List V → Hp → VK → Prop := fun x vs H Q => ∃ l xs y, x = .ref l ∧ vs = [] ∧ H l = some (.lst xs) ∧ xs[xs.length - 1]? = some y ∧ Q y (upd H l (.lst xs.dropLast))
theorem mt_pop : MtM X "list.pop" rPop := by
  intro pins s σ H x vs v us Q I rx rv h
  obtain ⟨l, xs, y, rfl, rfl, hH, hy, q⟩ := h
  cases rx
  have hus := rv.zero
  subst hus
  obtain ⟨z, its, n, r, hl, e⟩ := I.lstM hH
  obtain ⟨u, hu, ru⟩ := r.get hy
  have hy' : its.toArray[its.toArray.size - 1]? = some u := by
    show its.toArray[its.length - 1]? = some u
    rw [← Array.getElem?_toList, ← hl]
    exact hu
  refine call_meets F.slot_list_pop ⟨_, e, rfl⟩ F.entry_list_pop (F.args_list_pop_1 _) (MeetsSeq.list_pop_last l its.toArray n u hy' (by rw [List.size_toArray]; omega)) ⟨e, ?_⟩
  refine ⟨y, _, I.lset (its' := its.dropLast) hH e ?_ r.dropLast ?_, ru, q⟩
  · show its.toArray.eraseIdxIfInBounds (its.toArray.size - 1) = its.dropLast.toArray
    rw [List.size_toArray, List.eraseIdxIfInBounds_toArray, erase_last]
  · rw [List.length_dropLast]
    omega
def rCat : R2 := fun x y H Q => ∃ l b xs zs, x = .ref l ∧ y = .ref b ∧ H l = some (.lst xs) ∧ H b = some (.lst zs) ∧ xs.length + zs.length ≤ sizeLine ∧ ∀ p, H p = none → Q (.ref p) (upd H p (.lst (xs ++ zs)))
theorem op_cat : OpR X (binaryOp .Add) rCat := by
  intro pins s σ H x y v u Q I rx ry h
  obtain ⟨l, b, xs, zs, rfl, rfl, hH, hB, hz, q⟩ := h
  cases rx
  cases ry
  obtain ⟨z, its, n, r, hl, e⟩ := I.lstM hH
  obtain ⟨z2, its2, n2, r2, hl2, e2⟩ := I.lstM hB
  refine PySem.P.add_list e e2 ?_ (by rw [List.size_toArray, List.size_toArray]; omega)
  have ea : its.toArray ++ its2.toArray = (its ++ its2).toArray := by simp
  rw [ea]
  exact ⟨.ref _, _, I.lnew (t' := s.toks) (r.append r2) (by rw [List.length_append]; omega), rfl, q _ I.fresh⟩
def rRep : R2 := fun x y H Q => ∃ l k xs, x = .ref l ∧ y = .int k ∧ H l = some (.lst xs) ∧ -(2 ^ 63) ≤ k ∧ k < 2 ^ 63 ∧ xs.length * k.toNat ≤ sizeLine ∧
  ∀ p, H p = none → Q (.ref p) (upd H p (.lst (List.replicate k.toNat xs).flatten))
theorem len_rep {α : Type} (xs : List α) (k : Nat) : (List.replicate k xs).flatten.length = k * xs.length := by
  induction k with
  | zero => simp
  | succ k ih => rw [List.replicate_succ, List.flatten_cons, List.length_append, ih, Nat.succ_mul, Nat.add_comm]
theorem op_rep : OpR X (binaryOp .Mult) rRep := by
  intro pins s σ H x y v u Q I rx ry h
  obtain ⟨l, k, xs, rfl, rfl, hH, h1, h2, hz, q⟩ := h
  cases rx
  obtain ⟨t, rfl⟩ := ry
  obtain ⟨z, its, n, r, hl, e⟩ := I.lstM hH
  have hlen : its.toArray.size * k.toNat ≤ sizeLine := by rw [List.size_toArray, ← hl]; exact hz
  have hcap : ¬ its.toArray.size * k.toNat > (2 ^ 63 - 1) / 8 := by
    have : (sizeLine : Nat) ≤ (2 ^ 63 - 1) / 8 := by decide
    omega
  have hfit : ¬ (!Builtin.List.listFitsIndex k) = true := by
    rw [fitsIndex_both h1 h2]
    exact Bool.false_ne_true
  have hlong : ¬ Builtin.List.listTooLong (its.toArray.size * k.toNat) = true := by
    rw [notLongL hlen]
    exact Bool.false_ne_true
  have hnew : List.foldl (fun x1 x2 => x1 ++ x2) #[] (List.replicate (if its.toArray.isEmpty = true then 0 else k.toNat) its.toArray) = (List.replicate k.toNat its).flatten.toArray := by
    have f0 : ∀ m : Nat, List.foldl (fun x1 x2 => x1 ++ x2) #[] (List.replicate m its.toArray) = (List.replicate m its).flatten.toArray := fun m => by
      have := foldl_rep its m []
      rw [List.nil_append] at this
      exact this
    rw [f0]
    cases its with
    | nil => simp
    | cons a r' => rw [if_neg (by simp)]
  refine wpAny_binaryOp_repeat_ref (T := "list") (U := "int") (by decide) ⟨_, e, rfl⟩ (fun s' => typeIs_int s' k t) noFill_list_mul F.fills_int_mul F.slot_int_rmul repeat_list F.slot_int_index.lookup
    (call_meets F.slot_int_rmul (typeIs_int s k t) F.entry_int_rmul (F.args_int_rmul_2 _ _) (int___rmul___int_list k t l its.toArray n)
      ⟨e, rfl, ⟨_, e, rfl⟩, call_meets F.slot_list_mul ⟨_, e, rfl⟩ F.entry_list_mul (F.args_list_mul_2 _ _) (AutoListH.list___mul___list_int_3 l its.toArray n k t hfit hcap hlong) ⟨e, ?_⟩⟩)
  rw [hnew]
  exact ⟨.ref _, _, I.lnew (t' := s.toks) (r.rep k.toNat) (by rw [len_rep, Nat.mul_comm]; exact hz), rfl, q _ I.fresh⟩
end
section
variable {prog : Program} {w : World} {A : Around} {E : Value → Shared → Prop} {s : Shared}
end
section
variable {X : Cx}
end
end L2
namespace L2
open PySem PySem.Spec PyProof.Rows
section
variable {κ : Type} [DecidableEq κ]
def valV (kvs : List (κ × V)) (k : κ) : Option V := (kvs.find? fun kv => decide (kv.1 = k)).map (·.2)
def putK (kvs : List (κ × V)) (k : κ) (v : V) : List (κ × V) :=
  if (kvs.any fun kv => decide (kv.1 = k)) = true then kvs.map (fun kv => if kv.1 = k then (kv.1, v) else kv) else kvs ++ [(k, v)]
theorem valV_pos {p : κ × V} {r : List (κ × V)} {k : κ} (e : p.1 = k) : valV (p :: r) k = some p.2 := by simp [valV, List.find?_cons, e]
theorem valV_neg {p : κ × V} {r : List (κ × V)} {k : κ} (e : ¬ p.1 = k) : valV (p :: r) k = valV r k := by simp [valV, List.find?_cons, e]
theorem valV_any (k : κ) : ∀ kvs : List (κ × V), (kvs.any fun kv => decide (kv.1 = k)) = (valV kvs k).isSome
  | [] => rfl
  | p :: r => by
    rw [List.any_cons]
    by_cases e : p.1 = k
    · simp only [valV_pos e, decide_eq_true e, Bool.true_or, Option.isSome_some]
    · rw [valV_neg e, decide_eq_false e, Bool.false_or]; exact valV_any k r
theorem length_putK (kvs : List (κ × V)) (k : κ) (v : V) : (putK kvs k v).length ≤ kvs.length + 1 := by
  unfold putK
  split
  · rw [List.length_map]; omega
  · rw [List.length_append, List.length_cons, List.length_nil]; omega
theorem RelO.isSome_eq {o : Option V} {u : Option Value} (r : RelO o u) : o.isSome = u.isSome := by
  cases o with
  | none => cases u with
    | none => rfl
    | some _ => exact (show False from r).elim
  | some _ => cases u with
    | none => exact (show False from r).elim
    | some _ => rfl
theorem KV.val {kvs : List (κ × V)} {vs : List (κ × Value)} (r : KV kvs vs) (k : κ) : RelO (valV kvs k) (valueAt vs k) := by
  unfold KV at r
  induction r with
  | nil => exact True.intro
  | @cons p q ps qs h t ih =>
    obtain ⟨h1, h2⟩ := h
    by_cases e : p.1 = k
    · have e' : q.1 = k := h1.symm.trans e
      have b : valueAt (q :: qs) k = some q.2 := by simp [valueAt, List.find?_cons, e']
      rw [valV_pos e, b]; exact h2
    · have e' : ¬ q.1 = k := fun z => e (h1.trans z)
      have b : valueAt (q :: qs) k = valueAt qs k := by simp [valueAt, List.find?_cons, e']
      rw [valV_neg e, b]; exact ih
theorem KV.any {kvs : List (κ × V)} {vs : List (κ × Value)} (r : KV kvs vs) (k : κ) : (kvs.any fun kv => decide (kv.1 = k)) = vs.any fun kv => decide (kv.1 = k) := by
  unfold KV at r
  induction r with
  | nil => rfl
  | cons h t ih => rw [List.any_cons, List.any_cons, ih, h.1]
theorem KV.repl {kvs : List (κ × V)} {vs : List (κ × Value)} (r : KV kvs vs) (k : κ) {y : V} {u : Value} (ry : RelV y u) :
    KV (kvs.map fun kv => if kv.1 = k then (kv.1, y) else kv) (vs.map fun kv => if kv.1 = k then (kv.1, u) else kv) := by
  unfold KV at r ⊢
  induction r with
  | nil => exact .nil
  | @cons p q ps qs h t ih =>
    rw [List.map_cons, List.map_cons]
    refine .cons ?_ ih
    obtain ⟨h1, h2⟩ := h
    by_cases e : p.1 = k
    · rw [if_pos e, if_pos (h1.symm.trans e)]; exact ⟨h1, ry⟩
    · rw [if_neg e, if_neg (fun z => e (h1.trans z))]; exact ⟨h1, h2⟩
theorem KV.put {kvs : List (κ × V)} {vs : List (κ × Value)} (r : KV kvs vs) (k : κ) {y : V} {u : Value} (ry : RelV y u) : KV (putK kvs k y) (stored vs k u) := by
  unfold putK stored
  rw [r.any k]
  by_cases e : (vs.any fun kv => decide (kv.1 = k)) = true
  · rw [if_pos e, if_pos e]; exact r.repl k ry
  · rw [if_neg e, if_neg e]; exact Paired.snoc r ⟨rfl, ry⟩
theorem KV.keys {kvs : List (κ × V)} {vs : List (κ × Value)} (r : KV kvs vs) : kvs.map (·.1) = vs.map (·.1) := by
  unfold KV at r
  induction r with
  | nil => rfl
  | cons h t ih => rw [List.map_cons, List.map_cons, ih, h.1]
theorem KV.length {kvs : List (κ × V)} {vs : List (κ × Value)} (r : KV kvs vs) : kvs.length = vs.length := Paired.length r
end
theorem kV_is {P : Program} {w : World} {k : Key} {u : Value} (r : RelV (kV k) u) : (mixKind P w).is k u = true := by
  cases k with
  | inl i => obtain ⟨t, e⟩ := (show ∃ t, u = Value.int i t from r); subst e; exact mixKind_int P w i t
  | inr x => obtain ⟨t, e⟩ := (show ∃ t, u = Value.str x t from r); subst e; exact mixKind_str P w x t
theorem items_are {P : Program} {w : World} : ∀ {ks : List Key} {us : List Value}, Vals (ks.map kV) us → ItemsAre (mixKind P w) ks us
  | [], _, r => by rw [List.map_nil] at r; cases r; exact .nil
  | k :: ks, _, r => by
    rw [List.map_cons] at r
    cases r with
    | cons h t => exact .cons (kV_is h) (items_are t)
abbrev KT (H : Hp) : List (List Key × V) → List (List Key × Addr × Value) → Prop := Paired fun p q => p.1 = q.1 ∧ H q.2.1 = some (.tup (p.1.map kV)) ∧ RelV p.2 q.2.2
theorem KT.val {H : Hp} {kvs : List (List Key × V)} {xs : List (List Key × Addr × Value)} (r : KT H kvs xs) (k : List Key) : RelO (valV kvs k) ((atKey xs k).map (·.2)) := by
  induction r with
  | nil => exact True.intro
  | @cons p q ps qs h t ih =>
    obtain ⟨h1, _, h2⟩ := h
    by_cases e : p.1 = k
    · have e' : q.1 = k := h1.symm.trans e
      have b : atKey (q :: qs) k = some q.2 := by simp [atKey, List.find?_cons, e']
      rw [valV_pos e, b]; exact h2
    · have e' : ¬ q.1 = k := fun z => e (h1.trans z)
      have b : atKey (q :: qs) k = atKey qs k := by simp [atKey, List.find?_cons, e']
      rw [valV_neg e, b]; exact ih
theorem KT.repl {H : Hp} {kvs : List (List Key × V)} {xs : List (List Key × Addr × Value)} (r : KT H kvs xs) (k : List Key) {y : V} {u : Value} (ry : RelV y u) :
    KT H (kvs.map fun kv => if kv.1 = k then (kv.1, y) else kv) (xs.map (putAt k u)) := by
  induction r with
  | nil => exact .nil
  | @cons p q ps qs h t ih =>
    rw [List.map_cons, List.map_cons]
    refine .cons ?_ ih
    obtain ⟨h1, h2, h3⟩ := h
    unfold putAt
    by_cases e : p.1 = k
    · rw [if_pos e, if_pos (h1.symm.trans e)]; exact ⟨h1, h2, ry⟩
    · rw [if_neg e, if_neg (fun z => e (h1.trans z))]; exact ⟨h1, h2, h3⟩
theorem KT.put {H : Hp} {kvs : List (List Key × V)} {xs : List (List Key × Addr × Value)} (r : KT H kvs xs) (k : List Key) {b : Addr} {y : V} {u : Value} (hb : H b = some (.tup (k.map kV))) (ry : RelV y u) :
    KT H (putK kvs k y) (storedH xs k b u) := by
  have e : (kvs.any fun kv => decide (kv.1 = k)) = (atKey xs k).isSome := by
    rw [valV_any, (r.val k).isSome_eq, Option.isSome_map]
  unfold putK storedH
  rw [e]
  by_cases q : (atKey xs k).isSome = true
  · rw [if_pos q, if_pos q]; exact r.repl k ry
  · rw [if_neg q, if_neg q]; exact Paired.snoc r ⟨rfl, hb, ry⟩
theorem KT.keeps {H H' : Hp} {kvs : List (List Key × V)} {xs : List (List Key × Addr × Value)} (r : KT H kvs xs) (ht : ∀ b ys, H b = some (.tup ys) → H' b = some (.tup ys)) : KT H' kvs xs :=
  Paired.mapP r fun _ _ z => ⟨z.1, ht _ _ z.2.1, z.2.2⟩
section
variable {P : Program} {w : World} {H : Hp} {h : Heap} {a : Addr}
theorem rd_of {u : HO} (ok : HOk P w H h) (e : Rd H a u) : ObjOk P w H h a u := e.ok ok
theorem dk_rd {kvs : List (Key × V)} (ok : HOk P w H h) (e : Rd H a (.dK kvs)) : kvs.length ≤ sizeLine ∧ (a == sysModules) = false ∧ ∃ vs, KV kvs vs ∧ h.DictOf (mixKind P w) a vs :=
  show ObjOk P w H h a (.dK kvs) from rd_of ok e
theorem dk_of {kvs : List (Key × V)} (ok : HOk P w H h) (e : H a = some (.dK kvs)) : kvs.length ≤ sizeLine ∧ (a == sysModules) = false ∧ ∃ vs, KV kvs vs ∧ h.DictOf (mixKind P w) a vs := dk_rd ok (.inl e)
theorem key_of {ks : List Key} (ok : HOk P w H h) (e : H a = some (.tup (ks.map kV))) : (tupleKind (mixKind P w)).is h ks a := by
  obtain ⟨_, its, r, o, h1, h2, n, h3⟩ := (show ObjOk P w H h a (.tup (ks.map kV)) from ok a _ e)
  exact ⟨o, its.toArray, n, h1, h2, h3, by simpa using items_are r⟩
theorem dt_rd {kvs : List (List Key × V)} (ok : HOk P w H h) (e : Rd H a (.dT kvs)) : kvs.length ≤ sizeLine ∧ (a == sysModules) = false ∧
    ∃ xs, KT H kvs xs ∧ h.DictOfH (tupleKind (mixKind P w)) a xs := by
  obtain ⟨z, y, xs, r, o, es, ep, h1, h2, h3, h4, h5⟩ := (show ObjOk P w H h a (.dT kvs) from rd_of ok e)
  refine ⟨z, y, xs, r, o, es, ep, h1, h2, h3, h4, fun x hx => ?_, h5⟩
  have all : ∀ {l : List (List Key × V)} {m : List (List Key × Addr × Value)}, KT H l m → ∀ x ∈ m, (tupleKind (mixKind P w)).is h x.1 x.2.1 := by
    intro l m q
    induction q with
    | nil => intro x hx; exact nomatch hx
    | @cons p q ps qs hq t ih =>
      intro x hx
      rcases List.mem_cons.mp hx with e | hx
      · subst e
        exact key_of ok (by rw [← hq.1]; exact hq.2.1)
      · exact ih x hx
  exact all r x hx
theorem dt_of {kvs : List (List Key × V)} (ok : HOk P w H h) (e : H a = some (.dT kvs)) : kvs.length ≤ sizeLine ∧ (a == sysModules) = false ∧
    ∃ xs, KT H kvs xs ∧ h.DictOfH (tupleKind (mixKind P w)) a xs := dt_rd ok (.inl e)
end
def DGet (H : Hp) (a : Addr) (y : V) (r : Option V) : Prop :=
  (∃ kvs k, Rd H a (.dK kvs) ∧ y = kV k ∧ r = valV kvs k) ∨ ∃ kvs k b, Rd H a (.dT kvs) ∧ y = .ref b ∧ H b = some (.tup (k.map kV)) ∧ r = valV kvs k
def DPut (H : Hp) (a : Addr) (y v : V) (H' : Hp) : Prop :=
  (∃ kvs k, H a = some (.dK kvs) ∧ y = kV k ∧ kvs.length < sizeLine ∧ H' = upd H a (.dK (putK kvs k v))) ∨
  ∃ kvs k b, H a = some (.dT kvs) ∧ y = .ref b ∧ H b = some (.tup (k.map kV)) ∧ kvs.length < sizeLine ∧ H' = upd H a (.dT (putK kvs k v))
theorem DGet.t {H : Hp} {a b : Addr} {kvs : List (List Key × V)} {k : List Key} (e : H a = some (.dT kvs)) (eb : H b = some (.tup (k.map kV))) : DGet H a (.ref b) (valV kvs k) := .inr ⟨kvs, k, b, .inl e, rfl, eb, rfl⟩
theorem DPut.t {H : Hp} {a b : Addr} {kvs : List (List Key × V)} {k : List Key} {v : V} (e : H a = some (.dT kvs)) (eb : H b = some (.tup (k.map kV))) (hl : kvs.length < sizeLine) :
    DPut H a (.ref b) v (upd H a (.dT (putK kvs k v))) := .inr ⟨kvs, k, b, e, rfl, eb, hl, rfl⟩
section
variable {X : Cx} {pins : List (Addr × Obj)} {σ : St} {H : Hp} {s : Shared} {a : Addr} {y v : V} {u r : Value} {o : Option V} {A : Around} {E : Value → Shared → Prop}
theorem Inv.big (I : Inv X pins σ H s) : sysModules < s.heap.objs.size := by
  have h : mainGlobals < s.heap.objs.size := (I.mod.glob.keeps I.bk).lt
  exact Nat.lt_trans (by decide) h
theorem d_getItem {Q : Value → Shared → Prop} (hu : A.units + 1 < cLine) (I : Inv X pins σ H s) (g : DGet H a y (some v)) (ry : RelV y u) (h : ∀ w' s', Inv X pins σ H s' → RelV v w' → Q w' s') :
    wpAny (model X.prog X.w) A (getItem (.ref a) u) Q E s := by
  rcases g with ⟨kvs, k, e, ey, l⟩ | ⟨kvs, k, b, e, ey, eb, l⟩
  · subst ey
    obtain ⟨z, hd, vs, rel, dd⟩ := dk_rd I.hok e
    obtain ⟨w', hw, rw'⟩ := RelO.some_of (v := v) (o := valueAt vs k) (by rw [l]; exact rel.val k)
    exact wpAny_getItem_of (kV_is ry) dd.mapOf hw (h w' _ (I.tok _) rw')
  · subst ey
    cases (show u = Value.ref b from ry)
    obtain ⟨z, hd, xs, rel, dd⟩ := dt_rd I.hok e
    obtain ⟨w', hw, rw'⟩ := RelO.some_of (v := v) (o := (atKey xs k).map (·.2)) (by rw [l]; exact rel.val k)
    obtain ⟨p, hp, hp2⟩ := Option.map_eq_some_iff.mp hw
    refine wpAny_getItem_heap (tupleKind_room_in1 hu) (key_of I.hok eb) dd hp ?_
    rw [hp2]
    exact h w' _ (I.tok _) rw'
theorem d_notIn {Q : Value → Shared → Prop} (hu : A.units + 1 < cLine) (I : Inv X pins σ H s) (g : DGet H a y o) (ry : RelV y u) (h : ∀ s', Inv X pins σ H s' → Q (.bool (!o.isSome)) s') :
    wpAny (model X.prog X.w) A (compareOp .NotIn u (.ref a)) Q E s := by
  rcases g with ⟨kvs, k, e, ey, l⟩ | ⟨kvs, k, b, e, ey, eb, l⟩
  · subst ey
    obtain ⟨z, hd, vs, rel, dd⟩ := dk_rd I.hok e
    refine wpAny_notIn_of (kV_is ry) hd dd.mapOf ?_
    rw [← (rel.val k).isSome_eq, ← l]
    exact h _ (I.tok _)
  · subst ey
    cases (show u = Value.ref b from ry)
    obtain ⟨z, hd, xs, rel, dd⟩ := dt_rd I.hok e
    refine wpAny_notIn_heap (tupleKind_room_in1 hu) (key_of I.hok eb) hd dd ?_
    have q := (rel.val k).isSome_eq
    rw [Option.isSome_map] at q
    rw [← q, ← l]
    exact h _ (I.tok _)
theorem d_write {h' : Heap} {t' : Nat} {ob : HO} (I : Inv X pins σ H s) (mu : Mut (H a)) (hs : Heap.SameBut a s.heap h') (he : ∃ q, h'.get? a = some q) (new : ObjOk X.prog X.w (upd H a ob) h' a ob) :
    Inv X pins σ (upd H a ob) { s with heap := h', toks := t' } :=
  I.write (x := a) (e := a) mu (.inl rfl) (fun b q hb z => (hs.2 b hb).trans z) he new
theorem dk_new {P : Program} {w : World} {H' : Hp} {h' : Heap} {kvs : List (Key × V)} {vs : List (Key × Value)} (z : kvs.length ≤ sizeLine) (hd : (a == sysModules) = false) (rel : KV kvs vs) (dd : h'.DictOf (mixKind P w) a vs) :
    ObjOk P w H' h' a (.dK kvs) := ⟨z, hd, vs, rel, dd⟩
theorem d_setItem {H' : Hp} {Q : Unit → Shared → Prop} (hu : A.units + 1 < cLine) (I : Inv X pins σ H s) (g : DPut H a y v H') (ry : RelV y u) (rv : RelV v r) (h : ∀ s', Inv X pins σ H' s' → Q () s') :
    wpAny (model X.prog X.w) A (setItem (.ref a) u r) Q E s := by
  rcases g with ⟨kvs, k, e, ey, l, eH⟩ | ⟨kvs, k, b, e, ey, eb, l, eH⟩
  · subst ey eH
    obtain ⟨z, hd, vs, rel, dd⟩ := dk_of I.hok e
    have hz : vs.length ≤ sizeLine := by rw [← rel.length]; exact z
    have hl : (putK kvs k v).length ≤ sizeLine := by have := length_putK kvs k v; omega
    refine wpAny_setItem_pairs (hsz := hz) (kV_is ry) dd fun h' dd' hs => h _ ?_
    have he : ∃ q, h'.get? a = some q := let ⟨q, _, _, hq, _⟩ := dd'; ⟨q, hq⟩
    exact d_write I (by rw [e]; exact True.intro) hs he (dk_new hl hd (rel.put k rv) dd')
  · subst ey eH
    cases (show u = Value.ref b from ry)
    obtain ⟨z, hd, xs, rel, dd⟩ := dt_of I.hok e
    have hz : xs.length ≤ sizeLine := by rw [← Paired.length rel]; exact z
    have hl : (putK kvs k v).length ≤ sizeLine := by have := length_putK kvs k v; omega
    refine wpAny_setItem_heap (hsz := hz) (tupleKind_room_in1 hu) (key_of I.hok eb) dd fun h' dd' hs => h _ ?_
    obtain ⟨q, es, ep, hq, h2, h3, h4, _, h5⟩ := dd'
    refine d_write I (by rw [e]; exact True.intro) hs ⟨q, hq⟩ ⟨hl, hd, _, (rel.put k eb rv).keeps fun c ys ec => ?_, q, es, ep, hq, h2, h3, h4, h5⟩
    rw [upd_ne (ne_of ec e (fun z => nomatch z))]
    exact ec
end
section
variable {X : Cx} {pins : List (Addr × Obj)} {σ : St} {H : Hp} {s : Shared} {a : Addr} {kvs : List (Key × V)} {k : Key} {u : Value} {A : Around} {E : Value → Shared → Prop}
end
def NoSl (i : Expr) : Prop := ∀ ov iv, subscripted i false ov iv = operate [ov, iv] (getItem ov iv)
theorem subD_of {prog : Program} {w : World} {A : Around} {E : Value → Shared → Prop} {s : Shared} {env : Env} {value slice : Expr} {pos : Pos} {T id : String} {Q : Value → Shared → Prop}
    (hl : typeLookup (.type T) "__getitem__" = pure (some (.builtin id))) (hs : NoSl slice)
    (h : wpAny (model prog w) A (eval value env) (fun o s₁ => wpAny (model prog w) A (eval slice env) (fun i s₂ => s₂.TypeIs o T ∧ wpAny (model prog w) A (getItem o i) Q E s₂) E s₁) E s) :
    wpAny (model prog w) A (eval (.Subscript value slice pos) env) Q E s := by
  refine Subscript_ (wpAny_mono h (fun o s₁ h₁ => wpAny_mono h₁ (fun i s₂ h₂ => ?_) fun _ _ x => x) fun _ _ x => x)
  obtain ⟨hT, h₂⟩ := h₂
  unfold subscriptTail
  refine wpAny_bind ?_
  rw [getitemInPython_of_ne hT.not_modules]
  refine wpAny_bind (wpAny_specialOf hT hl ?_)
  have fin : wpAny (model prog w) A (subscripted slice false o i) (fun r s₃ => wpAny (model prog w) A (letTemporaryGo value o r >>= fun _ => pure r) Q E s₃) E s₂ := by
    rw [hs o i]
    exact wpAny_operating (wpAny_mono h₂ (fun r s₃ h₃ => wpAny_bind (wpAny_letTemporaryGo (wpAny_pure h₃))) fun _ _ x => x)
  first
    | exact wpAny_pure (wpAny_bind fin)
    | exact wpAny_bind (wpAny_pure (wpAny_bind fin))
    | exact wpAny_bind fin
theorem dict_typeIs {X : Cx} {pins : List (Addr × Obj)} {σ : St} {H : Hp} {s : Shared} {a : Addr} {y : V} {o : Option V} (I : Inv X pins σ H s) (g : DGet H a y o) : s.TypeIs (.ref a) "dict" := by
  rcases g with ⟨kvs, k, e, _, _⟩ | ⟨kvs, k, b, e, _, _, _⟩
  · obtain ⟨_, _, vs, _, dd⟩ := dk_rd I.hok e
    exact dd.typeIs
  · obtain ⟨_, _, xs, _, dd⟩ := dt_rd I.hok e
    exact dd.typeIs
def tDGet (td ty : TE) : TE := fun σ H Q => td σ H fun x H1 => ty σ H1 fun y H2 => ∃ a v, x = .ref a ∧ DGet H2 a y (some v) ∧ Q v H2
def tDNotIn (ty td : TE) : TE := fun σ H Q => ty σ H fun y H1 => td σ H1 fun x H2 => ∃ a o, x = .ref a ∧ DGet H2 a y o ∧ Q (.bl (!o.isSome)) H2
def sDPut (td ty tv : TE) : TS := fun D σ H => tv σ H fun v H1 => td σ H1 fun x H2 => ty σ H2 fun y H3 => ∃ a H4, x = .ref a ∧ DPut H3 a y v H4 ∧ D.nx σ H4
section
variable {X : Cx} {o i e value : Expr} {pos pos' tpos : Pos} {td ty tv : TE}
theorem pe_dget (hu : X.A.units + 1 < cLine) (ho : PE X o td) (hi : PE X i ty) (hs : NoSl i) : PE X (.Subscript o i pos) (tDGet td ty) := by
  intro pins s σ H Q I h
  refine subD_of PySem.F.slot_dict_getitem.lookup hs (thn (ho pins s σ H _ I h) fun u s1 ⟨x, H1, I1, rx, q1⟩ => thn (hi pins s1 σ H1 _ I1 q1) fun iv s2 ⟨y, H2, I2, ry, a, v, ex, g, q2⟩ => ?_)
  subst ex
  obtain rfl : u = Value.ref a := rx
  exact ⟨dict_typeIs I2 g, d_getItem hu I2 g ry fun w' s3 I3 rw' => ⟨v, H2, I3, rw', q2⟩⟩
theorem pc_dnotin (hu : X.A.units + 1 < cLine) (hi : PE X i ty) (ho : PE X o td) : PC X .NotIn i o (tDNotIn ty td) := by
  intro pins s σ H Q I h
  refine thn (hi pins s σ H _ I h) fun iv s1 ⟨y, H1, I1, ry, q1⟩ => thn (ho pins s1 σ H1 _ I1 q1) fun u s2 ⟨x, H2, I2, rx, a, ov, ex, g, q2⟩ => ?_
  subst ex
  obtain rfl : u = Value.ref a := rx
  exact d_notIn hu I2 g ry fun s3 I3 => ⟨.bl (!ov.isSome), H2, I3, rfl, q2⟩
theorem ps_dput (hu : X.A.units + 1 < cLine) (ho : PE X o td) (hi : PE X i ty) (hv : PE X value tv) (hs : swapsWith value (some (.Subscript o i pos')) pos.line X.env = pure false) :
    PS X (.Assign [.Subscript o i pos'] value pos) (sDPut td ty tv) := by
  intro pins s σ H D I h
  refine wpAny_Assign_Subscript (thn (hv pins s σ H _ I h) fun r s1 ⟨v, H1, I1, rv, q1⟩ => thn (ho pins s1 σ H1 _ I1 q1) fun u s2 ⟨x, H2, I2, rx, q2⟩ => thn (hi pins s2 σ H2 _ I2 q2) fun iv s3 ⟨y, H3, I3, ry, a, H4, ex, g, q3⟩ => ?_) hs
  subst ex
  obtain rfl : u = Value.ref a := rx
  exact d_setItem hu I3 g ry rv fun s4 I4 => ⟨σ, H4, I4, q3⟩
end
theorem dt_empty {P : Program} {w : World} {H : Hp} (h : Heap) (hb : sysModules < h.objs.size) : ObjOk P w H (h.push { cls := .type "dict", data := .dict #[] }) h.objs.size (.dT []) :=
  ⟨Nat.zero_le _, beq_eq_false_iff_ne.mpr (Ne.symm (Nat.ne_of_lt hb)), [], .nil, _, #[], 0, Heap.get?_push_size _ rfl, ⟨rfl, rfl, rfl⟩, rfl, rfl, List.nodup_nil⟩
def tDNewT : TE := fun _ H Q => ∀ p, H p = none → Q (.ref p) (upd H p (.dT []))
section
variable {X : Cx} {pos : Pos}
theorem pe_dnewT : PE X (.Dict [] [] pos) tDNewT := fun pins s σ H Q I h =>
  wpAny_Dict_empty ⟨.ref s.heap.objs.size, _, I.laid (a := s.heap.objs.size) (o := .dT []) (t' := s.toks) (fun _ _ q => Heap.get?_push_of_some _ q) (Nat.le_refl _) (dt_empty s.heap I.big), rfl, h _ (I.hok.fresh (Nat.le_refl _))⟩
end
def tPairs : List (TE × TE) → St → Hp → (List (V × V) → Hp → Prop) → Prop
  | [], _, H, Q => Q [] H
  | (tk, tv) :: r, σ, H, Q => tk σ H fun x H1 => tv σ H1 fun y H2 => tPairs r σ H2 fun ps H3 => Q ((x, y) :: ps) H3
abbrev VV : List (V × V) → List (Value × Value) → Prop := Paired fun p q => RelV p.1 q.1 ∧ RelV p.2 q.2
def PPs (X : Cx) (pos : Pos) (keys : List (Option Expr)) (values : List Expr) (trs : List (TE × TE)) : Prop :=
  ∀ (pins : List (Addr × Obj)) (s : Shared) (σ : St) (H : Hp) (Q : List (V × V) → Hp → Prop), Inv X pins σ H s → tPairs trs σ H Q →
    wpAny (model X.prog X.w) X.A (evalPairs (pairTrees keys values X.env pos)) (fun vs s' => ∃ ps H', Inv X pins σ H' s' ∧ VV ps vs ∧ Q ps H') X.xe s
structure M1 (X : Cx) (o : Expr) (m : Str) (apos : Pos) (e : Expr) (cpos : Pos) : Prop where
  base : attributeBase o m X.env (eval o X.env) = eval o X.env
  few : ((backTo cpos (starEach [e] X.env)).all (fun x => !x.1) && (backToKw cpos (keywordEach [] X.env)).all (fun x => x.1.isSome)
    && decide (([e] : List Expr).length + ([] : List Keyword).length + (if ([] : List Keyword).isEmpty then 0 else 1) < 30)) = true
  line : (apos.endLine == cpos.line) = true
  trees : backTo cpos (starEach [e] X.env) = [(false, eval e X.env)]
structure M2 (X : Cx) (o : Expr) (m : Str) (apos : Pos) (e f : Expr) (cpos : Pos) : Prop where
  base : attributeBase o m X.env (eval o X.env) = eval o X.env
  few : ((backTo cpos (starEach [e, f] X.env)).all (fun x => !x.1) && (backToKw cpos (keywordEach [] X.env)).all (fun x => x.1.isSome)
    && decide (([e, f] : List Expr).length + ([] : List Keyword).length + (if ([] : List Keyword).isEmpty then 0 else 1) < 30)) = true
  line : (apos.endLine == cpos.line) = true
  trees : backTo cpos (starEach [e, f] X.env) = [(false, eval e X.env), (false, eval f X.env)]
section
variable {X : Cx} {pins : List (Addr × Obj)} {σ : St} {H : Hp} {s : Shared} {a : Addr} {y d : V} {u r : Value} {o : Option V} {A : Around} {E : Value → Shared → Prop}
end
section
variable {X : Cx} {o e f : Expr} {apos cpos : Pos} {td ty tx : TE}
end
section
variable {X : Cx} {pins : List (Addr × Obj)} {σ : St} {H : Hp} {s : Shared} {a : Addr} {kvs : List (Key × V)} {A : Around} {E : Value → Shared → Prop}
end
section
variable {X : Cx} {pins : List (Addr × Obj)} {σ : St} {H : Hp} {s : Shared} {a : Addr} {y : V} {u : Value} {A : Around} {E : Value → Shared → Prop}
end
end L2
namespace Att
open PySem PySem.W PySem.Calls PyProof.Rows
theorem ints_of_wellAll {P : Params} {h : Heap} : ∀ (ns : List Int) (vs : List Value), WellAll P h vs (ns.map WData.int) → IntsAre vs ns := by
  intro ns
  induction ns with
  | nil =>
    intro vs w
    rw [List.map_nil] at w
    cases w
    exact .nil
  | cons n ns ih =>
    intro vs w
    rw [List.map_cons] at w
    cases w with
    | cons a b =>
      cases a
      exact .cons _ _ (ih _ b)
theorem script_of {l : OpenLaw} {n : Nat} (hn : l.most = some n) {P : Params} {h : Heap} {args : List WData} {vals : List Value}
    (hpre : l.row.toRowW.claim.pre args = true) (hwl : WellAll P h vals args) :
    ∃ a vs ns, vals = [Value.ref a] ∧ args = [WData.list (ns.map WData.int)] ∧ h.get? a = some { cls := .type "list", data := .seq vs.toArray } ∧ IntsAre vs ns ∧ ns.length ≤ n := by
  have hsh : WShape.hasAll [] args [.list .int] = true := (pre_splitW hpre).1
  have hc : l.pre.holds [] { args := args } = true := (pre_splitW hpre).2
  obtain ⟨d, r, rfl, h1, h2⟩ := hasAllW_cons hsh
  obtain rfl := hasAllW_nil h2
  obtain ⟨xs, rfl, h3⟩ := hasW_list h1
  obtain ⟨ns, rfl⟩ := items_int h3
  have hlen : ns.length ≤ n := by
    unfold OpenLaw.pre at hc
    have h4 : (WTm.not (.lt (.lit (.int (n : Int))) (.len (.arg 0)))).holds [] { args := [.list (ns.map .int)] } = true := by
      have h4 := (holds_andW hc).1
      rw [hn] at h4
      exact h4
    have h5 := condW_of h4 (w_not (w_lt w_lit (w_len_list (w_arg rfl))))
    rw [List.length_map] at h5
    refine Nat.le_of_not_lt fun q => ?_
    have q' : (n : Int) < ((ns.length : Nat) : Int) := by omega
    first
      | (rw [decide_eq_true q'] at h5; exact absurd h5 (by decide))
      | (simp at h5; omega)
  cases hwl with
  | cons w1 w2 =>
    cases w2
    cases w1 with
    | list ho hall => exact ⟨_, _, ns, rfl, rfl, ho, ints_of_wellAll ns _ hall, hlen⟩
theorem post_true (l : OpenLaw) (args : List WData) : l.row.toRowW.claim.post args (.bool true) args = true :=
  postW_of (r := l.row.toRowW) (X := (true == true))
    (show WShape.has [] (.bool true) .bool = true by first | rfl | decide | simp [WShape.has, WShape.arms, WShape.armsAll])
    (show (WTm.eq .res (.lit (.bool true))).value [] { args := args, res := some (.bool true), after := args } = some (.bool (true == true)) from w_eq_bool (w_res rfl) w_lit) rfl
theorem attach_call {l : OpenLaw} {n : Nat} {q : Program} {loose : List Str} {XP : (Str → Option Value) → Heap → Prop} {YP : World → Heap → Prop} {d : DefRec}
    (hn : l.most = some n) (hdf : d.params.defaults = [])
    (call : ∀ (w : World) (s₀ s₁ : Shared) (mg mb : Str → Option Value) (fa : Addr) (o : Obj) (pm cd doc : Value) (a : Addr) (vs : List Value) (ns : List Int),
      Ground q loose [] XP w s₀ mg mb s₁.heap → YP w s₁.heap →
      s₁.heap.get? fa = some o → o.data = .func (docDef d.name d.params d.body d.scope pm cd doc) → s₁.heap.CodeRec cd d.name → mg d.name = some (.ref fa) →
      s₁.heap.get? a = some { cls := .type "list", data := .seq vs.toArray } → IntsAre vs ns → ns.length ≤ n → s₁.gens = #[] →
      codeAny (model l.prog w) callerA (.call (.ref fa) ⟨[.ref a], []⟩) (fun r s' => r = .ok (.ret (.bool true)) ∧ OldK s₁.heap s'.heap ∧ s'.os = s₁.os ∧ AllBare s'.gens) s₁) :
    WalkO q loose XP YP l.row.toRowW d [] (fun f vs => PySem.call f vs) := by
  intro w s₀ s₁ mg mb G Y fa o pm cd doc dV kV ho hd hcd hD hmg hg args vals as hpre hlay hrd hwl hlo
  obtain rfl : dV = .none := Dflts.none hD hdf
  obtain rfl : kV = .none := Dflts.noKw hD
  obtain ⟨a, vs, ns, rfl, rfl, hobj, hints, hlen⟩ := script_of hn hpre hwl
  refine enter_call (codeAny_mono (call w s₀ s₁ mg mb fa o pm cd doc a vs ns G Y ho (fd_plain hd) hcd hmg hobj hints hlen hg) fun r s' hq => ?_)
  obtain ⟨rfl, h2, h3, h4⟩ := hq
  exact ⟨.inl ⟨.bool true, .bool true, [], rfl, fun _ => rfl, .bool true, post_true l _, fun _ => ⟨List.Pairwise.nil, fun _ hm => (nomatch hm)⟩⟩, h2, h3, h4⟩
section
variable {prog : Program} {w : World} {A : Around} {E : Value → Shared → Prop} {s : Shared} {K : Frag}
end
end Att
namespace L2
open PySem PySem.Spec PyProof.Rows
theorem vals_ints : ∀ {vs : List Value} {ns : List Int}, IntsAre vs ns → Vals (ns.map V.int) vs
  | _, _, .nil => .nil
  | _, _, .cons n t h => .cons ⟨t, rfl⟩ (vals_ints h)
def Only (H : Hp) : Prop := ∀ b, H b = none ∨ ∃ o xs, H b = some (.frz o (.lst xs))
theorem law_call {P : Program} {w : World} {K : PySem.W.Frag} {mg mb : Str → Option Value} {CX : CXT} {k : Nat} {fa a : Addr} {fd : FuncData} {x : Str} {sp : Sp} {s₁ : Shared} {vs : List Value} {ns : List Int}
    (KX : K.In s₁.heap) (hns : s₁.heap.Ns mainGlobals mg) (hb : s₁.heap.Ns builtinsNs mb) (hbb : ∀ x : Str, x ≠ "__name__" → mb x = bootBuiltins x) (hlim : s₁.heap.NoLimit) (hg : s₁.gens = #[])
    (ha : s₁.heap.get? a = some { cls := .type "list", data := .seq vs.toArray }) (hi : IntsAre vs ns) (hl : ns.length ≤ sizeLine) (hr : Room k callerA)
    (F : ∀ base : Heap, K.In base → base.Ns mainGlobals mg → FnOk P w K mg base CX k fa fd [x] sp) (hbind : ∀ (s : Shared) (u : Value), BindsTo s fd ⟨[u], []⟩ [(x, u)])
    (hsp : ∀ H : Hp, Only H → SqL K H a (ns.map V.int) → sp [.ref a] H (fun v _ => v = .bl true) fun _ _ _ => False)
    (hCX : ∀ H e s', CX [] H s₁ (fun _ _ _ => False) e s' → False) :
    codeAny (model P w) callerA (.call (.ref fa) ⟨[.ref a], []⟩) (fun r s' => r = .ok (.ret (.bool true)) ∧ OldK s₁.heap s'.heap ∧ s'.os = s₁.os ∧ AllBare s'.gens) s₁ := by
  have rv := vals_ints hi
  have lenV := hi.length
  have core : ∀ H : Hp, Only H → SqL K H a (ns.map V.int) → HOk P w H s₁.heap → (∀ b, H b ≠ none → b = a) → (H a ≠ none → K.lookup a = none) →
      codeAny (model P w) callerA (.call (.ref fa) ⟨[.ref a], []⟩) (fun r s' => r = .ok (.ret (.bool true)) ∧ OldK s₁.heap s'.heap ∧ s'.os = s₁.os ∧ AllBare s'.gens) s₁ := by
    intro H hO hS hok hA hK
    have base_of : ∀ {b : Addr} {o : Obj}, s₁.heap.get? b = some o → H b = none → (hidT s₁.heap H).get? b = some o := fun e n => hidT_get e n
    have noA : ∀ {b : Addr} {o : Obj} {es : Array DictEntry} {ep : Nat}, s₁.heap.get? b = some o → o.data = .dict es ep → H b = none := fun {b o es ep} e d => by
      cases q : H b with
      | none => rfl
      | some u =>
        have e' : b = a := hA b (by rw [q]; simp)
        subst e'
        rw [ha] at e; cases e
        have d' : Data.seq vs.toArray _ = Data.dict es ep := d
        cases d'
    have nsK : ∀ {b : Addr} {m : Str → Option Value}, s₁.heap.Ns b m → (hidT s₁.heap H).Ns b m := fun {b m} ⟨o, es, ep, e, d, r⟩ => ⟨o, es, ep, base_of e (noA e d), d, r⟩
    have hKb : K.In (hidT s₁.heap H) := fun b o e => base_of (KX b o e) (by
      cases q : H b with
      | none => rfl
      | some u =>
        have e' : b = a := hA b (by rw [q]; simp)
        subst e'
        rw [hK (by rw [q]; simp)] at e; cases e)
    have hM : Mod K mg (hidT s₁.heap H) := ⟨hKb, nsK hns, ⟨mb, nsK hb, hbb⟩, let ⟨mc, h1, h2⟩ := hlim; ⟨mc, nsK h1, h2⟩⟩
    have e0 : Env0 P w K mg (hidT s₁.heap H) callerA [] s₁ H := ⟨rfl, hM, fun b o e => of_hidT e, Nat.le_of_eq (hidT_size _ _), trivial, fun b hb => absurd (show b ∈ ([] : List Addr) from hb) (by simp), hok, .of_eq hg⟩
    refine codeAny_mono ((F _ hKb (nsK hns)).run callerA [] s₁ H ⟨[.ref a], []⟩ [.ref a] [.ref a] _ _ hr e0 (hbind s₁ (.ref a)) (.cons rfl .nil) (hsp H hO hS)) fun r s' h => ?_
    cases r with
    | error e => exact (hCX H e s' h).elim
    | ok fl =>
      cases fl with
      | next => exact False.elim h
      | brk => exact False.elim h
      | cont => exact False.elim h
      | ret u =>
        obtain ⟨v, H', os, bare, un, hok', r', q⟩ := h
        have q' : v = .bl true := q
        subst q'
        obtain rfl : u = Value.bool true := r'
        refine ⟨rfl, OldK.of_keep fun b o e => ?_, os, bare⟩
        cases q : H b with
        | none => exact un.keep b o e q (by intro z; exact absurd (show b ∈ ([] : List Addr) from z) (by simp)) (by simp)
        | some u =>
          rcases hO b with z | ⟨ob, xs, z⟩
          · rw [q] at z; cases z
          · have z2 := un.frzs b ob _ z
            obtain ⟨e1, _⟩ := hok b _ z
            obtain ⟨e2, _⟩ := hok' b _ z2
            rw [e] at e1; cases e1
            exact e2
  cases hk : K.lookup a with
  | some o =>
    have e := KX a o hk
    rw [ha] at e
    cases e
    refine core (fun _ => none) (fun _ => .inl rfl) (.inr ⟨_, vs.toArray, _, hk, rfl, rfl, rfl, by rw [List.size_toArray, lenV]; exact hl, by simpa using rv⟩) (fun b u z => by have z' : (none : Option HO) = some u := z; cases z') (fun b z => absurd rfl z) fun z => absurd rfl z
  | none =>
    refine core (fun b => if b = a then some (.frz { cls := .type "list", data := .seq vs.toArray } (.lst (ns.map V.int))) else none) (fun b => ?_) (.inl (.inr ⟨{ cls := .type "list", data := .seq vs.toArray }, if_pos rfl⟩)) (fun b u z => ?_) (fun b z => ?_) fun _ => hk
    · by_cases hb : b = a
      · exact .inr ⟨_, _, if_pos hb⟩
      · exact .inl (if_neg hb)
    · by_cases hb : b = a
      · have z' := (if_pos hb).symm.trans z
        cases z'
        subst hb
        exact ⟨ha, by rw [List.length_map]; exact hl, vs, _, rv, ha⟩
      · have z' := (if_neg hb).symm.trans z
        cases z'
    · by_cases hb : b = a
      · exact hb
      · exact absurd (if_neg hb) z
end L2
namespace L2
open PySem PySem.Spec PyProof.Rows
theorem walk_of {l : PySem.W.OpenLaw} {n k : Nat} {q : Program} {loose : List Str} {XP : (Str → Option Value) → Heap → Prop} {YP : World → Heap → Prop} {d : DefRec} {K : Params → PySem.W.Frag} {CX : World → CXT} {sp : World → Sp} {x : Str}
    (hn : l.most = some n) (hn2 : n ≤ sizeLine) (hdf : d.params.defaults = []) (hr : Room k callerA)
    (hY : ∀ (w : World) (h : Heap), YP w h → (K w.params).In h)
    (F : ∀ (w : World) (mg : Str → Option Value) (fa : Addr) (h : Heap), (K w.params).In h → h.Ns mainGlobals mg → mg d.name = some (.ref fa) →
      ∃ fd : FuncData, (∀ (s : Shared) (u : Value), BindsTo s fd ⟨[u], []⟩ [(x, u)]) ∧
        ∀ base : Heap, (K w.params).In base → base.Ns mainGlobals mg → FnOk l.prog w (K w.params) mg base (CX w) k fa fd [x] (sp w))
    (hsp : ∀ (w : World) (H : Hp) (a : Addr) (ns : List Int), ns.length ≤ n → Only H → SqL (K w.params) H a (ns.map V.int) → sp w [.ref a] H (fun v _ => v = .bl true) fun _ _ _ => False)
    (hCX : ∀ (w : World) (H : Hp) (s : Shared) (e : Value) (s' : Shared), CX w [] H s (fun _ _ _ => False) e s' → False) :
    PySem.W.WalkO q loose XP YP l.row.toRowW d [] (fun f vs => PySem.call f vs) := by
  refine Att.attach_call hn hdf fun w s₀ s₁ mg mb fa o pm cd doc a vs ns G Y ho hd hcd hmg hobj hints hlen hg => ?_
  have KX := hY w _ Y
  obtain ⟨fd, hb, hF⟩ := F w mg fa _ KX G.T.g hmg
  exact law_call KX G.T.g G.T.b G.T.builtins G.T.nolimit hg hobj hints (Nat.le_trans hlen hn2) hr hF hb (fun H hO hS => hsp w H a ns hlen hO hS) fun H e s' => hCX w H s₁ e s'
end L2
/- THE LAST THEOREM (shape; LID, My.* are yours):
   My.Adr: a structure of the addresses that your layer names (classes, functions); My.Txt K t: a structure (Prop) of the equations over K;
   My.txt_mk : {K} {implicit addresses ..} (e1 : nsIn K mainGlobals "law" = some (some (.ref f))) (e2 : K.lookup f = some ⟨oc, od, .func (fnOf "law" "law" params body scope dV kV doc pm an cdv ct), sl⟩) (e3 : codeIn K cdv "law" = true) .. : ∃ t, My.Txt K t
set_option maxRecDepth 100000 in
set_option maxHeartbeats 0 in
theorem PySem.Challenge.cw_LID_holds : PySem.Challenge.rw_LID.Holds := by
  w_on; o_law; k_head; (case hw => w_witness2)
  k_fill
  refine L2.walk_of (l := PySem.Challenge.rw_LID) (n := 63) (k := 40) (x := "script") (CX := fun w => ..) (sp := fun _ => My.sp_law) rfl (by decide) rfl ⟨rfl, by decide, by decide⟩ (fun w h Y => PySem.W.kIn_of Y) ?F ?S ?C
  case F =>
    intro w mg fa h KX G hmg
    have T : ∃ t, My.Txt (L2.KOf KX) t := by
      dsimp only [L2.KOf]                          -- K must stand as «<heap const> w.params» for k_is
      refine' My.txt_mk ?e1 ?e2 ?e3 ..
      (case e1 => PySem.W.k_is)                    -- in the order: a name -> its address -> its object -> its parts
      (case e2 => PySem.W.k_is)
      ..
    obtain ⟨t, T⟩ := T
    have e0 := hmg.symm.trans (PySem.W.mg_of KX G T.law)
    cases e0                                       -- fa is the law's own address
    exact ⟨_, fun s u => .of_eq rfl, fun base kb nb => My.law_fn T kb nb⟩     -- if «.of_eq rfl» comes too early: refine' ⟨_, ?b, fun base kb nb => My.law_fn T kb nb⟩; exact fun s u => .of_eq rfl
  case S => exact fun w H a ns hl hO hS => ..
  case C => exact ..
(the tactic k_is has no namespace: write k_is) -/
namespace L2
open PySem PySem.Spec PyProof.Rows
def defArgs (s : Stmt) : Arguments := match s with
  | .FunctionDef _ a _ _ _ _ _ _ _ _ => a
  | _ => { posonlyargs := [], args := [], vararg := none, kwonlyargs := [], kw_defaults := [], kwarg := none, defaults := [] }
def defBody (s : Stmt) : List Stmt := match s with
  | .FunctionDef _ _ b _ _ _ _ _ _ _ => b
  | _ => []
def defScope (s : Stmt) : Scope := match s with
  | .FunctionDef _ _ _ _ _ _ sc _ _ _ => sc
  | _ => { kind := .function, names := [], isGenerator := false, isCoroutine := false }
abbrev CX0 : CXT := fun _ _ _ _ _ _ => False
abbrev E0 : XK := fun _ _ _ => False
theorem pass0 {X : Cx} : Passes CX0 X E0 := fun _ _ _ _ _ _ _ h => h.elim
structure Fun (K : PySem.W.Frag) (x qual : Str) (st : Stmt) (f : Addr) (fd : FuncData) : Prop where
  ex : ∃ (oc : Value) (od : Option Addr) (kV doc pm : Value) (an : Option Addr) (cdv ct : Value) (osl : Array (Option Value)),
    fd = PySem.W.fnOf x qual (defArgs st) (defBody st) (defScope st) .none kV doc pm an cdv ct ∧ K.lookup f = some ⟨oc, od, .func fd, osl⟩ ∧ PySem.W.codeIn K cdv qual = true
  kp : PySem.W.keepIn K (.ref f) = true
section
variable {P : Program} {w : World} {K : PySem.W.Frag} {mg : Str → Option Value} {base : Heap}
theorem Fun.ok {x qual : Str} {st : Stmt} {f : Addr} {fd : FuncData} {N ps : List Str} {k : Nat} {sp : Sp} (F : Fun K x qual st f fd) (S : FnScope N ps (defScope st)) (len : ∀ vs H Q E, sp vs H Q E → vs.length = ps.length)
    (hbody : ∀ (cdv : Value) (A : Around) (outer : List Env) (s : Shared) (H : Hp) (vs : List V) (Q : VK) (E : XK), Room k (A.deeper (envOfC qual (defScope st) s.heap.objs.size f cdv)) → sp vs H Q E →
      ∃ t, PSs (cxOf CX0 P w K mg base N qual (defScope st) f cdv A outer s H E).nox (defBody st) t ∧ t { nx := fun _ H' => Q .non H', rt := Q } (start N vs) H) : FnOk P w K mg base CX0 (k + 1) f fd ps sp := by
  obtain ⟨oc, od, kV, doc, pm, an, cdv, ct, osl, rfl, lk, hcd⟩ := F.ex
  refine fn_of lk hcd S len fun A outer s H vs Q E hr hsp => ?_
  obtain ⟨t, h, q⟩ := hbody cdv A outer s H vs Q E hr hsp
  exact ⟨t, h.nox, q⟩
theorem Fun.binds {x qual : Str} {st : Stmt} {f : Addr} {fd : FuncData} {ps : List Str} (F : Fun K x qual st f fd)
    (h : ∀ (kV doc pm : Value) (an : Option Addr) (cdv ct : Value) (us : List Value), us.length = ps.length → bindArgs (PySem.W.fnOf x qual (defArgs st) (defBody st) (defScope st) .none kV doc pm an cdv ct) ⟨us, []⟩ = pure (ps.zip us)) : Binds K fd ps [] := by
  obtain ⟨oc, od, kV, doc, pm, an, cdv, ct, osl, rfl, lk, hcd⟩ := F.ex
  exact .all (h kV doc pm an cdv ct)
theorem fun_mk {x qual : Str} {st : Stmt} {f : Addr} {oc : Value} {od an : Option Addr} {osl : Array (Option Value)} {kV doc pm cdv ct : Value} (l : K.lookup f = some ⟨oc, od, .func (PySem.W.fnOf x qual (defArgs st) (defBody st) (defScope st) .none kV doc pm an cdv ct), osl⟩)
    (c : PySem.W.codeIn K cdv qual = true) (k : PySem.W.keepIn K (.ref f) = true) : Fun K x qual st f (PySem.W.fnOf x qual (defArgs st) (defBody st) (defScope st) .none kV doc pm an cdv ct) := ⟨⟨oc, od, kV, doc, pm, an, cdv, ct, osl, rfl, l, c⟩, k⟩
end
section
variable {X : Cx}
theorem pv (i : Nat) {x : Str} {pos : Pos} (hN : X.N[i]? = some x := by rfl) (hv : Vis X.env.scope x := by first | exact Or.inl rfl | exact Or.inr (Or.inl rfl) | exact Or.inr (Or.inr rfl)) (hd : (x == ("__debug__" : Str)) = false := by decide)
    (hcd : (x == ("__classdict__" : Str)) = false := by decide) : PE X (.Name x pos) (tVar i) := pe_var hN hv hd hcd
end
def Same (H H' : Hp) : Prop := ∀ b o, H b = some o → H' b = some o
theorem Same.refl (H : Hp) : Same H H := fun _ _ h => h
theorem Same.trans {H H1 H2 : Hp} (a : Same H H1) (b : Same H1 H2) : Same H H2 := fun c o h => b c o (a c o h)
theorem Same.free {H H' : Hp} (e : Same H H') {l : Addr} (h : H' l = Option.none) : H l = Option.none := by
  cases q : H l with
  | none => rfl
  | some o =>
    rw [e l o q] at h
    cases h
theorem Same.seq {K : PySem.W.Frag} {H H' : Hp} {a : Addr} {xs : List V} (e : Same H H') (h : SqL K H a xs) : SqL K H' a xs := by
  rcases h with (h | ⟨o, h⟩) | h
  · exact .inl (.inl (e _ _ h))
  · exact .inl (.inr ⟨o, e _ _ h⟩)
  · exact .inr h
section
variable {κ : Type} [DecidableEq κ]
end
end L2
end
section
set_option maxRecDepth 100000
namespace TK
open PySem PySem.Spec PyProof.Rows L2
abbrev St := L2.St
inductive D where
  | non | bl (b : Bool) | int (i : Int) | str (x : Str) | tup (xs : List D) | lst (xs : List D)
def FzL (K : PySem.W.Frag) (H : Hp) (a : Addr) (xs : List V) : Prop :=
  (∃ o, H a = some (.frz o (.lst xs))) ∨
    ∃ (o : Obj) (its : Array Value) (n : Nat), K.lookup a = some o ∧ o.cls = .type "list" ∧ o.dict = none ∧ o.data = .seq its n ∧ its.size ≤ sizeLine ∧ Vals xs its.toList
theorem FzL.sq {K : PySem.W.Frag} {H : Hp} {a : Addr} {xs : List V} (h : FzL K H a xs) : SqL K H a xs := by
  rcases h with ⟨o, h⟩ | h
  · exact .inl (.inr ⟨o, h⟩)
  · exact .inr h
structure Kp (H H' : Hp) : Prop where
  tup : ∀ a xs, H a = some (.tup xs) → H' a = some (.tup xs)
  frz : ∀ a o u, H a = some (.frz o u) → H' a = some (.frz o u)
theorem Kp.refl (H : Hp) : Kp H H := ⟨fun _ _ h => h, fun _ _ _ h => h⟩
theorem Kp.trans {H H1 H2 : Hp} (a : Kp H H1) (b : Kp H1 H2) : Kp H H2 := ⟨fun c xs h => b.tup c xs (a.tup c xs h), fun c o u h => b.frz c o u (a.frz c o u h)⟩
theorem Kp.of {H H' : Hp} (s : Same H H') : Kp H H' := ⟨fun a xs h => s a _ h, fun a o u h => s a _ h⟩
theorem Kp.upd {H : Hp} {a : Addr} {xs : List V} (h : H a = some (.lst xs)) (o : HO) : Kp H (upd H a o) :=
  ⟨fun c ys q => by rw [upd_ne (ne_of q h (by intro z; cases z))]; exact q, fun c ob u q => by rw [upd_ne (ne_of q h (by intro z; cases z))]; exact q⟩
theorem Kp.fzL {K : PySem.W.Frag} {H H' : Hp} (k : Kp H H') {a : Addr} {xs : List V} (h : FzL K H a xs) : FzL K H' a xs := by
  rcases h with ⟨o, h⟩ | h
  · exact .inl ⟨o, k.frz _ _ _ h⟩
  · exact .inr h
theorem same_new {H : Hp} {p : Addr} (h : H p = none) (o : HO) : Same H (upd H p o) := fun b u q => by rw [upd_ne (ne_of_none q h)]; exact q
mutual
def IsS (K : PySem.W.Frag) (H : Hp) : D → V → Prop
  | .non, v => v = .non
  | .bl b, v => v = .bl b
  | .int i, v => v = .int i
  | .str x, v => v = .str x
  | .tup ds, v => ∃ a xs, v = .ref a ∧ H a = some (.tup xs) ∧ AllS K H ds xs
  | .lst ds, v => ∃ a xs, v = .ref a ∧ FzL K H a xs ∧ AllS K H ds xs
def AllS (K : PySem.W.Frag) (H : Hp) : List D → List V → Prop
  | [], vs => vs = []
  | d :: ds, vs => ∃ v r, vs = v :: r ∧ IsS K H d v ∧ AllS K H ds r
end
section
variable {K : PySem.W.Frag} {H H' H0 : Hp}
mutual
theorem IsS.mono (k : Kp H H') : ∀ (d : D) (v : V), IsS K H d v → IsS K H' d v
  | .non, v, h => h
  | .bl _, v, h => h
  | .int _, v, h => h
  | .str _, v, h => h
  | .tup ds, v, h => by
    unfold IsS at h ⊢
    obtain ⟨a, xs, e, q, r⟩ := h
    exact ⟨a, xs, e, k.tup _ _ q, AllS.mono k ds xs r⟩
  | .lst ds, v, h => by
    unfold IsS at h ⊢
    obtain ⟨a, xs, e, q, r⟩ := h
    exact ⟨a, xs, e, k.fzL q, AllS.mono k ds xs r⟩
theorem AllS.mono (k : Kp H H') : ∀ (ds : List D) (vs : List V), AllS K H ds vs → AllS K H' ds vs
  | [], vs, h => h
  | d :: ds, vs, h => by
    unfold AllS at h ⊢
    obtain ⟨v, r, e, q, t⟩ := h
    exact ⟨v, r, e, IsS.mono k d v q, AllS.mono k ds r t⟩
end
theorem AllS.length : ∀ {ds : List D} {vs : List V}, AllS K H ds vs → ds.length = vs.length
  | [], vs, h => by unfold AllS at h; subst h; rfl
  | d :: ds, vs, h => by
    unfold AllS at h
    obtain ⟨v, r, e, q, t⟩ := h
    subst e
    rw [List.length_cons, List.length_cons, AllS.length t]
theorem AllS.nil : AllS K H [] [] := by unfold AllS; rfl
theorem AllS.cons {d : D} {ds : List D} {v : V} {vs : List V} (h : IsS K H d v) (t : AllS K H ds vs) : AllS K H (d :: ds) (v :: vs) := by
  unfold AllS; exact ⟨v, vs, rfl, h, t⟩
theorem AllS.get : ∀ {ds : List D} {vs : List V} {i : Nat} {d : D}, AllS K H ds vs → ds[i]? = some d → ∃ v, vs[i]? = some v ∧ IsS K H d v
  | [], _, _, _, _, e => by simp at e
  | d :: ds, vs, 0, x, h, e => by
    unfold AllS at h
    obtain ⟨v, r, rfl, q, t⟩ := h
    simp at e; subst e
    exact ⟨v, rfl, q⟩
  | d :: ds, vs, i + 1, x, h, e => by
    unfold AllS at h
    obtain ⟨v, r, rfl, q, t⟩ := h
    obtain ⟨u, h1, h2⟩ := AllS.get (i := i) t (by simpa using e)
    exact ⟨u, by simpa using h1, h2⟩
theorem AllS.append : ∀ {ds es : List D} {vs us : List V}, AllS K H ds vs → AllS K H es us → AllS K H (ds ++ es) (vs ++ us)
  | [], _, vs, _, h, t => by unfold AllS at h; subst h; exact t
  | d :: ds, es, vs, us, h, t => by
    unfold AllS at h
    obtain ⟨v, r, rfl, q, s⟩ := h
    exact AllS.cons q (AllS.append s t)
theorem AllS.take : ∀ {ds : List D} {vs : List V} (n : Nat), AllS K H ds vs → AllS K H (ds.take n) (vs.take n)
  | _, _, 0, _ => by simp; exact AllS.nil
  | [], vs, n + 1, h => by unfold AllS at h; subst h; simp; exact AllS.nil
  | d :: ds, vs, n + 1, h => by
    unfold AllS at h
    obtain ⟨v, r, rfl, q, s⟩ := h
    exact AllS.cons q (AllS.take n s)
theorem AllS.drop : ∀ {ds : List D} {vs : List V} (n : Nat), AllS K H ds vs → AllS K H (ds.drop n) (vs.drop n)
  | _, _, 0, h => h
  | [], vs, n + 1, h => by unfold AllS at h; subst h; simp; exact AllS.nil
  | d :: ds, vs, n + 1, h => by
    unfold AllS at h
    obtain ⟨v, r, rfl, q, s⟩ := h
    exact AllS.drop n s
theorem AllS.set {ds : List D} {vs : List V} {d : D} {v : V} (q : IsS K H d v) : ∀ (i : Nat), AllS K H ds vs → AllS K H (ds.set i d) (vs.set i v) := by
  intro i h
  induction ds generalizing vs i with
  | nil => unfold AllS at h; subst h; exact AllS.nil
  | cons d ds ih =>
    unfold AllS at h
    obtain ⟨v, r, rfl, q', s⟩ := h
    cases i with
    | zero => exact AllS.cons q s
    | succ i => exact AllS.cons q' (ih i s)
theorem AllS.ints {ns : List Int} : AllS K H (ns.map D.int) (ns.map V.int) := by
  induction ns with
  | nil => exact AllS.nil
  | cons n r ih => exact AllS.cons (by unfold IsS; rfl) ih
theorem IsS.s_int {i : Int} : IsS K H (.int i) (.int i) := by unfold IsS; rfl
theorem IsS.s_bl {i : Bool} : IsS K H (.bl i) (.bl i) := by unfold IsS; rfl
theorem IsS.s_str {i : Str} : IsS K H (.str i) (.str i) := by unfold IsS; rfl
theorem IsS.s_non : IsS K H .non .non := by unfold IsS; rfl
theorem IsS.s_tup {ds : List D} {a : Addr} {xs : List V} (q : H a = some (.tup xs)) (r : AllS K H ds xs) : IsS K H (.tup ds) (.ref a) := by unfold IsS; exact ⟨a, xs, rfl, q, r⟩
theorem IsS.s_lst {ds : List D} {a : Addr} {xs : List V} (q : FzL K H a xs) (r : AllS K H ds xs) : IsS K H (.lst ds) (.ref a) := by unfold IsS; exact ⟨a, xs, rfl, q, r⟩
end
inductive R where
  | st (d : D) | nw (ds : List D) | bw (ds : List D) | dk (kvs : List (Key × D)) | dt (kvs : List (List Key × D)) | ob (a : Addr) | ms (a C : Addr) (d : D) (fs : List (Str × D))
def KVS {κ : Type} (K : PySem.W.Frag) (H : Hp) : List (κ × D) → List (κ × V) → Prop
  | [], vs => vs = []
  | p :: ps, vs => ∃ v r, vs = (p.1, v) :: r ∧ IsS K H p.2 v ∧ KVS K H ps r
theorem KVS.mono {κ : Type} {K : PySem.W.Frag} {H H' : Hp} (k : Kp H H') : ∀ (ps : List (κ × D)) (vs : List (κ × V)), KVS K H ps vs → KVS K H' ps vs
  | [], _, h => h
  | p :: ps, vs, h => by
    obtain ⟨v, r, e, q, t⟩ := h
    exact ⟨v, r, e, q.mono k _ _, KVS.mono k ps r t⟩
def IsR (K : PySem.W.Frag) (H0 H : Hp) : R → V → Prop
  | .st d, v => IsS K H d v
  | .nw ds, v => ∃ a xs, v = .ref a ∧ H0 a = none ∧ H a = some (.lst xs) ∧ AllS K H ds xs
  | .bw ds, v => ∃ a xs, v = .ref a ∧ H a = some (.lst xs) ∧ AllS K H ds xs
  | .dk kvs, v => ∃ a ps, v = .ref a ∧ H a = some (.dK ps) ∧ KVS K H kvs ps
  | .dt kvs, v => ∃ a ps, v = .ref a ∧ H a = some (.dT ps) ∧ KVS K H kvs ps
  | .ob a, v => v = .ref a
  | .ms a C d fs, v => IsS K H d v ∧ ∃ dx vs, H a = some (.ins C dx vs) ∧ KVS K H fs vs
theorem IsR.mono {K : PySem.W.Frag} {H0 H H' : Hp} (s : Same H H') : ∀ {r : R} {v : V}, IsR K H0 H r v → IsR K H0 H' r v
  | .st d, v, h => IsS.mono (Kp.of s) d v h
  | .nw ds, v, h => by obtain ⟨a, xs, e, n, q, t⟩ := h; exact ⟨a, xs, e, n, s _ _ q, t.mono (Kp.of s) _ _⟩
  | .bw ds, v, h => by obtain ⟨a, xs, e, q, t⟩ := h; exact ⟨a, xs, e, s _ _ q, t.mono (Kp.of s) _ _⟩
  | .dk ds, v, h => by obtain ⟨a, xs, e, q, t⟩ := h; exact ⟨a, xs, e, s _ _ q, t.mono (Kp.of s) _ _⟩
  | .dt ds, v, h => by obtain ⟨a, xs, e, q, t⟩ := h; exact ⟨a, xs, e, s _ _ q, t.mono (Kp.of s) _ _⟩
  | .ob a, v, h => h
  | .ms a C d fs, v, h => by obtain ⟨h1, dx, vs, q, t⟩ := h; exact ⟨h1.mono (Kp.of s) _ _, dx, vs, s _ _ q, t.mono (Kp.of s) _ _⟩
theorem IsR.older {K : PySem.W.Frag} {H0 H1 H : Hp} (s : Same H0 H1) : ∀ {r : R} {v : V}, IsR K H1 H r v → IsR K H0 H r v
  | .st d, v, h => h
  | .nw ds, v, h => by obtain ⟨a, xs, e, n, q, t⟩ := h; exact ⟨a, xs, e, s.free n, q, t⟩
  | .bw ds, v, h => h
  | .dk ds, v, h => h
  | .dt ds, v, h => h
  | .ob a, v, h => h
  | .ms _ _ _ _, v, h => h
inductive Sl where
  | dat (d : D) | own (ds : List D) | bor (ds : List D) | dk (kvs : List (Key × D)) | dt (kvs : List (List Key × D)) | ob (a : Addr) | ins (a C : Addr) (fs : List (Str × D))
abbrev DSt := List (Option Sl)
def Sl.mut : Sl → Bool
  | .own _ => true
  | .dk _ => true
  | .dt _ => true
  | .ins _ _ _ => true
  | _ => false
def SlR (K : PySem.W.Frag) (H0 H : Hp) : Sl → V → Prop
  | .dat d, v => IsS K H d v
  | .own ds, v => ∃ a xs, v = .ref a ∧ H0 a = none ∧ H a = some (.lst xs) ∧ AllS K H ds xs
  | .bor ds, v => ∃ a xs, v = .ref a ∧ H0 a = some (.lst xs) ∧ AllS K H ds xs
  | .dk kvs, v => ∃ a ps, v = .ref a ∧ H0 a = none ∧ H a = some (.dK ps) ∧ KVS K H kvs ps
  | .dt kvs, v => ∃ a ps, v = .ref a ∧ H0 a = none ∧ H a = some (.dT ps) ∧ KVS K H kvs ps
  | .ob a, v => v = .ref a
  | .ins a C fs, v => v = .ref a ∧ H0 a = none ∧ ∃ dx vs, H a = some (.ins C dx vs) ∧ KVS K H fs vs
theorem SlR.mono {K : PySem.W.Frag} {H0 H H' : Hp} (s : Same H H') : ∀ {r : Sl} {v : V}, SlR K H0 H r v → SlR K H0 H' r v
  | .dat d, v, h => IsS.mono (Kp.of s) d v h
  | .own ds, v, h => by obtain ⟨a, xs, e, n, q, t⟩ := h; exact ⟨a, xs, e, n, s _ _ q, t.mono (Kp.of s) _ _⟩
  | .bor ds, v, h => by obtain ⟨a, xs, e, q, t⟩ := h; exact ⟨a, xs, e, q, t.mono (Kp.of s) _ _⟩
  | .dk ds, v, h => by obtain ⟨a, xs, e, n, q, t⟩ := h; exact ⟨a, xs, e, n, s _ _ q, t.mono (Kp.of s) _ _⟩
  | .dt ds, v, h => by obtain ⟨a, xs, e, n, q, t⟩ := h; exact ⟨a, xs, e, n, s _ _ q, t.mono (Kp.of s) _ _⟩
  | .ob a, v, h => h
  | .ins a C fs, v, h => by obtain ⟨e, n, dx, vs, q, t⟩ := h; exact ⟨e, n, dx, vs, s _ _ q, t.mono (Kp.of s) _ _⟩
structure Rep (K : PySem.W.Frag) (H0 : Hp) (τ : DSt) (σ : St) (H : Hp) : Prop where
  len : τ.length = σ.length
  same : Same H0 H
  here : ∀ (i : Nat) (s : Sl), τ[i]? = some (some s) → ∃ v, σ[i]? = some (some v) ∧ SlR K H0 H s v
  apart : ∀ (i j : Nat) (s t : Sl) (v : V), i ≠ j → τ[i]? = some (some s) → τ[j]? = some (some t) → s.mut = true → t.mut = true → σ[i]? = some (some v) → σ[j]? = some (some v) → False
theorem Rep.mono {K : PySem.W.Frag} {H0 H H' : Hp} {τ : DSt} {σ : St} (h : Rep K H0 τ σ H) (s : Same H H') : Rep K H0 τ σ H' :=
  ⟨h.len, h.same.trans s, fun i sl e => let ⟨v, q, r⟩ := h.here i sl e; ⟨v, q, r.mono s⟩, h.apart⟩
abbrev WE := DSt → (R → Prop) → Prop
def liftE (K : PySem.W.Frag) (H0 : Hp) (w : WE) : TE := fun σ H Q => ∃ τ, Rep K H0 τ σ H ∧ w τ fun r => ∀ v H', Same H H' → IsR K H H' r v → Q v H'
structure DE (X : Cx) (H0 : Hp) (e : Expr) (w : WE) : Prop where
  mono : ∀ (τ : DSt) (P Q : R → Prop), (∀ r, P r → Q r) → w τ P → w τ Q
  pe : PE X e (liftE X.K H0 w)
abbrev WT := DSt → (Bool → Prop) → Prop
def liftT (K : PySem.W.Frag) (H0 : Hp) (w : WT) : TT := fun σ H Q => ∃ τ, Rep K H0 τ σ H ∧ w τ fun b => ∀ H', Same H H' → Q b H'
structure DT (X : Cx) (H0 : Hp) (e : Expr) (w : WT) : Prop where
  mono : ∀ (τ : DSt) (P Q : Bool → Prop), (∀ r, P r → Q r) → w τ P → w τ Q
  pt : PT X e (liftT X.K H0 w)
structure DW (X : Cx) (H0 : Hp) (e : Expr) (w : WT) : Prop where
  mono : ∀ (τ : DSt) (P Q : Bool → Prop), (∀ r, P r → Q r) → w τ P → w τ Q
  pw : PW X e (liftT X.K H0 w)
abbrev WA := DSt → (List R → Prop) → Prop
def AllR (K : PySem.W.Frag) (H0 H : Hp) : List R → List V → Prop
  | [], vs => vs = []
  | r :: rs, vs => ∃ v t, vs = v :: t ∧ IsR K H0 H r v ∧ AllR K H0 H rs t
def liftA (K : PySem.W.Frag) (H0 : Hp) (w : WA) : TA := fun σ H Q => ∃ τ, Rep K H0 τ σ H ∧ w τ fun rs => ∀ vs H', Same H H' → AllR K H H' rs vs → Q vs H'
structure DA (X : Cx) (H0 : Hp) (es : List Expr) (w : WA) : Prop where
  len : ∀ (τ : DSt) (Q : List R → Prop), w τ Q → w τ fun rs => rs.length = es.length ∧ Q rs
  mono : ∀ (τ : DSt) (P Q : List R → Prop), (∀ r, P r → Q r) → w τ P → w τ Q
  pa : PA X es (liftA X.K H0 w)
structure DEnds where
  nx : DSt → Prop
  rt : R → Prop
  bk : DSt → Prop
  ct : DSt → Prop
abbrev WS := DEnds → DSt → Prop
structure DEnds.Le (E F : DEnds) : Prop where
  nx : ∀ τ, E.nx τ → F.nx τ
  rt : ∀ r, E.rt r → F.rt r
  bk : ∀ τ, E.bk τ → F.bk τ
  ct : ∀ τ, E.ct τ → F.ct τ
def liftD (K : PySem.W.Frag) (H0 Hs : Hp) (D : Ends) : DEnds where
  nx := fun τ => ∀ σ H, Kp Hs H → Rep K H0 τ σ H → D.nx σ H
  rt := fun r => ∀ v H, Same H0 H → IsR K H0 H r v → D.rt v H
  bk := fun τ => ∀ σ H, Kp Hs H → Rep K H0 τ σ H → D.bk σ H
  ct := fun τ => ∀ σ H, Kp Hs H → Rep K H0 τ σ H → D.ct σ H
theorem liftD_le {K : PySem.W.Frag} {H0 H H1 : Hp} {D : Ends} (k : Kp H H1) : (liftD K H0 H D).Le (liftD K H0 H1 D) :=
  ⟨fun τ h σ H2 k2 hR => h σ H2 (k.trans k2) hR, fun _ h => h, fun τ h σ H2 k2 hR => h σ H2 (k.trans k2) hR, fun τ h σ H2 k2 hR => h σ H2 (k.trans k2) hR⟩
def liftS (K : PySem.W.Frag) (H0 : Hp) (w : WS) : TS := fun D σ H => ∃ τ, Rep K H0 τ σ H ∧ w (liftD K H0 H D) τ
structure DS (X : Cx) (H0 : Hp) (st : Stmt) (w : WS) : Prop where
  mono : ∀ (τ : DSt) (E F : DEnds), E.Le F → w E τ → w F τ
  ps : PS X st (liftS X.K H0 w)
structure DSs (X : Cx) (H0 : Hp) (sts : List Stmt) (w : WS) : Prop where
  mono : ∀ (τ : DSt) (E F : DEnds), E.Le F → w E τ → w F τ
  ps : PSs X sts (liftS X.K H0 w)
end TK
end
section
set_option maxRecDepth 100000
namespace TK
open PySem PySem.Spec PyProof.Rows L2
theorem peW {X : Cx} {e : Expr} {t t' : TE} (h : PE X e t) (f : ∀ σ H Q, t' σ H Q → t σ H Q) : PE X e t' := fun pins s σ H Q I q => h pins s σ H Q I (f σ H Q q)
theorem ptW {X : Cx} {e : Expr} {t t' : TT} (h : PT X e t) (f : ∀ σ H Q, t' σ H Q → t σ H Q) : PT X e t' := fun pins s σ H Q I q => h pins s σ H Q I (f σ H Q q)
theorem pwW {X : Cx} {e : Expr} {t t' : TT} (h : PW X e t) (f : ∀ σ H Q, t' σ H Q → t σ H Q) : PW X e t' := fun whole pins s σ H Q I q => h whole pins s σ H Q I (f σ H Q q)
theorem paW {X : Cx} {e : List Expr} {t t' : TA} (h : PA X e t) (f : ∀ σ H Q, t' σ H Q → t σ H Q) : PA X e t' := fun pos pins s σ H Q I q => h pos pins s σ H Q I (f σ H Q q)
theorem psW {X : Cx} {e : Stmt} {t t' : TS} (h : PS X e t) (f : ∀ D σ H, t' D σ H → t D σ H) : PS X e t' := fun pins s σ H D I q => h pins s σ H D I (f D σ H q)
theorem pssW {X : Cx} {e : List Stmt} {t t' : TS} (h : PSs X e t) (f : ∀ D σ H, t' D σ H → t D σ H) : PSs X e t' := fun pins s σ H D I q => h pins s σ H D I (f D σ H q)
abbrev IsV (K : PySem.W.Frag) (H : Hp) : R → V → Prop := IsR K (fun _ => none) H
theorem IsR.v {K : PySem.W.Frag} {H0 H : Hp} : ∀ {r : R} {v : V}, IsR K H0 H r v → IsV K H r v
  | .st d, v, h => h
  | .nw ds, v, h => by obtain ⟨a, xs, e, n, q, t⟩ := h; exact ⟨a, xs, e, rfl, q, t⟩
  | .bw ds, v, h => h
  | .dk ds, v, h => h
  | .dt ds, v, h => h
  | .ob a, v, h => h
  | .ms _ _ _ _, v, h => h
theorem isr_bl {K : PySem.W.Frag} {H0 H : Hp} {k : Bool} : IsR K H0 H (.st (.bl k)) (.bl k) := IsS.s_bl (K := K) (H := H)
theorem isr_int {K : PySem.W.Frag} {H0 H : Hp} {k : Int} : IsR K H0 H (.st (.int k)) (.int k) := IsS.s_int (K := K) (H := H)
theorem isr_str {K : PySem.W.Frag} {H0 H : Hp} {k : Str} : IsR K H0 H (.st (.str k)) (.str k) := IsS.s_str (K := K) (H := H)
section
variable {X : Cx} {H0 : Hp} {a b c e : Expr} {pos : Pos} {wa wb wc we : WE}
def rdS : Sl → R
  | .dat d => .st d
  | .own ds => .bw ds
  | .bor ds => .bw ds
  | .dk k => .dk k
  | .dt k => .dt k
  | .ob a => .ob a
  | .ins a _ _ => .ob a
theorem SlR.rd {K : PySem.W.Frag} {H0 H Hs : Hp} (s : Same H0 H) : ∀ {r : Sl} {v : V}, SlR K H0 H r v → IsR K Hs H (rdS r) v
  | .dat d, v, h => h
  | .own ds, v, h => by obtain ⟨a, xs, e, n, q, t⟩ := h; exact ⟨a, xs, e, q, t⟩
  | .bor ds, v, h => by obtain ⟨a, xs, e, q, t⟩ := h; exact ⟨a, xs, e, s _ _ q, t⟩
  | .dk ds, v, h => by obtain ⟨a, xs, e, n, q, t⟩ := h; exact ⟨a, xs, e, q, t⟩
  | .dt ds, v, h => by obtain ⟨a, xs, e, n, q, t⟩ := h; exact ⟨a, xs, e, q, t⟩
  | .ob a, v, h => h
  | .ins a C fs, v, h => h.1
def wV (i : Nat) : WE := fun τ Q => ∃ s, τ[i]? = some (some s) ∧ Q (rdS s)
theorem DE.var {i : Nat} (h : PE X e (tVar i)) : DE X H0 e (wV i) where
  mono := fun τ P Q f ⟨s, h1, h2⟩ => ⟨s, h1, f _ h2⟩
  pe := peW h fun σ H Q ⟨τ, hR, s, h1, h2⟩ => by
    obtain ⟨v, hv, q⟩ := hR.here i s h1
    exact ⟨v, hv, h2 v H (Same.refl H) (q.rd hR.same)⟩
def wC (d : D) : WE := fun _ Q => Q (.st d)
theorem DE.con {v : V} {d : D} (h : PE X e (tC v)) (hd : ∀ K H, IsS K H d v) : DE X H0 e (wC d) where
  mono := fun τ P Q f h => f _ h
  pe := peW h fun σ H Q ⟨τ, hR, h⟩ => h v H (Same.refl H) (hd _ _)
theorem DE.int {i : Int} {j : Nat} : DE X H0 (.Constant (.int i) j pos) (wC (.int i)) := DE.con pe_int fun _ _ => IsS.s_int
theorem DE.bl {i : Bool} {j : Nat} : DE X H0 (.Constant (.bool i) j pos) (wC (.bl i)) := DE.con pe_bl fun _ _ => IsS.s_bl
theorem DE.str {i : Str} {j : Nat} : DE X H0 (.Constant (.str i) j pos) (wC (.str i)) := DE.con pe_str fun _ _ => IsS.s_str
theorem DE.non {j : Nat} : DE X H0 (.Constant .none j pos) (wC .non) := DE.con pe_non fun _ _ => IsS.s_non
def fzR : R → (D → Prop) → Prop
  | .st d, Q => Q d
  | .nw ds, Q => Q (.lst ds)
  | _, _ => False
theorem Inv.freeze {pins : List (Addr × Obj)} {σ : St} {H : Hp} {s : Shared} {x : Addr} {xs : List V} (I : Inv X pins σ H s) (h : H x = some (.lst xs)) : ∃ o, Inv X pins σ (upd H x (.frz o (.lst xs))) s := by
  obtain ⟨z, its, n, r, q⟩ := I.hok x _ h
  refine ⟨_, I.write (t' := s.toks) (h' := s.heap) (e := x) (o := .frz { cls := .type "list", data := .seq its.toArray n } (.lst xs)) (by rw [h]; trivial) (.inl rfl) (fun b u _ k => k) ⟨_, q⟩ ?_⟩
  exact ⟨q, z, its, n, r, q⟩
theorem DE.fz (h : DE X H0 e we) : DE X H0 e (fun τ Q => we τ fun r => fzR r fun d => Q (.st d)) where
  mono := fun τ P Q f h' => h.mono τ _ _ (fun r q => by
    cases r <;> first | exact f _ q | exact q) h'
  pe := by
    intro pins s σ H Q I ⟨τ, hR, hw⟩
    refine thn (h.pe pins s σ H (fun v H' => Same H H' ∧ ∃ r, IsR X.K H H' r v ∧ fzR r fun d => ∀ v H', Same H H' → IsS X.K H' d v → Q v H') I ⟨τ, hR, h.mono τ _ _ (fun r q v H' sm ir => ⟨sm, r, ir, q⟩) hw⟩) ?_
    rintro u s1 ⟨v, H1, I1, rv, sm, r, ir, q⟩
    cases r with
    | st d => exact ⟨v, H1, I1, rv, q v H1 sm ir⟩
    | nw ds =>
      obtain ⟨p, xs, rfl, hn, hp, al⟩ := ir
      obtain ⟨o, I2⟩ := Inv.freeze I1 hp
      refine ⟨.ref p, _, I2, rv, q _ _ (fun b ob hb => ?_) (IsS.s_lst (.inl ⟨o, upd_same⟩) (al.mono (Kp.upd hp _) _ _))⟩
      rw [upd_ne (ne_of_none hb hn)]
      exact sm b ob hb
    | bw _ => exact q.elim
    | dk _ => exact q.elim
    | dt _ => exact q.elim
    | ob _ => exact q.elim
    | ms _ _ _ _ => exact q.elim
theorem two (ha : DE X H0 a wa) (hb : DE X H0 b wb) {τ : DSt} {σ : St} {H : Hp} (hR : Rep X.K H0 τ σ H) {F : R → R → Prop} (h : wa τ fun x => wb τ fun y => F x y) {G : V → V → Hp → Prop}
    (hG : ∀ x y v u H', Same H H' → IsR X.K H H' x v → IsR X.K H H' y u → F x y → G v u H') : liftE X.K H0 wa σ H fun v H1 => liftE X.K H0 wb σ H1 fun u H2 => G v u H2 :=
  ⟨τ, hR, ha.mono τ _ _ (fun x hx v H1 s1 r1 => ⟨τ, hR.mono s1, hb.mono τ _ _ (fun y hy u H2 s2 r2 => hG x y v u H2 (s1.trans s2) (r1.mono s2) (r2.older s1) hy) hx⟩) h⟩
def OpD (X : Cx) (f : Value → Value → Sem Value) (g : R → R → (R → Prop) → Prop) : Prop :=
  OpR X f (fun x y H Q => ∃ r1 r2, IsV X.K H r1 x ∧ IsV X.K H r2 y ∧ g r1 r2 fun r => ∀ v H', Same H H' → IsR X.K H H' r v → Q v H')
def Mono2 {α : Type} (g : R → R → (α → Prop) → Prop) : Prop := ∀ x y (P Q : α → Prop), (∀ r, P r → Q r) → g x y P → g x y Q
def wOp {α : Type} (g : R → R → (α → Prop) → Prop) (wa wb : WE) : DSt → (α → Prop) → Prop := fun τ Q => wa τ fun x => wb τ fun y => g x y Q
theorem DE.op {op : Operator} {g : R → R → (R → Prop) → Prop} (ho : OpD X (binaryOp op) g) (mg : Mono2 g) (ha : DE X H0 a wa) (hb : DE X H0 b wb) : DE X H0 (.BinOp a op b pos) (wOp g wa wb) where
  mono := fun τ P Q f h => ha.mono τ _ _ (fun x h => hb.mono τ _ _ (fun y h => mg x y P Q f h) h) h
  pe := peW (pe_op ho ha.pe hb.pe) fun σ H Q ⟨τ, hR, h⟩ => two ha hb hR h fun x y v u H' sm rx ry q =>
    ⟨x, y, rx.v, ry.v, mg x y _ _ (fun r q v H'' s2 ir => q v H'' (sm.trans s2) (ir.older sm)) q⟩
def CmpD (X : Cx) (op : CmpOp) (g : R → R → (Bool → Prop) → Prop) : Prop :=
  OpR X (compareOp op) (fun x y H Q => ∃ r1 r2, IsV X.K H r1 x ∧ IsV X.K H r2 y ∧ g r1 r2 fun k => Q (.bl k) H)
theorem DE.cmp {op : CmpOp} {g : R → R → (Bool → Prop) → Prop} (ho : CmpD X op g) (mg : Mono2 g) (ha : DE X H0 a wa) (hb : DE X H0 b wb) (hm : behindInMarks op b = false) :
    DE X H0 (.Compare a [op] [b] pos) (fun τ Q => wOp g wa wb τ fun k => Q (.st (.bl k))) where
  mono := fun τ P Q f h => ha.mono τ _ _ (fun x h => hb.mono τ _ _ (fun y h => mg x y _ _ (fun k q => f _ q) h) h) h
  pe := peW (pe_cmpR ho ha.pe hb.pe hm) fun σ H Q ⟨τ, hR, h⟩ => two ha hb hR h fun x y v u H' sm rx ry q =>
    ⟨x, y, rx.v, ry.v, mg x y _ _ (fun r q => q _ _ sm isr_bl) q⟩
theorem DT.cmp {op : CmpOp} {g : R → R → (Bool → Prop) → Prop} (ho : CmpD X op g) (mg : Mono2 g) (ha : DE X H0 a wa) (hb : DE X H0 b wb) (hm : behindInMarks op b = false) :
    DT X H0 (.Compare a [op] [b] pos) (wOp g wa wb) where
  mono := fun τ P Q f h => ha.mono τ _ _ (fun x h => hb.mono τ _ _ (fun y h => mg x y _ _ (fun k q => f _ q) h) h) h
  pt := ptW (pt_cmpR ho ha.pe hb.pe hm) fun σ H Q ⟨τ, hR, h⟩ => two ha hb hR h fun x y v u H' sm rx ry q =>
    ⟨x, y, rx.v, ry.v, mg x y _ _ (fun r q => ⟨r, rfl, q _ sm⟩) q⟩
def truR : R → (Bool → Prop) → Prop
  | .st .non, Q => Q false
  | .st (.bl b), Q => Q b
  | .st (.int i), Q => Q (i != 0)
  | .st (.str x), Q => x.length ≤ sizeLine ∧ Q ((x.length : Int) != 0)
  | .st (.tup ds), Q => Q (!ds.isEmpty)
  | .st (.lst ds), Q => Q (!ds.isEmpty)
  | .nw ds, Q => Q (!ds.isEmpty)
  | .bw ds, Q => Q (!ds.isEmpty)
  | .dk kvs, Q => Q (!kvs.isEmpty)
  | .dt _, _ => False
  | .ob _, _ => False
  | .ms _ _ _ _, _ => False
theorem AllS.empty {K : PySem.W.Frag} {H : Hp} {ds : List D} {xs : List V} (h : AllS K H ds xs) : ds.isEmpty = xs.isEmpty := by
  have := h.length
  cases ds <;> cases xs <;> simp_all
theorem truR_mono (r : R) (P Q : Bool → Prop) (f : ∀ r, P r → Q r) (h : truR r P) : truR r Q := by
  unfold truR at h ⊢
  split at h <;> first | exact f _ h | exact ⟨h.1, f _ h.2⟩ | exact h
theorem tru_of {K : PySem.W.Frag} {H : Hp} {r : R} {v : V} (ir : IsV K H r v) {Q : Bool → Prop} (h : truR r Q) : ∃ k, TruV K v H k ∧ Q k := by
  cases r with
  | st d =>
    cases d with
    | non => cases (show v = .non from ir); exact ⟨_, rfl, h⟩
    | bl b => cases (show v = .bl b from ir); exact ⟨_, rfl, h⟩
    | int b => cases (show v = .int b from ir); exact ⟨_, rfl, h⟩
    | str b => cases (show v = .str b from ir); exact ⟨_, ⟨h.1, rfl⟩, h.2⟩
    | tup ds =>
      have ir : IsS K H (.tup ds) v := ir
      unfold IsS at ir
      obtain ⟨p, xs, rfl, q, al⟩ := ir
      exact ⟨_, .inr (.inl ⟨xs, SqT.of q, rfl⟩), by rw [← al.empty]; exact h⟩
    | lst ds =>
      have ir : IsS K H (.lst ds) v := ir
      unfold IsS at ir
      obtain ⟨p, xs, rfl, q, al⟩ := ir
      exact ⟨_, .inl ⟨xs, q.sq, rfl⟩, by rw [← al.empty]; exact h⟩
  | nw ds => obtain ⟨p, xs, rfl, _, q, al⟩ := ir; exact ⟨_, .inl ⟨xs, SqL.of q, rfl⟩, by rw [← al.empty]; exact h⟩
  | bw ds => obtain ⟨p, xs, rfl, q, al⟩ := ir; exact ⟨_, .inl ⟨xs, SqL.of q, rfl⟩, by rw [← al.empty]; exact h⟩
  | dk ds =>
    obtain ⟨p, xs, rfl, q, al⟩ := ir
    refine ⟨_, .inr (.inr ⟨xs, q, rfl⟩), ?_⟩
    cases ds with
    | nil => cases (show xs = [] from al); exact h
    | cons d ds => obtain ⟨v, r, rfl, _⟩ := al; exact h
  | dt _ => exact h.elim
  | ob _ => exact h.elim
  | ms _ _ _ _ => exact h.elim
theorem DT.tru (ha : DE X H0 a wa) (he : ∀ whole, isTrue a X.env whole = (do let v ← whole; standAt a.pos; holding [v] (truthy v))) : DT X H0 a (fun τ Q => wa τ fun r => truR r Q) where
  mono := fun τ P Q f h => ha.mono τ _ _ (fun x h => truR_mono x P Q f h) h
  pt := ptW (pt_truth ha.pe he) fun σ H Q ⟨τ, hR, h⟩ => ⟨τ, hR, ha.mono τ _ _ (fun r q v H' sm ir => by
    obtain ⟨k, h1, h2⟩ := tru_of ir.v q
    exact ⟨k, h1, h2 H' sm⟩) h⟩
variable {ta tb tc : WT} {rest : List Expr}
def wAnd (t u : WT) : WT := fun τ Q => t τ fun k => if k = true then u τ Q else Q false
def wOr (t u : WT) : WT := fun τ Q => t τ fun k => if k = true then Q true else u τ Q
def wNot (t : WT) : WT := fun τ Q => t τ fun k => Q (!k)
theorem ite_imp {c A B A' B' : Prop} [Decidable c] (f : A → A') (g : B → B') (h : if c then A else B) : if c then A' else B' := by
  split at h
  · rename_i hc; rw [if_pos hc]; exact f h
  · rename_i hc; rw [if_neg hc]; exact g h
theorem DW.and1 (ha : DT X H0 a ta) : DW X H0 (.BoolOp .And [a] pos) ta := ⟨ha.mono, pw_and1 ha.pt⟩
theorem DW.or1 (ha : DT X H0 a ta) : DW X H0 (.BoolOp .Or [a] pos) ta := ⟨ha.mono, pw_or1 ha.pt⟩
theorem DW.and (ha : DT X H0 a ta) (hb : DW X H0 (.BoolOp .And (b :: rest) pos) tb) : DW X H0 (.BoolOp .And (a :: b :: rest) pos) (wAnd ta tb) where
  mono := fun τ P Q f h => ha.mono τ _ _ (fun k h => ite_imp (hb.mono τ _ _ f) (f _) h) h
  pw := pwW (pw_and ha.pt hb.pw) fun σ H Q ⟨τ, hR, h⟩ => ⟨τ, hR, ha.mono τ _ _ (fun k q H1 s1 =>
    ite_imp (fun h => ⟨τ, hR.mono s1, hb.mono τ _ _ (fun k q H2 s2 => q H2 (s1.trans s2)) h⟩) (fun h => h H1 s1) q) h⟩
theorem DW.or (ha : DT X H0 a ta) (hb : DW X H0 (.BoolOp .Or (b :: rest) pos) tb) : DW X H0 (.BoolOp .Or (a :: b :: rest) pos) (wOr ta tb) where
  mono := fun τ P Q f h => ha.mono τ _ _ (fun k h => ite_imp (f _) (hb.mono τ _ _ f) h) h
  pw := pwW (pw_or ha.pt hb.pw) fun σ H Q ⟨τ, hR, h⟩ => ⟨τ, hR, ha.mono τ _ _ (fun k q H1 s1 =>
    ite_imp (fun h => h H1 s1) (fun h => ⟨τ, hR.mono s1, hb.mono τ _ _ (fun k q H2 s2 => q H2 (s1.trans s2)) h⟩) q) h⟩
theorem DW.t (h : DW X H0 a ta) : DT X H0 a ta := ⟨h.mono, h.pw.pt⟩
theorem DT.nt (ha : DT X H0 a ta) : DT X H0 (.UnaryOp .Not a pos) (wNot ta) where
  mono := fun τ P Q f h => ha.mono τ _ _ (fun k h => f _ h) h
  pt := ptW (pt_not ha.pt) fun σ H Q ⟨τ, hR, h⟩ => ⟨τ, hR, h⟩
def blR : R → (Bool → Prop) → Prop
  | .st (.bl b), Q => Q b
  | _, _ => False
theorem blR_of {r : R} {P : Bool → Prop} (h : blR r P) : ∃ k, r = .st (.bl k) ∧ P k := by
  unfold blR at h
  split at h
  · exact ⟨_, rfl, h⟩
  · exact h.elim
def wAndV (wa wb : WE) : WE := fun τ Q => wa τ fun r => blR r fun k => if k = true then wb τ Q else Q (.st (.bl false))
def wOrV (wa wb : WE) : WE := fun τ Q => wa τ fun r => blR r fun k => if k = true then Q (.st (.bl true)) else wb τ Q
def wNotV (wa : WE) : WE := fun τ Q => wa τ fun r => blR r fun k => Q (.st (.bl (!k)))
theorem DE.and1 (ha : DE X H0 a wa) : DE X H0 (.BoolOp .And [a] pos) wa := ⟨ha.mono, pe_one ha.pe⟩
theorem DE.or1 (ha : DE X H0 a wa) : DE X H0 (.BoolOp .Or [a] pos) wa := ⟨ha.mono, pe_one ha.pe⟩
theorem DE.and (ha : DE X H0 a wa) (hb : DE X H0 (.BoolOp .And (b :: rest) pos) wb) : DE X H0 (.BoolOp .And (a :: b :: rest) pos) (wAndV wa wb) where
  mono := fun τ P Q f h => ha.mono τ _ _ (fun r h => by
    obtain ⟨k, rfl, h⟩ := blR_of h
    exact ite_imp (hb.mono τ _ _ f) (f _) h) h
  pe := peW (pe_and ha.pe hb.pe) fun σ H Q ⟨τ, hR, h⟩ => ⟨τ, hR, ha.mono τ _ _ (fun r h v H1 s1 ir => by
    obtain ⟨k, rfl, h⟩ := blR_of h
    refine ⟨k, ir, ite_imp (fun h => ⟨τ, hR.mono s1, hb.mono τ _ _ (fun r q u H2 s2 iu => q u H2 (s1.trans s2) (iu.older s1)) h⟩) (fun h => h _ _ s1 isr_bl) h⟩) h⟩
theorem DE.or (ha : DE X H0 a wa) (hb : DE X H0 (.BoolOp .Or (b :: rest) pos) wb) : DE X H0 (.BoolOp .Or (a :: b :: rest) pos) (wOrV wa wb) where
  mono := fun τ P Q f h => ha.mono τ _ _ (fun r h => by
    obtain ⟨k, rfl, h⟩ := blR_of h
    exact ite_imp (f _) (hb.mono τ _ _ f) h) h
  pe := peW (pe_or ha.pe hb.pe) fun σ H Q ⟨τ, hR, h⟩ => ⟨τ, hR, ha.mono τ _ _ (fun r h v H1 s1 ir => by
    obtain ⟨k, rfl, h⟩ := blR_of h
    refine ⟨k, ir, ite_imp (fun h => h _ _ s1 isr_bl) (fun h => ⟨τ, hR.mono s1, hb.mono τ _ _ (fun r q u H2 s2 iu => q u H2 (s1.trans s2) (iu.older s1)) h⟩) h⟩) h⟩
theorem DE.nt (ha : DE X H0 a wa) : DE X H0 (.UnaryOp .Not a pos) (wNotV wa) where
  mono := fun τ P Q f h => ha.mono τ _ _ (fun r h => by
    obtain ⟨k, rfl, h⟩ := blR_of h
    exact f _ h) h
  pe := peW (pe_not ha.pe) fun σ H Q ⟨τ, hR, h⟩ => ⟨τ, hR, ha.mono τ _ _ (fun r h v H1 s1 ir => by
    obtain ⟨k, rfl, h⟩ := blR_of h
    exact ⟨k, ir, h _ _ s1 isr_bl⟩) h⟩
def wIf (t : WT) (wa wb : WE) : WE := fun τ Q => t τ fun k => if k = true then wa τ Q else wb τ Q
theorem DE.ife (hc : DT X H0 c tc) (ha : DE X H0 a wa) (hb : DE X H0 b wb) : DE X H0 (.IfExp c a b pos) (wIf tc wa wb) where
  mono := fun τ P Q f h => hc.mono τ _ _ (fun k h => ite_imp (ha.mono τ _ _ f) (hb.mono τ _ _ f) h) h
  pe := peW (pe_ifExp hc.pt ha.pe hb.pe) fun σ H Q ⟨τ, hR, h⟩ => ⟨τ, hR, hc.mono τ _ _ (fun k h H1 s1 =>
    ite_imp (fun h => ⟨τ, hR.mono s1, ha.mono τ _ _ (fun r q u H2 s2 iu => q u H2 (s1.trans s2) (iu.older s1)) h⟩) (fun h => ⟨τ, hR.mono s1, hb.mono τ _ _ (fun r q u H2 s2 iu => q u H2 (s1.trans s2) (iu.older s1)) h⟩) h) h⟩
variable {es : List Expr} {wr : WA}
def wNil : WA := fun _ Q => Q []
def wCons (we : WE) (wr : WA) : WA := fun τ Q => we τ fun r => wr τ fun rs => Q (r :: rs)
theorem AllR.mono {K : PySem.W.Frag} {H0 H H' : Hp} (s : Same H H') : ∀ {rs : List R} {vs : List V}, AllR K H0 H rs vs → AllR K H0 H' rs vs
  | [], _, h => h
  | r :: rs, _, h => by obtain ⟨v, t, e, q, z⟩ := h; exact ⟨v, t, e, q.mono s, AllR.mono s z⟩
theorem AllR.older {K : PySem.W.Frag} {H0 H1 H : Hp} (s : Same H0 H1) : ∀ {rs : List R} {vs : List V}, AllR K H1 H rs vs → AllR K H0 H rs vs
  | [], _, h => h
  | r :: rs, _, h => by obtain ⟨v, t, e, q, z⟩ := h; exact ⟨v, t, e, q.older s, AllR.older s z⟩
theorem DA.nil : DA X H0 [] wNil := ⟨fun τ Q h => ⟨rfl, h⟩, fun τ P Q f h => f _ h, paW pa_nil fun σ H Q ⟨τ, hR, h⟩ => h [] H (Same.refl H) rfl⟩
theorem DA.cons (ha : DE X H0 e we) (hr : DA X H0 es wr) (hs : starEach (e :: es) X.env = (false, eval e X.env) :: starEach es X.env := by rfl) : DA X H0 (e :: es) (wCons we wr) where
  len := fun τ Q h => ha.mono τ _ _ (fun r h => hr.mono τ _ _ (fun rs h => ⟨by rw [List.length_cons, List.length_cons, h.1], h.2⟩) (hr.len τ _ h)) h
  mono := fun τ P Q f h => ha.mono τ _ _ (fun r h => hr.mono τ _ _ (fun rs h => f _ h) h) h
  pa := paW (pa_cons ha.pe hr.pa hs) fun σ H Q ⟨τ, hR, h⟩ => ⟨τ, hR, ha.mono τ _ _ (fun r h v H1 s1 ir => ⟨τ, hR.mono s1, hr.mono τ _ _ (fun rs h vs H2 s2 irs =>
    h (v :: vs) H2 (s1.trans s2) ⟨v, vs, rfl, ir.mono s2, irs.older s1⟩) h⟩) h⟩
def stAll : List R → Option (List D)
  | [] => some []
  | .st d :: rs => (stAll rs).map (d :: ·)
  | _ :: _ => none
theorem stAll_of {K : PySem.W.Frag} {H0 H : Hp} : ∀ {rs : List R} {ds : List D} {vs : List V}, stAll rs = some ds → AllR K H0 H rs vs → AllS K H ds vs
  | [], ds, vs, h, q => by cases h; cases q; exact AllS.nil
  | .st d :: rs, ds, vs, h, q => by
    obtain ⟨v, t, rfl, iv, z⟩ := q
    unfold stAll at h
    cases e : stAll rs with
    | none => rw [e] at h; cases h
    | some es => rw [e] at h; cases h; exact AllS.cons iv (stAll_of e z)
  | .nw _ :: _, _, _, h, _ => by cases h
  | .bw _ :: _, _, _, h, _ => by cases h
  | .dk _ :: _, _, _, h, _ => by cases h
  | .dt _ :: _, _, _, h, _ => by cases h
  | .ob _ :: _, _, _, h, _ => by cases h
  | .ms _ _ _ _ :: _, _, _, h, _ => by cases h
def wTup (wr : WA) : WE := fun τ Q => wr τ fun rs => ∃ ds, stAll rs = some ds ∧ ds.length ≤ sizeLine ∧ Q (.st (.tup ds))
def wLst (wr : WA) : WE := fun τ Q => wr τ fun rs => ∃ ds, stAll rs = some ds ∧ ds.length ≤ sizeLine ∧ Q (.nw ds)
theorem DE.tup {k : Nat} (h : DA X H0 es wr) : DE X H0 (.Tuple es k pos) (wTup wr) where
  mono := fun τ P Q f h' => h.mono τ _ _ (fun rs ⟨ds, e, l, q⟩ => ⟨ds, e, l, f _ q⟩) h'
  pe := peW (pe_tup h.pa) fun σ H Q ⟨τ, hR, h'⟩ => ⟨τ, hR, h.mono τ _ _ (fun rs ⟨ds, e, l, q⟩ vs H1 s1 irs => by
    have al := stAll_of e irs
    refine ⟨by rw [← al.length]; exact l, fun p hp => q _ _ (s1.trans (same_new hp _)) (IsS.s_tup upd_same (al.mono (Kp.of (same_new hp _)) _ _))⟩) h'⟩
theorem DE.lst (h : DA X H0 es wr) : DE X H0 (.List es pos) (wLst wr) where
  mono := fun τ P Q f h' => h.mono τ _ _ (fun rs ⟨ds, e, l, q⟩ => ⟨ds, e, l, f _ q⟩) h'
  pe := peW (pe_lst h.pa) fun σ H Q ⟨τ, hR, h'⟩ => ⟨τ, hR, h.mono τ _ _ (fun rs ⟨ds, e, l, q⟩ vs H1 s1 irs => by
    have al := stAll_of e irs
    refine ⟨by rw [← al.length]; exact l, fun p hp => q _ _ (s1.trans (same_new hp _)) ⟨p, vs, rfl, s1.free hp, upd_same, al.mono (Kp.of (same_new hp _)) _ _⟩⟩) h'⟩
end
end TK
end
section
set_option maxRecDepth 100000
namespace TK
open PySem PySem.Spec PyProof.Rows L2
theorem get_set_eq {α : Type} {l : List (Option α)} {i : Nat} {x : Option α} (h : i < l.length) : (l.set i x)[i]? = some x := by simp [h]
theorem Rep.set {K : PySem.W.Frag} {H0 H : Hp} {τ : DSt} {σ : St} {i : Nat} {s : Sl} {v : V} (h : Rep K H0 τ σ H) (q : SlR K H0 H s v)
    (ap : s.mut = true → ∀ (j : Nat) (t : Sl), j ≠ i → τ[j]? = some (some t) → t.mut = true → σ[j]? ≠ some (some v)) : Rep K H0 (τ.set i (some s)) (σ.set i (some v)) H where
  len := by rw [List.length_set, List.length_set]; exact h.len
  same := h.same
  here := fun j t e => by
    by_cases hj : j = i
    · subst hj
      by_cases hl : j < τ.length
      · rw [get_set_eq hl] at e
        cases e
        exact ⟨v, get_set_eq (by rw [← h.len]; exact hl), q⟩
      · rw [List.getElem?_eq_none_iff.mpr (by rw [List.length_set]; omega)] at e; cases e
    · rw [List.getElem?_set_ne (fun z => hj z.symm)] at e ⊢
      exact h.here j t e
  apart := fun j k s1 s2 u hne e1 e2 m1 m2 q1 q2 => by
    by_cases hj : j = i
    · subst hj
      have hk : k ≠ j := fun z => hne z.symm
      by_cases hl : j < τ.length
      · rw [get_set_eq hl] at e1
        cases e1
        rw [get_set_eq (by rw [← h.len]; exact hl)] at q1
        cases q1
        rw [List.getElem?_set_ne (fun z => hk z.symm)] at e2 q2
        exact ap m1 k s2 hk e2 m2 q2
      · rw [List.getElem?_eq_none_iff.mpr (by rw [List.length_set]; omega)] at e1; cases e1
    · by_cases hk : k = i
      · subst hk
        by_cases hl : k < τ.length
        · rw [get_set_eq hl] at e2
          cases e2
          rw [get_set_eq (by rw [← h.len]; exact hl)] at q2
          cases q2
          rw [List.getElem?_set_ne (fun z => hj z.symm)] at e1 q1
          exact ap m2 j s1 hj e1 m1 q1
        · rw [List.getElem?_eq_none_iff.mpr (by rw [List.length_set]; omega)] at e2; cases e2
      · rw [List.getElem?_set_ne (fun z => hj z.symm)] at e1 q1
        rw [List.getElem?_set_ne (fun z => hk z.symm)] at e2 q2
        exact h.apart j k s1 s2 u hne e1 e2 m1 m2 q1 q2
theorem Rep.tracked {K : PySem.W.Frag} {H0 H : Hp} {τ : DSt} {σ : St} {j : Nat} {t : Sl} {p : Addr} (h : Rep K H0 τ σ H) (e : τ[j]? = some (some t)) (m : t.mut = true) (q : σ[j]? = some (some (.ref p))) : ∃ o, H p = some o := by
  obtain ⟨v, hv, r⟩ := h.here j t e
  rw [q] at hv; cases hv
  cases t with
  | dat _ => cases m
  | bor _ => cases m
  | own ds => obtain ⟨a, xs, e, _, q, _⟩ := r; cases e; exact ⟨_, q⟩
  | dk ds => obtain ⟨a, xs, e, _, q, _⟩ := r; cases e; exact ⟨_, q⟩
  | dt ds => obtain ⟨a, xs, e, _, q, _⟩ := r; cases e; exact ⟨_, q⟩
  | ob _ => cases m
  | ins _ _ _ => obtain ⟨e, _, dx, xs, q, _⟩ := r; cases e; exact ⟨_, q⟩
def stoR : R → (Sl → Prop) → Prop
  | .st d, Q => Q (.dat d)
  | .nw ds, Q => Q (.own ds)
  | _, _ => False
theorem stoR_of {r : R} {P : Sl → Prop} (h : stoR r P) : ∃ s, P s ∧ ((∃ d, r = .st d ∧ s = .dat d) ∨ ∃ ds, r = .nw ds ∧ s = .own ds) := by
  cases r with
  | st d => exact ⟨_, h, .inl ⟨d, rfl, rfl⟩⟩
  | nw ds => exact ⟨_, h, .inr ⟨ds, rfl, rfl⟩⟩
  | bw _ => exact h.elim
  | dk _ => exact h.elim
  | dt _ => exact h.elim
  | ob _ => exact h.elim
  | ms _ _ _ _ => exact h.elim
theorem stoR_mono {r : R} {P Q : Sl → Prop} (f : ∀ s, P s → Q s) (h : stoR r P) : stoR r Q := by
  cases r <;> first | exact f _ h | exact h
theorem Rep.store {K : PySem.W.Frag} {H0 H H1 : Hp} {τ : DSt} {σ : St} {i : Nat} {r : R} {v : V} (h : Rep K H0 τ σ H) (sm : Same H H1) (ir : IsR K H H1 r v) {P : Sl → Prop} (st : stoR r P) : ∃ s, P s ∧ Rep K H0 (τ.set i (some s)) (σ.set i (some v)) H1 := by
  obtain ⟨s, p, ⟨d, rfl, rfl⟩ | ⟨ds, rfl, rfl⟩⟩ := stoR_of st
  · exact ⟨_, p, (h.mono sm).set ir fun m => by cases m⟩
  · obtain ⟨a, xs, rfl, hn, ha, al⟩ := ir
    refine ⟨_, p, (h.mono sm).set ⟨a, xs, rfl, h.same.free hn, ha, al⟩ fun _ j t hj e m q => ?_⟩
    obtain ⟨o, ho⟩ := h.tracked e m q
    rw [hn] at ho; cases ho
section
variable {X : Cx} {H0 : Hp} {a b c e : Expr} {pos pos' : Pos} {wa wb we : WE} {tc : WT} {st : Stmt} {sts : List Stmt} {ws wt : WS}
def wNext : WS := fun E τ => E.nx τ
def wSeq (t u : WS) : WS := fun E τ => t { E with nx := u E } τ
theorem DSs.nil : DSs X H0 [] wNext := ⟨fun τ E F le h => le.nx τ h, pssW pss_nil fun D σ H ⟨τ, hR, h⟩ => h σ H (Kp.refl H) hR⟩
theorem DSs.cons (h1 : DS X H0 st ws) (h2 : DSs X H0 sts wt) : DSs X H0 (st :: sts) (wSeq ws wt) where
  mono := fun τ E F le h => h1.mono τ { E with nx := wt E } { F with nx := wt F } ⟨fun τ' h => h2.mono τ' E F le h, le.rt, le.bk, le.ct⟩ h
  ps := pssW (pss_cons h1.ps h2.ps) fun D σ H ⟨τ, hR, h⟩ => ⟨τ, hR, h1.mono τ { liftD X.K H0 H D with nx := wt (liftD X.K H0 H D) } _ ⟨fun τ' h σ' H' k hR' => ⟨τ', hR', h2.mono τ' _ _ (liftD_le k) h⟩, fun _ h => h, fun _ h => h, fun _ h => h⟩ h⟩
theorem DSs.one (h1 : DS X H0 st ws) : DSs X H0 [st] ws := ⟨h1.mono, pssW (pss_one h1.ps) fun D σ H h => h⟩
theorem DS.cont : DS X H0 (.Continue pos) (fun E τ => E.ct τ) := ⟨fun τ E F le h => le.ct τ h, psW ps_continue fun D σ H ⟨τ, hR, h⟩ => h σ H (Kp.refl H) hR⟩
def wIfS (t : WT) (ws wt : WS) : WS := fun E τ => t τ fun k => if k = true then ws E τ else wt E τ
theorem DS.ife {sa sb : List Stmt} (hc : DT X H0 c tc) (ha : DSs X H0 sa ws) (hb : DSs X H0 sb wt) : DS X H0 (.If c sa sb pos) (wIfS tc ws wt) where
  mono := fun τ E F le h => hc.mono τ _ _ (fun k h => ite_imp (ha.mono τ E F le) (hb.mono τ E F le) h) h
  ps := psW (ps_if hc.pt ha.ps hb.ps) fun D σ H ⟨τ, hR, h⟩ => ⟨τ, hR, hc.mono τ _ _ (fun k h H1 s1 =>
    ite_imp (fun h => ⟨τ, hR.mono s1, ha.mono τ _ _ (liftD_le (Kp.of s1)) h⟩) (fun h => ⟨τ, hR.mono s1, hb.mono τ _ _ (liftD_le (Kp.of s1)) h⟩) h) h⟩
def retR : R → (R → Prop) → Prop
  | .st d, Q => Q (.st d)
  | .nw ds, Q => Q (.nw ds)
  | _, _ => False
theorem retR_of {r : R} {P : R → Prop} (h : retR r P) : P r := by
  cases r <;> first | exact h | exact h.elim
theorem retR_mono {r : R} {P Q : R → Prop} (f : ∀ s, P s → Q s) (h : retR r P) : retR r Q := by
  cases r <;> first | exact f _ h | exact h
def wRet (we : WE) : WS := fun E τ => we τ fun r => retR r E.rt
theorem DS.ret (he : DE X H0 e we) : DS X H0 (.Return (some e) pos) (wRet we) where
  mono := fun τ E F le h => he.mono τ _ _ (fun r h => retR_mono le.rt h) h
  ps := psW (ps_ret he.pe) fun D σ H ⟨τ, hR, h⟩ => ⟨τ, hR, he.mono τ _ _ (fun r h v H1 s1 ir => retR_of (P := (liftD X.K H0 H D).rt) h v H1 (hR.same.trans s1) (ir.older hR.same)) h⟩
def outS : Sl → (R → Prop) → Prop
  | .dat d, Q => Q (.st d)
  | .own ds, Q => Q (.nw ds)
  | _, _ => False
theorem DS.retV {i : Nat} (he : PE X e (tVar i)) : DS X H0 (.Return (some e) pos) (fun E τ => ∃ s, τ[i]? = some (some s) ∧ outS s E.rt) where
  mono := fun τ E F le ⟨s, h1, h2⟩ => ⟨s, h1, by cases s <;> first | exact le.rt _ h2 | exact h2⟩
  ps := psW (ps_ret he) fun D σ H ⟨τ, hR, s, h1, h2⟩ => by
    obtain ⟨v, hv, q⟩ := hR.here i s h1
    refine ⟨v, hv, ?_⟩
    cases s with
    | dat d => exact h2 v H hR.same q
    | own ds => exact h2 v H hR.same q
    | bor _ => exact h2.elim
    | dk _ => exact h2.elim
    | dt _ => exact h2.elim
    | ob _ => exact h2.elim
    | ins _ _ _ => exact h2.elim
def wSet (i : Nat) (we : WE) : WS := fun E τ => we τ fun r => stoR r fun s => E.nx (τ.set i (some s))
theorem DS.set {i : Nat} {x : Str} (he : DE X H0 e we) (hN : X.N.Nodup) (hi : X.N[i]? = some x) (hx : Loc X.env.scope x) (hs : swapsWith e (some (.Name x pos')) pos.line X.env = pure false := by rfl)
    (hf : X.fn x = true ∨ X.env.scope.names.lookup x = some .local := by first | exact .inl rfl | exact .inr rfl | assumption) : DS X H0 (.Assign [.Name x pos'] e pos) (wSet i we) where
  mono := fun τ E F le h => he.mono τ _ _ (fun r h => stoR_mono (fun s h => le.nx _ h) h) h
  ps := psW (ps_set hN hi hx he.pe hs hf) fun D σ H ⟨τ, hR, h⟩ => ⟨τ, hR, he.mono τ _ _ (fun r h v H1 s1 ir => by
    obtain ⟨s, p, hR'⟩ := hR.store (i := i) s1 ir h
    exact p _ _ (Kp.of s1) hR') h⟩
def whileN (t : WT) (wb : WS) : Nat → WS
  | 0 => fun _ _ => False
  | n + 1 => fun E τ => t τ fun k => if k = true then wb { E with nx := whileN t wb n E, ct := whileN t wb n E, bk := E.nx } τ else E.nx τ
def wWhile (t : WT) (wb : WS) : WS := fun E τ => ∃ n, whileN t wb n E τ
theorem whileN_mono (ht : ∀ (τ : DSt) (P Q : Bool → Prop), (∀ r, P r → Q r) → tc τ P → tc τ Q) (hb : ∀ (τ : DSt) (E F : DEnds), E.Le F → ws E τ → ws F τ) :
    ∀ (n : Nat) (τ : DSt) (E F : DEnds), E.Le F → whileN tc ws n E τ → whileN tc ws n F τ
  | 0, _, _, _, _, h => h
  | n + 1, τ, E, F, le, h => ht τ _ _ (fun k h => ite_imp (hb τ { E with nx := whileN tc ws n E, ct := whileN tc ws n E, bk := E.nx } { F with nx := whileN tc ws n F, ct := whileN tc ws n F, bk := F.nx } ⟨fun τ h => whileN_mono ht hb n τ E F le h, le.rt, le.nx, fun τ h => whileN_mono ht hb n τ E F le h⟩) (le.nx τ) h) h
theorem DS.whl {body : List Stmt} (hp : PassesOwn (model X.prog X.w) X.A X.env X.xe) (hc : DT X H0 c tc) (hb : DSs X H0 body ws) : DS X H0 (.While c body [] pos) (wWhile tc ws) where
  mono := fun τ E F le ⟨n, h⟩ => ⟨n, whileN_mono hc.mono hb.mono n τ E F le h⟩
  ps := psW (ps_while hp hc.pt hb.ps) fun D σ H0' ⟨τ, hR, n, h⟩ => by
    refine ⟨fun m σ H => ∃ τ, Rep X.K H0 τ σ H ∧ Kp H0' H ∧ whileN tc ws m (liftD X.K H0 H0' D) τ, ⟨n, τ, hR, Kp.refl _, h⟩, ?_⟩
    rintro m σ H ⟨τ, hR, kp, h⟩
    cases m with
    | zero => exact h.elim
    | succ m =>
      refine ⟨τ, hR, hc.mono τ _ _ (fun k h H1 s1 => ite_imp (fun h => ?_) (fun h => h σ H1 (kp.trans (Kp.of s1)) (hR.mono s1)) h) h⟩
      refine ⟨fun σ' H' => ∃ τ, Rep X.K H0 τ σ' H' ∧ Kp H0' H' ∧ whileN tc ws m (liftD X.K H0 H0' D) τ, fun σ' H' h' => ⟨m, Nat.lt_succ_self m, h'⟩, τ, hR.mono s1, ?_⟩
      have k1 := kp.trans (Kp.of s1)
      exact hb.mono τ { liftD X.K H0 H0' D with nx := whileN tc ws m (liftD X.K H0 H0' D), ct := whileN tc ws m (liftD X.K H0 H0' D), bk := (liftD X.K H0 H0' D).nx } _
        ⟨fun τ' h' σ' H' k hR' => ⟨τ', hR', k1.trans k, h'⟩, fun _ h => h, fun τ' h' σ' H' k hR' => h' σ' H' (k1.trans k) hR', fun τ' h' σ' H' k hR' => ⟨τ', hR', k1.trans k, h'⟩⟩ h
end
abbrev DSp := List R → R → Prop
def argOk : R → Bool
  | .st _ => true
  | .nw _ => true
  | .bw _ => true
  | .ob _ => true
  | _ => false
def nrm : R → R
  | .nw ds => .bw ds
  | r => r
def liftSp (K : PySem.W.Frag) (n : Nat) (sp : DSp) : Sp := fun vs H Q _ => ∃ (rs : List R) (r : R), rs.length = n ∧ AllR K (fun _ => none) H rs vs ∧ rs.all argOk = true ∧ sp (rs.map nrm) r ∧ ∀ v H', Same H H' → IsR K H H' r v → Q v H'
def slotOf : R → Sl
  | .st d => .dat d
  | .nw ds => .bor ds
  | .bw ds => .bor ds
  | .dk k => .dk k
  | .dt k => .dt k
  | .ob a => .ob a
  | .ms a C _ fs => .ins a C fs
def startD (N : List Str) (rs : List R) : DSt := rs.map (fun r => some (slotOf r)) ++ List.replicate (N.length - rs.length) none
theorem AllR.length {K : PySem.W.Frag} {H0 H : Hp} : ∀ {rs : List R} {vs : List V}, AllR K H0 H rs vs → rs.length = vs.length
  | [], _, h => by cases h; rfl
  | r :: rs, _, h => by obtain ⟨v, t, rfl, _, z⟩ := h; rw [List.length_cons, List.length_cons, AllR.length z]
theorem AllR.get {K : PySem.W.Frag} {H0 H : Hp} : ∀ {rs : List R} {vs : List V} {i : Nat} {r : R}, AllR K H0 H rs vs → rs[i]? = some r → ∃ v, vs[i]? = some v ∧ IsR K H0 H r v
  | [], _, _, _, _, e => by simp at e
  | r :: rs, _, 0, r', h, e => by obtain ⟨v, t, rfl, q, z⟩ := h; simp at e; subst e; exact ⟨v, rfl, q⟩
  | r :: rs, _, i + 1, r', h, e => by
    obtain ⟨v, t, rfl, q, z⟩ := h
    obtain ⟨u, h1, h2⟩ := AllR.get (i := i) z (by simpa using e)
    exact ⟨u, by simpa using h1, h2⟩
theorem AllR.v {K : PySem.W.Frag} {H0 H : Hp} : ∀ {rs : List R} {vs : List V}, AllR K H0 H rs vs → AllR K (fun _ => none) H rs vs
  | [], _, h => h
  | r :: rs, _, h => by obtain ⟨v, t, e, q, z⟩ := h; exact ⟨v, t, e, q.v, AllR.v z⟩
theorem slotOf_nrm (r : R) : slotOf (nrm r) = slotOf r := by cases r <;> rfl
theorem startD_nrm (N : List Str) (rs : List R) : startD N (rs.map nrm) = startD N rs := by
  unfold startD
  rw [List.map_map, List.length_map]
  congr 1
  exact List.map_congr_left fun r _ => congrArg some (slotOf_nrm r)
theorem SlR.arg {K : PySem.W.Frag} {H : Hp} : ∀ {r : R} {v : V}, argOk r = true → IsV K H r v → SlR K H H (slotOf r) v
  | .st d, v, _, h => h
  | .nw ds, v, _, h => by obtain ⟨a, xs, e, _, q, t⟩ := h; exact ⟨a, xs, e, q, t⟩
  | .bw ds, v, _, h => h
  | .dk _, _, h, _ => by cases h
  | .dt _, _, h, _ => by cases h
  | .ob a, v, _, h => h
  | .ms _ _ _ _, _, h, _ => by cases h
theorem slotOf_mut : ∀ {r : R}, argOk r = true → (slotOf r).mut = false
  | .st d, _ => rfl
  | .nw ds, _ => rfl
  | .bw ds, _ => rfl
  | .dk _, h => by cases h
  | .dt _, h => by cases h
  | .ob _, _ => rfl
  | .ms _ _ _ _, h => by cases h
theorem rep_start {K : PySem.W.Frag} {H : Hp} {N : List Str} {rs : List R} {vs : List V} (al : AllR K (fun _ => none) H rs vs) (ok : rs.all argOk = true) : Rep K H (startD N rs) (L2.start N vs) H := by
  have hl := al.length
  have at_ : ∀ (i : Nat) (s : Sl), (startD N rs)[i]? = some (some s) → ∃ r, rs[i]? = some r ∧ s = slotOf r := fun i s e => by
    unfold startD at e
    by_cases hi : i < rs.length
    · rw [List.getElem?_append_left (by rw [List.length_map]; exact hi), List.getElem?_map, List.getElem?_eq_getElem hi] at e
      exact ⟨rs[i], List.getElem?_eq_getElem hi, (Option.some.inj (Option.some.inj e)).symm⟩
    · rw [List.getElem?_append_right (by rw [List.length_map]; omega)] at e
      have := List.mem_of_getElem? e
      rw [List.mem_replicate] at this
      cases this.2
  have okr : ∀ (i : Nat) (r : R), rs[i]? = some r → argOk r = true := fun i r e => List.all_eq_true.mp ok r (List.mem_of_getElem? e)
  refine ⟨?_, Same.refl H, fun i s e => ?_, fun i j s t v _ e1 _ m _ _ _ => ?_⟩
  · unfold startD L2.start
    rw [List.length_append, List.length_append, List.length_map, List.length_map, List.length_replicate, List.length_replicate, hl]
  · obtain ⟨r, hr, rfl⟩ := at_ i s e
    obtain ⟨v, hv, q⟩ := al.get hr
    refine ⟨v, ?_, SlR.arg (okr i r hr) q⟩
    unfold L2.start
    have hi : i < vs.length := by
      rcases Nat.lt_or_ge i vs.length with h | h
      · exact h
      · rw [List.getElem?_eq_none_iff.mpr h] at hv; cases hv
    rw [List.getElem?_append_left (by rw [List.length_map]; exact hi), List.getElem?_map, hv]
    rfl
  · obtain ⟨r, hr, rfl⟩ := at_ i s e1
    rw [slotOf_mut (okr i r hr)] at m; cases m
section
variable {P : Program} {w : World} {K : PySem.W.Frag} {mg : Str → Option Value} {base : Heap}
theorem Fun.okD {x qual : Str} {st : Stmt} {f : Addr} {fd : FuncData} {N ps : List Str} {k : Nat} {sp : DSp} (F : Fun K x qual st f fd) (S : FnScope N ps (defScope st))
    (hbody : ∀ (cdv : Value) (A : Around) (outer : List Env) (s : Shared) (H : Hp) (E : XK), Room k (A.deeper (envOfC qual (defScope st) s.heap.objs.size f cdv)) →
      ∃ ws, DSs (cxOf CX0 P w K mg base N qual (defScope st) f cdv A outer s H E).nox H (defBody st) ws ∧
        ∀ rs r, rs.length = ps.length → sp rs r → ws { nx := fun _ => r = .st .non, rt := fun r' => r' = r, bk := fun _ => False, ct := fun _ => False } (startD N rs)) :
    FnOk P w K mg base CX0 (k + 1) f fd ps (liftSp K ps.length sp) := by
  refine F.ok S (fun vs H Q E h => ?_) (fun cdv A outer s H vs Q E hr h => ?_)
  · obtain ⟨rs, r, hl, al, _⟩ := h
    rw [← al.length]; exact hl
  obtain ⟨rs, r, hl, al, ok, h1, h2⟩ := h
  obtain ⟨ws, hd, hw⟩ := hbody cdv A outer s H E hr
  refine ⟨_, hd.ps, startD N rs, rep_start al ok, ?_⟩
  have hw := hw (rs.map nrm) r (by rw [List.length_map]; exact hl) h1
  rw [startD_nrm] at hw
  refine hd.mono _ _ _ ⟨fun τ h σ H' _ hR => ?_, fun r' h v H' sm ir => ?_, fun _ h => False.elim h, fun _ h => False.elim h⟩ hw
  · have h : r = .st .non := h
    subst h
    exact h2 .non H' hR.same (IsS.s_non (K := K) (H := H'))
  · have h : r' = r := h
    subst h
    exact h2 v H' sm ir
end
section
variable {X : Cx} {H0 : Hp} {e : Expr} {es : List Expr} {wr : WA} {k : Nat} {f : Addr} {fd : FuncData} {ps : List Str} {sp : DSp} {x : Str} {p pos : Pos}
def wCall (sp : DSp) (wr : WA) : WE := fun τ Q => wr τ fun rs => rs.all argOk = true ∧ ∃ r, sp (rs.map nrm) r ∧ Q r
theorem DE.call (F : FnOk X.prog X.w X.K X.mg X.base CX0 k f fd ps (liftSp X.K (e :: es).length sp)) (hr : Room k X.A) (hg : Gl X x) (hm : X.mg x = some (.ref f)) (hk : PySem.W.keepIn X.K (.ref f) = true) (hb : Binds X.K fd ps [])
    (ha : DA X H0 (e :: es) wr) (hdb : (x == ("__debug__" : Str)) = false := by decide) (he : starEach (e :: es) X.env = (false, eval e X.env) :: starEach es X.env := by rfl) (hpl : (backTo pos (starEach es X.env)).any (·.1) = false := by rfl) :
    DE X H0 (.Call (.Name x p) (e :: es) [] pos) (wCall sp wr) where
  mono := fun τ P Q f h => ha.mono τ _ _ (fun rs ⟨ok, r, h1, h2⟩ => ⟨ok, r, h1, f r h2⟩) h
  pe := peW (pe_call F hr hg hm hk hb .nil pass0 ha.pa hdb he hpl) fun σ H Q ⟨τ, hR, h⟩ => ⟨τ, hR, ha.mono τ _ _ (fun rs ⟨hln, ok, r, h1, h2⟩ vs H1 s1 irs => by
    refine ⟨rs, r, hln, ?_, ok, h1, fun v H' s2 ir => h2 v H' (s1.trans s2) (ir.older s1)⟩
    rw [List.append_nil]
    exact irs.v) (ha.len τ _ h)⟩
end
end TK
end
section
set_option maxRecDepth 100000
namespace TK
open PySem PySem.Spec PyProof.Rows L2
mutual
def D.eq : D → D → Bool
  | .non, .non => true
  | .bl a, .bl b => a == b
  | .bl a, .int b => (if a then (1 : Int) else 0) == b
  | .int a, .bl b => a == (if b then (1 : Int) else 0)
  | .int a, .int b => a == b
  | .str a, .str b => a == b
  | .tup a, .tup b => D.eqs a b
  | .lst a, .lst b => D.eqs a b
  | _, _ => false
def D.eqs : List D → List D → Bool
  | [], [] => true
  | x :: xs, y :: ys => D.eq x y && D.eqs xs ys
  | _, _ => false
end
mutual
def D.depth : D → Nat
  | .tup a => D.depths a + 1
  | .lst a => D.depths a + 1
  | _ => 0
def D.depths : List D → Nat
  | [] => 0
  | x :: xs => max (D.depth x) (D.depths xs)
end
theorem D.depths_get : ∀ {ds : List D} {i : Nat} {d : D}, ds[i]? = some d → d.depth ≤ D.depths ds
  | [], _, _, h => by simp at h
  | x :: xs, 0, d, h => by simp at h; subst h; unfold D.depths; omega
  | x :: xs, i + 1, d, h => by
    have := D.depths_get (ds := xs) (i := i) (d := d) (by simpa using h)
    unfold D.depths; omega
mutual
theorem D.eq_refl : ∀ d : D, D.eq d d = true
  | .non => by unfold D.eq; rfl
  | .bl a => by unfold D.eq; simp
  | .int a => by unfold D.eq; simp
  | .str a => by unfold D.eq; simp
  | .tup a => by unfold D.eq; exact D.eqs_refl a
  | .lst a => by unfold D.eq; exact D.eqs_refl a
theorem D.eqs_refl : ∀ ds : List D, D.eqs ds ds = true
  | [] => by unfold D.eqs; rfl
  | x :: xs => by unfold D.eqs; rw [D.eq_refl x, D.eqs_refl xs]; rfl
end
theorem D.eqs_range : ∀ (a b : List D), D.eqs a b = ((List.range (min a.length b.length)).all (fun i => match a[i]?, b[i]? with | some x, some y => D.eq x y | _, _ => true) && a.length == b.length)
  | [], [] => by unfold D.eqs; simp
  | [], y :: ys => by unfold D.eqs; simp
  | x :: xs, [] => by unfold D.eqs; simp
  | x :: xs, y :: ys => by
    unfold D.eqs
    rw [D.eqs_range xs ys]
    have e : min (x :: xs).length (y :: ys).length = min xs.length ys.length + 1 := by simp [Nat.succ_min_succ]
    rw [e, List.range_succ_eq_map, List.all_cons, List.all_map]
    simp only [List.length_cons, List.getElem?_cons_zero, Function.comp_def, List.getElem?_cons_succ]
    rw [Bool.and_assoc]
    congr 2
    simp
def IsW (K : PySem.W.Frag) (H : Hp) (d : D) (v : V) : Prop := match d with
  | .lst ds => ∃ a xs, v = .ref a ∧ SqL K H a xs ∧ AllS K H ds xs
  | d => IsS K H d v
theorem IsS.w {K : PySem.W.Frag} {H : Hp} : ∀ {d : D} {v : V}, IsS K H d v → IsW K H d v
  | .non, _, h => h
  | .bl _, _, h => h
  | .int _, _, h => h
  | .str _, _, h => h
  | .tup _, _, h => h
  | .lst _, _, h => by unfold IsS at h; obtain ⟨a, xs, e, q, t⟩ := h; exact ⟨a, xs, e, q.sq, t⟩
def R.d : R → Option D
  | .st d => some d
  | .nw ds => some (.lst ds)
  | .bw ds => some (.lst ds)
  | _ => none
theorem IsR.w {K : PySem.W.Frag} {H0 H : Hp} : ∀ {r : R} {v : V} {d : D}, r.d = some d → IsR K H0 H r v → IsW K H d v
  | .st d, v, _, e, h => by cases e; exact IsS.w h
  | .nw ds, v, _, e, h => by cases e; obtain ⟨a, xs, e, n, q, t⟩ := h; exact ⟨a, xs, e, SqL.of q, t⟩
  | .bw ds, v, _, e, h => by cases e; obtain ⟨a, xs, e, q, t⟩ := h; exact ⟨a, xs, e, SqL.of q, t⟩
  | .dk _, _, _, e, _ => by cases e
  | .dt _, _, _, e, _ => by cases e
  | .ob _, _, _, e, _ => by cases e
  | .ms _ _ _ _, _, _, e, _ => by cases e
theorem tup_not_list {X : Cx} {pins : List (Addr × Obj)} {σ : St} {H : Hp} {s : Shared} (I : Inv X pins σ H s) {a : Addr} {xs ys : List V} (h1 : SqT X.K H a xs) (h2 : SqL X.K H a ys) : False := by
  obtain ⟨_, _, ⟨o, e, c, _⟩, _⟩ := I.tuple h1
  obtain ⟨_, _, ⟨o', n, e', c', _⟩, _⟩ := I.list h2
  rw [e] at e'; cases e'
  rw [c] at c'; exact absurd c' (by simp)
section
variable {X : Cx} {pins : List (Addr × Obj)} {σ : St} {H : Hp} {s : Shared}
mutual
theorem IsS.inj (I : Inv X pins σ H s) : ∀ (d e : D) (v : V), IsS X.K H d v → IsS X.K H e v → d = e
  | .non, .non, v, h1, h2 => by rfl
  | .non, .bl q, v, h1, h2 => by unfold IsS at h1 h2; rw [h1] at h2; cases h2
  | .non, .int q, v, h1, h2 => by unfold IsS at h1 h2; rw [h1] at h2; cases h2
  | .non, .str q, v, h1, h2 => by unfold IsS at h1 h2; rw [h1] at h2; cases h2
  | .non, .tup q, v, h1, h2 => by unfold IsS at h1 h2; obtain ⟨_, _, e, _⟩ := h2; rw [h1] at e; cases e
  | .non, .lst q, v, h1, h2 => by unfold IsS at h1 h2; obtain ⟨_, _, e, _⟩ := h2; rw [h1] at e; cases e
  | .bl p, .non, v, h1, h2 => by unfold IsS at h1 h2; rw [h1] at h2; cases h2
  | .bl p, .bl q, v, h1, h2 => by unfold IsS at h1 h2; rw [h1] at h2; cases h2; rfl
  | .bl p, .int q, v, h1, h2 => by unfold IsS at h1 h2; rw [h1] at h2; cases h2
  | .bl p, .str q, v, h1, h2 => by unfold IsS at h1 h2; rw [h1] at h2; cases h2
  | .bl p, .tup q, v, h1, h2 => by unfold IsS at h1 h2; obtain ⟨_, _, e, _⟩ := h2; rw [h1] at e; cases e
  | .bl p, .lst q, v, h1, h2 => by unfold IsS at h1 h2; obtain ⟨_, _, e, _⟩ := h2; rw [h1] at e; cases e
  | .int p, .non, v, h1, h2 => by unfold IsS at h1 h2; rw [h1] at h2; cases h2
  | .int p, .bl q, v, h1, h2 => by unfold IsS at h1 h2; rw [h1] at h2; cases h2
  | .int p, .int q, v, h1, h2 => by unfold IsS at h1 h2; rw [h1] at h2; cases h2; rfl
  | .int p, .str q, v, h1, h2 => by unfold IsS at h1 h2; rw [h1] at h2; cases h2
  | .int p, .tup q, v, h1, h2 => by unfold IsS at h1 h2; obtain ⟨_, _, e, _⟩ := h2; rw [h1] at e; cases e
  | .int p, .lst q, v, h1, h2 => by unfold IsS at h1 h2; obtain ⟨_, _, e, _⟩ := h2; rw [h1] at e; cases e
  | .str p, .non, v, h1, h2 => by unfold IsS at h1 h2; rw [h1] at h2; cases h2
  | .str p, .bl q, v, h1, h2 => by unfold IsS at h1 h2; rw [h1] at h2; cases h2
  | .str p, .int q, v, h1, h2 => by unfold IsS at h1 h2; rw [h1] at h2; cases h2
  | .str p, .str q, v, h1, h2 => by unfold IsS at h1 h2; rw [h1] at h2; cases h2; rfl
  | .str p, .tup q, v, h1, h2 => by unfold IsS at h1 h2; obtain ⟨_, _, e, _⟩ := h2; rw [h1] at e; cases e
  | .str p, .lst q, v, h1, h2 => by unfold IsS at h1 h2; obtain ⟨_, _, e, _⟩ := h2; rw [h1] at e; cases e
  | .tup p, .non, v, h1, h2 => by unfold IsS at h1 h2; obtain ⟨_, _, e, _⟩ := h1; rw [h2] at e; cases e
  | .tup p, .bl q, v, h1, h2 => by unfold IsS at h1 h2; obtain ⟨_, _, e, _⟩ := h1; rw [h2] at e; cases e
  | .tup p, .int q, v, h1, h2 => by unfold IsS at h1 h2; obtain ⟨_, _, e, _⟩ := h1; rw [h2] at e; cases e
  | .tup p, .str q, v, h1, h2 => by unfold IsS at h1 h2; obtain ⟨_, _, e, _⟩ := h1; rw [h2] at e; cases e
  | .tup p, .tup q, v, h1, h2 => by unfold IsS at h1 h2; obtain ⟨x, xs, e1, q1, r1⟩ := h1; obtain ⟨y, ys, e2, q2, r2⟩ := h2; rw [e1] at e2; cases e2; have e := I.tuple_inj (SqT.of q1) (SqT.of q2); subst e; rw [AllS.inj I p q xs r1 r2]
  | .tup p, .lst q, v, h1, h2 => by unfold IsS at h1 h2; obtain ⟨x, xs, e1, q1, r1⟩ := h1; obtain ⟨y, ys, e2, q2, r2⟩ := h2; rw [e1] at e2; cases e2; exact absurd (tup_not_list I (SqT.of q1) q2.sq) id
  | .lst p, .non, v, h1, h2 => by unfold IsS at h1 h2; obtain ⟨_, _, e, _⟩ := h1; rw [h2] at e; cases e
  | .lst p, .bl q, v, h1, h2 => by unfold IsS at h1 h2; obtain ⟨_, _, e, _⟩ := h1; rw [h2] at e; cases e
  | .lst p, .int q, v, h1, h2 => by unfold IsS at h1 h2; obtain ⟨_, _, e, _⟩ := h1; rw [h2] at e; cases e
  | .lst p, .str q, v, h1, h2 => by unfold IsS at h1 h2; obtain ⟨_, _, e, _⟩ := h1; rw [h2] at e; cases e
  | .lst p, .tup q, v, h1, h2 => by unfold IsS at h1 h2; obtain ⟨x, xs, e1, q1, r1⟩ := h2; obtain ⟨y, ys, e2, q2, r2⟩ := h1; rw [e1] at e2; cases e2; exact absurd (tup_not_list I (SqT.of q1) q2.sq) id
  | .lst p, .lst q, v, h1, h2 => by unfold IsS at h1 h2; obtain ⟨x, xs, e1, q1, r1⟩ := h1; obtain ⟨y, ys, e2, q2, r2⟩ := h2; rw [e1] at e2; cases e2; have e := I.list_inj q1.sq q2.sq; subst e; rw [AllS.inj I p q xs r1 r2]
theorem AllS.inj (I : Inv X pins σ H s) : ∀ (ds es : List D) (vs : List V), AllS X.K H ds vs → AllS X.K H es vs → ds = es
  | [], [], _, _, _ => rfl
  | [], y :: ys, vs, h1, h2 => by unfold AllS at h1 h2; obtain ⟨_, _, e, _⟩ := h2; rw [h1] at e; cases e
  | x :: xs, [], vs, h1, h2 => by unfold AllS at h1 h2; obtain ⟨_, _, e, _⟩ := h1; rw [h2] at e; cases e
  | x :: xs, y :: ys, vs, h1, h2 => by
    unfold AllS at h1 h2
    obtain ⟨v, r, e1, q1, t1⟩ := h1
    obtain ⟨v', r', e2, q2, t2⟩ := h2
    rw [e1] at e2; cases e2
    rw [IsS.inj I x y v q1 q2, AllS.inj I xs ys r t1 t2]
end
end
section
variable {X : Cx} {pins : List (Addr × Obj)} {σ : St} {H : Hp} {s : Shared}
open PySem.SeqAt
theorem allS_at {ds : List D} {xs : List V} {its : List Value} (al : AllS X.K H ds xs) (rv : Vals xs its) {j : Nat} (h : j < its.toArray.size) : ∃ d v, ds[j]? = some d ∧ IsS X.K H d v ∧ RelV v its.toArray[j] := by
  have hl := al.length
  have hr := rv.length
  have hj : j < its.length := by simpa using h
  have hj2 : j < ds.length := by omega
  obtain ⟨v, hv, q⟩ := al.get (List.getElem?_eq_getElem hj2)
  obtain ⟨u, hu, r⟩ := rv.get hv
  have e : u = its.toArray[j] := by
    rw [List.getElem?_eq_getElem hj] at hu
    simpa using (Option.some.inj hu).symm
  exact ⟨ds[j], v, List.getElem?_eq_getElem hj2, q, e ▸ r⟩
theorem eq_of_rc (I : Inv X pins σ H s) {d1 d2 : D} {v1 v2 : V} {u1 u2 : Value} {n : Nat} (h : ∀ A : Around, A.units + n < cLine → RcAt A s u1 u2 (D.eq d1 d2)) (i1 : IsS X.K H d1 v1) (i2 : IsS X.K H d2 v2) (r1 : RelV v1 u1) (r2 : RelV v2 u2) {A : Around} (hu : A.units + n < cLine) : EqAt A s u1 u2 (D.eq d1 d2) := by
  have hA := h A hu
  by_cases e : u1 = u2
  · subst e
    have ev := r1.inj r2
    subst ev
    rw [IsS.inj I d1 d2 v1 i1 i2, D.eq_refl]
    exact EqAt.same _
  · intro prog w E Q hq
    unfold eqBool
    refine wpAny_holding ?_
    refine wpAny_ite_split (fun hab => absurd (eq_of_beq hab) e) (fun _ => ?_)
    have fin : wpAny (model prog w) A (richCompare .Eq u1 u2 >>= truthOfDropped) Q E s := wpAny_bind (hA prog w E _ (wpAny_truthy_bool hq))
    cases v1 with
    | non => cases r1; exact fin
    | bl _ => cases r1; exact fin
    | int _ => obtain ⟨t, rfl⟩ := r1; exact fin
    | str _ => obtain ⟨t, rfl⟩ := r1; exact fin
    | byt _ => obtain ⟨t, rfl⟩ := r1; exact fin
    | ref _ => cases r1; exact fin
    | ty _ => cases r1; exact fin
    | flt b => cases d1 <;> first | (cases (show V.flt b = _ from i1)) | (unfold IsS at i1; obtain ⟨_, _, z, _⟩ := i1; cases z)
theorem rc_D (I : Inv X pins σ H s) : ∀ (n : Nat) (d1 d2 : D) (v1 v2 : V) (u1 u2 : Value) (A : Around), d1.depth ≤ n → IsW X.K H d1 v1 → IsW X.K H d2 v2 → RelV v1 u1 → RelV v2 u2 → A.units + n < cLine → RcAt A s u1 u2 (D.eq d1 d2) := by
  intro n
  induction n with
  | zero =>
    intro d1 d2 v1 v2 u1 u2 A hd h1 h2 r1 r2 hu
    revert hd h1 h2 r1 r2 hu
    exact match d1, d2, v1, v2, u1, u2, A with
    | .non, .non, v1, v2, u1, u2, A => fun hd h1 h2 r1 r2 hu => by
      cases (show v1 = .non from h1); cases r1
      cases (show v2 = .non from h2); cases r2
      unfold D.eq
      exact RcAt.none_none
    | .non, .bl q, v1, v2, u1, u2, A => fun hd h1 h2 r1 r2 hu => by
      cases (show v1 = .non from h1); cases r1
      cases (show v2 = .bl q from h2); cases r2
      unfold D.eq
      exact RcAt.none_bool  q
    | .non, .int q, v1, v2, u1, u2, A => fun hd h1 h2 r1 r2 hu => by
      cases (show v1 = .non from h1); cases r1
      cases (show v2 = .int q from h2); obtain ⟨t2, rfl⟩ := r2
      unfold D.eq
      exact RcAt.none_int  q t2
    | .non, .str q, v1, v2, u1, u2, A => fun hd h1 h2 r1 r2 hu => by
      cases (show v1 = .non from h1); cases r1
      cases (show v2 = .str q from h2); obtain ⟨t2, rfl⟩ := r2
      unfold D.eq
      exact RcAt.none_str  q t2
    | .non, .tup q, v1, v2, u1, u2, A => fun hd h1 h2 r1 r2 hu => by
      cases (show v1 = .non from h1); cases r1
      have h2 : IsS X.K H (.tup q) v2 := h2; unfold IsS at h2; obtain ⟨a2, xs2, rfl, sq2, al2⟩ := h2; cases r2; obtain ⟨its2, rv2, pl2, hz2⟩ := I.tuple (SqT.of sq2)
      unfold D.eq
      exact RcAt.none_tuple  (pl2) (by omega)
    | .non, .lst q, v1, v2, u1, u2, A => fun hd h1 h2 r1 r2 hu => by
      cases (show v1 = .non from h1); cases r1
      obtain ⟨a2, xs2, rfl, sq2, al2⟩ := h2; cases r2; obtain ⟨its2, rv2, pl2, hz2⟩ := I.list sq2
      unfold D.eq
      exact RcAt.none_list  (pl2.isList) (by omega)
    | .bl p, .non, v1, v2, u1, u2, A => fun hd h1 h2 r1 r2 hu => by
      cases (show v1 = .bl p from h1); cases r1
      cases (show v2 = .non from h2); cases r2
      unfold D.eq
      exact RcAt.bool_none p 
    | .bl p, .bl q, v1, v2, u1, u2, A => fun hd h1 h2 r1 r2 hu => by
      cases (show v1 = .bl p from h1); cases r1
      cases (show v2 = .bl q from h2); cases r2
      unfold D.eq
      exact RcAt.bool_bool p q
    | .bl p, .int q, v1, v2, u1, u2, A => fun hd h1 h2 r1 r2 hu => by
      cases (show v1 = .bl p from h1); cases r1
      cases (show v2 = .int q from h2); obtain ⟨t2, rfl⟩ := r2
      unfold D.eq
      exact RcAt.bool_int p q t2
    | .bl p, .str q, v1, v2, u1, u2, A => fun hd h1 h2 r1 r2 hu => by
      cases (show v1 = .bl p from h1); cases r1
      cases (show v2 = .str q from h2); obtain ⟨t2, rfl⟩ := r2
      unfold D.eq
      exact RcAt.bool_str p q t2
    | .bl p, .tup q, v1, v2, u1, u2, A => fun hd h1 h2 r1 r2 hu => by
      cases (show v1 = .bl p from h1); cases r1
      have h2 : IsS X.K H (.tup q) v2 := h2; unfold IsS at h2; obtain ⟨a2, xs2, rfl, sq2, al2⟩ := h2; cases r2; obtain ⟨its2, rv2, pl2, hz2⟩ := I.tuple (SqT.of sq2)
      unfold D.eq
      exact RcAt.bool_tuple p (pl2) (by omega)
    | .bl p, .lst q, v1, v2, u1, u2, A => fun hd h1 h2 r1 r2 hu => by
      cases (show v1 = .bl p from h1); cases r1
      obtain ⟨a2, xs2, rfl, sq2, al2⟩ := h2; cases r2; obtain ⟨its2, rv2, pl2, hz2⟩ := I.list sq2
      unfold D.eq
      exact RcAt.bool_list p (pl2.isList) (by omega)
    | .int p, .non, v1, v2, u1, u2, A => fun hd h1 h2 r1 r2 hu => by
      cases (show v1 = .int p from h1); obtain ⟨t1, rfl⟩ := r1
      cases (show v2 = .non from h2); cases r2
      unfold D.eq
      exact RcAt.int_none p t1 
    | .int p, .bl q, v1, v2, u1, u2, A => fun hd h1 h2 r1 r2 hu => by
      cases (show v1 = .int p from h1); obtain ⟨t1, rfl⟩ := r1
      cases (show v2 = .bl q from h2); cases r2
      unfold D.eq
      exact RcAt.int_bool p t1 q
    | .int p, .int q, v1, v2, u1, u2, A => fun hd h1 h2 r1 r2 hu => by
      cases (show v1 = .int p from h1); obtain ⟨t1, rfl⟩ := r1
      cases (show v2 = .int q from h2); obtain ⟨t2, rfl⟩ := r2
      unfold D.eq
      exact RcAt.int_int p t1 q t2
    | .int p, .str q, v1, v2, u1, u2, A => fun hd h1 h2 r1 r2 hu => by
      cases (show v1 = .int p from h1); obtain ⟨t1, rfl⟩ := r1
      cases (show v2 = .str q from h2); obtain ⟨t2, rfl⟩ := r2
      unfold D.eq
      exact RcAt.int_str p t1 q t2
    | .int p, .tup q, v1, v2, u1, u2, A => fun hd h1 h2 r1 r2 hu => by
      cases (show v1 = .int p from h1); obtain ⟨t1, rfl⟩ := r1
      have h2 : IsS X.K H (.tup q) v2 := h2; unfold IsS at h2; obtain ⟨a2, xs2, rfl, sq2, al2⟩ := h2; cases r2; obtain ⟨its2, rv2, pl2, hz2⟩ := I.tuple (SqT.of sq2)
      unfold D.eq
      exact RcAt.int_tuple p t1 (pl2) (by omega)
    | .int p, .lst q, v1, v2, u1, u2, A => fun hd h1 h2 r1 r2 hu => by
      cases (show v1 = .int p from h1); obtain ⟨t1, rfl⟩ := r1
      obtain ⟨a2, xs2, rfl, sq2, al2⟩ := h2; cases r2; obtain ⟨its2, rv2, pl2, hz2⟩ := I.list sq2
      unfold D.eq
      exact RcAt.int_list p t1 (pl2.isList) (by omega)
    | .str p, .non, v1, v2, u1, u2, A => fun hd h1 h2 r1 r2 hu => by
      cases (show v1 = .str p from h1); obtain ⟨t1, rfl⟩ := r1
      cases (show v2 = .non from h2); cases r2
      unfold D.eq
      exact RcAt.str_none p t1 
    | .str p, .bl q, v1, v2, u1, u2, A => fun hd h1 h2 r1 r2 hu => by
      cases (show v1 = .str p from h1); obtain ⟨t1, rfl⟩ := r1
      cases (show v2 = .bl q from h2); cases r2
      unfold D.eq
      exact RcAt.str_bool p t1 q
    | .str p, .int q, v1, v2, u1, u2, A => fun hd h1 h2 r1 r2 hu => by
      cases (show v1 = .str p from h1); obtain ⟨t1, rfl⟩ := r1
      cases (show v2 = .int q from h2); obtain ⟨t2, rfl⟩ := r2
      unfold D.eq
      exact RcAt.str_int p t1 q t2
    | .str p, .str q, v1, v2, u1, u2, A => fun hd h1 h2 r1 r2 hu => by
      cases (show v1 = .str p from h1); obtain ⟨t1, rfl⟩ := r1
      cases (show v2 = .str q from h2); obtain ⟨t2, rfl⟩ := r2
      unfold D.eq
      exact RcAt.str_str p t1 q t2
    | .str p, .tup q, v1, v2, u1, u2, A => fun hd h1 h2 r1 r2 hu => by
      cases (show v1 = .str p from h1); obtain ⟨t1, rfl⟩ := r1
      have h2 : IsS X.K H (.tup q) v2 := h2; unfold IsS at h2; obtain ⟨a2, xs2, rfl, sq2, al2⟩ := h2; cases r2; obtain ⟨its2, rv2, pl2, hz2⟩ := I.tuple (SqT.of sq2)
      unfold D.eq
      exact RcAt.str_tuple p t1 (pl2) (by omega)
    | .str p, .lst q, v1, v2, u1, u2, A => fun hd h1 h2 r1 r2 hu => by
      cases (show v1 = .str p from h1); obtain ⟨t1, rfl⟩ := r1
      obtain ⟨a2, xs2, rfl, sq2, al2⟩ := h2; cases r2; obtain ⟨its2, rv2, pl2, hz2⟩ := I.list sq2
      unfold D.eq
      exact RcAt.str_list p t1 (pl2.isList) (by omega)
    | .tup p, .non, v1, v2, u1, u2, A => fun hd h1 h2 r1 r2 hu => by
      have h1 : IsS X.K H (.tup p) v1 := h1; unfold IsS at h1; obtain ⟨a1, xs1, rfl, sq1, al1⟩ := h1; cases r1; obtain ⟨its1, rv1, pl1, hz1⟩ := I.tuple (SqT.of sq1)
      cases (show v2 = .non from h2); cases r2
      unfold D.eq
      exact RcAt.tuple_none  (pl1) (by omega)
    | .tup p, .bl q, v1, v2, u1, u2, A => fun hd h1 h2 r1 r2 hu => by
      have h1 : IsS X.K H (.tup p) v1 := h1; unfold IsS at h1; obtain ⟨a1, xs1, rfl, sq1, al1⟩ := h1; cases r1; obtain ⟨its1, rv1, pl1, hz1⟩ := I.tuple (SqT.of sq1)
      cases (show v2 = .bl q from h2); cases r2
      unfold D.eq
      exact RcAt.tuple_bool q (pl1) (by omega)
    | .tup p, .int q, v1, v2, u1, u2, A => fun hd h1 h2 r1 r2 hu => by
      have h1 : IsS X.K H (.tup p) v1 := h1; unfold IsS at h1; obtain ⟨a1, xs1, rfl, sq1, al1⟩ := h1; cases r1; obtain ⟨its1, rv1, pl1, hz1⟩ := I.tuple (SqT.of sq1)
      cases (show v2 = .int q from h2); obtain ⟨t2, rfl⟩ := r2
      unfold D.eq
      exact RcAt.tuple_int q t2 (pl1) (by omega)
    | .tup p, .str q, v1, v2, u1, u2, A => fun hd h1 h2 r1 r2 hu => by
      have h1 : IsS X.K H (.tup p) v1 := h1; unfold IsS at h1; obtain ⟨a1, xs1, rfl, sq1, al1⟩ := h1; cases r1; obtain ⟨its1, rv1, pl1, hz1⟩ := I.tuple (SqT.of sq1)
      cases (show v2 = .str q from h2); obtain ⟨t2, rfl⟩ := r2
      unfold D.eq
      exact RcAt.tuple_str q t2 (pl1) (by omega)
    | .tup p, .tup q, v1, v2, u1, u2, A => fun hd h1 h2 r1 r2 hu => by
      have h1 : IsS X.K H (.tup p) v1 := h1; unfold IsS at h1; obtain ⟨a1, xs1, rfl, sq1, al1⟩ := h1; cases r1; obtain ⟨its1, rv1, pl1, hz1⟩ := I.tuple (SqT.of sq1)
      have h2 : IsS X.K H (.tup q) v2 := h2; unfold IsS at h2; obtain ⟨a2, xs2, rfl, sq2, al2⟩ := h2; cases r2; obtain ⟨its2, rv2, pl2, hz2⟩ := I.tuple (SqT.of sq2)
      unfold D.depth at hd; omega
    | .tup p, .lst q, v1, v2, u1, u2, A => fun hd h1 h2 r1 r2 hu => by
      have h1 : IsS X.K H (.tup p) v1 := h1; unfold IsS at h1; obtain ⟨a1, xs1, rfl, sq1, al1⟩ := h1; cases r1; obtain ⟨its1, rv1, pl1, hz1⟩ := I.tuple (SqT.of sq1)
      obtain ⟨a2, xs2, rfl, sq2, al2⟩ := h2; cases r2; obtain ⟨its2, rv2, pl2, hz2⟩ := I.list sq2
      unfold D.eq
      exact RcAt.tuple_list (pl1) (pl2.isList) (by omega)
    | .lst p, .non, v1, v2, u1, u2, A => fun hd h1 h2 r1 r2 hu => by
      obtain ⟨a1, xs1, rfl, sq1, al1⟩ := h1; cases r1; obtain ⟨its1, rv1, pl1, hz1⟩ := I.list sq1
      cases (show v2 = .non from h2); cases r2
      unfold D.eq
      exact RcAt.list_none  (pl1.isList) (by omega)
    | .lst p, .bl q, v1, v2, u1, u2, A => fun hd h1 h2 r1 r2 hu => by
      obtain ⟨a1, xs1, rfl, sq1, al1⟩ := h1; cases r1; obtain ⟨its1, rv1, pl1, hz1⟩ := I.list sq1
      cases (show v2 = .bl q from h2); cases r2
      unfold D.eq
      exact RcAt.list_bool q (pl1.isList) (by omega)
    | .lst p, .int q, v1, v2, u1, u2, A => fun hd h1 h2 r1 r2 hu => by
      obtain ⟨a1, xs1, rfl, sq1, al1⟩ := h1; cases r1; obtain ⟨its1, rv1, pl1, hz1⟩ := I.list sq1
      cases (show v2 = .int q from h2); obtain ⟨t2, rfl⟩ := r2
      unfold D.eq
      exact RcAt.list_int q t2 (pl1.isList) (by omega)
    | .lst p, .str q, v1, v2, u1, u2, A => fun hd h1 h2 r1 r2 hu => by
      obtain ⟨a1, xs1, rfl, sq1, al1⟩ := h1; cases r1; obtain ⟨its1, rv1, pl1, hz1⟩ := I.list sq1
      cases (show v2 = .str q from h2); obtain ⟨t2, rfl⟩ := r2
      unfold D.eq
      exact RcAt.list_str q t2 (pl1.isList) (by omega)
    | .lst p, .tup q, v1, v2, u1, u2, A => fun hd h1 h2 r1 r2 hu => by
      obtain ⟨a1, xs1, rfl, sq1, al1⟩ := h1; cases r1; obtain ⟨its1, rv1, pl1, hz1⟩ := I.list sq1
      have h2 : IsS X.K H (.tup q) v2 := h2; unfold IsS at h2; obtain ⟨a2, xs2, rfl, sq2, al2⟩ := h2; cases r2; obtain ⟨its2, rv2, pl2, hz2⟩ := I.tuple (SqT.of sq2)
      unfold D.eq
      exact RcAt.list_tuple (pl1.isList) (pl2) (by omega)
    | .lst p, .lst q, v1, v2, u1, u2, A => fun hd h1 h2 r1 r2 hu => by
      obtain ⟨a1, xs1, rfl, sq1, al1⟩ := h1; cases r1; obtain ⟨its1, rv1, pl1, hz1⟩ := I.list sq1
      obtain ⟨a2, xs2, rfl, sq2, al2⟩ := h2; cases r2; obtain ⟨its2, rv2, pl2, hz2⟩ := I.list sq2
      unfold D.depth at hd; omega
  | succ n ih =>
    intro d1 d2 v1 v2 u1 u2 A hd h1 h2 r1 r2 hu
    revert hd h1 h2 r1 r2 hu
    exact match d1, d2, v1, v2, u1, u2, A with
    | .non, .non, v1, v2, u1, u2, A => fun hd h1 h2 r1 r2 hu => by
      cases (show v1 = .non from h1); cases r1
      cases (show v2 = .non from h2); cases r2
      unfold D.eq
      exact RcAt.none_none
    | .non, .bl q, v1, v2, u1, u2, A => fun hd h1 h2 r1 r2 hu => by
      cases (show v1 = .non from h1); cases r1
      cases (show v2 = .bl q from h2); cases r2
      unfold D.eq
      exact RcAt.none_bool  q
    | .non, .int q, v1, v2, u1, u2, A => fun hd h1 h2 r1 r2 hu => by
      cases (show v1 = .non from h1); cases r1
      cases (show v2 = .int q from h2); obtain ⟨t2, rfl⟩ := r2
      unfold D.eq
      exact RcAt.none_int  q t2
    | .non, .str q, v1, v2, u1, u2, A => fun hd h1 h2 r1 r2 hu => by
      cases (show v1 = .non from h1); cases r1
      cases (show v2 = .str q from h2); obtain ⟨t2, rfl⟩ := r2
      unfold D.eq
      exact RcAt.none_str  q t2
    | .non, .tup q, v1, v2, u1, u2, A => fun hd h1 h2 r1 r2 hu => by
      cases (show v1 = .non from h1); cases r1
      have h2 : IsS X.K H (.tup q) v2 := h2; unfold IsS at h2; obtain ⟨a2, xs2, rfl, sq2, al2⟩ := h2; cases r2; obtain ⟨its2, rv2, pl2, hz2⟩ := I.tuple (SqT.of sq2)
      unfold D.eq
      exact RcAt.none_tuple  (pl2) (by omega)
    | .non, .lst q, v1, v2, u1, u2, A => fun hd h1 h2 r1 r2 hu => by
      cases (show v1 = .non from h1); cases r1
      obtain ⟨a2, xs2, rfl, sq2, al2⟩ := h2; cases r2; obtain ⟨its2, rv2, pl2, hz2⟩ := I.list sq2
      unfold D.eq
      exact RcAt.none_list  (pl2.isList) (by omega)
    | .bl p, .non, v1, v2, u1, u2, A => fun hd h1 h2 r1 r2 hu => by
      cases (show v1 = .bl p from h1); cases r1
      cases (show v2 = .non from h2); cases r2
      unfold D.eq
      exact RcAt.bool_none p 
    | .bl p, .bl q, v1, v2, u1, u2, A => fun hd h1 h2 r1 r2 hu => by
      cases (show v1 = .bl p from h1); cases r1
      cases (show v2 = .bl q from h2); cases r2
      unfold D.eq
      exact RcAt.bool_bool p q
    | .bl p, .int q, v1, v2, u1, u2, A => fun hd h1 h2 r1 r2 hu => by
      cases (show v1 = .bl p from h1); cases r1
      cases (show v2 = .int q from h2); obtain ⟨t2, rfl⟩ := r2
      unfold D.eq
      exact RcAt.bool_int p q t2
    | .bl p, .str q, v1, v2, u1, u2, A => fun hd h1 h2 r1 r2 hu => by
      cases (show v1 = .bl p from h1); cases r1
      cases (show v2 = .str q from h2); obtain ⟨t2, rfl⟩ := r2
      unfold D.eq
      exact RcAt.bool_str p q t2
    | .bl p, .tup q, v1, v2, u1, u2, A => fun hd h1 h2 r1 r2 hu => by
      cases (show v1 = .bl p from h1); cases r1
      have h2 : IsS X.K H (.tup q) v2 := h2; unfold IsS at h2; obtain ⟨a2, xs2, rfl, sq2, al2⟩ := h2; cases r2; obtain ⟨its2, rv2, pl2, hz2⟩ := I.tuple (SqT.of sq2)
      unfold D.eq
      exact RcAt.bool_tuple p (pl2) (by omega)
    | .bl p, .lst q, v1, v2, u1, u2, A => fun hd h1 h2 r1 r2 hu => by
      cases (show v1 = .bl p from h1); cases r1
      obtain ⟨a2, xs2, rfl, sq2, al2⟩ := h2; cases r2; obtain ⟨its2, rv2, pl2, hz2⟩ := I.list sq2
      unfold D.eq
      exact RcAt.bool_list p (pl2.isList) (by omega)
    | .int p, .non, v1, v2, u1, u2, A => fun hd h1 h2 r1 r2 hu => by
      cases (show v1 = .int p from h1); obtain ⟨t1, rfl⟩ := r1
      cases (show v2 = .non from h2); cases r2
      unfold D.eq
      exact RcAt.int_none p t1 
    | .int p, .bl q, v1, v2, u1, u2, A => fun hd h1 h2 r1 r2 hu => by
      cases (show v1 = .int p from h1); obtain ⟨t1, rfl⟩ := r1
      cases (show v2 = .bl q from h2); cases r2
      unfold D.eq
      exact RcAt.int_bool p t1 q
    | .int p, .int q, v1, v2, u1, u2, A => fun hd h1 h2 r1 r2 hu => by
      cases (show v1 = .int p from h1); obtain ⟨t1, rfl⟩ := r1
      cases (show v2 = .int q from h2); obtain ⟨t2, rfl⟩ := r2
      unfold D.eq
      exact RcAt.int_int p t1 q t2
    | .int p, .str q, v1, v2, u1, u2, A => fun hd h1 h2 r1 r2 hu => by
      cases (show v1 = .int p from h1); obtain ⟨t1, rfl⟩ := r1
      cases (show v2 = .str q from h2); obtain ⟨t2, rfl⟩ := r2
      unfold D.eq
      exact RcAt.int_str p t1 q t2
    | .int p, .tup q, v1, v2, u1, u2, A => fun hd h1 h2 r1 r2 hu => by
      cases (show v1 = .int p from h1); obtain ⟨t1, rfl⟩ := r1
      have h2 : IsS X.K H (.tup q) v2 := h2; unfold IsS at h2; obtain ⟨a2, xs2, rfl, sq2, al2⟩ := h2; cases r2; obtain ⟨its2, rv2, pl2, hz2⟩ := I.tuple (SqT.of sq2)
      unfold D.eq
      exact RcAt.int_tuple p t1 (pl2) (by omega)
    | .int p, .lst q, v1, v2, u1, u2, A => fun hd h1 h2 r1 r2 hu => by
      cases (show v1 = .int p from h1); obtain ⟨t1, rfl⟩ := r1
      obtain ⟨a2, xs2, rfl, sq2, al2⟩ := h2; cases r2; obtain ⟨its2, rv2, pl2, hz2⟩ := I.list sq2
      unfold D.eq
      exact RcAt.int_list p t1 (pl2.isList) (by omega)
    | .str p, .non, v1, v2, u1, u2, A => fun hd h1 h2 r1 r2 hu => by
      cases (show v1 = .str p from h1); obtain ⟨t1, rfl⟩ := r1
      cases (show v2 = .non from h2); cases r2
      unfold D.eq
      exact RcAt.str_none p t1 
    | .str p, .bl q, v1, v2, u1, u2, A => fun hd h1 h2 r1 r2 hu => by
      cases (show v1 = .str p from h1); obtain ⟨t1, rfl⟩ := r1
      cases (show v2 = .bl q from h2); cases r2
      unfold D.eq
      exact RcAt.str_bool p t1 q
    | .str p, .int q, v1, v2, u1, u2, A => fun hd h1 h2 r1 r2 hu => by
      cases (show v1 = .str p from h1); obtain ⟨t1, rfl⟩ := r1
      cases (show v2 = .int q from h2); obtain ⟨t2, rfl⟩ := r2
      unfold D.eq
      exact RcAt.str_int p t1 q t2
    | .str p, .str q, v1, v2, u1, u2, A => fun hd h1 h2 r1 r2 hu => by
      cases (show v1 = .str p from h1); obtain ⟨t1, rfl⟩ := r1
      cases (show v2 = .str q from h2); obtain ⟨t2, rfl⟩ := r2
      unfold D.eq
      exact RcAt.str_str p t1 q t2
    | .str p, .tup q, v1, v2, u1, u2, A => fun hd h1 h2 r1 r2 hu => by
      cases (show v1 = .str p from h1); obtain ⟨t1, rfl⟩ := r1
      have h2 : IsS X.K H (.tup q) v2 := h2; unfold IsS at h2; obtain ⟨a2, xs2, rfl, sq2, al2⟩ := h2; cases r2; obtain ⟨its2, rv2, pl2, hz2⟩ := I.tuple (SqT.of sq2)
      unfold D.eq
      exact RcAt.str_tuple p t1 (pl2) (by omega)
    | .str p, .lst q, v1, v2, u1, u2, A => fun hd h1 h2 r1 r2 hu => by
      cases (show v1 = .str p from h1); obtain ⟨t1, rfl⟩ := r1
      obtain ⟨a2, xs2, rfl, sq2, al2⟩ := h2; cases r2; obtain ⟨its2, rv2, pl2, hz2⟩ := I.list sq2
      unfold D.eq
      exact RcAt.str_list p t1 (pl2.isList) (by omega)
    | .tup p, .non, v1, v2, u1, u2, A => fun hd h1 h2 r1 r2 hu => by
      have h1 : IsS X.K H (.tup p) v1 := h1; unfold IsS at h1; obtain ⟨a1, xs1, rfl, sq1, al1⟩ := h1; cases r1; obtain ⟨its1, rv1, pl1, hz1⟩ := I.tuple (SqT.of sq1)
      cases (show v2 = .non from h2); cases r2
      unfold D.eq
      exact RcAt.tuple_none  (pl1) (by omega)
    | .tup p, .bl q, v1, v2, u1, u2, A => fun hd h1 h2 r1 r2 hu => by
      have h1 : IsS X.K H (.tup p) v1 := h1; unfold IsS at h1; obtain ⟨a1, xs1, rfl, sq1, al1⟩ := h1; cases r1; obtain ⟨its1, rv1, pl1, hz1⟩ := I.tuple (SqT.of sq1)
      cases (show v2 = .bl q from h2); cases r2
      unfold D.eq
      exact RcAt.tuple_bool q (pl1) (by omega)
    | .tup p, .int q, v1, v2, u1, u2, A => fun hd h1 h2 r1 r2 hu => by
      have h1 : IsS X.K H (.tup p) v1 := h1; unfold IsS at h1; obtain ⟨a1, xs1, rfl, sq1, al1⟩ := h1; cases r1; obtain ⟨its1, rv1, pl1, hz1⟩ := I.tuple (SqT.of sq1)
      cases (show v2 = .int q from h2); obtain ⟨t2, rfl⟩ := r2
      unfold D.eq
      exact RcAt.tuple_int q t2 (pl1) (by omega)
    | .tup p, .str q, v1, v2, u1, u2, A => fun hd h1 h2 r1 r2 hu => by
      have h1 : IsS X.K H (.tup p) v1 := h1; unfold IsS at h1; obtain ⟨a1, xs1, rfl, sq1, al1⟩ := h1; cases r1; obtain ⟨its1, rv1, pl1, hz1⟩ := I.tuple (SqT.of sq1)
      cases (show v2 = .str q from h2); obtain ⟨t2, rfl⟩ := r2
      unfold D.eq
      exact RcAt.tuple_str q t2 (pl1) (by omega)
    | .tup p, .tup q, v1, v2, u1, u2, A => fun hd h1 h2 r1 r2 hu => by
      have h1 : IsS X.K H (.tup p) v1 := h1; unfold IsS at h1; obtain ⟨a1, xs1, rfl, sq1, al1⟩ := h1; cases r1; obtain ⟨its1, rv1, pl1, hz1⟩ := I.tuple (SqT.of sq1)
      have h2 : IsS X.K H (.tup q) v2 := h2; unfold IsS at h2; obtain ⟨a2, xs2, rfl, sq2, al2⟩ := h2; cases r2; obtain ⟨its2, rv2, pl2, hz2⟩ := I.tuple (SqT.of sq2)
      have hd : D.depths p + 1 ≤ n + 1 := by unfold D.depth at hd; exact hd
      refine (show RcAt A s (.ref a1) (.ref a2) _ from ?_)
      have l1 : its1.toArray.size = p.length := by have := al1.length; have := rv1.length; simp; omega
      have l2 : its2.toArray.size = q.length := by have := al2.length; have := rv2.length; simp; omega
      have k := RcAt.tuples (A := A) (s := s) (e := fun i => match p[i]?, q[i]? with | some x, some y => D.eq x y | _, _ => true) pl1 pl2 (by omega) (fun j hj1 hj2 => by
        obtain ⟨d1, v1, e1, i1, w1⟩ := allS_at al1 rv1 hj1
        obtain ⟨d2, v2, e2, i2, w2⟩ := allS_at al2 rv2 hj2
        simp only [e1, e2]
        exact eq_of_rc I (fun A => ih d1 d2 v1 v2 _ _ A (by have := D.depths_get e1; omega) i1.w i2.w w1 w2) i1 i2 w1 w2 (by simp only [Around.in1_units]; omega))
      rw [l1, l2, ← D.eqs_range] at k
      unfold D.eq; exact k
    | .tup p, .lst q, v1, v2, u1, u2, A => fun hd h1 h2 r1 r2 hu => by
      have h1 : IsS X.K H (.tup p) v1 := h1; unfold IsS at h1; obtain ⟨a1, xs1, rfl, sq1, al1⟩ := h1; cases r1; obtain ⟨its1, rv1, pl1, hz1⟩ := I.tuple (SqT.of sq1)
      obtain ⟨a2, xs2, rfl, sq2, al2⟩ := h2; cases r2; obtain ⟨its2, rv2, pl2, hz2⟩ := I.list sq2
      unfold D.eq
      exact RcAt.tuple_list (pl1) (pl2.isList) (by omega)
    | .lst p, .non, v1, v2, u1, u2, A => fun hd h1 h2 r1 r2 hu => by
      obtain ⟨a1, xs1, rfl, sq1, al1⟩ := h1; cases r1; obtain ⟨its1, rv1, pl1, hz1⟩ := I.list sq1
      cases (show v2 = .non from h2); cases r2
      unfold D.eq
      exact RcAt.list_none  (pl1.isList) (by omega)
    | .lst p, .bl q, v1, v2, u1, u2, A => fun hd h1 h2 r1 r2 hu => by
      obtain ⟨a1, xs1, rfl, sq1, al1⟩ := h1; cases r1; obtain ⟨its1, rv1, pl1, hz1⟩ := I.list sq1
      cases (show v2 = .bl q from h2); cases r2
      unfold D.eq
      exact RcAt.list_bool q (pl1.isList) (by omega)
    | .lst p, .int q, v1, v2, u1, u2, A => fun hd h1 h2 r1 r2 hu => by
      obtain ⟨a1, xs1, rfl, sq1, al1⟩ := h1; cases r1; obtain ⟨its1, rv1, pl1, hz1⟩ := I.list sq1
      cases (show v2 = .int q from h2); obtain ⟨t2, rfl⟩ := r2
      unfold D.eq
      exact RcAt.list_int q t2 (pl1.isList) (by omega)
    | .lst p, .str q, v1, v2, u1, u2, A => fun hd h1 h2 r1 r2 hu => by
      obtain ⟨a1, xs1, rfl, sq1, al1⟩ := h1; cases r1; obtain ⟨its1, rv1, pl1, hz1⟩ := I.list sq1
      cases (show v2 = .str q from h2); obtain ⟨t2, rfl⟩ := r2
      unfold D.eq
      exact RcAt.list_str q t2 (pl1.isList) (by omega)
    | .lst p, .tup q, v1, v2, u1, u2, A => fun hd h1 h2 r1 r2 hu => by
      obtain ⟨a1, xs1, rfl, sq1, al1⟩ := h1; cases r1; obtain ⟨its1, rv1, pl1, hz1⟩ := I.list sq1
      have h2 : IsS X.K H (.tup q) v2 := h2; unfold IsS at h2; obtain ⟨a2, xs2, rfl, sq2, al2⟩ := h2; cases r2; obtain ⟨its2, rv2, pl2, hz2⟩ := I.tuple (SqT.of sq2)
      unfold D.eq
      exact RcAt.list_tuple (pl1.isList) (pl2) (by omega)
    | .lst p, .lst q, v1, v2, u1, u2, A => fun hd h1 h2 r1 r2 hu => by
      obtain ⟨a1, xs1, rfl, sq1, al1⟩ := h1; cases r1; obtain ⟨its1, rv1, pl1, hz1⟩ := I.list sq1
      obtain ⟨a2, xs2, rfl, sq2, al2⟩ := h2; cases r2; obtain ⟨its2, rv2, pl2, hz2⟩ := I.list sq2
      have hd : D.depths p + 1 ≤ n + 1 := by unfold D.depth at hd; exact hd
      have l1 : its1.toArray.size = p.length := by have := al1.length; have := rv1.length; simp; omega
      have l2 : its2.toArray.size = q.length := by have := al2.length; have := rv2.length; simp; omega
      have kk : RcAt A s (.ref a1) (.ref a2) (D.eqs p q) := by
        rw [D.eqs_range]
        by_cases hlen : p.length = q.length
        · have k := RcAt.lists (A := A) (s := s) (e := fun i => match p[i]?, q[i]? with | some x, some y => D.eq x y | _, _ => true) pl1.isList pl2.isList (by omega) (by omega) (fun j hj1 hj2 => by
            obtain ⟨d1, v1, e1, i1, w1⟩ := allS_at al1 rv1 hj1
            obtain ⟨d2, v2, e2, i2, w2⟩ := allS_at al2 rv2 hj2
            simp only [e1, e2]
            exact eq_of_rc I (fun A => ih d1 d2 v1 v2 _ _ A (by have := D.depths_get e1; omega) i1.w i2.w w1 w2) i1 i2 w1 w2 (by simp only [Around.in1_units]; omega))
          rw [l1] at k
          rw [← hlen, Nat.min_self, beq_self_eq_true, Bool.and_true]
          exact k
        · rw [beq_eq_false_iff_ne.mpr hlen, Bool.and_false]
          exact RcAt.lists_lengths pl1.isList pl2.isList (by rw [l1, l2]; simpa using hlen) (by omega)
      unfold D.eq; exact kk
end
end TK
end
section
set_option maxRecDepth 100000
namespace HT
open PySem PyProof.Rows
section
variable {prog : Program} {w : World} {A : Around} {E : Value → Shared → Prop} {s : Shared}
theorem cat_tup0 {t b : Addr} {vs ws : List Value} {Q : Value → Shared → Prop} (ht : IsTup s.heap t vs.toArray) (hb : IsTup s.heap b ws.toArray) (hv : vs = []) (h1 : Q (.ref b) s) : wpAny (model prog w) A (binaryOp .Add (.ref t) (.ref b)) Q E s := by
  obtain ⟨⟨cls, dd, data, sl⟩, ho, hc, n, hd⟩ := id ht
  obtain ⟨⟨cls2, dd2, data2, sl2⟩, ho2, hc2, n2, hd2⟩ := id hb
  simp only at hc hd hc2 hd2
  subst hc hd hc2 hd2
  exact concat_meets ⟨_, ho, rfl⟩ ⟨_, ho2, rfl⟩ noFill_tuple_add seq_tuple_add PySem.F.slot_tuple_add PySem.F.entry_tuple_add (PySem.F.args_tuple_add_2 _ _)
    (tuple_addW0 t b vs.toArray ws.toArray n n2 dd dd2 sl sl2 (by simp [hv])) ⟨ho, ho2, h1⟩
end
end HT
namespace TK
open PySem PySem.Spec PyProof.Rows L2
section
variable {X : Cx}
def intD (C : Int → Int → Prop) (f : Int → Int → Int) : R → R → (R → Prop) → Prop
  | .st (.int i), .st (.int j), Q => C i j ∧ Q (.st (.int (f i j)))
  | _, _, _ => False
theorem intD_of {C : Int → Int → Prop} {f : Int → Int → Int} {x y : R} {Q : R → Prop} (h : intD C f x y Q) : ∃ i j, x = .st (.int i) ∧ y = .st (.int j) ∧ C i j ∧ Q (.st (.int (f i j))) := by
  unfold intD at h
  split at h
  · exact ⟨_, _, rfl, rfl, h.1, h.2⟩
  · exact h.elim
theorem intD_mono {C : Int → Int → Prop} {f : Int → Int → Int} : Mono2 (intD C f) := fun x y P Q g h => by
  obtain ⟨i, j, rfl, rfl, c, q⟩ := intD_of h
  exact ⟨c, g _ q⟩
theorem OpD.ints {F : Value → Value → Sem Value} {C : Int → Int → Prop} {f : Int → Int → Int} (h : OpR X F (rI C fun i j => .int (f i j))) : OpD X F (intD C f) := by
  intro pins s σ H x y v u Q I rx ry ⟨r1, r2, h1, h2, hg⟩
  obtain ⟨i, j, rfl, rfl, c, q⟩ := intD_of hg
  exact h pins s σ H x y v u Q I rx ry ⟨i, j, h1, h2, c, q _ _ (Same.refl H) isr_int⟩
theorem OpD.ints0 {F : Value → Value → Sem Value} {f : Int → Int → Int} (h : OpR X F (rI0 fun i j => .int (f i j))) : OpD X F (intD (fun _ _ => True) f) := by
  intro pins s σ H x y v u Q I rx ry ⟨r1, r2, h1, h2, hg⟩
  obtain ⟨i, j, rfl, rfl, c, q⟩ := intD_of hg
  exact h pins s σ H x y v u Q I rx ry ⟨i, j, h1, h2, q _ _ (Same.refl H) isr_int⟩
abbrev NoC : Int → Int → Prop := fun _ _ => True
theorem od_sub : OpD X (binaryOp .Sub) (intD NoC fun i j => i - j) := OpD.ints0 op_sub
theorem od_fdiv : OpD X (binaryOp .FloorDiv) (intD CDiv fun i j => i / j) := OpD.ints op_fdiv
theorem od_mod : OpD X (binaryOp .Mod) (intD (fun _ j => 0 < j) fun i j => i % j) := OpD.ints op_mod
theorem od_shl : OpD X (binaryOp .LShift) (intD CPow fun i j => i * 2 ^ j.toNat) := OpD.ints op_shl
theorem od_shr : OpD X (binaryOp .RShift) (intD (fun _ j => 0 ≤ j) fun i j => i / 2 ^ j.toNat) := OpD.ints op_shr
theorem od_and : OpD X (binaryOp .BitAnd) (intD NoC fun i j => Builtin.bitAnd i j) := OpD.ints0 op_and
theorem od_or : OpD X (binaryOp .BitOr) (intD NoC fun i j => Builtin.bitOr i j) := OpD.ints0 op_or
theorem od_xor : OpD X (binaryOp .BitXor) (intD NoC fun i j => Builtin.bitXor i j) := OpD.ints0 op_xor
def lsM : R → Option (List D)
  | .nw ds => some ds
  | .bw ds => some ds
  | _ => none
def lsAny : R → Option (List D)
  | .nw ds => some ds
  | .bw ds => some ds
  | .st (.lst ds) => some ds
  | _ => none
theorem lsM_of {K : PySem.W.Frag} {H0 H : Hp} : ∀ {r : R} {ds : List D} {v : V}, lsM r = some ds → IsR K H0 H r v → ∃ a xs, v = .ref a ∧ H a = some (.lst xs) ∧ AllS K H ds xs
  | .nw ds, _, v, e, h => by cases e; obtain ⟨a, xs, e, n, q, t⟩ := h; exact ⟨a, xs, e, q, t⟩
  | .bw ds, _, v, e, h => by cases e; obtain ⟨a, xs, e, q, t⟩ := h; exact ⟨a, xs, e, q, t⟩
  | .st _, _, _, e, _ => by cases e
  | .dk _, _, _, e, _ => by cases e
  | .dt _, _, _, e, _ => by cases e
  | .ob _, _, _, e, _ => by cases e
  | .ms _ _ _ _, _, _, e, _ => by cases e
theorem lsAny_of {K : PySem.W.Frag} {H0 H : Hp} : ∀ {r : R} {ds : List D} {v : V}, lsAny r = some ds → IsR K H0 H r v → ∃ a xs, v = .ref a ∧ SqL K H a xs ∧ AllS K H ds xs
  | .nw ds, _, v, e, h => by cases e; obtain ⟨a, xs, e, n, q, t⟩ := h; exact ⟨a, xs, e, SqL.of q, t⟩
  | .bw ds, _, v, e, h => by cases e; obtain ⟨a, xs, e, q, t⟩ := h; exact ⟨a, xs, e, SqL.of q, t⟩
  | .st (.lst ds), _, v, e, h => by cases e; have h : IsS K H (.lst ds) v := h; unfold IsS at h; obtain ⟨a, xs, e, q, t⟩ := h; exact ⟨a, xs, e, q.sq, t⟩
  | .st .non, _, _, e, _ => by cases e
  | .st (.bl _), _, _, e, _ => by cases e
  | .st (.int _), _, _, e, _ => by cases e
  | .st (.str _), _, _, e, _ => by cases e
  | .st (.tup _), _, _, e, _ => by cases e
  | .dk _, _, _, e, _ => by cases e
  | .dt _, _, _, e, _ => by cases e
  | .ob _, _, _, e, _ => by cases e
  | .ms _ _ _ _, _, _, e, _ => by cases e
def addD (x y : R) (Q : R → Prop) : Prop :=
  match x, y with
  | .st (.int i), .st (.int j) => Q (.st (.int (i + j)))
  | .st (.str i), .st (.str j) => i.length + j.length ≤ sizeLine ∧ Q (.st (.str (i ++ j)))
  | .st (.tup i), .st (.tup j) => i.length + j.length ≤ sizeLine ∧ Q (.st (.tup (i ++ j)))
  | .nw i, .nw j => i.length + j.length ≤ sizeLine ∧ Q (.nw (i ++ j))
  | .nw i, .bw j => i.length + j.length ≤ sizeLine ∧ Q (.nw (i ++ j))
  | .bw i, .nw j => i.length + j.length ≤ sizeLine ∧ Q (.nw (i ++ j))
  | .bw i, .bw j => i.length + j.length ≤ sizeLine ∧ Q (.nw (i ++ j))
  | _, _ => False
theorem addD_mono : Mono2 addD := fun x y P Q g h => by
  unfold addD at h ⊢
  split at h <;> first | exact g _ h | exact ⟨h.1, g _ h.2⟩ | exact ⟨h.1, h.2.1, g _ h.2.2⟩ | exact h
theorem cat_ls {pins : List (Addr × Obj)} {s : Shared} {σ : St} {H : Hp} {x y : V} {v u : Value} {Q : VK} (I : Inv X pins σ H s) (rx : RelV x v) (ry : RelV y u) {r1 r2 : R} {i j : List D} (e1 : lsM r1 = some i) (e2 : lsM r2 = some j)
    (h1 : IsV X.K H r1 x) (h2 : IsV X.K H r2 y) (hz : i.length + j.length ≤ sizeLine) (q : ∀ v H', Same H H' → IsR X.K H H' (.nw (i ++ j)) v → Q v H') : wpAny (model X.prog X.w) X.A (binaryOp .Add v u) (EP X pins σ Q) X.xe s := by
  obtain ⟨a, xs, rfl, qa, ala⟩ := lsM_of e1 h1
  obtain ⟨b, ys, rfl, qb, alb⟩ := lsM_of e2 h2
  refine op_cat pins s σ H _ _ v u Q I rx ry ⟨a, b, xs, ys, rfl, rfl, qa, qb, by rw [← ala.length, ← alb.length]; exact hz, fun p hp => ?_⟩
  have k := Kp.of (same_new hp (.lst (xs ++ ys)))
  exact q _ _ (same_new hp _) ⟨p, xs ++ ys, rfl, hp, upd_same, (ala.append alb).mono k _ _⟩
theorem od_add : OpD X (binaryOp .Add) addD := by
  intro pins s σ H x y v u Q I rx ry ⟨r1, r2, h1, h2, hg⟩
  unfold addD at hg
  split at hg
  · exact op_add pins s σ H x y v u Q I rx ry ⟨_, _, h1, h2, hg _ _ (Same.refl H) isr_int⟩
  · exact op_add_str pins s σ H x y v u Q I rx ry ⟨_, _, h1, h2, hg.1, hg.2 _ _ (Same.refl H) isr_str⟩
  · rename_i i j
    have h1 : IsS X.K H (.tup i) x := h1
    have h2 : IsS X.K H (.tup j) y := h2
    unfold IsS at h1 h2
    obtain ⟨a, xs, rfl, qa, ala⟩ := h1
    obtain ⟨b, ys, rfl, qb, alb⟩ := h2
    have la := ala.length
    have lb := alb.length
    by_cases hx : xs = []
    · have zi : i = [] := List.length_eq_zero_iff.mp (by rw [la, hx]; rfl)
      subst zi
      cases rx
      cases ry
      obtain ⟨its, r1, p1, _⟩ := I.tuple (SqT.of (K := X.K) qa)
      obtain ⟨its2, r2, p2, _⟩ := I.tuple (SqT.of (K := X.K) qb)
      exact HT.cat_tup0 p1 p2 (r1.nil_iff.mpr hx) ⟨.ref b, H, I, rfl, hg.2 _ _ (Same.refl H) (IsS.s_tup (K := X.K) (H := H) qb alb)⟩
    refine op_catT pins s σ H _ _ v u Q I rx ry ⟨a, b, xs, ys, rfl, rfl, SqT.of qa, SqT.of qb, hx, by omega, fun z => ?_, fun z p hp => ?_⟩
    · have zj : j = [] := List.length_eq_zero_iff.mp (by rw [lb, z]; rfl)
      subst zj
      rw [List.append_nil] at hg
      exact hg.2 _ _ (Same.refl H) (IsS.s_tup (K := X.K) (H := H) qa ala)
    · exact hg.2 _ _ (same_new hp _) (IsS.s_tup (K := X.K) upd_same ((ala.append alb).mono (Kp.of (same_new hp _)) _ _))
  · exact cat_ls I rx ry rfl rfl h1 h2 hg.1 hg.2
  · exact cat_ls I rx ry rfl rfl h1 h2 hg.1 hg.2
  · exact cat_ls I rx ry rfl rfl h1 h2 hg.1 hg.2
  · exact cat_ls I rx ry rfl rfl h1 h2 hg.1 hg.2
  · exact hg.elim
def mulD (x y : R) (Q : R → Prop) : Prop :=
  match x, y with
  | .st (.int i), .st (.int j) => CMul i j ∧ Q (.st (.int (i * j)))
  | .nw ds, .st (.int k) => -(2 ^ 63) ≤ k ∧ k < 2 ^ 63 ∧ ds.length * k.toNat ≤ sizeLine ∧ Q (.nw (List.replicate k.toNat ds).flatten)
  | _, _ => False
theorem mulD_mono : Mono2 mulD := fun x y P Q g h => by
  unfold mulD at h ⊢
  split at h <;> first | exact ⟨h.1, g _ h.2⟩ | exact ⟨h.1, h.2.1, h.2.2.1, g _ h.2.2.2⟩ | exact h
theorem AllS.rep {K : PySem.W.Frag} {H : Hp} {ds : List D} {vs : List V} (h : AllS K H ds vs) : ∀ k : Nat, AllS K H (List.replicate k ds).flatten (List.replicate k vs).flatten
  | 0 => AllS.nil
  | k + 1 => by rw [List.replicate_succ, List.replicate_succ, List.flatten_cons, List.flatten_cons]; exact h.append (AllS.rep h k)
theorem od_mul : OpD X (binaryOp .Mult) mulD := by
  intro pins s σ H x y v u Q I rx ry ⟨r1, r2, h1, h2, hg⟩
  unfold mulD at hg
  split at hg
  · exact op_mul pins s σ H x y v u Q I rx ry ⟨_, _, h1, h2, hg.1, hg.2 _ _ (Same.refl H) isr_int⟩
  · obtain ⟨a, xs, rfl, _, qa, ala⟩ := h1
    refine op_rep pins s σ H _ y v u Q I rx ry ⟨a, _, xs, rfl, h2, qa, hg.1, hg.2.1, by rw [← ala.length]; exact hg.2.2.1, fun p hp => ?_⟩
    exact hg.2.2.2 _ _ (same_new hp _) ⟨p, _, rfl, hp, upd_same, (ala.rep _).mono (Kp.of (same_new hp _)) _ _⟩
  · exact hg.elim
def cmpI (f : Int → Int → Bool) : R → R → (Bool → Prop) → Prop
  | .st (.int i), .st (.int j), Q => Q (f i j)
  | _, _, _ => False
theorem cmpI_of {f : Int → Int → Bool} {x y : R} {Q : Bool → Prop} (h : cmpI f x y Q) : ∃ i j, x = .st (.int i) ∧ y = .st (.int j) ∧ Q (f i j) := by
  unfold cmpI at h
  split at h
  · exact ⟨_, _, rfl, rfl, h⟩
  · exact h.elim
theorem cmpI_mono {f : Int → Int → Bool} : Mono2 (cmpI f) := fun x y P Q g h => by
  obtain ⟨i, j, rfl, rfl, q⟩ := cmpI_of h
  exact g _ q
theorem CmpD.ints {op : CmpOp} {f : Int → Int → Bool} (h : OpR X (compareOp op) (rI0 fun i j => .bl (f i j))) : CmpD X op (cmpI f) := by
  intro pins s σ H x y v u Q I rx ry ⟨r1, r2, h1, h2, hg⟩
  obtain ⟨i, j, rfl, rfl, q⟩ := cmpI_of hg
  exact h pins s σ H x y v u Q I rx ry ⟨i, j, h1, h2, q⟩
theorem cd_lt : CmpD X .Lt (cmpI fun i j => decide (i < j)) := CmpD.ints op_lt
theorem cd_le : CmpD X .LtE (cmpI fun i j => decide (i ≤ j)) := CmpD.ints op_le
theorem cd_gt : CmpD X .Gt (cmpI fun i j => decide (j < i)) := CmpD.ints op_gt
def eqD (n : Nat) (neg : Bool) (x y : R) (Q : Bool → Prop) : Prop := ∃ d e, x.d = some d ∧ y.d = some e ∧ d.depth ≤ n ∧ Q (if neg then !D.eq d e else D.eq d e)
theorem eqD_mono {n : Nat} {neg : Bool} : Mono2 (eqD n neg) := fun x y P Q g ⟨d, e, h1, h2, h3, q⟩ => ⟨d, e, h1, h2, h3, g _ q⟩
theorem cd_eq {n : Nat} (hu : X.A.units + n < cLine) : CmpD X .Eq (eqD n false) := by
  intro pins s σ H x y v u Q I rx ry ⟨r1, r2, h1, h2, d, e, e1, e2, hd, q⟩
  exact rc_D I n d e x y v u X.A hd (h1.w e1) (h2.w e2) rx ry hu _ _ _ _ ⟨.bl _, H, I, rfl, q⟩
end
end TK
end
section
set_option maxRecDepth 100000
namespace TK
open PySem PySem.Spec PyProof.Rows L2
section
variable {X : Cx}
def scD : D → D → Bool
  | .non, .non => true | .non, .int _ => true | .int _, .non => true | .non, .bl _ => true | .bl _, .non => true | .non, .str _ => true | .str _, .non => true
  | .int _, .int _ => true | .bl _, .bl _ => true | .str _, .str _ => true
  | .int _, .str _ => true | .str _, .int _ => true | .bl _, .str _ => true | .str _, .bl _ => true
  | _, _ => false
def neD (x y : R) (Q : Bool → Prop) : Prop := ∃ d e, x = .st d ∧ y = .st e ∧ scD d e = true ∧ Q (!D.eq d e)
def isND (neg : Bool) (x y : R) (Q : Bool → Prop) : Prop := ∃ d, x.d = some d ∧ y = .st .non ∧ Q (match d with | .non => !neg | _ => neg)
theorem isND_mono {neg : Bool} : Mono2 (isND neg) := fun x y P Q g ⟨d, h1, h2, q⟩ => ⟨d, h1, h2, g _ q⟩
theorem isW_non {K : PySem.W.Frag} {H : Hp} : ∀ {d : D} {v : V}, IsW K H d v → decide (v = .non) = (match d with | .non => true | _ => false)
  | .non, v, h => by cases (show v = .non from h); rfl
  | .bl b, v, h => by cases (show v = .bl b from h); rfl
  | .int b, v, h => by cases (show v = .int b from h); rfl
  | .str b, v, h => by cases (show v = .str b from h); rfl
  | .tup ds, v, h => by have h : IsS K H (.tup ds) v := h; unfold IsS at h; obtain ⟨a, _, rfl, _⟩ := h; rfl
  | .lst ds, v, h => by obtain ⟨a, _, rfl, _⟩ := h; rfl
theorem cd_isN : CmpD X .Is (isND false) := by
  intro pins s σ H x y v u Q I rx ry ⟨r1, r2, h1, h2, d, e1, e2, q⟩
  subst e2
  refine op_isN pins s σ H x y v u Q I rx ry ⟨h2, ?_⟩
  rw [isW_non (h1.w e1)]
  cases d <;> exact q
def inStr (a b : Str) : Bool := !(Builtin.Str.occurrences b a 0 b.length 1).isEmpty
def inD (neg : Bool) (x y : R) (Q : Bool → Prop) : Prop := match x, y with
  | .st (.str a), .st (.str b) => Q (if neg then !inStr a b else inStr a b)
  | _, _ => False
theorem inD_of {neg : Bool} {x y : R} {Q : Bool → Prop} (h : inD neg x y Q) : ∃ a b, x = .st (.str a) ∧ y = .st (.str b) ∧ Q (if neg then !inStr a b else inStr a b) := by
  unfold inD at h
  split at h
  · exact ⟨_, _, rfl, rfl, h⟩
  · exact h.elim
theorem inD_mono {neg : Bool} : Mono2 (inD neg) := fun x y P Q g h => by
  obtain ⟨a, b, rfl, rfl, q⟩ := inD_of h
  exact g _ q
theorem cd_in : CmpD X .In (inD false) := by
  intro pins s σ H x y v u Q I rx ry ⟨r1, r2, h1, h2, hg⟩
  obtain ⟨a, b, rfl, rfl, q⟩ := inD_of hg
  exact op_in_str pins s σ H x y v u Q I rx ry ⟨a, b, h1, h2, q⟩
theorem atI_all {K : PySem.W.Frag} {H : Hp} {ds : List D} {xs : List V} (al : AllS K H ds xs) {i : Int} {d : D} (h : atI ds i = some d) : ∃ v, atI xs i = some v ∧ IsS K H d v := by
  unfold atI at h ⊢
  rw [← al.length]
  cases e : ixN ds.length i with
  | none => rw [e] at h; cases h
  | some j =>
    rw [e] at h
    obtain ⟨v, hv, q⟩ := al.get (i := j) h
    exact ⟨v, hv, q⟩
def ixD (x y : R) (Q : R → Prop) : Prop := match x, y with
  | .st (.lst ds), .st (.int i) => ∃ d, atI ds i = some d ∧ Q (.st d)
  | .nw ds, .st (.int i) => ∃ d, atI ds i = some d ∧ Q (.st d)
  | .bw ds, .st (.int i) => ∃ d, atI ds i = some d ∧ Q (.st d)
  | .st (.tup ds), .st (.int i) => ∃ d, atI ds i = some d ∧ Q (.st d)
  | .st (.str z), .st (.int i) => z.length ≤ sizeLine ∧ ∃ c, atI z.cps.toList i = some c ∧ Q (.st (.str ⟨#[c]⟩))
  | _, _ => False
theorem ixD_mono : Mono2 ixD := fun x y P Q g h => by
  unfold ixD at h ⊢
  split at h
  case h_6 => exact h
  case h_5 => obtain ⟨z, c, h1, h2⟩ := h; exact ⟨z, c, h1, g _ h2⟩
  all_goals (obtain ⟨d, h1, h2⟩ := h; exact ⟨d, h1, g _ h2⟩)
variable {H0 : Hp} {a b c e : Expr} {pos : Pos} {wa wb wc we : WE}
theorem DE.ix (ha : DE X H0 a wa) (hb : DE X H0 b wb) (hs : PlainIx b) : DE X H0 (.Subscript a b pos) (wOp ixD wa wb) where
  mono := fun τ P Q f h => ha.mono τ _ _ (fun x h => hb.mono τ _ _ (fun y h => ixD_mono x y P Q f h) h) h
  pe := peW (pe_ix ix_seq ha.pe hb.pe hs) fun σ H Q ⟨τ, hR, h⟩ => two ha hb hR h fun x y v u H' sm rx ry q => by
    unfold ixD at q
    split at q
    · have rx : IsS X.K H' _ v := rx
      unfold IsS at rx
      obtain ⟨p, xs, rfl, sq, al⟩ := rx
      obtain ⟨d, hd, q⟩ := q
      obtain ⟨z, hz, iz⟩ := atI_all al hd
      exact .inl ⟨p, xs, _, z, rfl, ry, sq.sq, hz, q z H' sm iz⟩
    · obtain ⟨p, xs, rfl, _, sq, al⟩ := rx
      obtain ⟨d, hd, q⟩ := q
      obtain ⟨z, hz, iz⟩ := atI_all al hd
      exact .inl ⟨p, xs, _, z, rfl, ry, SqL.of sq, hz, q z H' sm iz⟩
    · obtain ⟨p, xs, rfl, sq, al⟩ := rx
      obtain ⟨d, hd, q⟩ := q
      obtain ⟨z, hz, iz⟩ := atI_all al hd
      exact .inl ⟨p, xs, _, z, rfl, ry, SqL.of sq, hz, q z H' sm iz⟩
    · have rx : IsS X.K H' _ v := rx
      unfold IsS at rx
      obtain ⟨p, xs, rfl, sq, al⟩ := rx
      obtain ⟨d, hd, q⟩ := q
      obtain ⟨z, hz, iz⟩ := atI_all al hd
      exact .inr (.inl ⟨p, xs, _, z, rfl, ry, SqT.of sq, hz, q z H' sm iz⟩)
    · obtain ⟨z, c, h1, q⟩ := q
      exact .inr (.inr ⟨_, _, c, rx, ry, z, h1, q _ H' sm isr_str⟩)
    · exact q.elim
def CallD (X : Cx) (f : Value) (g : List R → (R → Prop) → Prop) : Prop :=
  CallR X f (fun xs H Q => ∃ rs, AllR X.K (fun _ => none) H rs xs ∧ g rs fun r => ∀ v H', Same H H' → IsR X.K H H' r v → Q v H')
def Mono1 (g : List R → (R → Prop) → Prop) : Prop := ∀ x (P Q : R → Prop), (∀ r, P r → Q r) → g x P → g x Q
variable {es : List Expr} {wr : WA} {x : Str} {p : Pos} {id T : String} {g : List R → (R → Prop) → Prop}
def wCB (g : List R → (R → Prop) → Prop) (wr : WA) : WE := fun τ Q => wr τ fun rs => g rs Q
theorem DE.callB (hc : CallD X (.builtin id) g) (mg : Mono1 g) (hg : Gl X x) (hm : X.mg x = none) (hv : bootBuiltins x = some (.builtin id)) (ha : DA X H0 (e :: es) wr) (hn : x ≠ "__name__" := by decide) (hdb : (x == ("__debug__" : Str)) = false := by decide)
    (he : starEach (e :: es) X.env = (false, eval e X.env) :: starEach es X.env := by rfl) (hpl : (backTo pos (starEach es X.env)).any (·.1) = false := by rfl) : DE X H0 (.Call (.Name x p) (e :: es) [] pos) (wCB g wr) where
  mono := fun τ P Q f h => ha.mono τ _ _ (fun rs h => mg rs P Q f h) h
  pe := peW (pe_callB hc hg hm hv ha.pa hn hdb he hpl) fun σ H Q ⟨τ, hR, h⟩ => ⟨τ, hR, ha.mono τ _ _ (fun rs h vs H1 s1 irs => ⟨rs, irs.v, mg rs _ _ (fun r h v H' s2 ir => h v H' (s1.trans s2) (ir.older s1)) h⟩) h⟩
theorem DE.callTy (hc : CallD X (.type T) g) (mg : Mono1 g) (hg : Gl X x) (hm : X.mg x = none) (hv : bootBuiltins x = some (.type T)) (ha : DA X H0 (e :: es) wr) (hn : x ≠ "__name__" := by decide) (hdb : (x == ("__debug__" : Str)) = false := by decide)
    (he : starEach (e :: es) X.env = (false, eval e X.env) :: starEach es X.env := by rfl) (hpl : (backTo pos (starEach es X.env)).any (·.1) = false := by rfl) : DE X H0 (.Call (.Name x p) (e :: es) [] pos) (wCB g wr) where
  mono := fun τ P Q f h => ha.mono τ _ _ (fun rs h => mg rs P Q f h) h
  pe := peW (pe_callTy hc hg hm hv ha.pa hn hdb he hpl) fun σ H Q ⟨τ, hR, h⟩ => ⟨τ, hR, ha.mono τ _ _ (fun rs h vs H1 s1 irs => ⟨rs, irs.v, mg rs _ _ (fun r h v H' s2 ir => h v H' (s1.trans s2) (ir.older s1)) h⟩) h⟩
theorem allR1 {K : PySem.W.Frag} {H0 H : Hp} {r : R} {vs : List V} (h : AllR K H0 H [r] vs) : ∃ v, vs = [v] ∧ IsR K H0 H r v := by
  obtain ⟨v, t, rfl, q, z⟩ := h
  cases (show t = [] from z)
  exact ⟨v, rfl, q⟩
def lenOf : R → (Nat → Prop) → Prop
  | .st (.str z), Q => z.length ≤ sizeLine ∧ Q z.length
  | .st (.tup ds), Q => Q ds.length
  | .st (.lst ds), Q => Q ds.length
  | .nw ds, Q => Q ds.length
  | .bw ds, Q => Q ds.length
  | _, _ => False
def lenD : List R → (R → Prop) → Prop
  | [r], Q => lenOf r fun n => Q (.st (.int n))
  | _, _ => False
theorem lenD_mono : Mono1 lenD := fun x P Q g h => by
  unfold lenD at h ⊢
  split at h
  · unfold lenOf at h ⊢
    split at h <;> first | exact g _ h | exact ⟨h.1, g _ h.2⟩ | exact h
  · exact h
theorem call_lenR : CallD X (.builtin "len") lenD := by
  intro pins s σ H xs us Q I rv ⟨rs, irs, h⟩
  unfold lenD at h
  split at h
  · obtain ⟨v, rfl, ir⟩ := allR1 irs
    unfold lenOf at h
    split at h
    · cases (show v = .str _ from ir)
      exact call_len pins s σ H _ us Q I rv ⟨_, _, rfl, ⟨h.1, rfl⟩, h.2 _ _ (Same.refl H) isr_int⟩
    · have ir : IsS X.K H _ v := ir
      unfold IsS at ir
      obtain ⟨p, xs, rfl, sq, al⟩ := ir
      exact call_len pins s σ H _ us Q I rv ⟨_, _, rfl, .inr ⟨xs, SqT.of sq, rfl⟩, by rw [← al.length]; exact h _ _ (Same.refl H) isr_int⟩
    · have ir : IsS X.K H _ v := ir
      unfold IsS at ir
      obtain ⟨p, xs, rfl, sq, al⟩ := ir
      exact call_len pins s σ H _ us Q I rv ⟨_, _, rfl, .inl ⟨xs, sq.sq, rfl⟩, by rw [← al.length]; exact h _ _ (Same.refl H) isr_int⟩
    · obtain ⟨p, xs, rfl, _, sq, al⟩ := ir
      exact call_len pins s σ H _ us Q I rv ⟨_, _, rfl, .inl ⟨xs, SqL.of sq, rfl⟩, by rw [← al.length]; exact h _ _ (Same.refl H) isr_int⟩
    · obtain ⟨p, xs, rfl, sq, al⟩ := ir
      exact call_len pins s σ H _ us Q I rv ⟨_, _, rfl, .inl ⟨xs, SqL.of sq, rfl⟩, by rw [← al.length]; exact h _ _ (Same.refl H) isr_int⟩
    · exact h.elim
  · exact h.elim
def intOfD : List R → (R → Prop) → Prop
  | [.st (.bl k)], Q => Q (.st (.int (if k then 1 else 0)))
  | [.st (.int i)], Q => Q (.st (.int i))
  | _, _ => False
theorem intOfD_mono : Mono1 intOfD := fun x P Q g h => by
  unfold intOfD at h ⊢
  split at h <;> first | exact g _ h | exact h
theorem call_intR : CallD X (.type "int") intOfD := by
  intro pins s σ H xs us Q I rv ⟨rs, irs, h⟩
  unfold intOfD at h
  split at h
  · obtain ⟨v, rfl, ir⟩ := allR1 irs
    cases (show v = .bl _ from ir)
    exact call_int1 pins s σ H _ us Q I rv (.inr ⟨_, rfl, h _ _ (Same.refl H) isr_int⟩)
  · obtain ⟨v, rfl, ir⟩ := allR1 irs
    cases (show v = .int _ from ir)
    exact call_int1 pins s σ H _ us Q I rv (.inl ⟨_, rfl, h _ _ (Same.refl H) isr_int⟩)
  · exact h.elim
def seqOf : R → Option (List D)
  | .st (.tup ds) => some ds
  | .st (.lst ds) => some ds
  | .nw ds => some ds
  | .bw ds => some ds
  | _ => none
theorem seqOf_of {K : PySem.W.Frag} {H0 H : Hp} : ∀ {r : R} {ds : List D} {v : V}, seqOf r = some ds → IsR K H0 H r v → ∃ a xs, v = .ref a ∧ (SqL K H a xs ∨ H a = some (.tup xs)) ∧ AllS K H ds xs
  | .st (.tup ds), _, v, e, h => by cases e; have h : IsS K H (.tup ds) v := h; unfold IsS at h; obtain ⟨a, xs, e, q, t⟩ := h; exact ⟨a, xs, e, .inr q, t⟩
  | .st (.lst ds), _, v, e, h => by cases e; have h : IsS K H (.lst ds) v := h; unfold IsS at h; obtain ⟨a, xs, e, q, t⟩ := h; exact ⟨a, xs, e, .inl q.sq, t⟩
  | .nw ds, _, v, e, h => by cases e; obtain ⟨a, xs, e, n, q, t⟩ := h; exact ⟨a, xs, e, .inl (SqL.of q), t⟩
  | .bw ds, _, v, e, h => by cases e; obtain ⟨a, xs, e, q, t⟩ := h; exact ⟨a, xs, e, .inl (SqL.of q), t⟩
  | .st .non, _, _, e, _ => by cases e
  | .st (.bl _), _, _, e, _ => by cases e
  | .st (.int _), _, _, e, _ => by cases e
  | .st (.str _), _, _, e, _ => by cases e
  | .dk _, _, _, e, _ => by cases e
  | .dt _, _, _, e, _ => by cases e
  | .ob _, _, _, e, _ => by cases e
  | .ms _ _ _ _, _, _, e, _ => by cases e
def listD : List R → (R → Prop) → Prop
  | [r], Q => ∃ ds, seqOf r = some ds ∧ Q (.nw ds)
  | _, _ => False
theorem listD_mono : Mono1 listD := fun x P Q g h => by
  unfold listD at h ⊢
  split at h
  · obtain ⟨ds, e, q⟩ := h; exact ⟨ds, e, g _ q⟩
  · exact h
theorem call_listR : CallD X (.type "list") listD := by
  intro pins s σ H xs us Q I rv ⟨rs, irs, h⟩
  unfold listD at h
  split at h
  · obtain ⟨v, rfl, ir⟩ := allR1 irs
    obtain ⟨ds, e, q⟩ := h
    obtain ⟨a, xs, rfl, sq, al⟩ := seqOf_of e ir
    exact call_list_of pins s σ H _ us Q I rv ⟨a, xs, rfl, sq.imp id (fun z => SqT.of z), fun l hl => q _ _ (same_new hl _) ⟨l, xs, rfl, hl, upd_same, al.mono (Kp.of (same_new hl _)) _ _⟩⟩
  · exact h.elim
def tupleD : List R → (R → Prop) → Prop
  | [r], Q => ∃ ds, seqOf r = some ds ∧ Q (.st (.tup ds))
  | _, _ => False
theorem tupleD_mono : Mono1 tupleD := fun x P Q g h => by
  unfold tupleD at h ⊢
  split at h
  · obtain ⟨ds, e, q⟩ := h; exact ⟨ds, e, g _ q⟩
  · exact h
theorem call_tupleR : CallD X (.type "tuple") tupleD := by
  intro pins s σ H xs us Q I rv ⟨rs, irs, h⟩
  unfold tupleD at h
  split at h
  · obtain ⟨v, rfl, ir⟩ := allR1 irs
    obtain ⟨ds, e, q⟩ := h
    obtain ⟨a, xs, rfl, sq, al⟩ := seqOf_of e ir
    refine call_tuple_of pins s σ H _ us Q I rv ⟨a, xs, rfl, ?_⟩
    rcases sq with sq | sq
    · exact .inl ⟨sq, fun l hl => q _ _ (same_new hl _) (IsS.s_tup (K := X.K) upd_same (al.mono (Kp.of (same_new hl _)) _ _))⟩
    · exact .inr ⟨SqT.of sq, q _ _ (Same.refl H) (IsS.s_tup (K := X.K) (H := H) sq al)⟩
  · exact h.elim
def tyOfR : R → Option String
  | .st .non => some "NoneType"
  | .st (.bl _) => some "bool"
  | .st (.int _) => some "int"
  | .st (.str _) => some "str"
  | .st (.tup _) => some "tuple"
  | .nw _ => some "list"
  | .bw _ => some "list"
  | .st (.lst _) => some "list"
  | _ => none
def isiB (T : String) (t : String) : Bool := t == T || (T == "int" && t == "bool")
def wIsi (T : String) (we : WE) : WE := fun τ Q => we τ fun r => ∃ t, tyOfR r = some t ∧ Q (.st (.bl (isiB T t)))
end
end TK
end
section
set_option maxRecDepth 100000
namespace TK
open PySem PySem.Spec PyProof.Rows L2
abbrev WG := D → DSt → (DSt → Prop) → Prop
def liftG (K : PySem.W.Frag) (H0 : Hp) (g : WG) : TG := fun v σ H Q => ∃ τ d, Rep K H0 τ σ H ∧ IsS K H d v ∧ g d τ fun τ' => ∀ σ' H', Same H H' → Rep K H0 τ' σ' H' → Q σ' H'
structure DG (X : Cx) (H0 : Hp) (tg : Expr) (g : WG) : Prop where
  mono : ∀ d τ (P Q : DSt → Prop), (∀ τ, P τ → Q τ) → g d τ P → g d τ Q
  pg : PG X tg (liftG X.K H0 g)
abbrev WGs := List D → DSt → (DSt → Prop) → Prop
def liftGs (K : PySem.W.Frag) (H0 : Hp) (g : WGs) : TGs := fun vs σ H Q => ∃ τ ds, Rep K H0 τ σ H ∧ AllS K H ds vs ∧ g ds τ fun τ' => ∀ σ' H', Same H H' → Rep K H0 τ' σ' H' → Q σ' H'
structure DGs (X : Cx) (H0 : Hp) (tg : List Expr) (g : WGs) : Prop where
  mono : ∀ d τ (P Q : DSt → Prop), (∀ τ, P τ → Q τ) → g d τ P → g d τ Q
  pg : PGs X tg (liftGs X.K H0 g)
theorem pgW {X : Cx} {e : Expr} {t t' : TG} (h : PG X e t) (f : ∀ v σ H Q, t' v σ H Q → t v σ H Q) : PG X e t' := fun pins s σ H v u Q I r q => h pins s σ H v u Q I r (f v σ H Q q)
theorem pgsW {X : Cx} {e : List Expr} {t t' : TGs} (h : PGs X e t) (f : ∀ v σ H Q, t' v σ H Q → t v σ H Q) : PGs X e t' := fun pins s σ H v u Q I r q => h pins s σ H v u Q I r (f v σ H Q q)
section
variable {X : Cx} {H0 : Hp} {a b c e iter tg : Expr} {pos : Pos} {wa wb we : WE} {es : List Expr}
def gNm (i : Nat) : WG := fun d τ Q => Q (τ.set i (some (.dat d)))
theorem DG.nm {i : Nat} {x : Str} (hN : X.N.Nodup) (hi : X.N[i]? = some x) (hx : Loc X.env.scope x) (hf : X.fn x = true ∨ X.env.scope.names.lookup x = some .local := by first | exact .inl rfl | exact .inr rfl | assumption) : DG X H0 (.Name x pos) (gNm i) where
  mono := fun d τ P Q f h => f _ h
  pg := pgW (pg_name hN hi hx hf) fun v σ H Q ⟨τ, d, hR, iv, h⟩ => h _ _ (Same.refl H) (hR.set iv fun m => by cases m)
def gNl : WGs := fun ds τ Q => ds = [] ∧ Q τ
def gCn (g : WG) (gs : WGs) : WGs := fun ds τ Q => ∃ d r, ds = d :: r ∧ g d τ fun τ' => gs r τ' Q
theorem DGs.nil : DGs X H0 [] gNl where
  mono := fun d τ P Q f h => ⟨h.1, f _ h.2⟩
  pg := pgsW pgs_nil fun vs σ H Q ⟨τ, ds, hR, al, h1, h2⟩ => by
    subst h1
    unfold AllS at al
    exact ⟨al, h2 σ H (Same.refl H) hR⟩
theorem DGs.cons {g : WG} {gs : WGs} (h1 : DG X H0 e g) (h2 : DGs X H0 es gs) (hs : (assignEach (e :: es) X.env).map (·.2) = assign e X.env :: (assignEach es X.env).map (·.2) := by rfl) : DGs X H0 (e :: es) (gCn g gs) where
  mono := fun d τ P Q f ⟨x, r, e1, h⟩ => ⟨x, r, e1, h1.mono x τ _ _ (fun τ' h => h2.mono r τ' P Q f h) h⟩
  pg := pgsW (pgs_cons h1.pg h2.pg hs) fun vs σ H Q ⟨τ, ds, hR, al, d, r, e1, h⟩ => by
    subst e1
    unfold AllS at al
    obtain ⟨v, t, rfl, iv, al⟩ := al
    exact ⟨v, t, rfl, τ, d, hR, iv, h1.mono d τ _ _ (fun τ' h σ' H' sm hR' => ⟨τ', r, hR', al.mono (Kp.of sm) _ _, h2.mono r τ' _ _ (fun τ2 h σ2 H2 s2 hR2 => h σ2 H2 (sm.trans s2) hR2) h⟩) h⟩
def gTp (n : Nat) (gs : WGs) : WG := fun d τ Q => ∃ ds, d = .tup ds ∧ ds.length = n ∧ gs ds τ Q
theorem DG.tp {k n : Nat} {gs : WGs} (hc : X.calm = true) (h : DGs X H0 es gs) (hn : (assignEach es X.env).length = n := by rfl) (hst : (assignEach es X.env).findIdx? (·.1) = none := by rfl) : DG X H0 (.Tuple es k pos) (gTp n gs) where
  mono := fun d τ P Q f ⟨ds, e1, e2, q⟩ => ⟨ds, e1, e2, h.mono ds τ P Q f q⟩
  pg := pgW (pg_tup hc h.pg hn hst) fun v σ H Q ⟨τ, d, hR, iv, ds, e1, e2, q⟩ => by
    subst e1
    unfold IsS at iv
    obtain ⟨p, xs, rfl, sq, al⟩ := iv
    exact ⟨p, xs, rfl, SqT.of sq, by rw [← al.length]; exact e2, τ, ds, hR, al, q⟩
structure Yl (K : PySem.W.Frag) (H0 : Hp) (J : It) (ds : List D) (H : Hp) : Prop where
  go : ∀ H', Kp H H' → Same H0 H' → ∀ i, i < ds.length → J.go i H'
  yld : ∀ H', Kp H H' → Same H0 H' → ∀ i x H'' d, ds[i]? = some d → J.yld i H' x H'' → Same H' H'' ∧ IsS K H'' d x
  stop : ∀ H', Kp H H' → Same H0 H' → J.stop ds.length H'
abbrev WI := DSt → (List D → DSt → Prop) → Prop
def liftI (K : PySem.W.Frag) (H0 : Hp) (wi : WI) : TI := fun σ H R => ∃ τ, Rep K H0 τ σ H ∧ wi τ fun ds τ' => ∀ J H', Kp H H' → Rep K H0 τ' σ H' → Yl K H0 J ds H' → R J H'
structure DI (X : Cx) (H0 : Hp) (tg iter : Expr) (wi : WI) : Prop where
  mono : ∀ τ (P Q : List D → DSt → Prop), (∀ ds τ, P ds τ → Q ds τ) → wi τ P → wi τ Q
  pi : PI X tg iter (liftI X.K H0 wi)
theorem piW {X : Cx} {tg e : Expr} {t t' : TI} (h : PI X tg e t) (f : ∀ σ H Q, t' σ H Q → t σ H Q) : PI X tg e t' := fun pins s σ H R I q => h pins s σ H R I (f σ H R q)
theorem yl_list {K : PySem.W.Frag} {H0 H : Hp} {a : Addr} {xs : List V} {ds : List D} (hq : ∀ H', Kp H H' → Same H0 H' → SqL K H' a xs) (al : AllS K H ds xs) : Yl K H0 (Itl K a) ds H where
  go := fun H' k s i hi => ⟨xs, xs[i]'(by rw [← al.length]; exact hi), hq H' k s, List.getElem?_eq_getElem _⟩
  yld := fun H' k s i x H'' d hd ⟨e, y⟩ => by
    subst e
    have hx := y xs (hq _ k s)
    obtain ⟨v, hv, q⟩ := (al.mono k _ _).get hd
    rw [hx] at hv; cases hv
    exact ⟨Same.refl _, q⟩
  stop := fun H' k s => ⟨xs, hq H' k s, by rw [al.length]; exact Nat.le_refl _⟩
theorem DI.lst (he : DE X H0 e we) : DI X H0 tg e (fun τ Q => we τ fun r => ∃ ds, r = .st (.lst ds) ∧ Q ds τ) where
  mono := fun τ P Q f h => he.mono τ _ _ (fun r ⟨ds, e1, q⟩ => ⟨ds, e1, f _ _ q⟩) h
  pi := piW (pi_list he.pe) fun σ H R ⟨τ, hR, h⟩ => ⟨τ, hR, he.mono τ _ _ (fun r ⟨ds, e1, q⟩ v H1 s1 ir => by
    subst e1
    have ir : IsS X.K H1 (.lst ds) v := ir
    unfold IsS at ir
    obtain ⟨a, xs, rfl, sq, al⟩ := ir
    exact ⟨a, rfl, ⟨xs, sq.sq⟩, q _ _ (Kp.of s1) (hR.mono s1) (yl_list (fun H' k _ => (k.fzL sq).sq) al)⟩) h⟩
def rngD (lo : Int) (n : Nat) : List D := (List.range n).map fun (i : Nat) => .int (lo + (i : Int))
theorem yl_rng {K : PySem.W.Frag} {H0 H : Hp} {lo : Int} {n : Nat} : Yl K H0 (Itr lo n) (rngD lo n) H where
  go := fun H' _ _ i hi => by
    have : i < n := by simpa [rngD] using hi
    exact this
  yld := fun H' _ _ i x H'' d hd ⟨e, y⟩ => by
    subst e
    refine ⟨Same.refl _, ?_⟩
    unfold rngD at hd
    rw [List.getElem?_map] at hd
    rcases Nat.lt_or_ge i n with hi | hi
    · rw [List.getElem?_range hi] at hd
      have e : D.int (lo + i) = d := Option.some.inj hd
      subst e y
      exact IsS.s_int
    · rw [List.getElem?_eq_none_iff.mpr (by simpa using hi)] at hd; cases hd
  stop := fun H' _ _ => by
    show n ≤ (rngD lo n).length
    simp [rngD]
variable {wr : WA}
theorem DI.rng1 {p : Pos} (hg : Gl X "range") (hm : X.mg "range" = none) (ha : DA X H0 [a] wr) (hs : starEach [a] X.env = [(false, eval a X.env)] := by rfl) :
    DI X H0 tg (.Call (.Name "range" p) [a] [] pos) (fun τ Q => wr τ fun rs => ∃ j : Int, rs = [.st (.int j)] ∧ -(2 ^ 62) ≤ j ∧ j < 2 ^ 62 ∧ Q (rngD 0 j.toNat) τ) where
  mono := fun τ P Q f h => ha.mono τ _ _ (fun r ⟨j, e1, h1, h2, q⟩ => ⟨j, e1, h1, h2, f _ _ q⟩) h
  pi := piW (pi_range1 hg hm ha.pa hs) fun σ H R ⟨τ, hR, h⟩ => ⟨τ, hR, ha.mono τ _ _ (fun r ⟨j, e1, h1, h2, q⟩ vs H1 s1 irs => by
    subst e1
    obtain ⟨v, rfl, ir⟩ := allR1 irs
    cases (show v = .int j from ir)
    exact ⟨j, rfl, h1, h2, q _ _ (Kp.of s1) (hR.mono s1) yl_rng⟩) h⟩
theorem allR2 {K : PySem.W.Frag} {H0 H : Hp} {r r' : R} {vs : List V} (h : AllR K H0 H [r, r'] vs) : ∃ v u, vs = [v, u] ∧ IsR K H0 H r v ∧ IsR K H0 H r' u := by
  obtain ⟨v, t, rfl, q, z⟩ := h
  obtain ⟨u, rfl, q'⟩ := allR1 z
  exact ⟨v, u, rfl, q, q'⟩
theorem DI.rng2 {p : Pos} (hg : Gl X "range") (hm : X.mg "range" = none) (ha : DA X H0 [a, b] wr) (hs : starEach [a, b] X.env = [(false, eval a X.env), (false, eval b X.env)] := by rfl) (hs2 : starEach [b] X.env = [(false, eval b X.env)] := by rfl) :
    DI X H0 tg (.Call (.Name "range" p) [a, b] [] pos) (fun τ Q => wr τ fun rs => ∃ i j : Int, rs = [.st (.int i), .st (.int j)] ∧ (-(2 ^ 62) ≤ i ∧ i < 2 ^ 62 ∧ -(2 ^ 62) ≤ j ∧ j < 2 ^ 62) ∧ Q (rngD i (j - i).toNat) τ) where
  mono := fun τ P Q f h => ha.mono τ _ _ (fun r ⟨i, j, e1, h1, q⟩ => ⟨i, j, e1, h1, f _ _ q⟩) h
  pi := piW (pi_range2 hg hm ha.pa hs hs2) fun σ H R ⟨τ, hR, h⟩ => ⟨τ, hR, ha.mono τ _ _ (fun r ⟨i, j, e1, h1, q⟩ vs H1 s1 irs => by
    subst e1
    obtain ⟨v, u, rfl, ir, ir2⟩ := allR2 irs
    cases (show v = .int i from ir)
    cases (show u = .int j from ir2)
    exact ⟨i, j, rfl, h1, q _ _ (Kp.of s1) (hR.mono s1) yl_rng⟩) h⟩
def forW (g : WG) (wb : WS) (E : DEnds) : List D → DSt → Prop
  | [], τ => E.nx τ
  | d :: ds, τ => g d τ fun τ' => wb { E with nx := forW g wb E ds, ct := forW g wb E ds, bk := E.nx } τ'
theorem forW_mono {g : WG} {wb : WS} (hg : ∀ d τ (P Q : DSt → Prop), (∀ τ, P τ → Q τ) → g d τ P → g d τ Q) (hb : ∀ (τ : DSt) (E F : DEnds), E.Le F → wb E τ → wb F τ) {E F : DEnds} (le : E.Le F) : ∀ (ds : List D) (τ : DSt), forW g wb E ds τ → forW g wb F ds τ
  | [], τ, h => le.nx τ h
  | d :: ds, τ, h => hg d τ _ _ (fun τ' h => hb τ' { E with nx := forW g wb E ds, ct := forW g wb E ds, bk := E.nx } { F with nx := forW g wb F ds, ct := forW g wb F ds, bk := F.nx } ⟨fun τ h => forW_mono hg hb le ds τ h, le.rt, le.nx, fun τ h => forW_mono hg hb le ds τ h⟩ h) h
theorem DS.for {body : List Stmt} {wi : WI} {g : WG} {wb : WS} (hp : PassesOwn (model X.prog X.w) X.A X.env X.xe) (hc : X.calm = true) (hi : DI X H0 tg iter wi) (hg : DG X H0 tg g) (hb : DSs X H0 body wb)
    (hs : ∀ x, foldedSetIterable iter X.env x = pure x := by intro _; rfl) : DS X H0 (.For tg iter body [] pos) (fun E τ => wi τ fun ds τ' => forW g wb E ds τ') where
  mono := fun τ E F le h => hi.mono τ _ _ (fun ds τ' h => forW_mono hg.mono hb.mono le ds τ' h) h
  ps := psW (ps_for hp hc hi.pi hg.pg hb.ps hs) fun D σ H ⟨τ, hR, h⟩ => ⟨τ, hR, hi.mono τ _ _ (fun ds τ' h J H1 k1 hR1 yl => by
    refine ⟨fun i m σ H2 => ∃ τ, Rep X.K H0 τ σ H2 ∧ Kp H1 H2 ∧ i ≤ ds.length ∧ m = ds.length - i ∧ forW g wb (liftD X.K H0 H D) (ds.drop i) τ, ⟨ds.length, τ', hR1, Kp.refl _, Nat.zero_le _, rfl, h⟩, ?_⟩
    rintro i m σ2 H2 ⟨τ2, hR2, k2, hi2, rfl, h2⟩
    by_cases hlt : i < ds.length
    · refine .inr ⟨yl.go H2 k2 hR2.same i hlt, fun σ' H' => ∃ τ, Rep X.K H0 τ σ' H' ∧ Kp H1 H' ∧ i + 1 ≤ ds.length ∧ forW g wb (liftD X.K H0 H D) (ds.drop (i + 1)) τ, fun σ' H' ⟨τ3, a3, b3, c3, d3⟩ => ⟨ds.length - (i + 1), by omega, τ3, a3, b3, c3, rfl, d3⟩, fun x H3 y => ?_⟩
      obtain ⟨s3, ix⟩ := yl.yld H2 k2 hR2.same i x H3 _ (List.getElem?_eq_getElem hlt) y
      rw [List.drop_eq_getElem_cons hlt] at h2
      have k3 := k2.trans (Kp.of s3)
      refine ⟨τ2, ds[i], hR2.mono s3, ix, hg.mono _ _ _ _ (fun τ4 h4 σ4 H4 s4 hR4 => ⟨τ4, hR4, ?_⟩) h2⟩
      have k4 := k3.trans (Kp.of s4)
      have k5 := k1.trans k4
      exact hb.mono τ4 { liftD X.K H0 H D with nx := forW g wb (liftD X.K H0 H D) (ds.drop (i + 1)), ct := forW g wb (liftD X.K H0 H D) (ds.drop (i + 1)), bk := (liftD X.K H0 H D).nx } _
        ⟨fun τ5 h5 σ5 H5 kk hR5 => ⟨τ5, hR5, k4.trans kk, hlt, h5⟩, fun _ h => h, fun τ5 h5 σ5 H5 kk hR5 => h5 σ5 H5 (k5.trans kk) hR5, fun τ5 h5 σ5 H5 kk hR5 => ⟨τ5, hR5, k4.trans kk, hlt, h5⟩⟩ h4
    · have e : i = ds.length := by omega
      subst e
      rw [List.drop_length] at h2
      exact .inl ⟨yl.stop H2 k2 hR2.same, h2 σ2 H2 (k1.trans k2) hR2⟩) h⟩
end
end TK
end
section
set_option maxRecDepth 100000
namespace TK
open PySem PySem.Spec PyProof.Rows L2
def clOf (env : Env) : List (Str × NameKind) → List (Str × Addr) → List (Str × Addr)
  | [], acc => acc
  | (n, k) :: r, acc => clOf env r (if (k == NameKind.free) = true then (n, (env.cells.lookup n).getD 0) :: acc else acc)
theorem closureFor_clOf {scope : Scope} {env : Env} (h : ∀ y ∈ scope.names, y.2 = .free → ∃ c, env.cells.lookup y.1 = some c) : closureFor scope env = pure (clOf env scope.names []) := by
  have key : ∀ (l : List (Str × NameKind)) (acc : List (Str × Addr)), (∀ y ∈ l, y.2 = .free → ∃ c, env.cells.lookup y.1 = some c) →
      (forIn l acc fun x r => (if (x.2 == NameKind.free) = true then cellOf env x.1 >>= fun c => pure (ForInStep.yield ((x.1, c) :: r)) else pure (ForInStep.yield r) : Sem (ForInStep (List (Str × Addr))))) = pure (clOf env l acc) := by
    intro l
    induction l with
    | nil => intro acc _; rfl
    | cons x r ih =>
      intro acc hl
      obtain ⟨n, k⟩ := x
      have hr : ∀ y ∈ r, y.2 = .free → ∃ c, env.cells.lookup y.1 = some c := fun y hy => hl y (List.mem_cons_of_mem _ hy)
      rw [List.forIn_cons]
      by_cases hk : (k == NameKind.free) = true
      · obtain ⟨c, hc⟩ := hl (n, k) List.mem_cons_self (eq_of_beq hk)
        have hc : env.cells.lookup n = some c := hc
        have e : cellOf env n = pure c := by unfold cellOf; rw [hc]
        show ((if (k == NameKind.free) = true then cellOf env n >>= fun c => pure (ForInStep.yield ((n, c) :: acc)) else pure (ForInStep.yield acc)) >>= _) = _
        rw [if_pos hk, e]
        show _ = pure (clOf env r (if (k == NameKind.free) = true then (n, (env.cells.lookup n).getD 0) :: acc else acc))
        rw [if_pos hk, hc]
        exact ih _ hr
      · show ((if (k == NameKind.free) = true then cellOf env n >>= fun c => pure (ForInStep.yield ((n, c) :: acc)) else pure (ForInStep.yield acc)) >>= _) = _
        rw [if_neg hk]
        show _ = pure (clOf env r (if (k == NameKind.free) = true then (n, (env.cells.lookup n).getD 0) :: acc else acc))
        rw [if_neg hk]
        exact ih _ hr
  simp only [closureFor]
  rw [key scope.names [] h]
  rfl
theorem clOf_mem {env : Env} : ∀ (l : List (Str × NameKind)) (acc : List (Str × Addr)) (p : Str × Addr), p ∈ clOf env l acc → p ∈ acc ∨ ((p.1, NameKind.free) ∈ l ∧ p.2 = (env.cells.lookup p.1).getD 0)
  | [], acc, p, h => .inl h
  | (n, k) :: r, acc, p, h => by
    rcases clOf_mem r _ p h with q | ⟨q1, q2⟩
    · by_cases hk : (k == NameKind.free) = true
      · rw [if_pos hk] at q
        rcases List.mem_cons.mp q with q | q
        · refine .inr ⟨?_, by rw [q]⟩
          have : k = NameKind.free := eq_of_beq hk
          rw [q, this]; exact List.mem_cons_self
        · exact .inl q
      · rw [if_neg hk] at q; exact .inl q
    · exact .inr ⟨List.mem_cons_of_mem _ q1, q2⟩
theorem clOf_has {env : Env} : ∀ (l : List (Str × NameKind)) (acc : List (Str × Addr)) (n : Str), ((n, NameKind.free) ∈ l ∨ ∃ c, (n, c) ∈ acc) → ∃ c, (n, c) ∈ clOf env l acc
  | [], acc, n, h => by
    rcases h with h | h
    · cases h
    · exact h
  | (m, k) :: r, acc, n, h => by
    refine clOf_has r _ n ?_
    rcases h with h | ⟨c, h⟩
    · rcases List.mem_cons.mp h with e | h
      · cases e
        refine .inr ⟨(env.cells.lookup m).getD 0, ?_⟩
        rw [if_pos (by rfl)]
        exact List.mem_cons_self
      · exact .inl h
    · refine .inr ⟨c, ?_⟩
      split
      · exact List.mem_cons_of_mem _ h
      · exact h
theorem lookup_mem' {α : Type} : ∀ {l : List (Str × α)} {x : Str} {c : α}, l.lookup x = some c → (x, c) ∈ l
  | [], _, _, h => by simp at h
  | (n, d) :: r, x, c, h => by
    rw [List.lookup_cons] at h
    cases e : x == n with
    | true => rw [e] at h; cases h; rw [eq_of_beq e]; exact List.mem_cons_self
    | false => rw [e] at h; exact List.mem_cons_of_mem _ (lookup_mem' h)
theorem mem_lookup' {α : Type} : ∀ {l : List (Str × α)} {x : Str} {c : α}, (x, c) ∈ l → ∃ d, l.lookup x = some d
  | [], _, _, h => by cases h
  | (n, d) :: r, x, c, h => by
    rw [List.lookup_cons]
    cases e : x == n with
    | true => exact ⟨d, rfl⟩
    | false =>
      rcases List.mem_cons.mp h with q | q
      · cases q; simp at e
      · exact mem_lookup' q
def blk (X : Cx) (scope : Scope) (C : Addr) (s : Shared) (H : Hp) (fp : List Addr) (N : List Str) : Cx :=
  { X with N := N, s₀ := s, H₀ := H, env := compEnvC scope (clOf X.env scope.names []) C X.env, outer := X.stack, ex := fp, fn := fun _ => false, pn := [], xe := fun _ _ => False }
structure Blk (X : Cx) (scope : Scope) (N : List Str) (nt : Nat) (cap : List Nat) : Prop where
  kind : scope.kind = .function
  cell : ∀ y ∈ scope.names, y.2 ≠ .cell
  names : ∀ y ∈ scope.names, y.2 = .local → scope.names.lookup y.1 = some .local
  only : ∀ y ∈ scope.names, y.2 = .free → scope.names.lookup y.1 = some .free
  free : ∀ y ∈ scope.names, y.2 = .free → X.env.kindOf y.1 = some .cell ∨ X.env.kindOf y.1 = some .free
  len : N.length = nt + cap.length
  caps : ∀ (j i : Nat) (x : Str), cap[j]? = some i → N[nt + j]? = some x → X.N[i]? = some x ∧ (x, NameKind.free) ∈ scope.names
section
variable {X : Cx} {scope : Scope} {N : List Str} {nt : Nat} {cap : List Nat} {pins : List (Addr × Obj)} {σ : St} {H : Hp} {s : Shared}
theorem cl_cells (I : Inv X pins σ H s) (B : Blk X scope N nt cap) {x : Str} {c : Addr} (h : (clOf X.env scope.names []).lookup x = some c) : X.env.cells.lookup x = some c := by
  rcases clOf_mem _ _ _ (lookup_mem' h) with q | ⟨q1, q2⟩
  · cases q
  · obtain ⟨d, hd⟩ := I.ok.has x (B.free _ q1 rfl)
    have q2 : c = (X.env.cells.lookup x).getD 0 := q2
    rw [hd] at q2 ⊢
    rw [q2]; rfl
theorem cl_has (I : Inv X pins σ H s) (B : Blk X scope N nt cap) {x : Str} (h : (x, NameKind.free) ∈ scope.names) : ∃ c, (clOf X.env scope.names []).lookup x = some c := by
  obtain ⟨c, hc⟩ := clOf_has (env := X.env) scope.names [] x (.inl h)
  exact mem_lookup' hc
theorem relabel_kind {env : Env} {x : Str} {k : NameKind} (h : (relabel scope env).names.lookup x = some k) (hk : k = .cell ∨ k = .free) (nc : ∀ y ∈ scope.names, y.2 ≠ .cell) : (x, NameKind.free) ∈ scope.names := by
  have m := lookup_mem' h
  unfold relabel at m
  obtain ⟨⟨n, k'⟩, hm, e⟩ := List.mem_map.mp m
  dsimp only at e
  split at e
  · rename_i hc
    cases e
    simp only [Bool.and_eq_true] at hc
    have : k' = NameKind.free := eq_of_beq hc.1.1
    rw [← this]; exact hm
  · cases e
    rcases hk with rfl | rfl
    · exact absurd rfl (nc _ hm)
    · exact hm
theorem blk_ok (I : Inv X pins σ H s) (B : Blk X scope N nt cap) {C : Addr} {fp : List Addr} (hC : s.heap.objs.size ≤ C) (hf : ∀ b ∈ fp, FpOk X pins H b) (hfl : ∀ b ∈ fp, b < s.heap.objs.size) : (blk X scope C s H fp N).Ok where
  mod := I.ok.mod
  kind := B.kind
  glob := I.ok.glob
  blt := I.ok.blt
  above := hC
  inj := fun x y c h1 h2 => I.ok.inj x y c (cl_cells I B h1) (cl_cells I B h2)
  has := fun x h => by
    rcases h with h | h
    · exact cl_has I B (relabel_kind h (.inl rfl) B.cell)
    · exact cl_has I B (relabel_kind h (.inr rfl) B.cell)
  cab := fun x c h => by cases h
  hd := I.ok.hd
  frames := I.ok.frames
  stk := .inl rfl
  exf := fun b hb => ⟨Nat.ne_of_lt (Nat.lt_of_lt_of_le (hfl b hb) hC), fun x c h => (hf b hb).2.2.2.2.1 x c (cl_cells I B h)⟩
  bs := I.bs
  bsz := Nat.le_trans I.ok.bsz I.sz
  noex := fun b o e hb => by
    rcases (hf b hb).2.2.2.1 with z | z
    · exact I.ok.noex b o e z
    · exact absurd (Nat.lt_of_lt_of_le (Heap.lt_size e) (Nat.le_trans I.ok.bsz z)) (Nat.lt_irrefl _)
  exfs := fun b hb z => by
    rcases List.mem_cons.mp (I.stkSub b z) with e | e
    · exact (hf b hb).2.1 e
    · exact (hf b hb).2.2.1 e
  funs := I.stack
  frf := I.stkFree
theorem blk_inv (I : Inv X pins σ H s) (B : Blk X scope N nt cap) {C : Addr} {fp : List Addr} (hf : ∀ b ∈ fp, FpOk X pins H b) (hfl : ∀ b ∈ fp, b < s.heap.objs.size) {h' : Heap} {t' : Nat} {m : Str → Option Value}
    (hC : s.heap.objs.size ≤ C) (hns : h'.Ns C m) (k : ∀ b o, s.heap.get? b = some o → h'.get? b = some o) :
    Inv (blk X scope C s H fp N) [] (List.replicate nt none ++ cap.map fun i => (σ[i]?).join) H { s with heap := h', toks := t' } := by
  refine ⟨blk_ok I B hC hf hfl, rfl, I.bare, Un.kept k, ⟨m, hns, fun i x v h1 h2 h3 => ?_⟩, fun x c h => ?_, I.hok.fresh hC, fun x c h => I.freeC x c (cl_cells I B h), (fun p hp => by cases hp), I.hok.kept k, ?_⟩
  · have h1 : N[i]? = some x := h1
    by_cases hi : i < nt
    · rw [List.getElem?_append_left (by rw [List.length_replicate]; exact hi)] at h2
      have := List.mem_of_getElem? h2
      rw [List.mem_replicate] at this
      cases this.2
    · rw [List.getElem?_append_right (by rw [List.length_replicate]; omega), List.length_replicate, List.getElem?_map] at h2
      cases e : cap[i - nt]? with
      | none => rw [e] at h2; cases h2
      | some j =>
        rw [e] at h2
        have h2 : (σ[j]?).join = some v := Option.some.inj h2
        have hσ : σ[j]? = some (some v) := by
          cases q : σ[j]? with
          | none => rw [q] at h2; cases h2
          | some o => rw [q] at h2; exact congrArg some h2
        obtain ⟨hN, hx⟩ := B.caps (i - nt) j x e (by rw [show nt + (i - nt) = i by omega]; exact h1)
        obtain ⟨m0, hn0, hl⟩ := I.loc
        have kd := B.free _ hx rfl
        obtain ⟨u, r, l⟩ := hl j x v hN hσ (.inr kd)
        refine ⟨u, r, ?_⟩
        obtain ⟨c, hc⟩ := cl_has I B hx
        have hcell : ∃ c', X.env.cells.lookup x = some c' ∧ s.heap.IsCell c' (some u) := by
          rcases l with ⟨l1, _⟩ | ⟨_, l2⟩
          · rcases kd with kd | kd
            · rw [kd] at l1; cases l1
            · rw [kd] at l1; cases l1
          · exact l2
        obtain ⟨c', hc', o, ho, hd⟩ := hcell
        rw [cl_cells I B hc] at hc'; cases hc'
        have h3 : Vis (relabel scope X.env) x := h3
        refine .inr ⟨?_, c, hc, o, k _ _ ho, hd⟩
        rcases h3 with h3 | h3 | h3
        · exfalso
          have m1 := lookup_mem' h3
          unfold relabel at m1
          obtain ⟨⟨n, k'⟩, hm, e'⟩ := List.mem_map.mp m1
          dsimp only at e'
          split at e'
          · cases e'
          · cases e'
            have a1 := B.names _ hm rfl
            have a1 : scope.names.lookup x = some .local := a1
            rw [B.only _ hx rfl] at a1; cases a1
        · exact .inl h3
        · exact .inr h3
  · obtain ⟨v, o, ho, hd⟩ := I.cell x c (cl_cells I B h)
    exact ⟨v, o, k _ _ ho, hd⟩
  · rw [List.length_append, List.length_replicate, List.length_map]; exact B.len.symm
end
section
variable {prog : Program} {w : World} {A : Around} {RR : Result → Shared → Prop} {s : Shared}
theorem compLoop_gen {elt target iter : Expr} {ifs : List Expr} {scope : Scope} {pos : Pos} {it acc : Value} {env : Env} (I : Nat → Shared → Prop)
    (turn : ∀ n s, I n s → wpAny (model prog w) A (pyNext it) (fun r s₁ => match r with
      | none => RR (.ok .next) s₁
      | some v => wpAny (model prog w) A (letOwnedTupleGo target it v) (fun _ sa => wpAny (model prog w) A (assign target env v) (fun _ s₂ =>
          wpAny (model prog w) A (forIn ifs true fun c r => if r = true then do let ok ← isTrue c env (eval c env); pure (ForInStep.yield ok) else pure (ForInStep.yield r)) (fun ok s₃ =>
            if ok = true then wpAny (model prog w) A (eval elt env) (fun x s₄ =>
              wpAny (model prog w) A (call (.builtin "list.append") [acc, x]) (fun _ s₅ => ∃ m, m < n ∧ I m s₅) (fun _ _ => False) s₄) (fun _ _ => False) s₃
            else ∃ m, m < n ∧ I m s₃) (fun _ _ => False) s₂) (fun _ _ => False) sa) (fun _ _ => False) s₁) (fun _ _ => False) s)
    (n : Nat) (h : I n s) : codeAny (model prog w) A (.compLoop (.ListComp elt [⟨target, iter, ifs, 0⟩] scope pos) 0 it acc env) RR s := by
  refine codeAny_loop rfl I (fun n s hI => ?_) n h
  show wpAny _ _ ((compTurn (.ListComp elt [⟨target, iter, ifs, 0⟩] scope pos) 0 it acc env).onRaise (fun x => do noteFrame x env; theTreesLotGoes x)) _ _ s
  refine wpAny_noted ?_
  rw [compTurn_list]
  refine wpAny_bind (wpAny_standAt (wpAny_bind (wpAny_mono (turn n s hI) (fun r s₁ h₁ => ?_) fun _ _ h' => h'.elim)))
  cases r with
  | none => exact wpAny_pure h₁
  | some v =>
    refine wpAny_bind (wpAny_mono h₁ (fun _ sa ha => ?_) fun _ _ h' => h'.elim)
    refine wpAny_bind (wpAny_mono ha (fun _ s₂ h₂ => wpAny_bind (wpAny_mono h₂ (fun ok s₃ h₃ => ?_) fun _ _ h' => h'.elim)) fun _ _ h' => h'.elim)
    cases ok with
    | false => exact wpAny_pure ⟨rfl, h₃⟩
    | true =>
      exact wpAny_bind (wpAny_bind (wpAny_mono h₃ (fun x s₄ h₄ => wpAny_bind (wpAny_mono h₄ (fun _ s₅ h₅ => wpAny_pure (wpAny_pure ⟨rfl, h₅⟩)) fun _ _ h' => h'.elim)) fun _ _ h' => h'.elim))
end
structure YlS (K : PySem.W.Frag) (J : It) (ds : List D) (H : Hp) : Prop where
  go : ∀ H', Same H H' → ∀ i, i < ds.length → J.go i H'
  yld : ∀ H', Same H H' → ∀ i x H'' d, ds[i]? = some d → J.yld i H' x H'' → Same H' H'' ∧ IsS K H'' d x
  stop : ∀ H', Same H H' → J.stop ds.length H'
abbrev WIE := DSt → (List D → Prop) → Prop
def liftIE (K : PySem.W.Frag) (H0 : Hp) (wi : WIE) : TI := fun σ H R => ∃ τ, Rep K H0 τ σ H ∧ wi τ fun ds => ∀ J H', Same H H' → YlS K J ds H' → R J H'
structure DIE (X : Cx) (H0 : Hp) (tg iter : Expr) (wi : WIE) : Prop where
  mono : ∀ τ (P Q : List D → Prop), (∀ ds, P ds → Q ds) → wi τ P → wi τ Q
  pi : PI X tg iter (liftIE X.K H0 wi)
def IfsR (X : Cx) (ifs : List Expr) (t : TT) : Prop :=
  ∀ (pins : List (Addr × Obj)) (s : Shared) (σ : St) (H : Hp) (Q : Bool → Hp → Prop), Inv X pins σ H s → t σ H Q →
    wpAny (model X.prog X.w) X.A (forIn ifs true fun c r => if r = true then do let ok ← isTrue c X.env (eval c X.env); pure (ForInStep.yield ok) else pure (ForInStep.yield r)) (TP X pins σ Q) X.xe s
structure DIf (X : Cx) (H0 : Hp) (ifs : List Expr) (t : WT) : Prop where
  mono : ∀ (τ : DSt) (P Q : Bool → Prop), (∀ r, P r → Q r) → t τ P → t τ Q
  pt : IfsR X ifs (liftT X.K H0 t)
theorem DIf.nil {X : Cx} {H0 : Hp} : DIf X H0 [] (fun _ Q => Q true) where
  mono := fun τ P Q f h => f _ h
  pt := fun pins s σ H Q I ⟨τ, hR, h⟩ => wpAny_tests_nil ⟨H, I, h H (Same.refl H)⟩
theorem DIf.one {X : Cx} {H0 : Hp} {c : Expr} {t : WT} (hc : DT X H0 c t) : DIf X H0 [c] t where
  mono := hc.mono
  pt := fun pins s σ H Q I h => wpAny_tests_one (hc.pt pins s σ H Q I h)
def compW (g : WG) (t : WT) (we : WE) : List D → DSt → (List D → Prop) → Prop
  | [], _, Q => Q []
  | d :: ds, τ, Q => g d τ fun τ' => t τ' fun k => if k = true then we τ' fun r => ∃ e, r = .st e ∧ compW g t we ds τ' fun es => Q (e :: es) else compW g t we ds τ' Q
theorem compW_mono {g : WG} {t : WT} {we : WE} (hg : ∀ d τ (P Q : DSt → Prop), (∀ τ, P τ → Q τ) → g d τ P → g d τ Q) (ht : ∀ (τ : DSt) (P Q : Bool → Prop), (∀ r, P r → Q r) → t τ P → t τ Q) (he : ∀ (τ : DSt) (P Q : R → Prop), (∀ r, P r → Q r) → we τ P → we τ Q) :
    ∀ (ds : List D) (τ : DSt) (P Q : List D → Prop), (∀ es, P es → Q es) → compW g t we ds τ P → compW g t we ds τ Q
  | [], _, _, _, f, h => f _ h
  | d :: ds, τ, P, Q, f, h => hg d τ _ _ (fun τ' h => ht τ' _ _ (fun k h => ite_imp (fun h => he τ' _ _ (fun r ⟨e, e1, h⟩ => ⟨e, e1, compW_mono hg ht he ds τ' _ _ (fun es h => f _ h) h⟩) h) (fun h => compW_mono hg ht he ds τ' _ _ f h) h) h) h
def borS : Sl → Option Sl
  | .dat d => some (.dat d)
  | .own ds => some (.bor ds)
  | .bor ds => some (.bor ds)
  | _ => none
def blkSt (nt : Nat) (cap : List Nat) (τ : DSt) : DSt := List.replicate nt none ++ cap.map fun i => ((τ[i]?).join).bind borS
theorem rep_blk {K : PySem.W.Frag} {H0 H : Hp} {τ : DSt} {σ : St} (hR : Rep K H0 τ σ H) (nt : Nat) (cap : List Nat) : Rep K H (blkSt nt cap τ) (List.replicate nt none ++ cap.map fun i => (σ[i]?).join) H := by
  have at_ : ∀ (i : Nat) (s : Sl), (blkSt nt cap τ)[i]? = some (some s) → nt ≤ i ∧ ∃ j t, cap[i - nt]? = some j ∧ τ[j]? = some (some t) ∧ borS t = some s := fun i s e => by
    unfold blkSt at e
    by_cases hi : i < nt
    · rw [List.getElem?_append_left (by rw [List.length_replicate]; exact hi)] at e
      have := List.mem_of_getElem? e
      rw [List.mem_replicate] at this
      cases this.2
    · rw [List.getElem?_append_right (by rw [List.length_replicate]; omega), List.length_replicate, List.getElem?_map] at e
      cases q : cap[i - nt]? with
      | none => rw [q] at e; cases e
      | some j =>
        rw [q] at e
        have e : ((τ[j]?).join).bind borS = some s := Option.some.inj e
        cases q2 : τ[j]? with
        | none => rw [q2] at e; cases e
        | some o =>
          rw [q2] at e
          cases o with
          | none => cases e
          | some t => exact ⟨by omega, j, t, rfl, q2, e⟩
  refine ⟨?_, Same.refl H, fun i s e => ?_, fun i j s t v _ e1 _ m _ _ _ => ?_⟩
  · unfold blkSt
    rw [List.length_append, List.length_append, List.length_map, List.length_map, List.length_replicate, List.length_replicate]
  · obtain ⟨hi, j, t, hc, ht, hb⟩ := at_ i s e
    obtain ⟨v, hv, q⟩ := hR.here j t ht
    refine ⟨v, ?_, ?_⟩
    · rw [List.getElem?_append_right (by rw [List.length_replicate]; omega), List.length_replicate, List.getElem?_map, hc]
      show some ((σ[j]?).join) = _
      rw [hv]; rfl
    · cases t with
      | dat d => cases hb; exact q
      | own ds => cases hb; obtain ⟨a, xs, e, _, q, al⟩ := q; exact ⟨a, xs, e, q, al⟩
      | bor ds => cases hb; obtain ⟨a, xs, e, q, al⟩ := q; exact ⟨a, xs, e, hR.same _ _ q, al⟩
      | dk _ => cases hb
      | dt _ => cases hb
      | ob _ => cases hb
      | ins _ _ _ => cases hb
  · obtain ⟨hi, j', t', hc, ht, hb⟩ := at_ i s e1
    cases t' with
    | dat d => cases hb; cases m
    | own ds => cases hb; cases m
    | bor ds => cases hb; cases m
    | dk _ => cases hb
    | dt _ => cases hb
    | ob _ => cases hb
    | ins _ _ _ => cases hb
end TK
end
section
set_option maxRecDepth 100000
set_option maxHeartbeats 1000000
namespace TK
open PySem PySem.Spec PyProof.Rows L2
theorem heap_same {C : Addr} {h h' : Heap} (sb : Heap.SameBut C h h') : ∀ b o, b ≠ C → h.get? b = some o → h'.get? b = some o := fun b o hb e => (sb.2 b hb).trans e
theorem blk_back {X : Cx} {pins : List (Addr × Obj)} {σ : St} {H2 H' : Hp} {s2 s1 : Shared} {scope : Scope} {C D0 : Addr} {fp : List Addr} {N : List Str} {pb : List (Addr × Obj)} {σ' : St} {vs : List V} {ys : Array Value} {h' : Heap}
    (I2 : Inv X pins σ H2 s2) (Ib : Inv (blk X scope C s2 H2 fp N) pb σ' H' s1) (f2 : ∀ b ∈ fp, FpOk X pins H2 b) (hC : s2.heap.objs.size ≤ C) (hD : s2.heap.objs.size ≤ D0) (hDC : D0 ≠ C) (hD' : H' D0 = none)
    (hl : s1.heap.PlainList D0 ys) (rv : Vals vs ys.toList) (hz : vs.length ≤ sizeLine) (sb : Heap.SameBut C s1.heap h') : Inv X pins σ (upd H' D0 (.lst vs)) { s1 with heap := h' } := by
  have ltC : ∀ b o, s2.heap.get? b = some o → b ≠ C := fun b o e => Nat.ne_of_lt (Nat.lt_of_lt_of_le (Heap.lt_size e) hC)
  have ltD : ∀ b o, s2.heap.get? b = some o → b ≠ D0 := fun b o e => Nat.ne_of_lt (Nat.lt_of_lt_of_le (Heap.lt_size e) hD)
  have keep := heap_same sb
  have base : Un (frs X.stack) fp H2 H' s2.heap s1.heap := Ib.base
  have hC' : H' C = none := Ib.free
  have neC : ∀ b u, H' b = some u → b ≠ C := fun b u e z => by rw [z, hC'] at e; cases e
  have neD : ∀ b u, H' b = some u → b ≠ D0 := fun b u e z => by rw [z, hD'] at e; cases e
  refine I2.call' (s' := { s1 with heap := h' }) (ch := fp) Ib.os ⟨fun b o e n hb hx => keep b o (ltC b o e) (base.keep b o e n hb hx), fun b o e n hb hx => ?_, fun b o e n hx => ?_, fun b o e hx => ?_, fun b xs e => ?_, fun b o u e => ?_, fun b ps e => ?_⟩ (fun b u e => ?_) Ib.bare (fun b hb => ?_)
  · obtain ⟨sl, q⟩ := base.slot b o e n hb hx
    exact ⟨sl, keep b _ (ltC b o e) q⟩
  · rw [upd_ne (ltD b o e)]; exact base.free b o e n hx
  · obtain ⟨o', q⟩ := base.there b o e hx
    exact ⟨o', keep b o' (ltC b o e) q⟩
  · have q := base.tups b xs e
    rw [upd_ne (neD b _ q)]; exact q
  · have q := base.frzs b o u e
    rw [upd_ne (neD b _ q)]; exact q
  · obtain ⟨more, q⟩ := base.tbls b ps e
    exact ⟨more, by rw [upd_ne (neD b _ q)]; exact q⟩
  · by_cases hb : b = D0
    · subst hb
      rw [upd_same] at e; cases e
      obtain ⟨n, ho⟩ := hl
      exact ⟨hz, ys.toList, n, rv, keep b _ hDC (by rw [ho])⟩
    · rw [upd_ne hb] at e
      refine (Ib.hok b u e).stay (fun c v hc q => keep c v ?_ q) (fun c q => by rw [upd_ne (neD c _ q)]; exact q) fun c xs q => by rw [upd_ne (neD c _ q)]; exact q
      rcases hc with z | z
      · rw [z]; exact neC b u e
      · exact neC c _ z
  · obtain ⟨_, a2, a3, a4, a5, a6⟩ := f2 b hb
    exact ⟨a4, a2, a5, a6⟩
section
variable {X : Cx} {H0 : Hp} {tg iter elt : Expr} {ifs : List Expr} {scope : Scope} {pos : Pos} {N : List Str} {nt : Nat} {cap : List Nat} {wi : WIE} {g : WG} {t : WT} {we : WE}
def wComp (nt : Nat) (cap : List Nat) (wi : WIE) (g : WG) (t : WT) (we : WE) : WE := fun τ Q => wi τ fun ds => ds.length ≤ sizeLine ∧ compW g t we ds (blkSt nt cap τ) fun es => Q (.nw es)
theorem comp_gen {use : Option (Value → Sem Unit)} {QQ : Value → Shared → Prop} {P : List D → Prop} {npos : Pos} {pins : List (Addr × Obj)} {s : Shared} {σ : St} {H : Hp} {τ : DSt} (hc : X.calm = true) (B : Blk X scope N nt cap) (hi : DIE X H0 tg iter wi)
    (hg : ∀ C s H fp, DG (blk X scope C s H fp N) H tg g) (ht : ∀ C s H fp, DIf (blk X scope C s H fp N) H ifs t) (he : ∀ C s H fp, DE (blk X scope C s H fp N) H elt we) (hs : ∀ x, foldedSetIterable iter X.env x = pure x)
    (I : Inv X pins σ H s) (hR : Rep X.K H0 τ σ H) (hw : wi τ fun ds => ds.length ≤ sizeLine ∧ compW g t we ds (blkSt nt cap τ) P)
    (fin : ∀ (C D0 : Addr) (s2 s4 : Shared) (H2 H4 : Hp) (fp : List Addr) (pb : List (Addr × Obj)) (σ4 : St) (vs : List V) (ys : Array Value) (es : List D) (f : Flow), Inv X pins σ H2 s2 → Same H H2 → Inv (blk X scope C s2 H2 fp N) pb σ4 H4 s4 → (∀ b ∈ fp, FpOk X pins H2 b) →
      s2.heap.objs.size ≤ C → s2.heap.objs.size ≤ D0 → D0 ≠ C → H4 D0 = none → s4.heap.PlainList D0 ys → Vals vs ys.toList → vs.length ≤ sizeLine → Same H2 H4 → AllS X.K H4 es vs → P es → compPost (model X.prog X.w) X.A X.xe use QQ (.ref D0) C (.ok f) s4) :
    wpAny (model X.prog X.w) X.A (comprehension (.ListComp elt [⟨tg, iter, ifs, 0⟩] scope pos) scope X.env npos (newList []) false (eval iter X.env) use) QQ X.xe s := by
  refine wpAny_comprehension_free rfl hs (closureFor_clOf fun y hy e => I.ok.has y.1 (B.free y hy e)) B.kind B.names ?_
  refine thn (hi.pi pins s σ H (fun J H2 => Same H H2 ∧ ∃ ds, YlS X.K J ds H2 ∧ ds.length ≤ sizeLine ∧ compW g t we ds (blkSt nt cap τ) P) I
    ⟨τ, hR, hi.mono τ _ _ (fun ds h J H' sm yl => ⟨sm, ds, yl, h.1, h.2⟩) hw⟩) fun v s1 h1 => thn h1 fun itv s2 h2 => ?_
  obtain ⟨it, fp, tn, J, H2, e, I2, T, st2, f2, sm2, ds, yl, hz, hw2⟩ := h2
  subst e
  have hfl : ∀ b ∈ fp, b < s2.heap.objs.size := fun b hb => by
    obtain ⟨o, ho, _⟩ := T.obj _ _ st2 b hb
    exact Heap.lt_size ho
  have hR2 := hR.mono sm2
  refine wpAny_newObj_type (wpAny_newFunctionEnv B.cell (by intro y hy; simp at hy) (fun h₁ hns₁ hsb₁ => ?_) B.kind)
  dsimp only at hns₁ hsb₁ ⊢
  generalize hH2 : s2.heap.push { cls := .type "list", dict := none, data := .seq ([] : List Value).toArray } = Hq at hns₁ hsb₁ ⊢
  have hC : Hq.objs.size = s2.heap.objs.size + 1 := by rw [← hH2, Heap.size_push]
  have hDC : s2.heap.objs.size ≠ Hq.objs.size := by rw [hC]; exact Nat.ne_of_lt (Nat.lt_succ_self _)
  have hCle : s2.heap.objs.size ≤ Hq.objs.size := by rw [hC]; exact Nat.le_succ _
  have old : ∀ b o, s2.heap.get? b = some o → h₁.get? b = some o := fun b o e => hsb₁.extBut b o (by rw [hC]; exact Nat.ne_of_lt (Nat.lt_succ_of_lt (Heap.lt_size e))) (Heap.get?_push_of_some _ (hH2 ▸ Heap.get?_push_of_some _ e))
  have hacc : h₁.PlainList s2.heap.objs.size #[] := ⟨_, hsb₁.extBut _ _ hDC (Heap.get?_push_of_some _ (hH2 ▸ Heap.get?_push_size _ rfl))⟩
  generalize hCe : Hq.objs.size = C at hns₁ hsb₁ hC hDC hCle ⊢
  generalize hDe : s2.heap.objs.size = D0 at hC hDC hCle hacc ⊢
  have hfl' : ∀ b ∈ fp, b < D0 := fun b hb => hDe ▸ hfl b hb
  have hst₁ : tn 0 h₁ := T.keep _ _ _ st2 fun b _ o e => old b o e
  have Ib0 := blk_inv (C := C) (h' := h₁) (t' := s2.toks + ([] : List (Str × Value)).length) I2 B f2 hfl (by rw [hDe]; exact hCle) hns₁ old
  have hD2 : H2 D0 = none := I2.hok.fresh (by rw [hDe]; exact Nat.le_refl _)
  have nfs : D0 ∉ frs X.stack := fun z => by
    rcases List.mem_cons.mp (I2.stkSub _ z) with e | e
    · have := I2.lt; rw [← e, hDe] at this; exact Nat.lt_irrefl _ this
    · exact I2.nofs (by rw [hDe]; exact Nat.le_refl _) e
  have ncl : ∀ x c, (clOf X.env scope.names []).lookup x = some c → c ≠ D0 := fun x c h z => by
    obtain ⟨v, q⟩ := I2.cell x c (cl_cells I2 B h)
    have := q.lt
    rw [z, hDe] at this
    exact Nat.lt_irrefl _ this
  have pinD : ∀ {pb : List (Addr × Obj)} {σ' : St} {H' : Hp} {s' : Shared} {ys : Array Value} {n : Nat}, Inv (blk X scope C s2 H2 fp N) pb σ' H' s' → H' D0 = none → s'.heap.get? D0 = some { cls := .type "list", data := .seq ys n } →
      Inv (blk X scope C s2 H2 fp N) [(D0, { cls := .type "list", data := .seq ys n })] σ' H' s' := by
    intro pb σ' H' s' ys n I' n' e
    refine I'.pins_of fun p hp => ?_
    have e' : p = (D0, { cls := .type "list", data := .seq ys n }) := by simpa using hp
    subst e'
    exact ⟨e, n', hDC, nfs, fun v z => by cases z⟩
  have fpX : ∀ {H' : Hp} {ob : Obj}, (∀ b ∈ fp, H' b = none) → ∀ b ∈ fp, FpOk (blk X scope C s2 H2 fp N) [(D0, ob)] H' b := by
    intro H' ob hn b hb
    refine ⟨hn b hb, (Nat.ne_of_lt (Nat.lt_of_lt_of_le (hfl' b hb) hCle)), fun z => ?_, .inl hb, fun x c h => (f2 b hb).2.2.2.2.1 x c (cl_cells I2 B h), fun p hp => ?_⟩
    · rcases List.mem_cons.mp (I2.stkSub b z) with e | e
      · exact (f2 b hb).2.1 e
      · exact (f2 b hb).2.2.1 e
    · have e' : p = (D0, ob) := by simpa [blk] using hp
      subst e'
      exact (Nat.ne_of_lt (hfl' b hb)).symm
  let Inn : Nat → Shared → Prop := fun k s' => ∃ (i : Nat) (σ' : St) (H' : Hp) (τ' : DSt) (ys : Array Value) (nn : Nat) (vs : List V) (es : List D), Inv (blk X scope C s2 H2 fp N) [(D0, { cls := .type "list", data := .seq ys nn })] σ' H' s' ∧ Rep X.K H2 τ' σ' H' ∧ tn i s'.heap ∧
    (∀ b ∈ fp, H' b = none) ∧ H' D0 = none ∧ Vals vs ys.toList ∧ AllS X.K H' es vs ∧ i ≤ ds.length ∧ k = ds.length - i ∧ es.length ≤ i ∧ compW g t we (ds.drop i) τ' fun es' => P (es ++ es')
  have loop : ∀ s₃ : Shared, s₃ = { s2 with heap := h₁, toks := s2.toks + ([] : List (Str × Value)).length } →
      codeAny (model X.prog X.w) X.A (.compLoop (.ListComp elt [⟨tg, iter, ifs, 0⟩] scope pos) 0 (.ref it) (.ref D0) (compEnvC scope (clOf X.env scope.names []) C X.env))
        (compPost (model X.prog X.w) X.A X.xe use QQ (.ref D0) C) s₃ := by
    rintro s₃ rfl
    obtain ⟨nn, ho⟩ := id hacc
    refine compLoop_gen Inn ?_ ds.length ⟨0, _, H2, blkSt nt cap τ, #[], nn, [], [], pinD Ib0 hD2 ho, rep_blk hR2 nt cap, hst₁, fun b hb => (f2 b hb).1, hD2, .nil, AllS.nil, Nat.zero_le _, rfl, Nat.le_refl _, by simpa using hw2⟩
    rintro k s3 ⟨i, σ3, H3, τ3, ys, nn, vs, es, I3, R3, st3, fr3, d3, rv3, al3, hi3, rfl, hes, w3⟩
    have hsame3 : Same H2 H3 := R3.same
    by_cases hlt : i < ds.length
    · refine wpAny_mono (T.item (blk X scope C s2 H2 fp N) rfl rfl rfl hc i _ s3 σ3 H3 (fun _ _ => False) I3 (fpX fr3) st3 (yl.go H3 hsame3 i hlt)) (fun r s4 ⟨u, hr, h4⟩ => ?_) fun _ _ z => z
      subst hr
      refine wpAny_mono h4 (fun _ s5 ⟨x, H5, I5, r5, y5, st5, fr5⟩ => ?_) fun _ _ z => z
      obtain ⟨s35, ix⟩ := yl.yld H3 hsame3 i x H5 _ (List.getElem?_eq_getElem hlt) y5
      rw [List.drop_eq_getElem_cons hlt] at w3
      have I5' := I5.pinned (fpX fr5) (T.obj _ _ st5)
      have again : ∀ {σ7 : St} {H7 : Hp} {s7 : Shared} {τ7 : DSt} {ys7 : Array Value} {nn7 : Nat} {vs7 : List V} {es7 : List D}, Inv (blk X scope C s2 H2 fp N) (pinsAt fp s5.heap) σ7 H7 s7 → Rep X.K H2 τ7 σ7 H7 → H7 D0 = none → s7.heap.get? D0 = some { cls := .type "list", data := .seq ys7 nn7 } →
          Vals vs7 ys7.toList → AllS X.K H7 es7 vs7 → es7.length ≤ i + 1 → compW g t we (ds.drop (i + 1)) τ7 (fun es' => P (es7 ++ es')) → ∃ m, m < ds.length - i ∧ Inn m s7 := by
        intro σ7 H7 s7 τ7 ys7 nn7 vs7 es7 I7 R7 d7 o7 rv7 al7 hes7 w7
        have st7 : tn (i + 1) s7.heap := T.keep _ _ _ st5 fun b hb o e => (I7.pin (b, o) (List.mem_append_right _ (mem_pinsAt hb e))).1
        refine ⟨ds.length - (i + 1), by omega, i + 1, σ7, H7, τ7, ys7, nn7, vs7, es7, pinD I7 d7 o7, R7, st7, fun b hb => ?_, d7, rv7, al7, hlt, rfl, hes7, w7⟩
        obtain ⟨o, e, _⟩ := T.obj _ _ st5 b hb
        exact (I7.pin (b, o) (List.mem_append_right _ (mem_pinsAt hb e))).2.1
      refine wpAny_mono ((hg C s2 H2 fp).pg _ s5 σ3 H5 x u (fun σ6 H6 => ∃ τ6, Rep X.K H2 τ6 σ6 H6 ∧ Same H5 H6 ∧ t τ6 fun k => if k = true then we τ6 fun r => ∃ e, r = .st e ∧ compW g t we (ds.drop (i + 1)) τ6 fun es' => P (es ++ (e :: es'))
          else compW g t we (ds.drop (i + 1)) τ6 fun es' => P (es ++ es')) I5' r5 ⟨τ3, ds[i], R3.mono s35, ix, (hg C s2 H2 fp).mono _ _ _ _ (fun τ6 h6 σ6 H6 s56 R6 => ⟨τ6, R6, s56, h6⟩) w3⟩) (fun _ s6 ⟨σ6, H6, I6, τ6, R6, s56, w6⟩ => ?_) fun _ _ z => z
      refine wpAny_mono ((ht C s2 H2 fp).pt _ s6 σ6 H6 (fun k H7 => Same H6 H7 ∧ if k = true then we τ6 fun r => ∃ e, r = .st e ∧ compW g t we (ds.drop (i + 1)) τ6 fun es' => P (es ++ (e :: es'))
          else compW g t we (ds.drop (i + 1)) τ6 fun es' => P (es ++ es')) I6 ⟨τ6, R6, (ht C s2 H2 fp).mono τ6 _ _ (fun k h H7 s67 => ⟨s67, h⟩) w6⟩) (fun ok s7 ⟨H7, I7, s67, w7⟩ => ?_) fun _ _ z => z
      have pd : ∀ {σ' : St} {H' : Hp} {s' : Shared}, Inv (blk X scope C s2 H2 fp N) ([(D0, { cls := .type "list", data := .seq ys nn })] ++ pinsAt fp s5.heap) σ' H' s' → s'.heap.get? D0 = some { cls := .type "list", data := .seq ys nn } ∧ H' D0 = none := fun I' =>
        ⟨(I'.pin (D0, _) (List.mem_append_right _ (List.mem_append_left _ List.mem_cons_self))).1, (I'.pin (D0, _) (List.mem_append_right _ (List.mem_append_left _ List.mem_cons_self))).2.1⟩
      have pf : ∀ {σ' : St} {H' : Hp} {s' : Shared}, Inv (blk X scope C s2 H2 fp N) ([(D0, { cls := .type "list", data := .seq ys nn })] ++ pinsAt fp s5.heap) σ' H' s' → Inv (blk X scope C s2 H2 fp N) (pinsAt fp s5.heap) σ' H' s' := fun I' =>
        I'.pins_of fun p hp => I'.pin p (List.mem_append_right _ (List.mem_append_right _ hp))
      have s37 : Same H3 H7 := s35.trans (s56.trans s67)
      cases ok with
      | false =>
        rw [if_neg Bool.false_ne_true] at w7 ⊢
        exact again (pf I7) (R6.mono s67) (pd I7).2 (pd I7).1 rv3 (al3.mono (Kp.of s37) _ _) (by omega) w7
      | true =>
        rw [if_pos rfl] at w7 ⊢
        refine wpAny_mono ((he C s2 H2 fp).pe _ s7 σ6 H7 (fun v H8 => Same H7 H8 ∧ ∃ e, IsS X.K H8 e v ∧ compW g t we (ds.drop (i + 1)) τ6 fun es' => P (es ++ (e :: es'))) I7
          ⟨τ6, R6.mono s67, (he C s2 H2 fp).mono τ6 _ _ (fun r ⟨e, e1, h⟩ v H8 s78 ir => ⟨s78, e, by subst e1; exact ir, h⟩) w7⟩) (fun y s8 ⟨v8, H8, I8, rv8, s78, e8, ie8, w8⟩ => ?_) fun _ _ z => z
        obtain ⟨o8, d8⟩ := pd I8
        have hys : ys.size ≤ sizeLine := by
          have e1 := rv3.length
          have e2 := al3.length
          have e4 : ys.toList.length = ys.size := by simp
          omega
        refine wpAny_list_append_plain (hsz := hys) ⟨nn, o8⟩ fun h₅ hl₅ hs₅ => ?_
        have I9 : Inv (blk X scope C s2 H2 fp N) (pinsAt fp s5.heap) σ6 H8 { s8 with heap := h₅ } := by
          refine (pf I8).turned (t' := s8.toks) (it := D0) (fun b o hb e => (hs₅.2 b hb).trans e) d8 hDC (.inr (by rw [← hDe]; exact Nat.le_refl _)) ncl (fun p hp z => ?_)
          obtain ⟨q1, _⟩ := of_pinsAt (by simpa [blk] using hp)
          exact Nat.ne_of_lt (hfl' _ q1) z
        obtain ⟨nn9, o9⟩ := hl₅
        refine again I9 (R6.mono (s67.trans s78)) d8 o9 (vs7 := vs ++ [v8]) (es7 := es ++ [e8]) ?_ ((al3.mono (Kp.of (s37.trans s78)) _ _).append (AllS.cons ie8 AllS.nil)) (by rw [List.length_append]; simpa using hes) ?_
        · have : (ys.push y).toList = ys.toList ++ [y] := by simp
          rw [this]
          exact rv3.append (.cons rv8 .nil)
        · simpa using w8
    · have e : i = ds.length := by omega
      subst e
      refine wpAny_mono (T.done (blk X scope C s2 H2 fp N) rfl rfl rfl hc ds.length _ s3 σ3 H3 (fun _ _ => False) I3 (fpX fr3) st3 (yl.stop H3 hsame3)) (fun r s4 ⟨hr, I4⟩ => ?_) fun _ _ z => z
      subst hr
      have o4 := (I4.pin (D0, _) (List.mem_append_right _ List.mem_cons_self)).1
      rw [List.drop_length] at w3
      have w3 : P (es ++ []) := w3
      rw [List.append_nil] at w3
      have hvs : vs.length ≤ sizeLine := by rw [← al3.length]; omega
      exact fin C D0 s2 s4 H2 H3 fp _ σ3 vs ys es _ I2 sm2 I4 f2 (by rw [hDe]; exact hCle) (by rw [hDe]; exact Nat.le_refl _) hDC d3 ⟨nn, o4⟩ rv3 hvs hsame3 al3 w3
  exact codeAny_compStart_list (loop _ rfl) (T.self _ 0 _ _ _ hst₁ (loop _ rfl))
theorem DE.comp (hc : X.calm = true) (B : Blk X scope N nt cap) (hi : DIE X H0 tg iter wi) (hg : ∀ C s H fp, DG (blk X scope C s H fp N) H tg g) (ht : ∀ C s H fp, DIf (blk X scope C s H fp N) H ifs t)
    (he : ∀ C s H fp, DE (blk X scope C s H fp N) H elt we) (hs : ∀ x, foldedSetIterable iter X.env x = pure x := by intro _; rfl) :
    DE X H0 (.ListComp elt [⟨tg, iter, ifs, 0⟩] scope pos) (wComp nt cap wi g t we) where
  mono := fun τ P Q f h => hi.mono τ _ _ (fun ds h => ⟨h.1, compW_mono (hg 0 X.s₀ X.H₀ []).mono (ht 0 X.s₀ X.H₀ []).mono (he 0 X.s₀ X.H₀ []).mono ds _ _ _ (fun es h => f _ h) h.2⟩) h
  pe := by
    intro pins s σ H Q I ⟨τ, hR, hw⟩
    rw [eval_ListComp]
    refine comp_gen hc B hi hg ht he hs I hR hw fun C D0 s2 s4 H2 H4 fp pb σ4 vs ys es f I2 sm2 I4 f2 hC hD hDC hn hl rv hz sm4 al w3 => ?_
    obtain ⟨m4, hn4, _⟩ := id I4.loc
    refine ⟨m4, hn4, fun h' sb => ?_⟩
    exact ⟨.ref D0, _, blk_back I2 I4 f2 hC hD hDC hn hl rv hz sb, rfl, w3 _ _ (sm2.trans (sm4.trans (same_new hn _))) ⟨D0, vs, rfl, sm2.free (I2.hok.fresh hD), upd_same, al.mono (Kp.of (same_new hn _)) _ _⟩⟩
end
end TK
end
section
set_option maxRecDepth 100000
set_option maxHeartbeats 1000000
namespace TK
open PySem PySem.Spec PyProof.Rows L2
section
variable {X : Cx} {H0 : Hp} {tg iter elt : Expr} {ifs : List Expr} {scope : Scope} {pos pos' spos : Pos} {N : List Str} {nt : Nat} {cap : List Nat} {wi : WIE} {g : WG} {t : WT} {we : WE}
theorem DS.setC {i : Nat} {x : Str} (hc : X.calm = true) (B : Blk X scope N nt cap) (hi : DIE X H0 tg iter wi) (hg : ∀ C s H fp, DG (blk X scope C s H fp N) H tg g) (ht : ∀ C s H fp, DIf (blk X scope C s H fp N) H ifs t)
    (he : ∀ C s H fp, DE (blk X scope C s H fp N) H elt we) (hN : X.N.Nodup) (hix : X.N[i]? = some x) (hx : Loc X.env.scope x)
    (hsw : swapsWith (.ListComp elt [⟨tg, iter, ifs, 0⟩] scope pos) (some (.Name x pos')) spos.line X.env = pure true := by rfl) (hs : ∀ x, foldedSetIterable iter X.env x = pure x := by intro _; rfl)
    (hf : X.fn x = true ∨ X.env.scope.names.lookup x = some .local := by first | exact .inl rfl | exact .inr rfl | assumption) :
    DS X H0 (.Assign [.Name x pos'] (.ListComp elt [⟨tg, iter, ifs, 0⟩] scope pos) spos) (wSet i (wComp nt cap wi g t we)) where
  mono := fun τ E F le h => (DE.comp (pos := pos) hc B hi hg ht he hs).mono τ _ _ (fun r h => stoR_mono (fun s h => le.nx _ h) h) h
  ps := by
    intro pins s σ H D I ⟨τ, hR, hw⟩
    rw [exec_Assign_Name_used _ _ _ _ hsw]
    refine wpAny_bind (wpAny_standAt (wpAny_bind ?_))
    show wpAny _ X.A (do let _ ← comprehension (.ListComp elt [⟨tg, iter, ifs, 0⟩] scope pos) scope X.env _ (newList []) false (eval iter X.env) (some (assign (.Name x pos') X.env))) _ _ s
    refine wpAny_bind (wpAny_mono (comp_gen (use := some (assign (.Name x pos') X.env)) (QQ := fun _ s' => SP X pins D .next s') hc B hi hg ht he hs I hR hw fun C D0 s2 s4 H2 H4 fp pb σ4 vs ys es f I2 sm2 I4 f2 hC hD hDC hn hl rv hz sm4 al w3 => ?_)
      (fun _ s' hq => wpAny_pure (wpAny_pure hq)) fun _ _ e => e)
    have Ib : Inv X pins σ (upd H4 D0 (.lst vs)) { s4 with heap := s4.heap } := blk_back I2 I4 f2 hC hD hDC hn hl rv hz ⟨rfl, fun _ _ => rfl⟩
    have hCL : C ≠ X.env.locals := fun z => Nat.lt_irrefl _ (Nat.lt_of_lt_of_le I2.lt (z ▸ hC))
    have hCc : ∀ x c, X.env.cells.lookup x = some c → c ≠ C := fun x c h z => by
      obtain ⟨v, q⟩ := I2.cell x c h
      exact Nat.lt_irrefl _ (Nat.lt_of_lt_of_le q.lt (z ▸ hC))
    show wpAny _ X.A (assign (.Name x pos') X.env (.ref D0)) _ _ s4
    refine wpAny_assign_Name (store_ok2 (v := .ref D0) Ib hN hix hx rfl (fun s5 I5 ⟨a, sb5, ha⟩ => ?_) hf)
    obtain ⟨m4, hn4, _⟩ := id I4.loc
    have hCa : C ≠ a := by
      rcases ha with ha | ha
      · rw [ha]; exact hCL
      · exact fun z => hCc _ _ ha z.symm
    refine ⟨m4, hn4.sameBut sb5 hCa, fun h' sb => ?_⟩
    have hC4 : H4 C = none := I4.free
    have I6 : Inv X pins (σ.set i (some (.ref D0))) (upd H4 D0 (.lst vs)) { s5 with heap := h' } := by
      refine I5.turned (t' := s5.toks) (it := C) (fun b o hb e => (sb.2 b hb).trans e) (by rw [upd_ne (Ne.symm hDC)]; exact hC4) hCL (.inr (Nat.le_trans I2.sz hC)) hCc fun p hp z => ?_
      have := (I2.pin p hp).1
      exact Nat.lt_irrefl _ (Nat.lt_of_lt_of_le (Heap.lt_size this) (z ▸ hC))
    obtain ⟨sl, p, hR'⟩ := hR.store (i := i) (r := .nw es) (v := .ref D0) (H1 := upd H4 D0 (.lst vs)) (sm2.trans (sm4.trans (same_new hn _))) ⟨D0, vs, rfl, sm2.free (I2.hok.fresh hD), upd_same, al.mono (Kp.of (same_new hn _)) _ _⟩ w3
    exact ⟨_, _, I6, p _ _ (Kp.of (sm2.trans (sm4.trans (same_new hn _)))) hR'⟩
end
end TK
end
section
set_option maxRecDepth 100000
set_option maxHeartbeats 1000000
namespace TK
open PySem PySem.Spec PyProof.Rows L2
section
variable {X : Cx} {H0 : Hp} {a b c e tg : Expr} {pos : Pos} {wa wb we : WE} {wr : WA}
theorem DIE.lst (he : DE X H0 e we) : DIE X H0 tg e (fun τ Q => we τ fun r => ∃ ds, lsAny r = some ds ∧ Q ds) where
  mono := fun τ P Q f h => he.mono τ _ _ (fun r ⟨ds, e1, q⟩ => ⟨ds, e1, f _ q⟩) h
  pi := piW (pi_list he.pe) fun σ H R ⟨τ, hR, h⟩ => ⟨τ, hR, he.mono τ _ _ (fun r ⟨ds, e1, q⟩ v H1 s1 ir => by
    obtain ⟨a, xs, rfl, sq, al⟩ := lsAny_of e1 ir
    refine ⟨a, rfl, ⟨xs, sq⟩, q _ _ s1 ⟨fun H' s i hi => ⟨xs, xs[i]'(by rw [← al.length]; exact hi), s.seq sq, List.getElem?_eq_getElem _⟩, fun H' s i x H'' d hd ⟨e, y⟩ => ?_, fun H' s => ⟨xs, s.seq sq, by rw [al.length]; exact Nat.le_refl _⟩⟩⟩
    subst e
    have hx := y xs (s.seq sq)
    obtain ⟨v, hv, q⟩ := (al.mono (Kp.of s) _ _).get hd
    rw [hx] at hv; cases hv
    exact ⟨Same.refl _, q⟩) h⟩
theorem yls_rng {K : PySem.W.Frag} {H : Hp} {lo : Int} {n : Nat} : YlS K (Itr lo n) (rngD lo n) H :=
  ⟨fun H' s => (yl_rng (K := K) (H0 := H) (H := H)).go H' (Kp.of s) s, fun H' s => (yl_rng (K := K) (H0 := H) (H := H)).yld H' (Kp.of s) s, fun H' s => (yl_rng (K := K) (H0 := H) (H := H)).stop H' (Kp.of s) s⟩
theorem DIE.rng1 {p : Pos} (hg : Gl X "range") (hm : X.mg "range" = none) (ha : DA X H0 [a] wr) (hs : starEach [a] X.env = [(false, eval a X.env)] := by rfl) :
    DIE X H0 tg (.Call (.Name "range" p) [a] [] pos) (fun τ Q => wr τ fun rs => ∃ j : Int, rs = [.st (.int j)] ∧ -(2 ^ 62) ≤ j ∧ j < 2 ^ 62 ∧ Q (rngD 0 j.toNat)) where
  mono := fun τ P Q f h => ha.mono τ _ _ (fun r ⟨j, e1, h1, h2, q⟩ => ⟨j, e1, h1, h2, f _ q⟩) h
  pi := piW (pi_range1 hg hm ha.pa hs) fun σ H R ⟨τ, hR, h⟩ => ⟨τ, hR, ha.mono τ _ _ (fun r ⟨j, e1, h1, h2, q⟩ vs H1 s1 irs => by
    subst e1
    obtain ⟨v, rfl, ir⟩ := allR1 irs
    cases (show v = .int j from ir)
    exact ⟨j, rfl, h1, h2, q _ _ s1 yls_rng⟩) h⟩
theorem DIE.rng2 {p : Pos} (hg : Gl X "range") (hm : X.mg "range" = none) (ha : DA X H0 [a, b] wr) (hs : starEach [a, b] X.env = [(false, eval a X.env), (false, eval b X.env)] := by rfl) (hs2 : starEach [b] X.env = [(false, eval b X.env)] := by rfl) :
    DIE X H0 tg (.Call (.Name "range" p) [a, b] [] pos) (fun τ Q => wr τ fun rs => ∃ i j : Int, rs = [.st (.int i), .st (.int j)] ∧ (-(2 ^ 62) ≤ i ∧ i < 2 ^ 62 ∧ -(2 ^ 62) ≤ j ∧ j < 2 ^ 62) ∧ Q (rngD i (j - i).toNat)) where
  mono := fun τ P Q f h => ha.mono τ _ _ (fun r ⟨i, j, e1, h1, q⟩ => ⟨i, j, e1, h1, f _ q⟩) h
  pi := piW (pi_range2 hg hm ha.pa hs hs2) fun σ H R ⟨τ, hR, h⟩ => ⟨τ, hR, ha.mono τ _ _ (fun r ⟨i, j, e1, h1, q⟩ vs H1 s1 irs => by
    subst e1
    obtain ⟨v, u, rfl, ir, ir2⟩ := allR2 irs
    cases (show v = .int i from ir)
    cases (show u = .int j from ir2)
    exact ⟨i, j, rfl, h1, q _ _ s1 yls_rng⟩) h⟩
theorem turnedL {pins : List (Addr × Obj)} {σ : St} {H : Hp} {s : Shared} {h' : Heap} {t' : Nat} {wr : List Addr} (I : Inv X pins σ H s) (k : ∀ b o, b ∉ wr → s.heap.get? b = some o → h'.get? b = some o) (hf : ∀ b ∈ wr, FpOk X pins H b) :
    Inv X pins σ H { s with heap := h', toks := t' } := by
  have nit : ∀ b u, H b = some u → b ∉ wr := fun b u e z => by have := (hf b z).1; rw [e] at this; cases this
  refine I.step (g' := s.gens) (d' := s.drawn) (ch := wr) (fun b hb => ?_) (fun b o _ _ hc e _ => k b o hc e) (fun b o _ _ hc e _ => ⟨o.slots, k b o hc e⟩) (fun _ _ _ _ n => n)
    (fun b o hc e => ⟨o, k b o hc e⟩) (fun _ _ e => e) (fun _ _ _ e => e) (fun b ps e => ⟨#[], by rw [e]; simp⟩) (fun m hm => ?_) (fun b u e => ?_) I.bare
  · obtain ⟨_, f1, _, f3, f4, f5⟩ := hf b hb
    exact ⟨f3, f1, f4, f5⟩
  · obtain ⟨o, es, ep, ho, r⟩ := hm
    exact ⟨o, es, ep, k _ o (fun z => (hf _ z).2.1 rfl) ho, r⟩
  · refine (I.hok b u e).stay (fun c v hc q => k c v ?_ q) (fun _ q => q) fun _ _ q => q
    rcases hc with z | z
    · rw [z]; exact nit b u e
    · exact nit c _ z
def Its (x : Str) : It := ⟨fun i _ => i < x.cps.size, fun i H v H' => H' = H ∧ ∃ c, x.cps[i]? = some c ∧ v = .str ⟨#[c]⟩, fun i _ => i = x.cps.size⟩
theorem turn_str {P : Program} {w : World} {K : PySem.W.Frag} {tg : Expr} {it : Addr} {ty : String} {x : Str} {t : Tok} (hty : ty = "str_ascii_iterator" ∨ ty = "str_iterator") : Turn P w K tg (Its x) [it] it (fun i h => h.IsStrIter it ty x t i) where
  mem := by simp
  obj := fun i h st b hb => by
    have e : b = it := by simpa using hb
    subst e
    obtain ⟨o, e, c, d⟩ := st
    exact ⟨o, e, fun v z => by rw [d] at z; cases z⟩
  keep := fun i h h' ⟨o, e, r⟩ k => ⟨o, k it (by simp) o e, r⟩
  item := by
    intro X hP hw hK hc i pins s σ H E I hf st hg
    subst hP hw hK
    have W : Walks X.prog X.w X.A it [it] [it] x.cps.size (SignAt x) (fun i h => h.IsStrIter it ty x t i) := by
      rcases hty with rfl | rfl
      · exact Walks.strAscii (I.ok.hd hc) it x t
      · exact Walks.strWide (I.ok.hd hc) it x t
    refine W.item i s _ _ hg st fun v h' tk hv st' k => ?_
    obtain ⟨c, u, hc', rfl⟩ := hv
    have I1 : Inv X pins σ H { s with heap := h', toks := tk } := turnedL I k hf
    obtain ⟨o, e, cl, d⟩ := id st'
    refine ⟨_, rfl, go_of (s := { s with heap := h', toks := tk }) e cl d (by rcases hty with rfl | rfl <;> decide) ⟨.str ⟨#[c]⟩, H, I1, ⟨u, rfl⟩, ⟨rfl, c, hc', rfl⟩, st', fun b hb => (hf b hb).1⟩⟩
  done := by
    intro X hP hw hK hc i pins s σ H E I hf st hg
    subst hP hw hK
    have hg : i = x.cps.size := hg
    subst hg
    have W : Walks X.prog X.w X.A it [it] [it] x.cps.size (SignAt x) (fun i h => h.IsStrIter it ty x t i) := by
      rcases hty with rfl | rfl
      · exact Walks.strAscii (I.ok.hd hc) it x t
      · exact Walks.strWide (I.ok.hd hc) it x t
    exact W.done s _ _ st fun h' tk k => ⟨rfl, turnedL I k hf⟩
  self := fun A i s Q E st h => by
    rcases hty with rfl | rfl
    · exact wpAny_pyIter_striter_ascii st h
    · exact wpAny_pyIter_striter_wide st h
def sgnD (x : Str) : List D := x.cps.toList.map fun c => .str ⟨#[c]⟩
theorem yls_str {K : PySem.W.Frag} {H : Hp} {x : Str} : YlS K (Its x) (sgnD x) H where
  go := fun H' _ i hi => by
    have : i < x.cps.size := by simpa [sgnD] using hi
    exact this
  yld := fun H' _ i v H'' d hd ⟨e, c, hc, hv⟩ => by
    subst e hv
    refine ⟨Same.refl _, ?_⟩
    unfold sgnD at hd
    rw [List.getElem?_map] at hd
    have : x.cps.toList[i]? = some c := by simpa using hc
    rw [this] at hd
    have e : D.str ⟨#[c]⟩ = d := Option.some.inj hd
    subst e
    exact IsS.s_str
  stop := fun H' _ => by
    show (sgnD x).length = x.cps.size
    simp [sgnD]
theorem DIE.str (he : DE X H0 e we) : DIE X H0 tg e (fun τ Q => we τ fun r => ∃ x, r = .st (.str x) ∧ Q (sgnD x)) where
  mono := fun τ P Q f h => he.mono τ _ _ (fun r ⟨ds, e1, q⟩ => ⟨ds, e1, f _ q⟩) h
  pi := by
    intro pins s σ H R I ⟨τ, hR, h⟩
    refine thn (he.pe pins s σ H (fun v H1 => Same H H1 ∧ ∃ x, v = .str x ∧ ∀ J H', Same H H' → YlS X.K J (sgnD x) H' → R J H') I ⟨τ, hR, he.mono τ _ _ (fun r ⟨x, e1, q⟩ v H1 s1 ir => ⟨s1, x, by subst e1; exact ir, q⟩) h⟩) fun u s1 ⟨v, H1, I1, rv, sm, x, e1, q⟩ => ?_
    subst e1
    obtain ⟨t, rfl⟩ := rv
    have fin : ∀ (ty : String), (ty = "str_ascii_iterator" ∨ ty = "str_iterator") → PIE X pins σ tg R (.ref s1.heap.objs.size) { s1 with heap := s1.heap.push { cls := .type ty, data := .fields #[.str x t, .int 0 0] } } := fun ty hty => by
      refine ⟨s1.heap.objs.size, [s1.heap.objs.size], _, _, H1, rfl, I1.kept (t' := s1.toks) fun b o e => Heap.get?_push_of_some _ e, turn_str (ty := ty) (x := x) (t := t) hty, ⟨_, Heap.get?_push_size _ rfl, rfl, rfl⟩, fun b hb => ?_, q _ _ sm yls_str⟩
      have e : b = s1.heap.objs.size := by simpa using hb
      subst e
      exact I1.fpOk (Nat.le_refl _) (I1.hok.fresh (Nat.le_refl _))
    cases ha : x.cps.all (· < 128)
    · exact wpAny_pyIter_wide ha (fin _ (.inr rfl))
    · exact wpAny_pyIter_ascii ha (fin _ (.inl rfl))
end
end TK
end
section
set_option maxRecDepth 100000
set_option maxHeartbeats 1000000
namespace TK
open PySem PySem.Spec PyProof.Rows L2
section
variable {X : Cx} {H0 : Hp} {a b c e tg : Expr} {pos : Pos} {wa wb we : WE} {wr : WA}
theorem turnedT {pins : List (Addr × Obj)} {σ : St} {H : Hp} {s : Shared} {h' : Heap} {t' : Nat} {wr : List Addr} {T : Addr} {xs : List V} {its : List Value} (I : Inv X pins σ H s) (k : ∀ b o, b ∉ wr → s.heap.get? b = some o → h'.get? b = some o) (hf : ∀ b ∈ wr, FpOk X pins H b)
    (hT : s.heap.objs.size ≤ T) (ht : IsTup h' T its.toArray) (rv : Vals xs its) (hz : xs.length ≤ sizeLine) : Inv X pins σ (upd H T (.tup xs)) { s with heap := h', toks := t' } := by
  have nit : ∀ b u, H b = some u → b ∉ wr := fun b u e z => by have := (hf b z).1; rw [e] at this; cases this
  have hTn : H T = none := I.hok.fresh hT
  have neT : ∀ b u, H b = some u → b ≠ T := fun b u e z => by rw [z, hTn] at e; cases e
  refine I.step (g' := s.gens) (d' := s.drawn) (ch := wr) (fun b hb => ?_) (fun b o _ _ hc e _ => k b o hc e) (fun b o _ _ hc e _ => ⟨o.slots, k b o hc e⟩) (fun b o _ e n => by rw [upd_ne (Nat.ne_of_lt (Nat.lt_of_lt_of_le (Heap.lt_size e) hT))]; exact n)
    (fun b o hc e => ⟨o, k b o hc e⟩) (fun b _ e => by rw [upd_ne (neT b _ e)]; exact e) (fun b _ _ e => by rw [upd_ne (neT b _ e)]; exact e) (fun b ps e => ⟨#[], by rw [upd_ne (neT b _ e), e]; simp⟩) (fun m hm => ?_) (fun b u e => ?_) I.bare
  · obtain ⟨_, f1, _, f3, f4, f5⟩ := hf b hb
    exact ⟨f3, f1, f4, f5⟩
  · obtain ⟨o, es, ep, ho, r⟩ := hm
    exact ⟨o, es, ep, k _ o (fun z => (hf _ z).2.1 rfl) ho, r⟩
  · by_cases hb : b = T
    · subst hb
      rw [upd_same] at e; cases e
      exact ⟨hz, its, rv, ht⟩
    · rw [upd_ne hb] at e
      refine (I.hok b u e).stay (fun c v hc q => k c v ?_ q) (fun c q => by rw [upd_ne (neT c _ q)]; exact q) fun c xs q => by rw [upd_ne (neT c _ q)]; exact q
      rcases hc with z | z
      · rw [z]; exact nit b u e
      · exact nit c _ z
def enmD (ds : List D) : List D := ds.zipIdx.map fun (p : D × Nat) => .tup [.int (p.2 : Int), p.1]
theorem enmD_get {ds : List D} {i : Nat} {d : D} (h : (enmD ds)[i]? = some d) : ∃ x, ds[i]? = some x ∧ d = .tup [.int (i : Int), x] := by
  unfold enmD at h
  rw [List.getElem?_map, List.getElem?_zipIdx] at h
  cases e : ds[i]? with
  | none => rw [e] at h; cases h
  | some x =>
    rw [e] at h
    have h : D.tup [.int ((0 + i : Nat) : Int), x] = d := Option.some.inj h
    exact ⟨x, rfl, by rw [← h, Nat.zero_add]⟩
theorem enmD_length (ds : List D) : (enmD ds).length = ds.length := by simp [enmD]
def Ies (x : Str) : It := ⟨fun i _ => i < x.cps.size, fun i H v H' => ∃ T c, x.cps[i]? = some c ∧ H T = none ∧ v = .ref T ∧ H' = upd H T (.tup [.int (i : Int), .str ⟨#[c]⟩]), fun i _ => i = x.cps.size⟩
theorem turn_enumS {P : Program} {w : World} {K : PySem.W.Frag} {elts : List Expr} {kk : Nat} {pt : Pos} {en it : Addr} {x : Str} {t : Tok} (hne : en ≠ it) :
    Turn P w K (.Tuple elts kk pt) (Ies x) [en, it] en (fun i h => (∃ old, IsEnum h en it i old) ∧ h.IsStrIter it (strIterType x) x t i) where
  mem := by simp
  obj := fun i h st b hb => by
    obtain ⟨⟨old, he⟩, o, ho, _, d⟩ := st
    rcases List.mem_cons.mp hb with rfl | hb
    · exact ⟨_, he, fun v z => by cases z⟩
    · have e : b = it := by simpa using hb
      subst e
      exact ⟨o, ho, fun v z => by rw [d] at z; cases z⟩
  keep := fun i h h' ⟨⟨old, he⟩, o, ho, r⟩ k => ⟨⟨old, k en (by simp) _ he⟩, o, k it (by simp) o ho, r⟩
  item := by
    intro X hP hw hK hc i pins s σ H E I hf st hg
    subst hP hw hK
    have Dr : Draws X.prog X.w X.A.in1 it [it] x.cps.size (fun i v => ∃ c u, x.cps[i]? = some c ∧ v = .str ⟨#[c]⟩ u) (fun i h => h.IsStrIter it (strIterType x) x t i) := by
      unfold strIterType
      split
      · exact Draws.strAscii (A := X.A.in1) (show X.A.in1.handled = none from I.ok.hd hc) it x t
      · exact Draws.strWide (A := X.A.in1) (show X.A.in1.handled = none from I.ok.hd hc) it x t
    have W := WalksT.enumerateD Dr en hne (by simpa using hne) (by simp)
    have hfw : ∀ b ∈ [en, it], FpOk X pins H b := hf
    refine W.item i s _ _ hg st fun T vals h' tk hv hT hIT mid k => ?_
    obtain ⟨t1, y, ⟨c, u, hc', rfl⟩, rfl⟩ := hv
    refine ⟨_, rfl, W.go elts kk pt i T { s with heap := h', toks := tk } _ _ mid fun h2 st2 k2 => ?_⟩
    have kk2 : ∀ b o, b ∉ [en, it] → s.heap.get? b = some o → h2.get? b = some o := fun b o hb e => k2 b o hb (k b o hb e)
    have hap := W.apart i T h' mid
    have hIT2 : IsTup h2 T ([Value.int (i : Int) t1, Value.str ⟨#[c]⟩ u]).toArray := by
      obtain ⟨o, ho, r⟩ := hIT
      exact ⟨o, k2 T o hap ho, r⟩
    have I2 := turnedT (t' := tk) (xs := [.int (i : Int), .str ⟨#[c]⟩]) I kk2 hfw hT hIT2 (.cons ⟨t1, rfl⟩ (.cons ⟨u, rfl⟩ .nil)) (by show 2 ≤ sizeLine; decide)
    refine ⟨.ref T, _, I2, rfl, ⟨T, c, hc', I.hok.fresh hT, rfl, rfl⟩, st2, fun b hb => ?_⟩
    rw [upd_ne (show b ≠ T from fun z => hap (by rw [← z]; exact hb))]
    exact (hf b hb).1
  done := by
    intro X hP hw hK hc i pins s σ H E I hf st hg
    subst hP hw hK
    have hg : i = x.cps.size := hg
    subst hg
    have Dr : Draws X.prog X.w X.A.in1 it [it] x.cps.size (fun i v => ∃ c u, x.cps[i]? = some c ∧ v = .str ⟨#[c]⟩ u) (fun i h => h.IsStrIter it (strIterType x) x t i) := by
      unfold strIterType
      split
      · exact Draws.strAscii (A := X.A.in1) (show X.A.in1.handled = none from I.ok.hd hc) it x t
      · exact Draws.strWide (A := X.A.in1) (show X.A.in1.handled = none from I.ok.hd hc) it x t
    have W := WalksT.enumerateD Dr en hne (by simpa using hne) (by simp)
    exact W.done s _ _ st fun h' tk k => ⟨rfl, turnedL I k hf⟩
  self := fun A i s Q E ⟨⟨old, he⟩, _⟩ h => wpAny_pyIter_enum he h
theorem yls_enumS {K : PySem.W.Frag} {H : Hp} {x : Str} : YlS K (Ies x) (enmD (sgnD x)) H where
  go := fun H' _ i hi => by
    have : i < x.cps.size := by rw [enmD_length] at hi; simpa [sgnD] using hi
    exact this
  yld := fun H' _ i v H'' d hd ⟨T, c, hc, hT, hv, hH⟩ => by
    subst hH hv
    refine ⟨same_new hT _, ?_⟩
    obtain ⟨y, hy, rfl⟩ := enmD_get hd
    unfold sgnD at hy
    rw [List.getElem?_map] at hy
    have : x.cps.toList[i]? = some c := by simpa using hc
    rw [this] at hy
    have e : D.str ⟨#[c]⟩ = y := Option.some.inj hy
    subst e
    exact IsS.s_tup upd_same (AllS.cons IsS.s_int (AllS.cons IsS.s_str AllS.nil))
  stop := fun H' _ => by
    show (enmD (sgnD x)).length = x.cps.size
    rw [enmD_length]; simp [sgnD]
def Iel (K : PySem.W.Frag) (l : Addr) : It := ⟨fun i H => ∃ xs x, SqL K H l xs ∧ xs[i]? = some x, fun i H v H' => ∃ T x, (∀ xs, SqL K H l xs → xs[i]? = some x) ∧ H T = none ∧ v = .ref T ∧ H' = upd H T (.tup [.int (i : Int), x]), fun i H => ∃ xs, SqL K H l xs ∧ xs.length = i⟩
theorem turn_enumL {P : Program} {w : World} {K : PySem.W.Frag} {elts : List Expr} {kk : Nat} {pt : Pos} {en it l : Addr} (hne : en ≠ it) (hle : l ≠ en) (hli : l ≠ it) :
    Turn P w K (.Tuple elts kk pt) (Iel K l) [en, it] en (fun i h => (∃ old, IsEnum h en it i old) ∧ h.IsListIter it l i) where
  mem := by simp
  obj := fun i h st b hb => by
    obtain ⟨⟨old, he⟩, o, ho, _, d⟩ := st
    rcases List.mem_cons.mp hb with rfl | hb
    · exact ⟨_, he, fun v z => by cases z⟩
    · have e : b = it := by simpa using hb
      subst e
      exact ⟨o, ho, fun v z => by rw [d] at z; cases z⟩
  keep := fun i h h' ⟨⟨old, he⟩, hi⟩ k => ⟨⟨old, k en (by simp) _ he⟩, hi.at fun o e => k it (by simp) o e⟩
  item := by
    intro X hP hw hK hc i pins s σ H E I hf st hg
    subst hP hw hK
    obtain ⟨xs, x, hq, hx⟩ := hg
    obtain ⟨its, rv, p, hz⟩ := I.list hq
    have W := WalksT.enumerate (prog := X.prog) (w := X.w) (A := X.A) (I.ok.hd hc) en it l hne hle hli its.toArray
    obtain ⟨u, hu, ru⟩ := rv.get hx
    have hlt : i < its.toArray.size := by
      rcases Nat.lt_or_ge i its.length with h | h
      · simpa using h
      · rw [List.getElem?_eq_none_iff.mpr h] at hu; cases hu
    refine W.item i s _ _ hlt ⟨st.1, st.2, p.isList⟩ fun T vals h' tk hv hT hIT mid k => ?_
    obtain ⟨t1, y, hy, rfl⟩ := hv
    have ey : y = u := by
      have : its[i]? = some y := by simpa using hy
      rw [hu] at this; exact (Option.some.inj this).symm
    subst ey
    refine ⟨_, rfl, W.go elts kk pt i T { s with heap := h', toks := tk } _ _ mid fun h2 st2 k2 => ?_⟩
    have kk2 : ∀ b o, b ∉ [en, it] → s.heap.get? b = some o → h2.get? b = some o := fun b o hb e => k2 b o hb (k b o hb e)
    have hap := W.apart i T h' mid
    have hIT2 : IsTup h2 T ([Value.int (i : Int) t1, y]).toArray := by
      obtain ⟨o, ho, r⟩ := hIT
      exact ⟨o, k2 T o hap ho, r⟩
    have I2 := turnedT (t' := tk) (xs := [.int (i : Int), x]) I kk2 hf hT hIT2 (.cons ⟨t1, rfl⟩ (.cons ru .nil)) (by show 2 ≤ sizeLine; decide)
    refine ⟨.ref T, _, I2, rfl, ⟨T, x, fun ys hy => by rw [I.list_inj hy hq]; exact hx, I.hok.fresh hT, rfl, rfl⟩, ⟨st2.1, st2.2.1⟩, fun b hb => ?_⟩
    rw [upd_ne (show b ≠ T from fun z => hap (by rw [← z]; exact hb))]
    exact (hf b hb).1
  done := by
    intro X hP hw hK hc i pins s σ H E I hf st hg
    subst hP hw hK
    obtain ⟨xs, hq, hx⟩ := hg
    obtain ⟨its, rv, p, hz⟩ := I.list hq
    have W := WalksT.enumerate (prog := X.prog) (w := X.w) (A := X.A) (I.ok.hd hc) en it l hne hle hli its.toArray
    have hl := rv.length
    have e : i = its.toArray.size := by simp; omega
    subst e
    exact W.done s _ _ ⟨st.1, st.2, p.isList⟩ fun h' tk k => ⟨rfl, turnedL I k hf⟩
  self := fun A i s Q E ⟨⟨old, he⟩, _⟩ h => wpAny_pyIter_enum he h
theorem yls_enumL {K : PySem.W.Frag} {H : Hp} {l : Addr} {xs : List V} {ds : List D} (sq : SqL K H l xs) (al : AllS K H ds xs) : YlS K (Iel K l) (enmD ds) H where
  go := fun H' s i hi => by
    rw [enmD_length] at hi
    exact ⟨xs, xs[i]'(by rw [← al.length]; exact hi), s.seq sq, List.getElem?_eq_getElem _⟩
  yld := fun H' s i v H'' d hd ⟨T, x, hx, hT, hv, hH⟩ => by
    subst hH hv
    refine ⟨same_new hT _, ?_⟩
    obtain ⟨y, hy, rfl⟩ := enmD_get hd
    obtain ⟨v, hv, q⟩ := al.get hy
    rw [hx xs (s.seq sq)] at hv; cases hv
    exact IsS.s_tup upd_same (AllS.cons IsS.s_int (AllS.cons (q.mono (Kp.of (s.trans (same_new hT _))) _ _) AllS.nil))
  stop := fun H' s => ⟨xs, s.seq sq, by rw [enmD_length]; exact al.length.symm⟩
theorem DIE.enumS {elts : List Expr} {kk : Nat} {pt p : Pos} (hg : Gl X "enumerate") (hm : X.mg "enumerate" = none) (hv : bootBuiltins "enumerate" = some (.type "enumerate")) (ha : DA X H0 [a] wr) (he : starEach [a] X.env = (false, eval a X.env) :: starEach [] X.env := by rfl) (hpl : (backTo pos (starEach [] X.env)).any (·.1) = false := by rfl) :
    DIE X H0 (.Tuple elts kk pt) (.Call (.Name "enumerate" p) [a] [] pos) (fun τ Q => wr τ fun rs => (∃ x, rs = [.st (.str x)] ∧ Q (enmD (sgnD x))) ∨ ∃ r ds, rs = [r] ∧ lsAny r = some ds ∧ Q (enmD ds)) where
  mono := fun τ P Q f h => ha.mono τ _ _ (fun r h => h.imp (fun ⟨x, e1, q⟩ => ⟨x, e1, f _ q⟩) fun ⟨r, ds, e1, e2, q⟩ => ⟨r, ds, e1, e2, f _ q⟩) h
  pi := by
    intro pins s σ H R I ⟨τ, hR, h⟩
    refine wpAny_Call_Name_kw (ld_blt I hg hm hv ?_ (by decide) (by decide))
    refine PyProof.Rows.callWith_type1 (thn (ha.pa pos pins s σ H (fun vs H1 => Same H H1 ∧ ((∃ x, vs = [.str x] ∧ ∀ J H', Same H H' → YlS X.K J (enmD (sgnD x)) H' → R J H') ∨ ∃ l xs ds, vs = [.ref l] ∧ SqL X.K H1 l xs ∧ AllS X.K H1 ds xs ∧ ∀ J H', Same H H' → YlS X.K J (enmD ds) H' → R J H')) I
      ⟨τ, hR, ha.mono τ _ _ (fun rs h vs H1 s1 irs => ⟨s1, ?_⟩) h⟩) fun us s1 ⟨vs, H1, I1, rv, sm, hh⟩ => ?_) he hpl
    · rcases h with ⟨x, e1, q⟩ | ⟨r, ds, e1, e2, q⟩
      · subst e1
        obtain ⟨v, rfl, ir⟩ := allR1 irs
        cases (show v = .str x from ir)
        exact .inl ⟨x, rfl, q⟩
      · subst e1
        obtain ⟨v, rfl, ir⟩ := allR1 irs
        obtain ⟨l, xs, rfl, sq, al⟩ := lsAny_of e2 ir
        exact .inr ⟨l, xs, ds, rfl, sq, al, q⟩
    · have big : ∀ b ∈ [s1.heap.objs.size + 1, s1.heap.objs.size], FpOk X pins H1 b := fun b hb => by
        have hb : s1.heap.objs.size ≤ b := by
          rcases List.mem_cons.mp hb with rfl | hb
          · exact Nat.le_succ _
          · have e : b = s1.heap.objs.size := by simpa using hb
            rw [e]; exact Nat.le_refl _
        exact I1.fpOk hb (I1.hok.fresh hb)
      rcases hh with ⟨x, rfl, q⟩ | ⟨l, xs, ds, rfl, sq, al, q⟩
      · obtain ⟨u, rfl, ru⟩ := vals1 rv
        obtain ⟨t, rfl⟩ := ru
        refine call_enumerate_str fun h' he hi hz k => ?_
        refine wpAny_pyIter_enum he ⟨s1.heap.objs.size + 1, [s1.heap.objs.size + 1, s1.heap.objs.size], _, _, H1, rfl, I1.kept (t' := s1.toks) k, turn_enumS (x := x) (t := t) (Nat.succ_ne_self _), ⟨⟨_, he⟩, hi⟩, big, q _ _ sm yls_enumS⟩
      · obtain ⟨u, rfl, ru⟩ := vals1 rv
        cases (show u = Value.ref l from ru)
        obtain ⟨its, rv', pl, hz'⟩ := I1.list sq
        obtain ⟨o, n, ho, _⟩ := id pl
        have hl : l < s1.heap.objs.size := Heap.lt_size ho
        refine call_enumerate_list pl.isList fun h' he hi hz k => ?_
        refine wpAny_pyIter_enum he ⟨s1.heap.objs.size + 1, [s1.heap.objs.size + 1, s1.heap.objs.size], _, _, H1, rfl, I1.kept (t' := s1.toks) k, turn_enumL (l := l) (Nat.succ_ne_self _) (Nat.ne_of_lt (Nat.lt_succ_of_lt hl)) (Nat.ne_of_lt hl), ⟨⟨_, he⟩, hi⟩, big, q _ _ sm (yls_enumL sq al)⟩
end
end TK
end
section
set_option maxRecDepth 100000
set_option maxHeartbeats 1000000
namespace TK
open PySem PySem.Spec PyProof.Rows L2
section
variable {X : Cx} {H0 : Hp} {a b c e o tg : Expr} {pos apos cpos : Pos} {wa wb we : WE} {wr : WA}
theorem Rep.mutate {K : PySem.W.Frag} {H : Hp} {τ : DSt} {σ : St} {i : Nat} {ds ds' : List D} {a : Addr} {xs xs' : List V} (hR : Rep K H0 τ σ H) (e1 : τ[i]? = some (some (.own ds))) (hv : σ[i]? = some (some (.ref a))) (h0 : H0 a = none) (sq : H a = some (.lst xs)) (al : AllS K H ds' xs') :
    Rep K H0 (τ.set i (some (.own ds'))) σ (upd H a (.lst xs')) := by
  have kp : Kp H (upd H a (.lst xs')) := Kp.upd sq _
  have hl : i < τ.length := by
    rcases Nat.lt_or_ge i τ.length with h | h
    · exact h
    · rw [List.getElem?_eq_none_iff.mpr h] at e1; cases e1
  have old : ∀ (j : Nat) (s : Sl), (τ.set i (some (.own ds')))[j]? = some (some s) → j ≠ i → τ[j]? = some (some s) := fun j s e hj => by rw [List.getElem?_set_ne (fun z => hj z.symm)] at e; exact e
  have mutAt : ∀ (j : Nat) (s : Sl), (τ.set i (some (.own ds')))[j]? = some (some s) → s.mut = true → ∃ t, τ[j]? = some (some t) ∧ t.mut = true := fun j s e m => by
    by_cases hj : j = i
    · subst hj; exact ⟨_, e1, rfl⟩
    · exact ⟨s, old j s e hj, m⟩
  refine ⟨by rw [List.length_set]; exact hR.len, fun b ob hb => ?_, fun j s e => ?_, fun j k s t v hne e2 e3 m1 m2 q1 q2 => ?_⟩
  · rw [upd_ne (ne_of_none hb h0)]; exact hR.same b ob hb
  · by_cases hj : j = i
    · subst hj
      rw [get_set_eq hl] at e; cases e
      exact ⟨_, hv, a, xs', rfl, h0, upd_same, al.mono kp _ _⟩
    · have e := old j s e hj
      obtain ⟨v, q, r⟩ := hR.here j s e
      refine ⟨v, q, ?_⟩
      have ap : s.mut = true → v ≠ .ref a := fun m z => by
        subst z
        exact hR.apart i j _ s (.ref a) (fun z => hj z.symm) e1 e rfl m hv q
      cases s with
      | dat d => exact IsS.mono kp _ _ r
      | own es => obtain ⟨b, ys, e, n, q, t⟩ := r; exact ⟨b, ys, e, n, by rw [upd_ne (fun z => ap rfl (by rw [e, z]))]; exact q, t.mono kp _ _⟩
      | bor es => obtain ⟨b, ys, e, q, t⟩ := r; exact ⟨b, ys, e, q, t.mono kp _ _⟩
      | dk es => obtain ⟨b, ys, e, n, q, t⟩ := r; exact ⟨b, ys, e, n, by rw [upd_ne (fun z => ap rfl (by rw [e, z]))]; exact q, t.mono kp _ _⟩
      | dt es => obtain ⟨b, ys, e, n, q, t⟩ := r; exact ⟨b, ys, e, n, by rw [upd_ne (fun z => ap rfl (by rw [e, z]))]; exact q, t.mono kp _ _⟩
      | ob _ => exact r
      | ins _ _ _ => obtain ⟨e, n, dx, ys, q, t⟩ := r; exact ⟨e, n, dx, ys, by rw [upd_ne (fun z => ap rfl (by rw [e, z]))]; exact q, t.mono kp _ _⟩
  · obtain ⟨s', e2', m1'⟩ := mutAt j s e2 m1
    obtain ⟨t', e3', m2'⟩ := mutAt k t e3 m2
    exact hR.apart j k s' t' v hne e2' e3' m1' m2' q1 q2
theorem Rep.ownAt {K : PySem.W.Frag} {H : Hp} {τ : DSt} {σ : St} {i : Nat} {ds : List D} (hR : Rep K H0 τ σ H) (e1 : τ[i]? = some (some (.own ds))) : ∃ a xs, σ[i]? = some (some (.ref a)) ∧ H0 a = none ∧ H a = some (.lst xs) ∧ AllS K H ds xs := by
  obtain ⟨v, hv, a, xs, rfl, h0, sq, al⟩ := hR.here i _ e1
  exact ⟨a, xs, hv, h0, sq, al⟩
def wAppend (i : Nat) (we : WE) : WS := fun E τ => ∃ ds, τ[i]? = some (some (.own ds)) ∧ we τ fun r => ∃ d, r = .st d ∧ ds.length < sizeLine ∧ E.nx (τ.set i (some (.own (ds ++ [d]))))
theorem DS.append {i : Nat} (ho : PE X o (tVar i)) (he : DE X H0 e we) (hbase : attributeBase o "append" X.env (eval o X.env) = eval o X.env := by rfl)
    (hfew : ((backTo cpos (starEach [e] X.env)).all (fun x => !x.1) && (backToKw cpos (keywordEach [] X.env)).all (fun x => x.1.isSome) && decide ([e].length + ([] : List Keyword).length + (if ([] : List Keyword).isEmpty then 0 else 1) < 30)) = true := by rfl)
    (hline : (apos.endLine == cpos.line) = true := by rfl) (hs : starEach [e] X.env = (false, eval e X.env) :: starEach [] X.env := by rfl) (hplain : (backTo cpos (starEach [] X.env)).any (·.1) = false := by rfl)
    (hsw : swapsWith (.Call (.Attribute o "append" apos) [e] [] cpos) none pos.line X.env = pure false := by rfl) : DS X H0 (.Expr (.Call (.Attribute o "append" apos) [e] [] cpos) pos) (wAppend i we) where
  mono := fun τ E F le ⟨ds, e1, h⟩ => ⟨ds, e1, he.mono τ _ _ (fun r ⟨d, e2, h1, h2⟩ => ⟨d, e2, h1, le.nx _ h2⟩) h⟩
  ps := psW (ps_expr (pe_bm PySem.F.plainAttrs_list PySem.F.slot_list_append PySem.F.type_list_append mt_append ho (pa_cons he.pe pa_nil hs) hbase hfew hline hs hplain) hsw) fun D σ H ⟨τ, hR, ds, e1, h⟩ => by
    obtain ⟨a, xs, hv, h0, sq, al⟩ := hR.ownAt e1
    refine ⟨_, hv, .inl ⟨rfl, _, SqL.of sq⟩, τ, hR, he.mono τ _ _ (fun r ⟨d, e2, h1, h2⟩ v H1 s1 ir => ?_) h⟩
    subst e2
    have hR1 := hR.mono s1
    refine ⟨a, xs, v, rfl, rfl, s1 _ _ sq, by rw [← al.length]; exact h1, h2 σ _ ((Kp.of s1).trans (Kp.upd (s1 _ _ sq) _)) ?_⟩
    exact hR1.mutate e1 hv h0 (s1 _ _ sq) ((al.mono (Kp.of s1) _ _).append (AllS.cons ir AllS.nil))
def wExtend (i : Nat) (we : WE) : WS := fun E τ => ∃ ds, τ[i]? = some (some (.own ds)) ∧ we τ fun r => ∃ es, lsM r = some es ∧ ds.length + es.length ≤ sizeLine ∧ E.nx (τ.set i (some (.own (ds ++ es))))
theorem DS.extend {i : Nat} (ho : PE X o (tVar i)) (he : DE X H0 e we) (hbase : attributeBase o "extend" X.env (eval o X.env) = eval o X.env := by rfl)
    (hfew : ((backTo cpos (starEach [e] X.env)).all (fun x => !x.1) && (backToKw cpos (keywordEach [] X.env)).all (fun x => x.1.isSome) && decide ([e].length + ([] : List Keyword).length + (if ([] : List Keyword).isEmpty then 0 else 1) < 30)) = true := by rfl)
    (hline : (apos.endLine == cpos.line) = true := by rfl) (hs : starEach [e] X.env = (false, eval e X.env) :: starEach [] X.env := by rfl) (hplain : (backTo cpos (starEach [] X.env)).any (·.1) = false := by rfl)
    (hsw : swapsWith (.Call (.Attribute o "extend" apos) [e] [] cpos) none pos.line X.env = pure false := by rfl) : DS X H0 (.Expr (.Call (.Attribute o "extend" apos) [e] [] cpos) pos) (wExtend i we) where
  mono := fun τ E F le ⟨ds, e1, h⟩ => ⟨ds, e1, he.mono τ _ _ (fun r ⟨d, e2, h1, h2⟩ => ⟨d, e2, h1, le.nx _ h2⟩) h⟩
  ps := psW (ps_expr (pe_bm PySem.F.plainAttrs_list PySem.F.slot_list_extend PySem.F.type_list_extend mt_extend ho (pa_cons he.pe pa_nil hs) hbase hfew hline hs hplain) hsw) fun D σ H ⟨τ, hR, ds, e1, h⟩ => by
    obtain ⟨a, xs, hv, h0, sq, al⟩ := hR.ownAt e1
    refine ⟨_, hv, .inl ⟨rfl, _, SqL.of sq⟩, τ, hR, he.mono τ _ _ (fun r ⟨es, e2, h1, h2⟩ v H1 s1 ir => ?_) h⟩
    obtain ⟨b, ys, rfl, sqb, alb⟩ := lsM_of e2 ir
    have hR1 := hR.mono s1
    refine ⟨a, b, xs, ys, rfl, rfl, s1 _ _ sq, sqb, by rw [← al.length, ← alb.length]; exact h1, h2 σ _ ((Kp.of s1).trans (Kp.upd (s1 _ _ sq) _)) ?_⟩
    exact hR1.mutate e1 hv h0 (s1 _ _ sq) ((al.mono (Kp.of s1) _ _).append alb)
theorem DS.pop {i : Nat} {g : WG} (ho : PE X o (tVar i)) (hg : DG X H0 tg g) (hbase : attributeBase o "pop" X.env (eval o X.env) = eval o X.env := by rfl) (hline : (apos.endLine == cpos.line) = true := by rfl)
    (hs : swapsWithSole [tg] (.Call (.Attribute o "pop" apos) [] [] cpos) pos.line X.env = pure false := by rfl) (hw : swappedStores [tg] (.Call (.Attribute o "pop" apos) [] [] cpos) X.env = pure none := by rfl)
    (h1 : (assignEach [tg] X.env).map (·.2) = [assign tg X.env] := by rfl) :
    DS X H0 (.Assign [tg] (.Call (.Attribute o "pop" apos) [] [] cpos) pos) (fun E τ => ∃ ds d, τ[i]? = some (some (.own (ds ++ [d]))) ∧ g d (τ.set i (some (.own ds))) E.nx) where
  mono := fun τ E F le ⟨ds, d, e1, h⟩ => ⟨ds, d, e1, hg.mono _ _ _ _ le.nx h⟩
  ps := psW (ps_asg (pe_bm0 PySem.F.plainAttrs_list PySem.F.slot_list_pop PySem.F.type_list_pop mt_pop ho hbase hline) hg.pg hs hw h1) fun D σ H ⟨τ, hR, ds, d, e1, h⟩ => by
    obtain ⟨a, xs, hv, h0, sq, al⟩ := hR.ownAt e1
    have hl := al.length
    rw [List.length_append, List.length_singleton] at hl
    obtain ⟨v, hx, iv⟩ := al.get (i := ds.length) (d := d) (by simp)
    refine ⟨_, hv, .inl ⟨rfl, _, SqL.of sq⟩, a, xs, v, rfl, rfl, sq, by rw [show xs.length - 1 = ds.length by omega]; exact hx, ?_⟩
    have kp : Kp H (upd H a (.lst xs.dropLast)) := Kp.upd sq _
    have al' : AllS X.K H ds xs.dropLast := by
      have := al.take ds.length
      rw [List.take_left] at this
      rw [List.dropLast_eq_take, show xs.length - 1 = ds.length by omega]
      exact this
    exact ⟨_, d, hR.mutate e1 hv h0 sq al', IsS.mono kp _ _ iv, hg.mono _ _ _ _ (fun τ' h σ' H' s' hR' => h σ' H' (kp.trans (Kp.of s')) hR') h⟩
def strsOf : List D → Option (List Str)
  | [] => some []
  | .str x :: r => (strsOf r).map (x :: ·)
  | _ :: _ => none
theorem strsOf_are {K : PySem.W.Frag} {H : Hp} : ∀ {ds : List D} {ys : List Str} {xs : List V} {us : List Value}, strsOf ds = some ys → AllS K H ds xs → Vals xs us → StrsAre us ys
  | [], ys, xs, us, h, al, rv => by cases h; unfold AllS at al; subst al; cases rv; exact .nil
  | .str x :: r, ys, xs, us, h, al, rv => by
    unfold AllS at al
    obtain ⟨v, t, rfl, iv, al⟩ := al
    unfold IsS at iv
    subst iv
    cases rv with
    | cons r1 r2 =>
      obtain ⟨tk, rfl⟩ := r1
      unfold strsOf at h
      cases q : strsOf r with
      | none => rw [q] at h; cases h
      | some zs => rw [q] at h; cases h; exact .cons _ _ (strsOf_are q al r2)
  | .non :: _, _, _, _, h, _, _ => by cases h
  | .bl _ :: _, _, _, _, h, _, _ => by cases h
  | .int _ :: _, _, _, _, h, _, _ => by cases h
  | .tup _ :: _, _, _, _, h, _, _ => by cases h
  | .lst _ :: _, _, _, _, h, _, _ => by cases h
def wJoin (wo we : WE) : WE := fun τ Q => wo τ fun r1 => ∃ x, r1 = .st (.str x) ∧ we τ fun r => ∃ ds ys, lsAny r = some ds ∧ strsOf ds = some ys ∧ (ys.map (·.length)).sum + ys.length * x.length ≤ 16777216 ∧ Q (.st (.str (Txt.join x ys)))
theorem mt_join : MtR X "str.join" (fun x vs H Q => ∃ z l xs ds ys, x = .str z ∧ vs = [.ref l] ∧ SqL X.K H l xs ∧ AllS X.K H ds xs ∧ strsOf ds = some ys ∧ (ys.map (·.length)).sum + ys.length * z.length ≤ 16777216 ∧ Q (.str (Txt.join z ys)) H) := by
  intro pins s σ H x vs v us Q I rx rv ⟨z, l, xs, ds, ys, e1, e2, sq, al, hs, hz, q⟩
  subst e1 e2
  obtain ⟨t, rfl⟩ := rx
  obtain ⟨u, rfl, ru⟩ := vals1 rv
  cases (show u = Value.ref l from ru)
  obtain ⟨its, rv', pl, _⟩ := I.list sq
  exact join_list pl.isList (by simpa using strsOf_are hs al rv') hz fun t' k => ⟨.str _, H, I.tok k, ⟨t', rfl⟩, q⟩
theorem DE.join {wo : WE} (ho : DE X H0 o wo) (he : DE X H0 e we) (hbase : attributeBase o "join" X.env (eval o X.env) = eval o X.env := by rfl)
    (hfew : ((backTo cpos (starEach [e] X.env)).all (fun x => !x.1) && (backToKw cpos (keywordEach [] X.env)).all (fun x => x.1.isSome) && decide ([e].length + ([] : List Keyword).length + (if ([] : List Keyword).isEmpty then 0 else 1) < 30)) = true := by rfl)
    (hline : (apos.endLine == cpos.line) = true := by rfl) (hs : starEach [e] X.env = (false, eval e X.env) :: starEach [] X.env := by rfl) (hplain : (backTo cpos (starEach [] X.env)).any (·.1) = false := by rfl) :
    DE X H0 (.Call (.Attribute o "join" apos) [e] [] cpos) (wJoin wo we) where
  mono := fun τ P Q f h => ho.mono τ _ _ (fun r ⟨x, e1, h⟩ => ⟨x, e1, he.mono τ _ _ (fun r ⟨ds, ys, a1, a2, a3, a4⟩ => ⟨ds, ys, a1, a2, a3, f _ a4⟩) h⟩) h
  pe := peW (pe_bm PySem.F.plainAttrs_str PySem.F.slot_str_join PySem.F.type_str_join mt_join ho.pe (pa_cons he.pe pa_nil hs) hbase hfew hline hs hplain) fun σ H Q ⟨τ, hR, h⟩ => ⟨τ, hR, ho.mono τ _ _ (fun r ⟨x, e1, h⟩ v H1 s1 ir => by
    subst e1
    cases (show v = .str x from ir)
    refine ⟨rfl, τ, hR.mono s1, he.mono τ _ _ (fun r ⟨ds, ys, a1, a2, a3, a4⟩ u H2 s2 iu => ?_) h⟩
    obtain ⟨l, xs, rfl, sq, al⟩ := lsAny_of a1 iu
    exact ⟨x, l, xs, ds, ys, rfl, rfl, sq, al, a2, a3, a4 _ _ (s1.trans s2) isr_str⟩) h⟩
end
end TK
end
section
set_option maxRecDepth 100000
set_option maxHeartbeats 1000000
namespace HT
open PySem PyProof.Rows
section
variable {prog : Program} {w : World} {A : Around} {E : Value → Shared → Prop} {s : Shared}
theorem getItem_tuple_whole {t sl : Addr} {items : Array Value} {vl vu : Value} {lo hi : Option Int} {Q : Value → Shared → Prop} (ht : IsTup s.heap t items) (hs : s.heap.IsSliceOf sl vl vu .none) (pl : IsPart vl lo) (pu : IsPart vu hi)
    (hw : sIx items.size 0 lo = 0 ∧ sIx items.size items.size hi = items.size) (h : Q (.ref t) s) : wpAny (model prog w) A (getItem (.ref t) (.ref sl)) Q E s := by
  obtain ⟨os, hos, hcs, hds⟩ := id hs
  have hTs : s.TypeIs (.ref sl) "slice" := ⟨os, hos, hcs⟩
  unfold getItem
  try with_reducible refine wpAny_holding ?_
  first | refine wpAny_bind (wpAny_pure ?_) | skip
  refine wpAny_bind (wpAny_sequenceKey ht.typeIs (by decide) ?_)
  refine wpAny_bind (wpAny_callSpecial?_slot (name := Str.ofString "__getitem__") ht.typeIs PyProof.Rows.slot_tuple_getitem
    (wpAny_call_entry PyProof.Rows.slot_tuple_getitem ht.typeIs entry_tuple_getitem ?_ (args_tuple_getitem _ _)))
  show wpAny _ _ (Builtin.Tuple.tupleItemsOf (.ref t) >>= _) _ _ s
  refine wpAny_bind (tupleItemsOf_ ht ?_)
  refine wpAny_bind (wpAny_typeOf hTs ?_)
  rw [if_pos (by decide)]
  refine wpAny_bind (sliceApplied_gen hs pl pu ?_)
  have hyes : ((((sIx items.size 0 lo : Nat) : Int) == 0 && (1 : Int) == 1 && (sIx items.size items.size hi - sIx items.size 0 lo) == items.size) = true) := by
    rw [hw.1, hw.2]; simp
  show wpAny _ _ (if (((sIx items.size 0 lo : Nat) : Int) == 0 && (1 : Int) == 1 && (sIx items.size items.size hi - sIx items.size 0 lo) == items.size) = true then _ else _) _ _ s
  rw [if_pos hyes]
  show wpAny _ _ ((typeOf (.ref t) >>= fun y => pure (y == Value.type "tuple")) >>= _) _ _ s
  refine wpAny_bind (wpAny_bind (wpAny_typeOf ht.typeIs (wpAny_pure ?_)))
  rw [if_pos (by decide)]
  first
    | exact wpAny_bind (wpAny_rule (wpAny_pure ⟨_, rfl, wpAny_pure h⟩))
    | exact wpAny_bind (wpAny_rule (wpAny_bind (wpAny_pure (wpAny_pure ⟨_, rfl, wpAny_pure h⟩))))
end
end HT
namespace TK
open PySem PySem.Spec PyProof.Rows L2
def cutL {α : Type} (xs : List α) (lo hi : Option Int) : List α := (xs.drop (HT.sIx xs.length 0 lo)).take (HT.sIx xs.length xs.length hi - HT.sIx xs.length 0 lo)
theorem cut_all {K : PySem.W.Frag} {H : Hp} {ds : List D} {xs : List V} (al : AllS K H ds xs) (lo hi : Option Int) : AllS K H (cutL ds lo hi) (cutV xs lo hi) := by
  unfold cutL cutV
  rw [← al.length]
  exact (al.drop _).take _
section
variable {X : Cx} {H0 : Hp} {a b c e o tg : Expr} {pos p2 : Pos} {wa wb we : WE} {lo hi : Option Expr}
theorem sl_tupW : L2.SlR X (fun x lo hi H Q => ∃ a xs, x = .ref a ∧ H a = some (.tup xs) ∧ ((¬ (HT.sIx xs.length 0 lo = 0 ∧ HT.sIx xs.length xs.length hi = xs.length)) → ∀ p, H p = none → Q (.ref p) (upd H p (.tup (cutV xs lo hi)))) ∧ ((HT.sIx xs.length 0 lo = 0 ∧ HT.sIx xs.length xs.length hi = xs.length) → Q (.ref a) H)) := by
  intro pins s σ H x v vl vu lo hi sl Q I rx hs pl pu h
  obtain ⟨a, xs, rfl, hx, q1, q2⟩ := h
  by_cases hw : HT.sIx xs.length 0 lo = 0 ∧ HT.sIx xs.length xs.length hi = xs.length
  · cases rx
    obtain ⟨its, r, ht, hz⟩ := I.tuple (SqT.of hx)
    have hlen : its.toArray.size = xs.length := by rw [List.size_toArray]; exact r.length.symm
    exact ⟨"tuple", _, PyProof.Rows.slot_tuple_getitem.lookup, ht.typeIs, HT.getItem_tuple_whole ht hs pl pu (by rw [hlen]; exact hw) ⟨.ref a, H, I, rfl, q2 hw⟩⟩
  · exact sl_tup pins s σ H _ v vl vu lo hi sl Q I rx hs pl pu ⟨a, xs, rfl, SqT.of hx, hw, q1 hw⟩
theorem cutV_whole {xs : List V} {lo hi : Option Int} (h : HT.sIx xs.length 0 lo = 0 ∧ HT.sIx xs.length xs.length hi = xs.length) : cutV xs lo hi = xs := by
  unfold cutV; rw [h.1, h.2]; simp
abbrev WO := DSt → (Option Int → Prop) → Prop
def liftO (K : PySem.W.Frag) (H0 : Hp) (w : WO) : TO := fun σ H Q => ∃ τ, Rep K H0 τ σ H ∧ w τ fun o => ∀ H', Same H H' → Q o H'
structure DO (X : Cx) (H0 : Hp) (e : Option Expr) (w : WO) : Prop where
  mono : ∀ (τ : DSt) (P Q : Option Int → Prop), (∀ r, P r → Q r) → w τ P → w τ Q
  po : PO X e (liftO X.K H0 w)
theorem DO.none : DO X H0 none (fun _ Q => Q none) := ⟨fun _ _ _ f h => f _ h, fun pins s σ H Q I ⟨τ, hR, h⟩ => po_none pins s σ H Q I (h H (Same.refl H))⟩
def intR : R → (Int → Prop) → Prop
  | .st (.int i), Q => Q i
  | _, _ => False
theorem intR_of {r : R} {P : Int → Prop} (h : intR r P) : ∃ i, r = .st (.int i) ∧ P i := by
  unfold intR at h
  split at h
  · exact ⟨_, rfl, h⟩
  · exact h.elim
theorem DO.some (he : DE X H0 e we) : DO X H0 (some e) (fun τ Q => we τ fun r => intR r fun i => Q (some i)) where
  mono := fun τ P Q f h => he.mono τ _ _ (fun r h => by obtain ⟨i, rfl, q⟩ := intR_of h; exact f _ q) h
  po := fun pins s σ H Q I ⟨τ, hR, h⟩ => po_some he.pe pins s σ H Q I ⟨τ, hR, he.mono τ _ _ (fun r h v H1 s1 ir => by
    obtain ⟨i, rfl, q⟩ := intR_of h
    exact ⟨i, ir, q H1 s1⟩) h⟩
def slD (x : R) (lo hi : Option Int) (Q : R → Prop) : Prop := match x with
  | .st (.tup ds) => Q (.st (.tup (cutL ds lo hi)))
  | .st (.lst ds) => Q (.nw (cutL ds lo hi))
  | .nw ds => Q (.nw (cutL ds lo hi))
  | .bw ds => Q (.nw (cutL ds lo hi))
  | .st (.str z) => z.length ≤ sizeLine ∧ Q (.st (.str (Txt.slice z lo hi)))
  | _ => False
theorem slD_mono {x : R} {lo hi : Option Int} {P Q : R → Prop} (f : ∀ r, P r → Q r) (h : slD x lo hi P) : slD x lo hi Q := by
  unfold slD at h ⊢
  split at h <;> first | exact f _ h | exact ⟨h.1, f _ h.2⟩ | exact h
theorem sl_str : L2.SlR X (fun x lo hi H Q => ∃ z, x = .str z ∧ z.length ≤ sizeLine ∧ Q (.str (Txt.slice z lo hi)) H) := by
  intro pins s σ H x v vl vu lo hi sl Q I rx hs pl pu h
  obtain ⟨z, rfl, hz, q⟩ := h
  obtain ⟨t, rfl⟩ := rx
  refine ⟨"str", _, PySem.F.slot_str_getitem.lookup, typeIs_str _ _ _, ?_⟩
  obtain ⟨os, hos, hcs, hds⟩ := id hs
  have fin : ∀ (t' : Tok) (k : Nat), EP X pins σ Q (.str (Txt.slice z lo hi) t') { s with toks := k } := fun t' k => ⟨.str _, H, I.tok k, ⟨t', rfl⟩, q⟩
  cases pl with
  | none =>
    cases pu with
    | none => exact wpAny_getItem_str_slice (l := none) (u := none) (st := none) ⟨_, hos, hcs, hds⟩ rfl (post_val_or_str ⟨Nat.le_trans (Txt.slice_le z _ _) hz, fin⟩)
    | int j uj => exact wpAny_getItem_str_slice (l := none) (u := some (j, uj)) (st := none) ⟨_, hos, hcs, hds⟩ rfl (post_val_or_str ⟨Nat.le_trans (Txt.slice_le z _ _) hz, fin⟩)
  | int i ui =>
    cases pu with
    | none => exact wpAny_getItem_str_slice (l := some (i, ui)) (u := none) (st := none) ⟨_, hos, hcs, hds⟩ rfl (post_val_or_str ⟨Nat.le_trans (Txt.slice_le z _ _) hz, fin⟩)
    | int j uj => exact wpAny_getItem_str_slice (l := some (i, ui)) (u := some (j, uj)) (st := none) ⟨_, hos, hcs, hds⟩ rfl (post_val_or_str ⟨Nat.le_trans (Txt.slice_le z _ _) hz, fin⟩)
variable {wl wh : WO}
theorem DE.slice (he : DE X H0 e we) (hl : DO X H0 lo wl) (hh : DO X H0 hi wh) : DE X H0 (.Subscript e (.Slice lo hi none p2) pos) (fun τ Q => we τ fun x => wl τ fun l => wh τ fun u => slD x l u Q) where
  mono := fun τ P Q f h => he.mono τ _ _ (fun x h => hl.mono τ _ _ (fun l h => hh.mono τ _ _ (fun u h => slD_mono f h) h) h) h
  pe := by
    refine peW (pe_slice (sl_tupW.or (sl_list.or sl_str)) he.pe hl.po hh.po) fun σ H Q ⟨τ, hR, h⟩ => ⟨τ, hR, he.mono τ _ _ (fun x h v H1 s1 ir => ⟨τ, hR.mono s1, hl.mono τ _ _ (fun l h H2 s2 => ⟨τ, hR.mono (s1.trans s2), hh.mono τ _ _ (fun u h H3 s3 => ?_) h⟩) h⟩) h⟩
    have ir := ir.mono (s2.trans s3)
    have s13 := s1.trans (s2.trans s3)
    have lists : ∀ ds, lsAny x = some ds → (∀ r, r = R.nw (cutL ds l u) → ∀ v H', Same H H' → IsR X.K H H' r v → Q v H') → rSlL X.K v l u H3 Q := fun ds e1 q => by
      obtain ⟨p, xs, rfl, sq, al⟩ := lsAny_of e1 ir
      exact ⟨p, xs, rfl, sq, fun p' hp => q _ rfl _ _ (s13.trans (same_new hp _)) ⟨p', _, rfl, s13.free hp, upd_same, (cut_all al l u).mono (Kp.of (same_new hp _)) _ _⟩⟩
    unfold slD at h
    split at h
    · have ir : IsS X.K H3 (.tup _) v := ir
      unfold IsS at ir
      obtain ⟨p, xs, rfl, sq, al⟩ := ir
      refine .inl ⟨p, xs, rfl, sq, fun _ p' hp => h _ _ (s13.trans (same_new hp _)) (IsS.s_tup (K := X.K) upd_same ((cut_all al l u).mono (Kp.of (same_new hp _)) _ _)), fun hw => h _ _ s13 (IsS.s_tup (K := X.K) (H := H3) sq ?_)⟩
      have := cut_all al l u
      rw [cutV_whole hw] at this
      exact this
    · exact .inr (.inl (lists _ rfl fun r e1 => by subst e1; exact h))
    · exact .inr (.inl (lists _ rfl fun r e1 => by subst e1; exact h))
    · exact .inr (.inl (lists _ rfl fun r e1 => by subst e1; exact h))
    · cases (show v = .str _ from ir)
      exact .inr (.inr ⟨_, rfl, h.1, h.2 _ _ s13 isr_str⟩)
    · exact h.elim
theorem DE.neg (he : DE X H0 e we) : DE X H0 (.UnaryOp .USub e pos) (fun τ Q => we τ fun r => intR r fun i => Q (.st (.int (-i)))) where
  mono := fun τ P Q f h => he.mono τ _ _ (fun r h => by obtain ⟨i, rfl, q⟩ := intR_of h; exact f _ q) h
  pe := peW (pe_un un_neg he.pe) fun σ H Q ⟨τ, hR, h⟩ => ⟨τ, hR, he.mono τ _ _ (fun r h v H1 s1 ir => by
    obtain ⟨i, rfl, q⟩ := intR_of h
    exact ⟨i, ir, q _ _ s1 isr_int⟩) h⟩
theorem DE.inv (he : DE X H0 e we) : DE X H0 (.UnaryOp .Invert e pos) (fun τ Q => we τ fun r => intR r fun i => Q (.st (.int (Builtin.bitNot i)))) where
  mono := fun τ P Q f h => he.mono τ _ _ (fun r h => by obtain ⟨i, rfl, q⟩ := intR_of h; exact f _ q) h
  pe := peW (pe_un un_inv he.pe) fun σ H Q ⟨τ, hR, h⟩ => ⟨τ, hR, he.mono τ _ _ (fun r h v H1 s1 ir => by
    obtain ⟨i, rfl, q⟩ := intR_of h
    exact ⟨i, ir, q _ _ s1 isr_int⟩) h⟩
end
end TK
end
section
set_option maxRecDepth 100000
set_option maxHeartbeats 1000000
namespace TK
open PySem PySem.Spec PyProof.Rows L2
def ments (w : World) : List DictEntry → List (Str × Int) → Prop
  | [], [] => True
  | e :: es, kv :: kvs => (∃ t, e.key = .str kv.1 t) ∧ e.hash = PyData.keyHash w.params kv.1 ∧ (∃ t, e.val = .int kv.2 t) ∧ ments w es kvs
  | _, _ => False
structure MDict (K : PySem.W.Frag) (w : World) (d : Addr) (kvs : List (Str × Int)) : Prop where
  here : ∃ es ep, K.lookup d = some { cls := .type "dict", data := .dict es ep } ∧ ments w es.toList kvs
  low : (d == sysModules) = false
  nodup : (kvs.map (·.1)).Nodup
theorem ments_of {P : Program} {w : World} : ∀ {es : List DictEntry} {kvs : List (Str × Int)}, ments w es kvs → ∃ vs : List (Key × Value), KV (kvs.map fun kv => ((Sum.inr kv.1 : Key), V.int kv.2)) vs ∧ Pairs (mixKind P w) es vs ∧ (∀ e ∈ es, ∃ k, (mixKind P w).is k e.key = true ∧ e.hash = (mixKind P w).hash k)
  | [], [], _ => ⟨[], .nil, .nil, fun e h => by cases h⟩
  | e :: es, kv :: kvs, h => by
    obtain ⟨⟨t, hk⟩, hh, ⟨t', hv⟩, h⟩ := h
    obtain ⟨vs, h1, h2, h3⟩ := ments_of (P := P) h
    have hi : (mixKind P w).is (.inr kv.1) e.key = true := by rw [hk]; exact mixKind_str P w kv.1 t
    refine ⟨(.inr kv.1, .int kv.2 t') :: vs, .cons ⟨rfl, ⟨t', rfl⟩⟩ h1, .cons hi hv h2, fun e' he' => ?_⟩
    rcases List.mem_cons.mp he' with rfl | he'
    · exact ⟨.inr kv.1, hi, hh⟩
    · exact h3 e' he'
  | [], _ :: _, h => h.elim
  | _ :: _, [], h => h.elim
theorem nodup_inr : ∀ {l : List (Str × Int)}, (l.map (·.1)).Nodup → ((l.map fun kv => ((Sum.inr kv.1 : Key), V.int kv.2)).map (·.1)).Nodup
  | [], _ => by simp
  | kv :: r, h => by
    obtain ⟨h1, h2⟩ := List.nodup_cons.mp (show (kv.1 :: r.map (·.1)).Nodup from h)
    refine List.nodup_cons.mpr ⟨fun m => h1 ?_, nodup_inr h2⟩
    obtain ⟨p, hp, e⟩ := List.mem_map.mp m
    obtain ⟨q, hq, rfl⟩ := List.mem_map.mp hp
    have e : (Sum.inr q.1 : Key) = Sum.inr kv.1 := e
    exact List.mem_map.mpr ⟨q, hq, Sum.inr.inj e⟩
def lkp (kvs : List (Str × Int)) (x : Str) : Option Int := (kvs.find? fun kv => decide (kv.1 = x)).map (·.2)
theorem valV_lkp (x : Str) : ∀ kvs : List (Str × Int), valV (kvs.map fun kv => ((Sum.inr kv.1 : Key), V.int kv.2)) (.inr x) = (lkp kvs x).map V.int
  | [] => rfl
  | kv :: r => by
    have ih := valV_lkp x r
    by_cases e : kv.1 = x
    · rw [List.map_cons, valV_pos (by rw [e]), lkp, List.find?_cons, decide_eq_true e]; rfl
    · have ne : ¬ (Sum.inr kv.1 : Key) = Sum.inr x := fun z => e (Sum.inr.inj z)
      rw [List.map_cons, valV_neg ne, ih, lkp, lkp, List.find?_cons, decide_eq_false e]
theorem MDict.dict {X : Cx} {pins : List (Addr × Obj)} {σ : St} {H : Hp} {s : Shared} {d : Addr} {kvs : List (Str × Int)} (m : MDict X.K X.w d kvs) (I : Inv X pins σ H s) :
    ∃ vs, KV (kvs.map fun kv => ((Sum.inr kv.1 : Key), V.int kv.2)) vs ∧ s.heap.DictOf (mixKind X.prog X.w) d vs := by
  obtain ⟨es, ep, hk, he⟩ := m.here
  obtain ⟨vs, h1, h2, h3⟩ := ments_of (P := X.prog) he
  exact ⟨vs, h1, _, es, ep, I.kIn _ _ hk, ⟨rfl, rfl, rfl⟩, rfl, fun e he => h3 e (by simpa using he), h2, by rw [← h1.keys]; exact nodup_inr m.nodup⟩
section
variable {X : Cx} {H0 : Hp} {a b c e o tg : Expr} {pos pos' p p2 : Pos} {wa wb we : WE} {x : Str} {d : Addr} {kvs : List (Str × Int)}
def strR : R → (Str → Prop) → Prop
  | .st (.str x), Q => Q x
  | _, _ => False
theorem strR_of {r : R} {P : Str → Prop} (h : strR r P) : ∃ i, r = .st (.str i) ∧ P i := by
  unfold strR at h
  split at h
  · exact ⟨_, rfl, h⟩
  · exact h.elim
theorem DE.mget (m : MDict X.K X.w d kvs) (hg : Gl X x) (hm : X.mg x = some (.ref d)) (he : DE X H0 e we) (hs : NoSl e) (hd : (x == ("__debug__" : Str)) = false := by decide) :
    DE X H0 (.Subscript (.Name x p) e pos) (fun τ Q => we τ fun r => strR r fun k => ∃ i, lkp kvs k = some i ∧ Q (.st (.int i))) where
  mono := fun τ P Q f h => he.mono τ _ _ (fun r h => by obtain ⟨k, rfl, i, h1, h2⟩ := strR_of h; exact ⟨i, h1, f _ h2⟩) h
  pe := by
    intro pins s σ H Q I ⟨τ, hR, h⟩
    refine subD_of PySem.F.slot_dict_getitem.lookup hs (ld_glob I hg hm (thn (he.pe pins s σ H (fun v H1 => ∃ k i, v = .str k ∧ lkp kvs k = some i ∧ Q (.int i) H1) I ⟨τ, hR, he.mono τ _ _ (fun r h v H1 s1 ir => ?_) h⟩) fun iv s2 ⟨y, H2, I2, ry, k, i, ey, hl, q⟩ => ?_) hd)
    · obtain ⟨k, rfl, i, h1, h2⟩ := strR_of h
      exact ⟨k, i, ir, h1, h2 _ _ s1 isr_int⟩
    · subst ey
      obtain ⟨vs, rel, dd⟩ := m.dict I2
      obtain ⟨w', hw, rw'⟩ := RelO.some_of (v := .int i) (o := valueAt vs (.inr k)) (by
        have := rel.val (.inr k)
        rw [valV_lkp, hl] at this
        exact this)
      exact ⟨dd.typeIs, wpAny_getItem_of (kV_is (k := .inr k) ry) dd.mapOf hw ⟨.int i, H2, I2.tok _, rw', q⟩⟩
def wMin (kvs : List (Str × Int)) (we : WE) : WT := fun τ Q => we τ fun r => strR r fun k => Q (lkp kvs k).isSome
def wAug (i : Nat) (g : R → R → (R → Prop) → Prop) (we : WE) : WS := fun E τ => ∃ s, τ[i]? = some (some s) ∧ we τ fun y => g (rdS s) y fun r => stoR r fun s' => E.nx (τ.set i (some s'))
theorem DS.aug {i : Nat} {op : Operator} {g : R → R → (R → Prop) → Prop} (ho : OpD X (inplaceOp op) g) (mg : Mono2 g) (he : DE X H0 e we) (hN : X.N.Nodup) (hi : X.N[i]? = some x) (hx : Loc X.env.scope x)
    (hf : X.fn x = true ∨ X.env.scope.names.lookup x = some .local := by first | exact .inl rfl | exact .inr rfl | assumption) : DS X H0 (.AugAssign (.Name x pos') op e pos) (wAug i g we) where
  mono := fun τ E F le ⟨s, e1, h⟩ => ⟨s, e1, he.mono τ _ _ (fun y h => mg _ _ _ _ (fun r h => stoR_mono (fun s h => le.nx _ h) h) h) h⟩
  ps := psW (ps_aug hN hi hx he.pe ho hf) fun D σ H ⟨τ, hR, s, e1, h⟩ => by
    obtain ⟨v, hv, q⟩ := hR.here i s e1
    refine ⟨v, hv, τ, hR, he.mono τ _ _ (fun y h u H1 s1 iu => ?_) h⟩
    have iv : IsV X.K H1 (rdS s) v := (SlR.rd (Hs := fun _ => none) hR.same q).mono s1
    refine ⟨rdS s, y, iv, iu.v, mg _ _ _ _ (fun r h z H2 s2 iz => ?_) h⟩
    obtain ⟨s', p, hR'⟩ := (hR.mono s1).store (i := i) s2 iz h
    exact p _ _ (Kp.of (s1.trans s2)) hR'
theorem oi_sub : OpD X (inplaceOp .Sub) (intD NoC fun i j => i - j) := OpD.ints0 iop_sub
theorem oi_or : OpD X (inplaceOp .BitOr) (intD NoC fun i j => Builtin.bitOr i j) := OpD.ints0 iop_or
def blkB (sc : Scope) (N0 : List Str) (scope : Scope) (N : List Str) (nt : Nat) (cap : List Nat) : Bool :=
  decide (scope.kind = .function) && scope.names.all (fun y => y.2 != .cell) && scope.names.all (fun y => y.2 != .local || scope.names.lookup y.1 == some .local) &&
  scope.names.all (fun y => y.2 != .free || scope.names.lookup y.1 == some .free) && scope.names.all (fun y => y.2 != .free || sc.names.lookup y.1 == some .cell || sc.names.lookup y.1 == some .free) &&
  decide (N.length = nt + cap.length) && (List.range cap.length).all (fun j => match cap[j]?, N[nt + j]? with | some i, some x => N0[i]? == some x && scope.names.contains (x, NameKind.free) | _, _ => false)
theorem blk_of {sc : Scope} {N0 : List Str} {scope : Scope} {N : List Str} {nt : Nat} {cap : List Nat} (h1 : X.env.scope = sc) (h2 : X.N = N0) (h : blkB sc N0 scope N nt cap = true) : Blk X scope N nt cap := by
  subst h1 h2
  unfold blkB at h
  simp only [Bool.and_eq_true] at h
  obtain ⟨⟨⟨⟨⟨⟨a1, a2⟩, a3⟩, a4⟩, a5⟩, a6⟩, a7⟩ := h
  refine ⟨of_decide_eq_true a1, fun y hy => ?_, fun y hy e => ?_, fun y hy e => ?_, fun y hy e => ?_, of_decide_eq_true a6, fun j i x hj hx => ?_⟩
  · simpa using List.all_eq_true.mp a2 y hy
  · have := List.all_eq_true.mp a3 y hy
    rw [e] at this
    simpa using this
  · have := List.all_eq_true.mp a4 y hy
    rw [e] at this
    simpa using this
  · have := List.all_eq_true.mp a5 y hy
    rw [e] at this
    have this : X.env.scope.names.lookup y.1 = some .cell ∨ X.env.scope.names.lookup y.1 = some .free := by simpa using this
    exact this
  · have hlt : j < cap.length := by
      rcases Nat.lt_or_ge j cap.length with h | h
      · exact h
      · rw [List.getElem?_eq_none_iff.mpr h] at hj; cases hj
    have := List.all_eq_true.mp a7 j (List.mem_range.mpr hlt)
    rw [hj, hx] at this
    simpa using this
theorem hu60 {A : Around} {k : Nat} (hr : Room k A) : A.units + 60 < cLine := by have := hr.units; omega
theorem Room.hu1 {A : Around} {k : Nat} (hr : Room k A) : A.units + 1 < cLine := by have := hr.units; omega
end
end TK
end
section
set_option maxRecDepth 100000
set_option maxHeartbeats 1000000
namespace HT
open PySem PySem.Spec PyProof.Rows
open AutoSeq1 (wpAny_loadPart')
section
variable {prog : Program} {w : World} {A : Around} {E : Value → Shared → Prop} {s : Shared}
end
end HT
namespace TK
open PySem PySem.Spec PyProof.Rows L2
section
variable {X : Cx} {H0 : Hp} {a b c e o tg : Expr} {pos pos' p p2 p3 p4 : Pos} {wa wb we : WE}
def wRev (we : WE) : WE := fun τ Q => we τ fun r => ∃ ds, r = .st (.tup ds) ∧ Q (.st (.tup ds.reverse))
def wDget (kvs : List (Str × Int)) (we wz : WE) : WE := fun τ Q => we τ fun r => strR r fun k => wz τ fun z => ∃ d, z = .st d ∧ Q (.st (match lkp kvs k with | some i => .int i | none => d))
structure Disp (X : Cx) (keys : List (Option Expr)) (values : List Expr) (pos : Pos) (kvs : List (Str × Int)) (trs : List (TE × TE)) : Prop where
  pps : PPs X pos keys values trs
  rd : ∀ σ H Q, Q (kvs.map fun kv => (V.str kv.1, V.int kv.2)) H → tPairs trs σ H Q
  all : keys.all (·.isSome) = true
  len : keys.length = values.length
end
end TK
end
section
set_option maxRecDepth 100000
namespace TK
open PySem PySem.Spec PyProof.Rows L2
def wFz (we : WE) : WE := fun τ Q => we τ fun r => fzR r fun d => Q (.st d)
def wB (t : WT) : WE := fun τ Q => t τ fun k => Q (.st (.bl k))
def wTru (we : WE) : WT := fun τ Q => we τ fun r => truR r Q
def oNone : WO := fun _ Q => Q none
def oSome (we : WE) : WO := fun τ Q => we τ fun r => intR r fun i => Q (some i)
def wSl (we : WE) (wl wh : WO) : WE := fun τ Q => we τ fun x => wl τ fun l => wh τ fun u => slD x l u Q
def wNeg (we : WE) : WE := fun τ Q => we τ fun r => intR r fun i => Q (.st (.int (-i)))
def wInv (we : WE) : WE := fun τ Q => we τ fun r => intR r fun i => Q (.st (.int (Builtin.bitNot i)))
def wMget (kvs : List (Str × Int)) (we : WE) : WE := fun τ Q => we τ fun r => strR r fun k => ∃ i, lkp kvs k = some i ∧ Q (.st (.int i))
def tYes : WT := fun _ Q => Q true
def iLst (we : WE) : WI := fun τ Q => we τ fun r => ∃ ds, r = .st (.lst ds) ∧ Q ds τ
def iTup (we : WE) : WI := fun τ Q => we τ fun r => ∃ ds, r = .st (.tup ds) ∧ Q ds τ
def iRng1 (wr : WA) : WI := fun τ Q => wr τ fun rs => ∃ j : Int, rs = [.st (.int j)] ∧ -(2 ^ 62) ≤ j ∧ j < 2 ^ 62 ∧ Q (rngD 0 j.toNat) τ
def iRng2 (wr : WA) : WI := fun τ Q => wr τ fun rs => ∃ i j : Int, rs = [.st (.int i), .st (.int j)] ∧ (-(2 ^ 62) ≤ i ∧ i < 2 ^ 62 ∧ -(2 ^ 62) ≤ j ∧ j < 2 ^ 62) ∧ Q (rngD i (j - i).toNat) τ
def jLst (we : WE) : WIE := fun τ Q => we τ fun r => ∃ ds, lsAny r = some ds ∧ Q ds
def jTup (we : WE) : WIE := fun τ Q => we τ fun r => ∃ ds, r = .st (.tup ds) ∧ Q ds
def jRng1 (wr : WA) : WIE := fun τ Q => wr τ fun rs => ∃ j : Int, rs = [.st (.int j)] ∧ -(2 ^ 62) ≤ j ∧ j < 2 ^ 62 ∧ Q (rngD 0 j.toNat)
def jRng2 (wr : WA) : WIE := fun τ Q => wr τ fun rs => ∃ i j : Int, rs = [.st (.int i), .st (.int j)] ∧ (-(2 ^ 62) ≤ i ∧ i < 2 ^ 62 ∧ -(2 ^ 62) ≤ j ∧ j < 2 ^ 62) ∧ Q (rngD i (j - i).toNat)
def jStr (we : WE) : WIE := fun τ Q => we τ fun r => ∃ x, r = .st (.str x) ∧ Q (sgnD x)
def jEnum (wr : WA) : WIE := fun τ Q => wr τ fun rs => (∃ x, rs = [.st (.str x)] ∧ Q (enmD (sgnD x))) ∨ ∃ r ds, rs = [r] ∧ lsAny r = some ds ∧ Q (enmD ds)
def wFor (wi : WI) (g : WG) (wb : WS) : WS := fun E τ => wi τ fun ds τ' => forW g wb E ds τ'
def wAsg (we : WE) (g : WG) : WS := fun E τ => we τ fun r => ∃ d, r = .st d ∧ g d τ E.nx
def wPop (i : Nat) (g : WG) : WS := fun E τ => ∃ ds d, τ[i]? = some (some (.own (ds ++ [d]))) ∧ g d (τ.set i (some (.own ds))) E.nx
def wRetV (i : Nat) : WS := fun E τ => ∃ s, τ[i]? = some (some s) ∧ outS s E.rt
def wBrk : WS := fun E τ => E.bk τ
def wCnt : WS := fun E τ => E.ct τ
def wNev : WS := fun _ _ => False
structure Df (K : PySem.W.Frag) (mg : Str → Option Value) (name : Str) (st : Stmt) (ps : List Str) (f : Addr) (fd : FuncData) : Prop where
  F : Fun K name name st f fd
  b : Binds K fd ps []
  k : PySem.W.keepIn K (.ref f) = true
  m : mg name = some (.ref f)
abbrev FnD (P : Program) (w : World) (K : PySem.W.Frag) (mg : Str → Option Value) (base : Heap) (k : Nat) (f : Addr) (fd : FuncData) (ps : List Str) (sp : DSp) : Prop := FnOk P w K mg base CX0 k f fd ps (liftSp K ps.length sp)
def Ends1 (r : R) : DEnds := { nx := fun _ => r = .st .non, rt := fun r' => r' = r, bk := fun _ => False, ct := fun _ => False }
section
variable {P : Program} {w : World} {K : PySem.W.Frag} {mg : Str → Option Value} {base : Heap}
theorem Df.ok {x : Str} {st : Stmt} {f : Addr} {fd : FuncData} {N ps : List Str} {k : Nat} {sp : DSp} {ws : WS} (F : Df K mg x st ps f fd) (S : FnScope N ps (defScope st))
    (hbody : ∀ (cdv : Value) (A : Around) (outer : List Env) (s : Shared) (H : Hp) (E : XK), Room k (A.deeper (envOfC x (defScope st) s.heap.objs.size f cdv)) → DSs (cxOf CX0 P w K mg base N x (defScope st) f cdv A outer s H E).nox H (defBody st) ws)
    (hr : ∀ rs r, rs.length = ps.length → sp rs r → ws (Ends1 r) (startD N rs)) : FnD P w K mg base (k + 1) f fd ps sp :=
  Fun.okD F.F S fun cdv A outer s H E hr' => ⟨ws, hbody cdv A outer s H E hr', hr⟩
end
end TK
end
section
set_option maxRecDepth 100000
namespace TK
open PySem PySem.Spec PyProof.Rows L2
section
variable {τ : DSt} {E : DEnds} {Q : R → Prop} {QB : Bool → Prop} {wa wb we : WE} {wr : WA} {t u : WT} {ws wt : WS} {i j : Int} {n : Nat} {x y : Str} {ds es : List D} {d e : D}
@[simp] theorem s_seq : wSeq ws wt E τ = ws { E with nx := wt E } τ := rfl
@[simp] theorem s_next : wNext E τ = E.nx τ := rfl
@[simp] theorem s_ifS : wIfS t ws wt E τ = t τ fun k => if k = true then ws E τ else wt E τ := rfl
@[simp] theorem s_ret : wRet we E τ = we τ fun r => retR r E.rt := rfl
@[simp] theorem s_retV : wRetV n E τ = ∃ s, τ[n]? = some (some s) ∧ outS s E.rt := rfl
@[simp] theorem s_set : wSet n we E τ = we τ fun r => stoR r fun s => E.nx (τ.set n (some s)) := rfl
@[simp] theorem s_aug {g : R → R → (R → Prop) → Prop} : wAug n g we E τ = ∃ s, τ[n]? = some (some s) ∧ we τ fun y => g (rdS s) y fun r => stoR r fun s' => E.nx (τ.set n (some s')) := rfl
@[simp] theorem s_asg {g : WG} : wAsg we g E τ = we τ fun r => ∃ d, r = .st d ∧ g d τ E.nx := rfl
@[simp] theorem s_pop {g : WG} : wPop n g E τ = ∃ ds d, τ[n]? = some (some (.own (ds ++ [d]))) ∧ g d (τ.set n (some (.own ds))) E.nx := rfl
@[simp] theorem s_append : wAppend n we E τ = ∃ ds, τ[n]? = some (some (.own ds)) ∧ we τ fun r => ∃ d, r = .st d ∧ ds.length < sizeLine ∧ E.nx (τ.set n (some (.own (ds ++ [d])))) := rfl
@[simp] theorem s_extend : wExtend n we E τ = ∃ ds, τ[n]? = some (some (.own ds)) ∧ we τ fun r => ∃ es, lsM r = some es ∧ ds.length + es.length ≤ sizeLine ∧ E.nx (τ.set n (some (.own (ds ++ es)))) := rfl
@[simp] theorem s_for {wi : WI} {g : WG} : wFor wi g ws E τ = wi τ fun ds τ' => forW g ws E ds τ' := rfl
@[simp] theorem s_brk : wBrk E τ = E.bk τ := rfl
@[simp] theorem s_cnt : wCnt E τ = E.ct τ := rfl
@[simp] theorem s_nev : wNev E τ = False := rfl
@[simp] theorem s_var : wV n τ Q = ∃ s, τ[n]? = some (some s) ∧ Q (rdS s) := rfl
@[simp] theorem s_con : wC d τ Q = Q (.st d) := rfl
@[simp] theorem s_op {α : Type} {g : R → R → (α → Prop) → Prop} {Q : α → Prop} : wOp g wa wb τ Q = wa τ fun x => wb τ fun y => g x y Q := rfl
@[simp] theorem s_b : wB t τ Q = t τ fun k => Q (.st (.bl k)) := rfl
@[simp] theorem s_tru : wTru we τ QB = we τ fun r => truR r QB := rfl
@[simp] theorem s_and : wAnd t u τ QB = t τ fun k => if k = true then u τ QB else QB false := rfl
@[simp] theorem s_or : wOr t u τ QB = t τ fun k => if k = true then QB true else u τ QB := rfl
@[simp] theorem s_not : wNot t τ QB = t τ fun k => QB (!k) := rfl
@[simp] theorem s_andV : wAndV wa wb τ Q = wa τ fun r => blR r fun k => if k = true then wb τ Q else Q (.st (.bl false)) := rfl
@[simp] theorem s_orV : wOrV wa wb τ Q = wa τ fun r => blR r fun k => if k = true then Q (.st (.bl true)) else wb τ Q := rfl
@[simp] theorem s_notV : wNotV wa τ Q = wa τ fun r => blR r fun k => Q (.st (.bl (!k))) := rfl
@[simp] theorem s_ife : wIf t wa wb τ Q = t τ fun k => if k = true then wa τ Q else wb τ Q := rfl
@[simp] theorem s_nil {Q : List R → Prop} : wNil τ Q = Q [] := rfl
@[simp] theorem s_cons {Q : List R → Prop} : wCons we wr τ Q = we τ fun r => wr τ fun rs => Q (r :: rs) := rfl
@[simp] theorem s_tup : wTup wr τ Q = wr τ fun rs => ∃ ds, stAll rs = some ds ∧ ds.length ≤ sizeLine ∧ Q (.st (.tup ds)) := rfl
@[simp] theorem s_lst : wLst wr τ Q = wr τ fun rs => ∃ ds, stAll rs = some ds ∧ ds.length ≤ sizeLine ∧ Q (.nw ds) := rfl
@[simp] theorem s_fz : wFz we τ Q = we τ fun r => fzR r fun d => Q (.st d) := rfl
@[simp] theorem s_cb {g : List R → (R → Prop) → Prop} : wCB g wr τ Q = wr τ fun rs => g rs Q := rfl
@[simp] theorem s_call {sp : DSp} : wCall sp wr τ Q = wr τ fun rs => rs.all argOk = true ∧ ∃ r, sp (rs.map nrm) r ∧ Q r := rfl
@[simp] theorem s_isi {T : String} : wIsi T we τ Q = we τ fun r => ∃ t, tyOfR r = some t ∧ Q (.st (.bl (isiB T t))) := rfl
@[simp] theorem s_sl {wl wh : WO} : wSl we wl wh τ Q = we τ fun x => wl τ fun l => wh τ fun u => slD x l u Q := rfl
@[simp] theorem s_oN {Q : Option Int → Prop} : oNone τ Q = Q none := rfl
@[simp] theorem s_oS {Q : Option Int → Prop} : oSome we τ Q = we τ fun r => intR r fun i => Q (some i) := rfl
@[simp] theorem s_neg : wNeg we τ Q = we τ fun r => intR r fun i => Q (.st (.int (-i))) := rfl
@[simp] theorem s_mget {kvs : List (Str × Int)} : wMget kvs we τ Q = we τ fun r => strR r fun k => ∃ i, lkp kvs k = some i ∧ Q (.st (.int i)) := rfl
@[simp] theorem s_min {kvs : List (Str × Int)} : wMin kvs we τ QB = we τ fun r => strR r fun k => QB (lkp kvs k).isSome := rfl
@[simp] theorem s_yes : tYes τ QB = QB true := rfl
@[simp] theorem s_comp {cap : List Nat} {wi : WIE} {g : WG} : wComp n cap wi g t we τ Q = wi τ fun ds => ds.length ≤ sizeLine ∧ compW g t we ds (blkSt n cap τ) fun es => Q (.nw es) := rfl
@[simp] theorem s_join : wJoin wa we τ Q = wa τ fun r1 => ∃ x, r1 = .st (.str x) ∧ we τ fun r => ∃ ds ys, lsAny r = some ds ∧ strsOf ds = some ys ∧ (ys.map (·.length)).sum + ys.length * x.length ≤ 16777216 ∧ Q (.st (.str (Txt.join x ys))) := rfl
@[simp] theorem s_gNm {Q : DSt → Prop} : gNm n d τ Q = Q (τ.set n (some (.dat d))) := rfl
@[simp] theorem s_gNl {Q : DSt → Prop} : gNl ds τ Q = (ds = [] ∧ Q τ) := rfl
@[simp] theorem s_gCn {g : WG} {gs : WGs} {Q : DSt → Prop} : gCn g gs ds τ Q = ∃ d r, ds = d :: r ∧ g d τ fun τ' => gs r τ' Q := rfl
@[simp] theorem s_gTp {gs : WGs} {Q : DSt → Prop} : gTp n gs d τ Q = ∃ ds, d = .tup ds ∧ ds.length = n ∧ gs ds τ Q := rfl
@[simp] theorem s_iLst {Q : List D → DSt → Prop} : iLst we τ Q = we τ fun r => ∃ ds, r = .st (.lst ds) ∧ Q ds τ := rfl
@[simp] theorem s_iTup {Q : List D → DSt → Prop} : iTup we τ Q = we τ fun r => ∃ ds, r = .st (.tup ds) ∧ Q ds τ := rfl
@[simp] theorem s_iRng1 {Q : List D → DSt → Prop} : iRng1 wr τ Q = wr τ fun rs => ∃ j : Int, rs = [.st (.int j)] ∧ -(2 ^ 62) ≤ j ∧ j < 2 ^ 62 ∧ Q (rngD 0 j.toNat) τ := rfl
@[simp] theorem s_jLst {Q : List D → Prop} : jLst we τ Q = we τ fun r => ∃ ds, lsAny r = some ds ∧ Q ds := rfl
@[simp] theorem s_jStr {Q : List D → Prop} : jStr we τ Q = we τ fun r => ∃ x, r = .st (.str x) ∧ Q (sgnD x) := rfl
@[simp] theorem s_jRng1 {Q : List D → Prop} : jRng1 wr τ Q = wr τ fun rs => ∃ j : Int, rs = [.st (.int j)] ∧ -(2 ^ 62) ≤ j ∧ j < 2 ^ 62 ∧ Q (rngD 0 j.toNat) := rfl
@[simp] theorem s_jEnum {Q : List D → Prop} : jEnum wr τ Q = wr τ fun rs => (∃ x, rs = [.st (.str x)] ∧ Q (enmD (sgnD x))) ∨ ∃ r ds, rs = [r] ∧ lsAny r = some ds ∧ Q (enmD ds) := rfl
@[simp] theorem s_rev : wRev we τ Q = we τ fun r => ∃ ds, r = .st (.tup ds) ∧ Q (.st (.tup ds.reverse)) := rfl
@[simp] theorem s_dget {kvs : List (Str × Int)} : wDget kvs wa we τ Q = wa τ fun r => strR r fun k => we τ fun z => ∃ d, z = .st d ∧ Q (.st (match lkp kvs k with | some i => .int i | none => d)) := rfl
@[simp] theorem o_rd1 : rdS (.dat d) = .st d := rfl
@[simp] theorem o_rd2 : rdS (.own ds) = .bw ds := rfl
@[simp] theorem o_rd3 : rdS (.bor ds) = .bw ds := rfl
@[simp] theorem o_sl1 : slotOf (.st d) = .dat d := rfl
@[simp] theorem o_sl2 : slotOf (.bw ds) = .bor ds := rfl
@[simp] theorem o_ret1 : retR (.st d) Q = Q (.st d) := rfl
@[simp] theorem o_ret2 : retR (.nw ds) Q = Q (.nw ds) := rfl
@[simp] theorem o_out1 : outS (.dat d) Q = Q (.st d) := rfl
@[simp] theorem o_out2 : outS (.own ds) Q = Q (.nw ds) := rfl
@[simp] theorem o_sto1 {P : Sl → Prop} : stoR (.st d) P = P (.dat d) := rfl
@[simp] theorem o_sto2 {P : Sl → Prop} : stoR (.nw ds) P = P (.own ds) := rfl
@[simp] theorem o_fz1 {P : D → Prop} : fzR (.st d) P = P d := rfl
@[simp] theorem o_fz2 {P : D → Prop} : fzR (.nw ds) P = P (.lst ds) := rfl
@[simp] theorem o_bl {b : Bool} : blR (.st (.bl b)) QB = QB b := rfl
@[simp] theorem o_int {P : Int → Prop} : intR (.st (.int i)) P = P i := rfl
@[simp] theorem o_str {P : Str → Prop} : strR (.st (.str x)) P = P x := rfl
@[simp] theorem o_d1 : R.d (.st d) = some d := rfl
@[simp] theorem o_d2 : R.d (.nw ds) = some (.lst ds) := rfl
@[simp] theorem o_d3 : R.d (.bw ds) = some (.lst ds) := rfl
@[simp] theorem o_nrm1 : nrm (.st d) = .st d := rfl
@[simp] theorem o_nrm2 : nrm (.nw ds) = .bw ds := rfl
@[simp] theorem o_nrm3 : nrm (.bw ds) = .bw ds := rfl
@[simp] theorem o_arg1 : argOk (.st d) = true := rfl
@[simp] theorem o_arg2 : argOk (.nw ds) = true := rfl
@[simp] theorem o_arg3 : argOk (.bw ds) = true := rfl
@[simp] theorem o_ls1 : lsAny (.st (.lst ds)) = some ds := rfl
@[simp] theorem o_ls2 : lsAny (.nw ds) = some ds := rfl
@[simp] theorem o_ls3 : lsAny (.bw ds) = some ds := rfl
@[simp] theorem o_lm2 : lsM (.nw ds) = some ds := rfl
@[simp] theorem o_lm3 : lsM (.bw ds) = some ds := rfl
@[simp] theorem o_sa0 : stAll [] = some [] := rfl
@[simp] theorem o_sa1 {rs : List R} : stAll (.st d :: rs) = (stAll rs).map (d :: ·) := rfl
@[simp] theorem o_ty0 : tyOfR (.st .non) = some "NoneType" := rfl
@[simp] theorem o_ty1 {b : Bool} : tyOfR (.st (.bl b)) = some "bool" := rfl
@[simp] theorem o_ty2 : tyOfR (.st (.int i)) = some "int" := rfl
@[simp] theorem o_ty3 : tyOfR (.st (.str x)) = some "str" := rfl
@[simp] theorem o_ty4 : tyOfR (.st (.tup ds)) = some "tuple" := rfl
@[simp] theorem o_ty7 : tyOfR (.st (.lst ds)) = some "list" := rfl
@[simp] theorem o_ty5 : tyOfR (.nw ds) = some "list" := rfl
@[simp] theorem o_ty6 : tyOfR (.bw ds) = some "list" := rfl
@[simp] theorem o_add1 : addD (.st (.int i)) (.st (.int j)) Q = Q (.st (.int (i + j))) := rfl
@[simp] theorem o_add2 : addD (.st (.str x)) (.st (.str y)) Q = (x.length + y.length ≤ sizeLine ∧ Q (.st (.str (x ++ y)))) := rfl
@[simp] theorem o_add3 : addD (.st (.tup ds)) (.st (.tup es)) Q = (ds.length + es.length ≤ sizeLine ∧ Q (.st (.tup (ds ++ es)))) := rfl
@[simp] theorem o_add4 : addD (.nw ds) (.nw es) Q = (ds.length + es.length ≤ sizeLine ∧ Q (.nw (ds ++ es))) := rfl
@[simp] theorem o_add5 : addD (.nw ds) (.bw es) Q = (ds.length + es.length ≤ sizeLine ∧ Q (.nw (ds ++ es))) := rfl
@[simp] theorem o_add6 : addD (.bw ds) (.nw es) Q = (ds.length + es.length ≤ sizeLine ∧ Q (.nw (ds ++ es))) := rfl
@[simp] theorem o_add7 : addD (.bw ds) (.bw es) Q = (ds.length + es.length ≤ sizeLine ∧ Q (.nw (ds ++ es))) := rfl
@[simp] theorem o_mul : mulD (.st (.int i)) (.st (.int j)) Q = (CMul i j ∧ Q (.st (.int (i * j)))) := rfl
@[simp] theorem o_intD {C : Int → Int → Prop} {f : Int → Int → Int} : TK.intD C f (.st (.int i)) (.st (.int j)) Q = (C i j ∧ Q (.st (.int (f i j)))) := rfl
@[simp] theorem o_cmpI {f : Int → Int → Bool} : cmpI f (.st (.int i)) (.st (.int j)) QB = QB (f i j) := rfl
@[simp] theorem o_ix1 : ixD (.st (.lst ds)) (.st (.int i)) Q = ∃ d, atI ds i = some d ∧ Q (.st d) := rfl
@[simp] theorem o_ix2 : ixD (.nw ds) (.st (.int i)) Q = ∃ d, atI ds i = some d ∧ Q (.st d) := rfl
@[simp] theorem o_ix3 : ixD (.bw ds) (.st (.int i)) Q = ∃ d, atI ds i = some d ∧ Q (.st d) := rfl
@[simp] theorem o_ix4 : ixD (.st (.tup ds)) (.st (.int i)) Q = ∃ d, atI ds i = some d ∧ Q (.st d) := rfl
@[simp] theorem o_len1 : lenD [.st (.lst ds)] Q = Q (.st (.int ds.length)) := rfl
@[simp] theorem o_len2 : lenD [.st (.tup ds)] Q = Q (.st (.int ds.length)) := rfl
@[simp] theorem o_len3 : lenD [.nw ds] Q = Q (.st (.int ds.length)) := rfl
@[simp] theorem o_len4 : lenD [.bw ds] Q = Q (.st (.int ds.length)) := rfl
@[simp] theorem o_len5 : lenD [.st (.str x)] Q = (x.length ≤ sizeLine ∧ Q (.st (.int x.length))) := rfl
@[simp] theorem o_eq {r1 r2 : R} {b : Bool} : eqD n b r1 r2 QB = ∃ d e, r1.d = some d ∧ r2.d = some e ∧ d.depth ≤ n ∧ QB (if b then !D.eq d e else D.eq d e) := rfl
@[simp] theorem o_sl4 {lo hi : Option Int} : slD (.st (.tup ds)) lo hi Q = Q (.st (.tup (cutL ds lo hi))) := rfl
@[simp] theorem o_slc {lo hi : Option Int} : slD (.st (.str x)) lo hi Q = (x.length ≤ sizeLine ∧ Q (.st (.str (Txt.slice x lo hi)))) := rfl
@[simp] theorem o_in1 : inD false (.st (.str x)) (.st (.str y)) QB = QB (inStr x y) := rfl
@[simp] theorem o_tr1 {b : Bool} : truR (.st (.bl b)) QB = QB b := rfl
@[simp] theorem o_tr2 : truR (.bw ds) QB = QB (!ds.isEmpty) := rfl
@[simp] theorem o_tr3 : truR (.nw ds) QB = QB (!ds.isEmpty) := rfl
@[simp] theorem o_lst {r : R} : listD [r] Q = ∃ ds, seqOf r = some ds ∧ Q (.nw ds) := rfl
@[simp] theorem o_sq1 : seqOf (.st (.tup ds)) = some ds := rfl
@[simp] theorem o_ib {b : Bool} : intOfD [.st (.bl b)] Q = Q (.st (.int (if b then 1 else 0))) := rfl
@[simp] theorem o_e1 : D.eq (.int i) (.int j) = (i == j) := by simp [D.eq]
@[simp] theorem o_e2 : D.eq (.str x) (.str y) = (x == y) := by simp [D.eq]
@[simp] theorem o_e3 {b c : Bool} : D.eq (.bl b) (.bl c) = (b == c) := by simp [D.eq]
@[simp] theorem o_e4 : D.eq (.lst ds) (.lst es) = D.eqs ds es := by simp [D.eq]
@[simp] theorem o_e5 : D.eq (.tup ds) (.tup es) = D.eqs ds es := by simp [D.eq]
@[simp] theorem o_eN : D.eqs ds [] = ds.isEmpty := by cases ds <;> simp [D.eqs]
@[simp] theorem o_ends {r r' : R} : (Ends1 r).rt r' = (r' = r) := rfl
@[simp] theorem o_endn {r : R} : (Ends1 r).nx τ = (r = .st .non) := rfl
@[simp] theorem o_dep0 : D.depth (.int i) = 0 := by simp [D.depth]
@[simp] theorem o_dep1 : D.depth (.str x) = 0 := by simp [D.depth]
@[simp] theorem o_zl : (0 : Nat) ≤ sizeLine := Nat.zero_le _
@[simp] theorem o_start {N : List Str} {rs : List R} : startD N rs = rs.map (fun r => some (slotOf r)) ++ List.replicate (N.length - rs.length) none := rfl
end
end TK
end
section
set_option maxRecDepth 100000
set_option maxHeartbeats 1000000
namespace TK
open PySem PySem.Spec PyProof.Rows L2
section
variable {X : Cx} {pins : List (Addr × Obj)} {σ : St} {H : Hp} {s : Shared}
open PySem.SeqAt
theorem rcNe_D (I : Inv X pins σ H s) (n : Nat) (d1 d2 : D) (v1 v2 : V) (u1 u2 : Value) (A : Around) (hd : d1.depth ≤ n) (h1 : IsW X.K H d1 v1) (h2 : IsW X.K H d2 v2) (r1 : RelV v1 u1) (r2 : RelV v2 u2) (hu : A.units + n + 1 < cLine) : RcNeAt A s u1 u2 (!D.eq d1 d2) := by
  revert hd h1 h2 r1 r2 hu
  exact match d1, d2, v1, v2, u1, u2, A with
    | .non, .non, v1, v2, u1, u2, A => fun hd h1 h2 r1 r2 hu => by
      cases (show v1 = .non from h1); cases r1
      cases (show v2 = .non from h2); cases r2
      unfold D.eq; exact RcNeAt.none_none
    | .non, .bl q, v1, v2, u1, u2, A => fun hd h1 h2 r1 r2 hu => by
      cases (show v1 = .non from h1); cases r1
      cases (show v2 = .bl q from h2); cases r2
      unfold D.eq; exact RcNeAt.none_bool  q
    | .non, .int q, v1, v2, u1, u2, A => fun hd h1 h2 r1 r2 hu => by
      cases (show v1 = .non from h1); cases r1
      cases (show v2 = .int q from h2); obtain ⟨t2, rfl⟩ := r2
      unfold D.eq; exact RcNeAt.none_int  q t2
    | .non, .str q, v1, v2, u1, u2, A => fun hd h1 h2 r1 r2 hu => by
      cases (show v1 = .non from h1); cases r1
      cases (show v2 = .str q from h2); obtain ⟨t2, rfl⟩ := r2
      unfold D.eq; exact RcNeAt.none_str  q t2
    | .non, .tup q, v1, v2, u1, u2, A => fun hd h1 h2 r1 r2 hu => by
      cases (show v1 = .non from h1); cases r1
      have h2 : IsS X.K H (.tup q) v2 := h2; unfold IsS at h2; obtain ⟨a2, xs2, rfl, sq2, al2⟩ := h2; cases r2; obtain ⟨its2, rv2, pl2, hz2⟩ := I.tuple (SqT.of sq2)
      unfold D.eq; exact RcNeAt.none_tuple  (pl2) (by omega)
    | .non, .lst q, v1, v2, u1, u2, A => fun hd h1 h2 r1 r2 hu => by
      cases (show v1 = .non from h1); cases r1
      obtain ⟨a2, xs2, rfl, sq2, al2⟩ := h2; cases r2; obtain ⟨its2, rv2, pl2, hz2⟩ := I.list sq2
      unfold D.eq; exact RcNeAt.none_list  (pl2.isList) (by omega)
    | .bl p, .non, v1, v2, u1, u2, A => fun hd h1 h2 r1 r2 hu => by
      cases (show v1 = .bl p from h1); cases r1
      cases (show v2 = .non from h2); cases r2
      unfold D.eq; exact RcNeAt.bool_none p 
    | .bl p, .bl q, v1, v2, u1, u2, A => fun hd h1 h2 r1 r2 hu => by
      cases (show v1 = .bl p from h1); cases r1
      cases (show v2 = .bl q from h2); cases r2
      unfold D.eq; exact RcNeAt.bool_bool p q
    | .bl p, .int q, v1, v2, u1, u2, A => fun hd h1 h2 r1 r2 hu => by
      cases (show v1 = .bl p from h1); cases r1
      cases (show v2 = .int q from h2); obtain ⟨t2, rfl⟩ := r2
      unfold D.eq; exact RcNeAt.bool_int p q t2
    | .bl p, .str q, v1, v2, u1, u2, A => fun hd h1 h2 r1 r2 hu => by
      cases (show v1 = .bl p from h1); cases r1
      cases (show v2 = .str q from h2); obtain ⟨t2, rfl⟩ := r2
      unfold D.eq; exact RcNeAt.bool_str p q t2
    | .bl p, .tup q, v1, v2, u1, u2, A => fun hd h1 h2 r1 r2 hu => by
      cases (show v1 = .bl p from h1); cases r1
      have h2 : IsS X.K H (.tup q) v2 := h2; unfold IsS at h2; obtain ⟨a2, xs2, rfl, sq2, al2⟩ := h2; cases r2; obtain ⟨its2, rv2, pl2, hz2⟩ := I.tuple (SqT.of sq2)
      unfold D.eq; exact RcNeAt.bool_tuple p (pl2) (by omega)
    | .bl p, .lst q, v1, v2, u1, u2, A => fun hd h1 h2 r1 r2 hu => by
      cases (show v1 = .bl p from h1); cases r1
      obtain ⟨a2, xs2, rfl, sq2, al2⟩ := h2; cases r2; obtain ⟨its2, rv2, pl2, hz2⟩ := I.list sq2
      unfold D.eq; exact RcNeAt.bool_list p (pl2.isList) (by omega)
    | .int p, .non, v1, v2, u1, u2, A => fun hd h1 h2 r1 r2 hu => by
      cases (show v1 = .int p from h1); obtain ⟨t1, rfl⟩ := r1
      cases (show v2 = .non from h2); cases r2
      unfold D.eq; exact RcNeAt.int_none p t1 
    | .int p, .bl q, v1, v2, u1, u2, A => fun hd h1 h2 r1 r2 hu => by
      cases (show v1 = .int p from h1); obtain ⟨t1, rfl⟩ := r1
      cases (show v2 = .bl q from h2); cases r2
      unfold D.eq; exact RcNeAt.int_bool p t1 q
    | .int p, .int q, v1, v2, u1, u2, A => fun hd h1 h2 r1 r2 hu => by
      cases (show v1 = .int p from h1); obtain ⟨t1, rfl⟩ := r1
      cases (show v2 = .int q from h2); obtain ⟨t2, rfl⟩ := r2
      unfold D.eq; exact RcNeAt.int_int p t1 q t2
    | .int p, .str q, v1, v2, u1, u2, A => fun hd h1 h2 r1 r2 hu => by
      cases (show v1 = .int p from h1); obtain ⟨t1, rfl⟩ := r1
      cases (show v2 = .str q from h2); obtain ⟨t2, rfl⟩ := r2
      unfold D.eq; exact RcNeAt.int_str p t1 q t2
    | .int p, .tup q, v1, v2, u1, u2, A => fun hd h1 h2 r1 r2 hu => by
      cases (show v1 = .int p from h1); obtain ⟨t1, rfl⟩ := r1
      have h2 : IsS X.K H (.tup q) v2 := h2; unfold IsS at h2; obtain ⟨a2, xs2, rfl, sq2, al2⟩ := h2; cases r2; obtain ⟨its2, rv2, pl2, hz2⟩ := I.tuple (SqT.of sq2)
      unfold D.eq; exact RcNeAt.int_tuple p t1 (pl2) (by omega)
    | .int p, .lst q, v1, v2, u1, u2, A => fun hd h1 h2 r1 r2 hu => by
      cases (show v1 = .int p from h1); obtain ⟨t1, rfl⟩ := r1
      obtain ⟨a2, xs2, rfl, sq2, al2⟩ := h2; cases r2; obtain ⟨its2, rv2, pl2, hz2⟩ := I.list sq2
      unfold D.eq; exact RcNeAt.int_list p t1 (pl2.isList) (by omega)
    | .str p, .non, v1, v2, u1, u2, A => fun hd h1 h2 r1 r2 hu => by
      cases (show v1 = .str p from h1); obtain ⟨t1, rfl⟩ := r1
      cases (show v2 = .non from h2); cases r2
      unfold D.eq; exact RcNeAt.str_none p t1 
    | .str p, .bl q, v1, v2, u1, u2, A => fun hd h1 h2 r1 r2 hu => by
      cases (show v1 = .str p from h1); obtain ⟨t1, rfl⟩ := r1
      cases (show v2 = .bl q from h2); cases r2
      unfold D.eq; exact RcNeAt.str_bool p t1 q
    | .str p, .int q, v1, v2, u1, u2, A => fun hd h1 h2 r1 r2 hu => by
      cases (show v1 = .str p from h1); obtain ⟨t1, rfl⟩ := r1
      cases (show v2 = .int q from h2); obtain ⟨t2, rfl⟩ := r2
      unfold D.eq; exact RcNeAt.str_int p t1 q t2
    | .str p, .str q, v1, v2, u1, u2, A => fun hd h1 h2 r1 r2 hu => by
      cases (show v1 = .str p from h1); obtain ⟨t1, rfl⟩ := r1
      cases (show v2 = .str q from h2); obtain ⟨t2, rfl⟩ := r2
      unfold D.eq; exact RcNeAt.str_str p t1 q t2
    | .str p, .tup q, v1, v2, u1, u2, A => fun hd h1 h2 r1 r2 hu => by
      cases (show v1 = .str p from h1); obtain ⟨t1, rfl⟩ := r1
      have h2 : IsS X.K H (.tup q) v2 := h2; unfold IsS at h2; obtain ⟨a2, xs2, rfl, sq2, al2⟩ := h2; cases r2; obtain ⟨its2, rv2, pl2, hz2⟩ := I.tuple (SqT.of sq2)
      unfold D.eq; exact RcNeAt.str_tuple p t1 (pl2) (by omega)
    | .str p, .lst q, v1, v2, u1, u2, A => fun hd h1 h2 r1 r2 hu => by
      cases (show v1 = .str p from h1); obtain ⟨t1, rfl⟩ := r1
      obtain ⟨a2, xs2, rfl, sq2, al2⟩ := h2; cases r2; obtain ⟨its2, rv2, pl2, hz2⟩ := I.list sq2
      unfold D.eq; exact RcNeAt.str_list p t1 (pl2.isList) (by omega)
    | .tup p, .non, v1, v2, u1, u2, A => fun hd h1 h2 r1 r2 hu => by
      have h1 : IsS X.K H (.tup p) v1 := h1; unfold IsS at h1; obtain ⟨a1, xs1, rfl, sq1, al1⟩ := h1; cases r1; obtain ⟨its1, rv1, pl1, hz1⟩ := I.tuple (SqT.of sq1)
      cases (show v2 = .non from h2); cases r2
      unfold D.eq; exact RcNeAt.tuple_none  (pl1) (by omega)
    | .tup p, .bl q, v1, v2, u1, u2, A => fun hd h1 h2 r1 r2 hu => by
      have h1 : IsS X.K H (.tup p) v1 := h1; unfold IsS at h1; obtain ⟨a1, xs1, rfl, sq1, al1⟩ := h1; cases r1; obtain ⟨its1, rv1, pl1, hz1⟩ := I.tuple (SqT.of sq1)
      cases (show v2 = .bl q from h2); cases r2
      unfold D.eq; exact RcNeAt.tuple_bool q (pl1) (by omega)
    | .tup p, .int q, v1, v2, u1, u2, A => fun hd h1 h2 r1 r2 hu => by
      have h1 : IsS X.K H (.tup p) v1 := h1; unfold IsS at h1; obtain ⟨a1, xs1, rfl, sq1, al1⟩ := h1; cases r1; obtain ⟨its1, rv1, pl1, hz1⟩ := I.tuple (SqT.of sq1)
      cases (show v2 = .int q from h2); obtain ⟨t2, rfl⟩ := r2
      unfold D.eq; exact RcNeAt.tuple_int q t2 (pl1) (by omega)
    | .tup p, .str q, v1, v2, u1, u2, A => fun hd h1 h2 r1 r2 hu => by
      have h1 : IsS X.K H (.tup p) v1 := h1; unfold IsS at h1; obtain ⟨a1, xs1, rfl, sq1, al1⟩ := h1; cases r1; obtain ⟨its1, rv1, pl1, hz1⟩ := I.tuple (SqT.of sq1)
      cases (show v2 = .str q from h2); obtain ⟨t2, rfl⟩ := r2
      unfold D.eq; exact RcNeAt.tuple_str q t2 (pl1) (by omega)
    | .tup p, .tup q, v1, v2, u1, u2, A => fun hd h1 h2 r1 r2 hu => by
      have h1 : IsS X.K H (.tup p) v1 := h1; unfold IsS at h1; obtain ⟨a1, xs1, rfl, sq1, al1⟩ := h1; cases r1; obtain ⟨its1, rv1, pl1, hz1⟩ := I.tuple (SqT.of sq1)
      have h2 : IsS X.K H (.tup q) v2 := h2; unfold IsS at h2; obtain ⟨a2, xs2, rfl, sq2, al2⟩ := h2; cases r2; obtain ⟨its2, rv2, pl2, hz2⟩ := I.tuple (SqT.of sq2)
      have hd : D.depths p + 1 ≤ n := by unfold D.depth at hd; exact hd
      have l1 : its1.toArray.size = p.length := by have := al1.length; have := rv1.length; simp; omega
      have l2 : its2.toArray.size = q.length := by have := al2.length; have := rv2.length; simp; omega
      have k := RcNeAt.tuples (A := A) (s := s) (e := fun i => match p[i]?, q[i]? with | some x, some y => D.eq x y | _, _ => true) pl1 pl2 (by omega) (fun j hj1 hj2 => by
        obtain ⟨d1, v1, e1, i1, w1⟩ := allS_at al1 rv1 hj1
        obtain ⟨d2, v2, e2, i2, w2⟩ := allS_at al2 rv2 hj2
        simp only [e1, e2]
        exact eq_of_rc I (fun A => rc_D I n d1 d2 v1 v2 _ _ A (by have := D.depths_get e1; omega) i1.w i2.w w1 w2) i1 i2 w1 w2 (by simp only [Around.in1_units]; omega))
      rw [l1, l2] at k
      unfold D.eq; rw [D.eqs_range]; exact k
    | .tup p, .lst q, v1, v2, u1, u2, A => fun hd h1 h2 r1 r2 hu => by
      have h1 : IsS X.K H (.tup p) v1 := h1; unfold IsS at h1; obtain ⟨a1, xs1, rfl, sq1, al1⟩ := h1; cases r1; obtain ⟨its1, rv1, pl1, hz1⟩ := I.tuple (SqT.of sq1)
      obtain ⟨a2, xs2, rfl, sq2, al2⟩ := h2; cases r2; obtain ⟨its2, rv2, pl2, hz2⟩ := I.list sq2
      unfold D.eq; exact RcNeAt.tuple_list (pl1) (pl2.isList) (by omega)
    | .lst p, .non, v1, v2, u1, u2, A => fun hd h1 h2 r1 r2 hu => by
      obtain ⟨a1, xs1, rfl, sq1, al1⟩ := h1; cases r1; obtain ⟨its1, rv1, pl1, hz1⟩ := I.list sq1
      cases (show v2 = .non from h2); cases r2
      unfold D.eq; exact RcNeAt.list_none  (pl1.isList) (by omega)
    | .lst p, .bl q, v1, v2, u1, u2, A => fun hd h1 h2 r1 r2 hu => by
      obtain ⟨a1, xs1, rfl, sq1, al1⟩ := h1; cases r1; obtain ⟨its1, rv1, pl1, hz1⟩ := I.list sq1
      cases (show v2 = .bl q from h2); cases r2
      unfold D.eq; exact RcNeAt.list_bool q (pl1.isList) (by omega)
    | .lst p, .int q, v1, v2, u1, u2, A => fun hd h1 h2 r1 r2 hu => by
      obtain ⟨a1, xs1, rfl, sq1, al1⟩ := h1; cases r1; obtain ⟨its1, rv1, pl1, hz1⟩ := I.list sq1
      cases (show v2 = .int q from h2); obtain ⟨t2, rfl⟩ := r2
      unfold D.eq; exact RcNeAt.list_int q t2 (pl1.isList) (by omega)
    | .lst p, .str q, v1, v2, u1, u2, A => fun hd h1 h2 r1 r2 hu => by
      obtain ⟨a1, xs1, rfl, sq1, al1⟩ := h1; cases r1; obtain ⟨its1, rv1, pl1, hz1⟩ := I.list sq1
      cases (show v2 = .str q from h2); obtain ⟨t2, rfl⟩ := r2
      unfold D.eq; exact RcNeAt.list_str q t2 (pl1.isList) (by omega)
    | .lst p, .tup q, v1, v2, u1, u2, A => fun hd h1 h2 r1 r2 hu => by
      obtain ⟨a1, xs1, rfl, sq1, al1⟩ := h1; cases r1; obtain ⟨its1, rv1, pl1, hz1⟩ := I.list sq1
      have h2 : IsS X.K H (.tup q) v2 := h2; unfold IsS at h2; obtain ⟨a2, xs2, rfl, sq2, al2⟩ := h2; cases r2; obtain ⟨its2, rv2, pl2, hz2⟩ := I.tuple (SqT.of sq2)
      unfold D.eq; exact RcNeAt.list_tuple (pl1.isList) (pl2) (by omega)
    | .lst p, .lst q, v1, v2, u1, u2, A => fun hd h1 h2 r1 r2 hu => by
      obtain ⟨a1, xs1, rfl, sq1, al1⟩ := h1; cases r1; obtain ⟨its1, rv1, pl1, hz1⟩ := I.list sq1
      obtain ⟨a2, xs2, rfl, sq2, al2⟩ := h2; cases r2; obtain ⟨its2, rv2, pl2, hz2⟩ := I.list sq2
      have hd : D.depths p + 1 ≤ n := by unfold D.depth at hd; exact hd
      have l1 : its1.toArray.size = p.length := by have := al1.length; have := rv1.length; simp; omega
      have l2 : its2.toArray.size = q.length := by have := al2.length; have := rv2.length; simp; omega
      have kk : RcNeAt A s (.ref a1) (.ref a2) (!D.eqs p q) := by
        rw [D.eqs_range]
        by_cases hlen : p.length = q.length
        · have k := RcNeAt.lists (A := A) (s := s) (e := fun i => match p[i]?, q[i]? with | some x, some y => D.eq x y | _, _ => true) pl1.isList pl2.isList (by omega) (by omega) (fun j hj1 hj2 => by
            obtain ⟨d1, v1, e1, i1, w1⟩ := allS_at al1 rv1 hj1
            obtain ⟨d2, v2, e2, i2, w2⟩ := allS_at al2 rv2 hj2
            simp only [e1, e2]
            exact eq_of_rc I (fun A => rc_D I n d1 d2 v1 v2 _ _ A (by have := D.depths_get e1; omega) i1.w i2.w w1 w2) i1 i2 w1 w2 (by simp only [Around.in1_units]; omega))
          rw [l1] at k
          rw [← hlen, Nat.min_self, beq_self_eq_true, Bool.and_true]
          exact k
        · rw [beq_eq_false_iff_ne.mpr hlen, Bool.and_false]
          exact RcNeAt.lists_lengths pl1.isList pl2.isList (by rw [l1, l2]; simpa using hlen) (by omega)
      unfold D.eq; exact kk
theorem cd_neD {n : Nat} (hu : X.A.units + n + 1 < cLine) : CmpD X .NotEq (eqD n true) := by
  intro pins s σ H x y v u Q I rx ry ⟨r1, r2, h1, h2, d, e, e1, e2, hd, q⟩
  exact rcNe_D I n d e x y v u X.A hd (h1.w e1) (h2.w e2) rx ry hu _ _ _ _ ⟨.bl _, H, I, rfl, q⟩
theorem hu59 {A : Around} {k : Nat} (hr : Room k A) : A.units + 59 + 1 < cLine := by have := hr.units; omega
end
section
variable {X : Cx} {H0 : Hp} {a b c e o tg : Expr} {pos apos cpos : Pos} {wa wb wc we : WE} {wr : WA}
def wChain (g g' : R → R → (Bool → Prop) → Prop) (wa wb wc : WE) : WT := fun τ Q => wa τ fun x => wb τ fun y => g x y fun k => if k = true then wc τ fun z => g' y z Q else Q false
def boolsOf : List D → Option (List Bool)
  | [] => some []
  | .bl x :: r => (boolsOf r).map (x :: ·)
  | _ :: _ => none
def intsOf : List D → Option (List Int)
  | [] => some []
  | .int x :: r => (intsOf r).map (x :: ·)
  | _ :: _ => none
def allD : List R → (R → Prop) → Prop
  | [r], Q => ∃ ds bs, lsAny r = some ds ∧ boolsOf ds = some bs ∧ Q (.st (.bl (bs.all id)))
  | _, _ => False
def anyD : List R → (R → Prop) → Prop
  | [r], Q => ∃ ds bs, lsAny r = some ds ∧ boolsOf ds = some bs ∧ Q (.st (.bl (bs.any id)))
  | _, _ => False
def strOfD : List R → (R → Prop) → Prop
  | [.st (.int i)], Q => i.natAbs.log2 < 1920 ∧ Q (.st (.str (toString i)))
  | [.st (.bl k)], Q => Q (.st (.str (if k then "True" else "False")))
  | _, _ => False
def b2i' (k : Bool) : Int := if k = true then 1 else 0
def numD : R → Option Int
  | .st (.int i) => some i
  | .st (.bl k) => some (b2i' k)
  | _ => none
def isI : R → Bool
  | .st (.int _) => true
  | _ => false
def numOp (f : Int → Int → Int) (x y : R) (Q : R → Prop) : Prop := ∃ i j, numD x = some i ∧ numD y = some j ∧ (isI x || isI y) = true ∧ Q (.st (.int (f i j)))
def addL (x y : R) (Q : R → Prop) : Prop := ∃ i j, lsAny x = some i ∧ lsAny y = some j ∧ i.length + j.length ≤ sizeLine ∧ Q (.nw (i ++ j))
def idxS (x y : Str) : Option Nat := (Builtin.Str.occurrences x y 0 x.length 1).head?
def wIdx (wo we : WE) : WE := fun τ Q => wo τ fun r1 => ∃ x, r1 = .st (.str x) ∧ we τ fun r => ∃ y i, r = .st (.str y) ∧ idxS x y = some i ∧ Q (.st (.int (i : Int)))
def iStr (we : WE) : WI := fun τ Q => we τ fun r => ∃ x, r = .st (.str x) ∧ Q (sgnD x) τ
end
end TK
end
section
set_option maxRecDepth 100000
namespace TK
open PySem PySem.Spec PyProof.Rows L2
def consR (ds : List D) (P : D → List D → Prop) : Prop := match ds with
  | [] => False
  | d :: r => P d r
def tupR (d : D) (P : List D → Prop) : Prop := match d with
  | .tup ds => P ds
  | _ => False
def stR (r : R) (P : D → Prop) : Prop := match r with
  | .st d => P d
  | _ => False
section
variable {τ : DSt} {Q : R → Prop} {QB : Bool → Prop} {wa wb wc we : WE} {wr : WA} {n : Nat} {d e : D} {ds es : List D} {i j : Int} {x y : Str}
@[simp] theorem s_chain {g g' : R → R → (Bool → Prop) → Prop} : wChain g g' wa wb wc τ QB = wa τ fun x => wb τ fun y => g x y fun k => if k = true then wc τ fun z => g' y z QB else QB false := rfl
@[simp] theorem s_iStr {Q : List D → DSt → Prop} : iStr we τ Q = we τ fun r => ∃ x, r = .st (.str x) ∧ Q (sgnD x) τ := rfl
@[simp] theorem s_idx : wIdx wa we τ Q = wa τ fun r1 => ∃ x, r1 = .st (.str x) ∧ we τ fun r => ∃ y i, r = .st (.str y) ∧ idxS x y = some i ∧ Q (.st (.int (i : Int))) := rfl
@[simp] theorem s_jTup {Q : List D → Prop} : jTup we τ Q = we τ fun r => ∃ ds, r = .st (.tup ds) ∧ Q ds := rfl
@[simp] theorem o_all {r : R} : allD [r] Q = ∃ ds bs, lsAny r = some ds ∧ boolsOf ds = some bs ∧ Q (.st (.bl (bs.all id))) := rfl
@[simp] theorem o_any {r : R} : anyD [r] Q = ∃ ds bs, lsAny r = some ds ∧ boolsOf ds = some bs ∧ Q (.st (.bl (bs.any id))) := rfl
@[simp] theorem o_addL {r r' : R} : addL r r' Q = ∃ i j, lsAny r = some i ∧ lsAny r' = some j ∧ i.length + j.length ≤ sizeLine ∧ Q (.nw (i ++ j)) := rfl
@[simp] theorem o_num {f : Int → Int → Int} {r r' : R} : numOp f r r' Q = ∃ i j, numD r = some i ∧ numD r' = some j ∧ (isI r || isI r') = true ∧ Q (.st (.int (f i j))) := rfl
@[simp] theorem o_nd1 : numD (.st (.int i)) = some i := rfl
@[simp] theorem o_nd2 {k : Bool} : numD (.st (.bl k)) = some (b2i' k) := rfl
@[simp] theorem o_ii1 : isI (.st (.int i)) = true := rfl
@[simp] theorem o_ii2 {k : Bool} : isI (.st (.bl k)) = false := rfl
@[simp] theorem o_st1 : strOfD [.st (.int i)] Q = (i.natAbs.log2 < 1920 ∧ Q (.st (.str (toString i)))) := rfl
@[simp] theorem o_st2 {k : Bool} : strOfD [.st (.bl k)] Q = Q (.st (.str (if k then "True" else "False"))) := rfl
@[simp] theorem o_tup {r : R} : tupleD [r] Q = ∃ ds, seqOf r = some ds ∧ Q (.st (.tup ds)) := rfl
@[simp] theorem o_sq2 : seqOf (.nw ds) = some ds := rfl
@[simp] theorem o_sq3 : seqOf (.bw ds) = some ds := rfl
@[simp] theorem o_ne {d e : D} : neD (.st d) (.st e) QB ↔ (scD d e = true ∧ QB (!D.eq d e)) := by
  constructor
  · rintro ⟨a, b, h1, h2, h3, h4⟩
    cases h1; cases h2
    exact ⟨h3, h4⟩
  · rintro ⟨h3, h4⟩
    exact ⟨d, e, rfl, rfl, h3, h4⟩
@[simp high] theorem s_gCn2 {g : WG} {gs : WGs} {Q : DSt → Prop} : gCn g gs ds τ Q ↔ consR ds fun d r => g d τ fun τ' => gs r τ' Q := by
  constructor
  · rintro ⟨a, b, h, q⟩
    cases h; exact q
  · intro h
    cases ds with
    | nil => exact h.elim
    | cons d r => exact ⟨d, r, rfl, h⟩
@[simp high] theorem s_gTp2 {gs : WGs} {Q : DSt → Prop} : gTp n gs d τ Q ↔ tupR d fun ds => ds.length = n ∧ gs ds τ Q := by
  constructor
  · rintro ⟨a, h, q⟩
    cases h; exact q
  · intro h
    cases d with
    | tup ds => exact ⟨ds, rfl, h⟩
    | _ => exact h.elim
@[simp high] theorem s_asg2 {g : WG} {E : DEnds} : wAsg we g E τ ↔ we τ fun r => stR r fun d => g d τ E.nx := by
  have e : (fun r => ∃ d, r = R.st d ∧ g d τ E.nx) = fun r => stR r fun d => g d τ E.nx := by
    funext r
    apply propext
    constructor
    · rintro ⟨d, rfl, h⟩; exact h
    · intro h
      cases r with
      | st d => exact ⟨d, rfl, h⟩
      | _ => exact h.elim
  show (we τ fun r => ∃ d, r = R.st d ∧ g d τ E.nx) ↔ _
  rw [e]
@[simp] theorem o_consR {P : D → List D → Prop} : consR (d :: ds) P = P d ds := rfl
@[simp] theorem o_tupR {P : List D → Prop} : tupR (.tup ds) P = P ds := rfl
@[simp] theorem o_stR {P : D → Prop} : stR (.st d) P = P d := rfl
@[simp] theorem o_sc1 : scD (.int i) (.int j) = true := rfl
@[simp] theorem o_sc2 {k l : Bool} : scD (.bl k) (.bl l) = true := rfl
@[simp] theorem o_sc3 : scD (.str x) (.str y) = true := rfl
end
theorem comp_map {we : WE} {f : D → D} {rest : DSt} : ∀ (ds : List D) (o : Option Sl) (Q : List D → Prop), (∀ d ∈ ds, ∀ Q' : R → Prop, Q' (.st (f d)) → we (some (.dat d) :: rest) Q') → Q (ds.map f) → compW (gNm 0) tYes we ds (o :: rest) Q
  | [], o, Q, h, q => q
  | d :: ds, o, Q, h, q => by
    simp only [compW]
    simp
    refine h d List.mem_cons_self _ ⟨_, rfl, ?_⟩
    exact comp_map ds _ _ (fun d hd => h d (List.mem_cons_of_mem _ hd)) q
theorem comp_filter {t : WT} {we : WE} {p : D → Bool} {f : D → D} {rest : DSt} : ∀ (ds : List D) (o : Option Sl) (Q : List D → Prop), (∀ d ∈ ds, ∀ Q' : Bool → Prop, Q' (p d) → t (some (.dat d) :: rest) Q') →
    (∀ d ∈ ds, ∀ Q' : R → Prop, p d = true → Q' (.st (f d)) → we (some (.dat d) :: rest) Q') → Q ((ds.filter p).map f) → compW (gNm 0) t we ds (o :: rest) Q
  | [], o, Q, h, h2, q => q
  | d :: ds, o, Q, h, h2, q => by
    simp only [compW]
    simp
    refine h d List.mem_cons_self _ ?_
    cases hp : p d with
    | false =>
      rw [List.filter_cons_of_neg (by simp [hp])] at q
      simp
      exact comp_filter ds _ _ (fun d hd => h d (List.mem_cons_of_mem _ hd)) (fun d hd => h2 d (List.mem_cons_of_mem _ hd)) q
    | true =>
      rw [List.filter_cons_of_pos hp] at q
      simp
      refine h2 d List.mem_cons_self _ hp ⟨_, rfl, ?_⟩
      exact comp_filter ds _ _ (fun d hd => h d (List.mem_cons_of_mem _ hd)) (fun d hd => h2 d (List.mem_cons_of_mem _ hd)) q
theorem boolsOf_map {f : D → Bool} : ∀ ds : List D, boolsOf (ds.map fun d => .bl (f d)) = some (ds.map f)
  | [] => rfl
  | d :: ds => by simp [boolsOf, boolsOf_map ds]
end TK
end
section
set_option maxRecDepth 100000
set_option maxHeartbeats 1000000
namespace HT
open PySem PySem.Spec PyProof.Rows
open AutoSeq1 (wpAny_loadPart')
section
variable {prog : Program} {w : World} {A : Around} {E : Value → Shared → Prop} {s : Shared}
end
end HT
namespace TK
open PySem PySem.Spec PyProof.Rows L2
section
variable {X : Cx}
def mulK (x y : R) (Q : R → Prop) : Prop := ∃ ds k, x = .st (.tup ds) ∧ y = .st (.int k) ∧ 2 ≤ k ∧ k ≤ 1000 ∧ ds ≠ [] ∧ (ds.length : Int) * k ≤ (sizeLine : Int) ∧ Q (.st (.tup (List.replicate k.toNat ds).flatten))
@[simp] theorem o_mulK {ds : List D} {k : Int} {Q : R → Prop} : mulK (.st (.tup ds)) (.st (.int k)) Q ↔ (2 ≤ k ∧ k ≤ 1000 ∧ ds ≠ [] ∧ (ds.length : Int) * k ≤ (sizeLine : Int) ∧ Q (.st (.tup (List.replicate k.toNat ds).flatten))) := by
  constructor
  · rintro ⟨a, b, h1, h2, h3⟩
    cases h1; cases h2
    exact h3
  · intro h
    exact ⟨ds, k, rfl, rfl, h⟩
end
end TK
end
section
set_option maxRecDepth 100000
set_option maxHeartbeats 1000000
namespace HT
open PySem PySem.Spec PyProof.Rows
theorem fits_small {b : Int} (h0 : -(2 ^ 62) ≤ b) (h1 : b < 2 ^ 62) : Builtin.Range.rangeFitsLong b = true := by
  unfold Builtin.Range.rangeFitsLong
  simp
  omega
theorem range_rev (r : Addr) (b : Int) (t u v : Tok) (h0 : 0 ≤ b) (h1 : b < 2 ^ 62) :
    Meets (Builtin.«range.__reversed__» ⟨[.ref r], []⟩) (fun _ R s => s.heap.get? r = some { cls := .type "range", data := .fields #[.int 0 t, .int b u, .int 1 v] } ∧
      R (.ok (.ret (Value.ref s.heap.objs.size))) { s with heap := s.heap.push { cls := .type "range_iterator", data := .fields #[rawInt (b - 1), rawInt b, rawInt (-1)] } }) :=
  .of_wp fun prog w A R s h => by
    obtain ⟨hp, g, d, tk, os⟩ := s; obtain ⟨hl, h⟩ := h
    have es : Builtin.Range.rangeSize 0 b 1 = b := by rw [rangeSize_one]; split <;> omega
    have e2 : (0 : Int) + (b - 1) * 1 = b - 1 := by omega
    have hc : (Builtin.Range.rangeFitsLong 0 && Builtin.Range.rangeFitsLong b && Builtin.Range.rangeFitsLong 1 && Builtin.Range.rangeFitsLong (-1) && Builtin.Range.rangeFitsLong (0 - 1) && Builtin.Range.rangeFitsLong (Builtin.Range.rangeSize 0 b 1)) = true := by
      rw [es, fits_small (b := b) (by omega) h1]
      decide
    wp_walk
    rw [hc, es, e2]
    simp only [Bool.not_true, Bool.false_eq_true, if_false, if_true]
    wp_walk
    exact ⟨_, rfl, h⟩
section
variable {prog : Program} {w : World} {A : Around} {E : Value → Shared → Prop} {s : Shared}
theorem code_reversed_rng {l : Addr} {b : Int} {t u v : Tok} {Q₁ : Value → Shared → Prop} (h0 : 0 ≤ b) (h1 : b < 2 ^ 62) (hl : s.heap.get? l = some { cls := .type "range", data := .fields #[.int 0 t, .int b u, .int 1 v] })
    (h : Q₁ (.ref s.heap.objs.size) { s with heap := s.heap.push { cls := .type "range_iterator", data := .fields #[rawInt (b - 1), rawInt b, rawInt (-1)] } }) :
    codeAny (model prog w) A (.call (.builtin "reversed.__new__") ⟨[.type "reversed", .ref l], []⟩) (wants Q₁ E) s := by
  have hT : s.TypeIs (.ref l) "range" := ⟨_, hl, rfl⟩
  refine codeAny_of_tree ?_
  show wpAny _ A.in1 (do checkBuiltinCall "reversed.__new__" ⟨[.type "reversed", .ref l], []⟩; again (.builtin "reversed.__new__" ⟨[.type "reversed", .ref l], []⟩)) _ _ s
  refine wpAny_bind (wpAny_of_eq (PySem.F.newCall_reversed_1 _) (wpAny_pure ⟨plainId_quiet PySem.F.plain_reversed_new _, codeAny_builtin PySem.F.entry_reversed_new ?_⟩))
  rw [Around.under_plainId PySem.F.plain_reversed_new _]
  unfold Builtin.«reversed.__new__»
  refine wpAny_bind (wpAny_of_eq (newClass_reversed _) ?_)
  try dsimp only
  refine wpAny_bind (wpAny_of_eq (a := ()) (by first | rfl | kernel_rfl) ?_)
  refine wpAny_bind (wpAny_of_eq (a := ()) (by first | rfl | kernel_rfl) ?_)
  try dsimp only
  refine wpAny_bind (wpAny_specialOf hT PySem.F.slot_range_reversed.lookup ?_)
  try dsimp only
  refine wpAny_bind (wpAny_of_eq (PySem.F.slot_range_reversed.bind _) ?_)
  try dsimp only
  first
  | rw [if_neg (show ¬ ((Value.builtin "range.__reversed__" == Value.none) = true) from Bool.false_ne_true)]
  | (show wpAny _ _ (if (Value.builtin "range.__reversed__" == Value.none) = true then _ else _) _ _ _; rw [if_neg (show ¬ ((Value.builtin "range.__reversed__" == Value.none) = true) from Bool.false_ne_true)])
  refine wpAny_bind (wpAny_rule ?_)
  refine wpAny_bind (m := runValue (.call (.builtin "range.__reversed__") ⟨[.ref l], []⟩)) (show wpAny _ _ (call (.builtin "range.__reversed__") [.ref l]) _ _ _ from call_meets PySem.F.slot_range_reversed hT PySem.F.entry_range_reversed (PySem.F.args_range_reversed_1 _) (range_rev l b t u v h0 h1) ⟨hl, ?_⟩)
  first
  | exact wpAny_pure h
  | exact wpAny_bind (wpAny_pure (wpAny_pure h))
theorem sub_ri_reversed : isSubtype (.type "range_iterator") (.type "reversed") = pure false := by rw [isSubtype_type]; kernel_rfl
theorem call_reversed_rng {l : Addr} {b : Int} {t u v : Tok} {Q : Value → Shared → Prop} (h0 : 0 ≤ b) (h1 : b < 2 ^ 62) (hl : s.heap.get? l = some { cls := .type "range", data := .fields #[.int 0 t, .int b u, .int 1 v] })
    (h : Q (.ref s.heap.objs.size) { s with heap := s.heap.push { cls := .type "range_iterator", data := .fields #[rawInt (b - 1), rawInt b, rawInt (-1)] } }) : wpAny (model prog w) A (call (.type "reversed") [.ref l]) Q E s := by
  refine callType_other (U := "range_iterator") (Q₁ := fun obj s₁ => obj = .ref s.heap.objs.size ∧ s₁ = { s with heap := s.heap.push { cls := .type "range_iterator", data := .fields #[rawInt (b - 1), rawInt b, rawInt (-1)] } }) (by decide +kernel) PySem.F.create_reversed ⟨_, _, PySem.F.mro_reversed⟩ PySem.F.made_reversed sub_ri_reversed (PySem.F.typeCall_reversed_1 _) (code_reversed_rng h0 h1 hl ⟨rfl, rfl⟩) ?_
  rintro obj s₁ ⟨rfl, rfl⟩
  exact ⟨⟨_, Heap.get?_push_size _ rfl, rfl⟩, h⟩
end
end HT
namespace TK
open PySem PySem.Spec PyProof.Rows L2
section
variable {X : Cx} {H0 : Hp} {a b c e tg : Expr} {pos p p2 pos2 : Pos} {wa wb we : WE} {wr : WA}
def Itd (n : Nat) : It := ⟨fun i _ => i < n, fun i H v H' => H' = H ∧ v = .int ((n : Int) - 1 - (i : Int)), fun i _ => n ≤ i⟩
theorem turn_rangeD {P : Program} {w : World} {K : PySem.W.Frag} {tg : Expr} (it : Addr) (n : Nat) : Turn P w K tg (Itd n) [it] it (fun i h => IsRangeIter h it ((n : Int) - 1 + (i : Nat) * (-1)) ((n : Int) - (i : Nat)) (-1)) where
  mem := by simp
  obj := fun i h st b hb => by
    have e : b = it := by simpa using hb
    subst e
    exact ⟨_, st, fun v z => by
      have z' : Data.fields _ = Data.cell v := z
      cases z'⟩
  keep := fun i h h' st k => k it (by simp) _ st
  item := by
    intro X hP hw hK hc i pins s σ H E I hf st hg
    subst hP hw hK
    obtain ⟨f0, f1, f2, f3, f4, f5⟩ := hf it (by simp)
    have W := Walks.range (prog := X.prog) (w := X.w) (I.ok.hd hc) it ((n : Int) - 1) (-1) n
    refine W.item i s _ _ hg st fun v h' tk hv st' kk => ?_
    obtain ⟨t, rfl⟩ := hv
    have I1 : Inv X pins σ H { s with heap := h', toks := tk } := I.turned (fun b o hb e => kk b o (by simpa using hb) e) f0 f1 f3 f4 f5
    refine ⟨_, rfl, go_of (s := { s with heap := h', toks := tk }) (n := "range_iterator") st' rfl rfl (by decide) ⟨.int ((n : Int) - 1 - (i : Int)), H, I1, ⟨t, ?_⟩, ⟨rfl, rfl⟩, st', fun b hb => (hf b hb).1⟩⟩
    congr 1
    omega
  done := by
    intro X hP hw hK hc i pins s σ H E I hf st hg
    subst hP hw hK
    obtain ⟨f0, f1, f2, f3, f4, f5⟩ := hf it (by simp)
    exact wpAny_pyNext_range_end (I.ok.hd hc) st (by have : n ≤ i := hg; omega) fun h' eb => ⟨rfl, I.turned (t' := s.toks) (fun b o hb e => eb b o hb e) f0 f1 f3 f4 f5⟩
  self := fun _ _ _ _ _ st h => wpAny_pyIter_rangeiter st h
def rngR (n : Nat) : List D := (List.range n).map fun (i : Nat) => .int ((n : Int) - 1 - (i : Int))
theorem yl_rngR {K : PySem.W.Frag} {H0 H : Hp} {n : Nat} : Yl K H0 (Itd n) (rngR n) H where
  go := fun H' _ _ i hi => by
    have : i < n := by simpa [rngR] using hi
    exact this
  yld := fun H' _ _ i x H'' d hd ⟨e, y⟩ => by
    subst e
    refine ⟨Same.refl _, ?_⟩
    unfold rngR at hd
    rw [List.getElem?_map] at hd
    rcases Nat.lt_or_ge i n with hi | hi
    · rw [List.getElem?_range hi] at hd
      have e : D.int ((n : Int) - 1 - (i : Int)) = d := Option.some.inj hd
      subst e y
      exact IsS.s_int
    · rw [List.getElem?_eq_none_iff.mpr (by simpa using hi)] at hd; cases hd
  stop := fun H' _ _ => by
    show n ≤ (rngR n).length
    simp [rngR]
def iRev1 (wr : WA) : WI := fun τ Q => wr τ fun rs => ∃ j : Int, rs = [.st (.int j)] ∧ 0 ≤ j ∧ j < 2 ^ 62 ∧ Q (rngR j.toNat) τ
theorem DI.rev1 (hg2 : Gl X "reversed") (hm2 : X.mg "reversed" = none) (hv2 : bootBuiltins "reversed" = some (.type "reversed")) (hg : Gl X "range") (hm : X.mg "range" = none) (ha : DA X H0 [a] wr) (hs : starEach [a] X.env = [(false, eval a X.env)] := by rfl)
    (hs2 : starEach [.Call (.Name "range" p) [a] [] pos] X.env = (false, eval (.Call (.Name "range" p) [a] [] pos) X.env) :: starEach [] X.env := by rfl) (hpl : (backTo pos2 (starEach [] X.env)).any (·.1) = false := by rfl) :
    DI X H0 tg (.Call (.Name "reversed" p2) [.Call (.Name "range" p) [a] [] pos] [] pos2) (iRev1 wr) where
  mono := fun τ P Q f h => ha.mono τ _ _ (fun r ⟨j, e1, h1, h2, q⟩ => ⟨j, e1, h1, h2, f _ _ q⟩) h
  pi := by
    intro pins s σ H R I ⟨τ, hR, h⟩
    refine wpAny_Call_Name_kw (ld_blt I hg2 hm2 hv2 ?_ (by decide) (by decide))
    refine PyProof.Rows.callWith_type1 ?_ hs2 hpl
    rw [hs2]
    show wpAny _ _ (spliced ((false, eval (.Call (.Name "range" p) [a] [] pos) X.env) :: backTo pos2 (starEach [] X.env))) _ _ s
    refine Calls.spliced_cons ?_
    refine Call_ (ld_blt I hg hm boot_range (PyProof.Rows.callWith_type1 (thn (ha.pa pos pins s σ H (fun vs H1 => Same H H1 ∧ ∃ j : Int, vs = [.int j] ∧ 0 ≤ j ∧ j < 2 ^ 62 ∧ ∀ J H', Kp H H' → Rep X.K H0 τ σ H' → Yl X.K H0 J (rngR j.toNat) H' → R J H') I
      ⟨τ, hR, ha.mono τ _ _ (fun rs ⟨j, e1, h1, h2, q⟩ vs H1 s1 irs => ⟨s1, j, by subst e1; obtain ⟨v, rfl, ir⟩ := allR1 irs; cases (show v = .int j from ir); rfl, h1, h2, q⟩) h⟩) fun us s1 ⟨vs, H1, I1, rv, sm, j, e1, h1, h2, q⟩ => ?_) hs rfl))
    · subst e1
      obtain ⟨u, rfl, t, rfl⟩ := vals1 rv
      refine call_range_1 ?_
      refine Calls.spliced_nil ?_
      refine HT.call_reversed_rng (l := s1.heap.objs.size) (b := j) h1 h2 (Heap.get?_push_size _ rfl) ?_
      have I2 : Inv X pins σ H1 { s1 with heap := s1.heap.push { cls := .type "range", data := .fields #[.int 0 s1.toks, .int j t, .int 1 (s1.toks + 1)] }, toks := s1.toks + 1 + 1 } := I1.kept fun b o e => Heap.get?_push_of_some _ e
      refine wpAny_pyIter_rangeiter (Heap.get?_push_size _ rfl) ?_
      refine ⟨_, [_], _, _, H1, rfl, I2.kept (t' := s1.toks + 1 + 1) fun b o e => Heap.get?_push_of_some _ e, turn_rangeD _ j.toNat, ?_, fun b hb => ?_, q _ _ (Kp.of sm) (hR.mono sm) yl_rngR⟩
      · have e1 : ((j.toNat : Nat) : Int) = j := by omega
        have e2 : (j - 1) = ((j.toNat : Nat) : Int) - 1 + ((0 : Nat) : Int) * (-1) := by omega
        have e3 : j = ((j.toNat : Nat) : Int) - ((0 : Nat) : Int) := by omega
        show IsRangeIter _ _ (((j.toNat : Nat) : Int) - 1 + ((0 : Nat) : Int) * (-1)) (((j.toNat : Nat) : Int) - ((0 : Nat) : Int)) (-1)
        rw [← e2, ← e3]
        exact Heap.get?_push_size _ rfl
      · rw [List.mem_singleton.mp hb]
        exact I2.fpOk (Nat.le_refl _) (I2.hok.fresh (Nat.le_refl _))
def Irl (K : PySem.W.Frag) (l : Addr) (n : Nat) : It := ⟨fun i H => i < n ∧ ∃ xs, SqL K H l xs ∧ xs.length = n, fun i H v H' => H' = H ∧ ∀ xs, SqL K H l xs → xs[n - 1 - i]? = some v, fun i _ => i = n⟩
theorem turn_revL {P : Program} {w : World} {K : PySem.W.Frag} {tg : Expr} {it l : Addr} {n : Nat} : Turn P w K tg (Irl K l n) [it] it (fun i h => i ≤ n ∧ h.IsRevIter it l ((n : Int) - 1 - (i : Int))) where
  mem := by simp
  obj := fun i h st b hb => by
    have e : b = it := by simpa using hb
    subst e
    obtain ⟨_, o, ho, hc, hd⟩ := st
    exact ⟨o, ho, fun v z => by rw [hd] at z; cases z⟩
  keep := fun i h h' st k => ⟨st.1, st.2.at fun o e => k it (by simp) o e⟩
  item := by
    intro X hP hw hK hc i pins s σ H E I hf st hg
    subst hP hw hK
    obtain ⟨f0, f1, f2, f3, f4, f5⟩ := hf it (by simp)
    obtain ⟨hlt, xs, hq, hn⟩ := hg
    obtain ⟨its, rv, pl, hz⟩ := I.list hq
    have hl := rv.length
    have hx : xs[n - 1 - i]? = some (xs[n - 1 - i]'(by omega)) := List.getElem?_eq_getElem _
    obtain ⟨u, hu, ru⟩ := rv.get hx
    have hit := st.2
    have e : (n : Int) - 1 - (i : Int) = ((n - 1 - i : Nat) : Int) := by omega
    rw [e] at hit
    refine wpAny_pyNext_rev_item hit pl.isList (by simpa using hu) fun h' hit' hs' => ?_
    have I1 : Inv X pins σ H { s with heap := h' } := I.turned (t' := s.toks) (fun b o hb e => hs'.extBut b o hb e) f0 f1 f3 f4 f5
    have e2 : ((n - 1 - i : Nat) : Int) - 1 = (n : Int) - 1 - ((i + 1 : Nat) : Int) := by omega
    rw [e2] at hit'
    obtain ⟨o, ho, hoc, hd⟩ := id hit'
    exact ⟨u, rfl, go_of (s := { s with heap := h' }) ho hoc hd (by decide) ⟨_, H, I1, ru, ⟨rfl, fun ys hy => by rw [I.list_inj hy hq]; exact hx⟩, ⟨by omega, hit'⟩, fun b hb => (hf b hb).1⟩⟩
  done := by
    intro X hP hw hK hc i pins s σ H E I hf st hg
    subst hP hw hK
    obtain ⟨f0, f1, f2, f3, f4, f5⟩ := hf it (by simp)
    have hg : i = n := hg
    subst hg
    have hit := st.2
    have e : (i : Int) - 1 - (i : Int) = -1 := by omega
    rw [e] at hit
    exact wpAny_pyNext_rev_end (I.ok.hd hc) hit fun h' eb => ⟨rfl, I.turned (t' := s.toks) (fun b o hb e => eb b o hb e) f0 f1 f3 f4 f5⟩
  self := fun _ _ _ _ _ st h => wpAny_pyIter_revIter st.2 h
theorem yls_revL {K : PySem.W.Frag} {H : Hp} {l : Addr} {xs : List V} {ds : List D} (sq : SqL K H l xs) (al : AllS K H ds xs) : YlS K (Irl K l ds.length) ds.reverse H where
  go := fun H' s i hi => ⟨by simpa using hi, xs, s.seq sq, al.length.symm⟩
  yld := fun H' s i v H'' d hd ⟨e, hx⟩ => by
    subst e
    refine ⟨Same.refl _, ?_⟩
    have hl := al.length
    have hi : i < ds.length := by
      rcases Nat.lt_or_ge i ds.length with h | h
      · exact h
      · rw [List.getElem?_eq_none_iff.mpr (by simpa using h)] at hd; cases hd
    rw [List.getElem?_reverse hi] at hd
    obtain ⟨v', hv', q⟩ := (al.mono (Kp.of s) _ _).get hd
    have := hx xs (s.seq sq)
    rw [this] at hv'; cases hv'
    exact q
  stop := fun H' s => by
    show ds.reverse.length = ds.length
    simp
def jRevL (wr : WA) : WIE := fun τ Q => wr τ fun rs => ∃ r ds, rs = [r] ∧ lsAny r = some ds ∧ Q ds.reverse
theorem DIE.revL (hg : Gl X "reversed") (hm : X.mg "reversed" = none) (hv : bootBuiltins "reversed" = some (.type "reversed")) (ha : DA X H0 [a] wr) (he : starEach [a] X.env = (false, eval a X.env) :: starEach [] X.env := by rfl) (hpl : (backTo pos (starEach [] X.env)).any (·.1) = false := by rfl) :
    DIE X H0 tg (.Call (.Name "reversed" p) [a] [] pos) (jRevL wr) where
  mono := fun τ P Q f h => ha.mono τ _ _ (fun r ⟨r', ds, e1, e2, q⟩ => ⟨r', ds, e1, e2, f _ q⟩) h
  pi := by
    intro pins s σ H R I ⟨τ, hR, h⟩
    refine wpAny_Call_Name_kw (ld_blt I hg hm hv ?_ (by decide) (by decide))
    refine PyProof.Rows.callWith_type1 (thn (ha.pa pos pins s σ H (fun vs H1 => Same H H1 ∧ ∃ l xs ds, vs = [.ref l] ∧ SqL X.K H1 l xs ∧ AllS X.K H1 ds xs ∧ ∀ J H', Same H H' → YlS X.K J ds.reverse H' → R J H') I
      ⟨τ, hR, ha.mono τ _ _ (fun rs ⟨r, ds, e1, e2, q⟩ vs H1 s1 irs => ⟨s1, by
        subst e1
        obtain ⟨v, rfl, ir⟩ := allR1 irs
        obtain ⟨l, xs, rfl, sq, al⟩ := lsAny_of e2 ir
        exact ⟨l, xs, ds, rfl, sq, al, q⟩⟩) h⟩) fun us s1 ⟨vs, H1, I1, rv, sm, l, xs, ds, e1, sq, al, q⟩ => ?_) he hpl
    subst e1
    obtain ⟨u, rfl, ru⟩ := vals1 rv
    cases (show u = Value.ref l from ru)
    obtain ⟨its, rv', pl, hz'⟩ := I1.list sq
    have hl := rv'.length
    have hl2 := al.length
    refine call_reversed_list pl.isList ?_
    have hit : (s1.heap.push (revObj l ((its.toArray.size : Int) - 1))).IsRevIter s1.heap.objs.size l ((its.toArray.size : Int) - 1) := ⟨_, Heap.get?_push_size _ rfl, rfl, rfl⟩
    refine wpAny_pyIter_revIter hit ⟨s1.heap.objs.size, [s1.heap.objs.size], _, _, H1, rfl, I1.kept (t' := s1.toks) fun b o e => Heap.get?_push_of_some _ e, turn_revL (l := l) (n := ds.length), ⟨Nat.zero_le _, ?_⟩, fun b hb => ?_, q _ _ sm (yls_revL sq al)⟩
    · have e : ((ds.length : Nat) : Int) - 1 - ((0 : Nat) : Int) = (its.toArray.size : Int) - 1 := by simp; omega
      rw [e]; exact hit
    · rw [List.mem_singleton.mp hb]
      exact I1.fpOk (Nat.le_refl _) (I1.hok.fresh (Nat.le_refl _))
def zipD (ds es : List D) : List D := (ds.zip es).map fun p => .tup [p.1, p.2]
theorem zipD_get {ds es : List D} {i : Nat} {d : D} (h : (zipD ds es)[i]? = some d) : ∃ x y, ds[i]? = some x ∧ es[i]? = some y ∧ d = .tup [x, y] := by
  unfold zipD at h
  rw [List.getElem?_map] at h
  cases e : (ds.zip es)[i]? with
  | none => rw [e] at h; cases h
  | some q =>
    rw [e] at h
    have h : D.tup [q.1, q.2] = d := Option.some.inj h
    rw [List.getElem?_zip_eq_some] at e
    exact ⟨q.1, q.2, e.1, e.2, h.symm⟩
theorem zipD_length (ds es : List D) : (zipD ds es).length = min ds.length es.length := by simp [zipD]
def Izl (K : PySem.W.Frag) (l1 l2 : Addr) (n : Nat) : It := ⟨fun i H => i < n ∧ ∃ xs ys, SqL K H l1 xs ∧ SqL K H l2 ys ∧ min xs.length ys.length = n,
  fun i H v H' => ∃ T x y, (∀ xs, SqL K H l1 xs → xs[i]? = some x) ∧ (∀ ys, SqL K H l2 ys → ys[i]? = some y) ∧ H T = none ∧ v = .ref T ∧ H' = upd H T (.tup [x, y]), fun i H => i = n ∧ ∃ xs ys, SqL K H l1 xs ∧ SqL K H l2 ys ∧ min xs.length ys.length = n⟩
theorem turn_zip {P : Program} {w : World} {K : PySem.W.Frag} {elts : List Expr} {kk : Nat} {pt : Pos} {z TI TO i1 i2 l1 l2 : Addr} {n : Nat} (Dz : ZipApart z TI TO i1 i2 l1 l2) :
    Turn P w K (.Tuple elts kk pt) (Izl K l1 l2 n) [z, TO, i1, i2, TI] z (fun i h => IsZip h z TI TO .none ∧ IsPair h TI (.ref i1) (.ref i2) ∧ (∃ a b, IsPair h TO a b) ∧ h.IsListIter i1 l1 i ∧ h.IsListIter i2 l2 i) where
  mem := by simp
  obj := fun i h ⟨hz, hTI, ⟨a, b, hTO⟩, ⟨o1, h1, _, d1⟩, ⟨o2, h2, _, d2⟩⟩ c hc => by
    simp only [List.mem_cons, List.not_mem_nil, or_false] at hc
    rcases hc with rfl | rfl | rfl | rfl | rfl
    · exact ⟨_, hz, fun v z => by cases z⟩
    · exact ⟨_, hTO, fun v z => by cases z⟩
    · exact ⟨o1, h1, fun v z => by rw [d1] at z; cases z⟩
    · exact ⟨o2, h2, fun v z => by rw [d2] at z; cases z⟩
    · exact ⟨_, hTI, fun v z => by cases z⟩
  keep := fun i h h' ⟨hz, hTI, ⟨a, b, hTO⟩, h1, h2⟩ k => ⟨k z (by simp) _ hz, k TI (by simp) _ hTI, ⟨a, b, k TO (by simp) _ hTO⟩, h1.at fun o e => k i1 (by simp) o e, h2.at fun o e => k i2 (by simp) o e⟩
  item := by
    intro X hP hw hK hc i pins s σ H E I hf st hg
    subst hP hw hK
    obtain ⟨hlt, xs, ys, hq1, hq2, hn⟩ := hg
    obtain ⟨its, rv, p1, hz1⟩ := I.list hq1
    obtain ⟨its2, rv2, p2, hz2⟩ := I.list hq2
    have l1' := rv.length
    have l2' := rv2.length
    have W := WalksT.zip2 (prog := X.prog) (w := X.w) (A := X.A) (I.ok.hd hc) z TI TO i1 i2 l1 l2 Dz its.toArray its2.toArray
    obtain ⟨sz, sTI, sTO, s1, s2⟩ := st
    have hx : xs[i]? = some (xs[i]'(by omega)) := List.getElem?_eq_getElem _
    have hy : ys[i]? = some (ys[i]'(by omega)) := List.getElem?_eq_getElem _
    obtain ⟨u, hu, ru⟩ := rv.get hx
    obtain ⟨u', hu', ru'⟩ := rv2.get hy
    refine W.item i s _ _ (by simp; omega) ⟨sz, sTI, sTO, s1, s2, p1.isList, p2.isList⟩ fun T vals h' tk hv hT hIT mid k => ?_
    obtain ⟨x', y', hx', hy', rfl⟩ := hv
    have ex : x' = u := by
      have : its[i]? = some x' := by simpa using hx'
      rw [hu] at this; exact (Option.some.inj this).symm
    have ey : y' = u' := by
      have : its2[i]? = some y' := by simpa using hy'
      rw [hu'] at this; exact (Option.some.inj this).symm
    subst ex ey
    refine ⟨_, rfl, W.go elts kk pt i T { s with heap := h', toks := tk } _ _ mid fun h2 st2 k2 => ?_⟩
    have kk2 : ∀ b o, b ∉ [z, TO, i1, i2] → s.heap.get? b = some o → h2.get? b = some o := fun b o hb e => k2 b o hb (k b o hb e)
    have hap := W.apart i T h' mid
    have hIT2 : IsTup h2 T ([x', y']).toArray := by
      obtain ⟨o, ho, r⟩ := hIT
      exact ⟨o, k2 T o hap ho, r⟩
    have hf4 : ∀ b ∈ [z, TO, i1, i2], FpOk X pins H b := fun b hb => hf b (by
      simp only [List.mem_cons, List.not_mem_nil, or_false] at hb ⊢
      rcases hb with h | h | h | h <;> simp [h])
    have I2 := turnedT (t' := tk) (xs := [xs[i]'(by omega), ys[i]'(by omega)]) I kk2 hf4 hT hIT2 (.cons ru (.cons ru' .nil)) (by show 2 ≤ sizeLine; decide)
    refine ⟨.ref T, _, I2, rfl, ⟨T, _, _, fun zs hz => by rw [I.list_inj hz hq1]; exact hx, fun zs hz => by rw [I.list_inj hz hq2]; exact hy, I.hok.fresh hT, rfl, rfl⟩, ⟨st2.1, st2.2.1, st2.2.2.1, st2.2.2.2.1, st2.2.2.2.2.1⟩, fun b hb => ?_⟩
    have hbT : b ≠ T := fun zz => by
      obtain ⟨o, ho, _⟩ : ∃ o, s.heap.get? b = some o ∧ True := by
        simp only [List.mem_cons, List.not_mem_nil, or_false] at hb
        obtain ⟨a', b', sTO'⟩ := sTO
        obtain ⟨o1, h1, _⟩ := s1
        obtain ⟨o2, h2, _⟩ := s2
        rcases hb with rfl | rfl | rfl | rfl | rfl
        · exact ⟨_, sz, trivial⟩
        · exact ⟨_, sTO', trivial⟩
        · exact ⟨_, h1, trivial⟩
        · exact ⟨_, h2, trivial⟩
        · exact ⟨_, sTI, trivial⟩
      exact absurd (zz ▸ hT : s.heap.objs.size ≤ b) (Nat.not_le.mpr (Heap.lt_size ho))
    rw [upd_ne hbT]
    exact (hf b hb).1
  done := by
    intro X hP hw hK hc i pins s σ H E I hf st hg
    subst hP hw hK
    obtain ⟨hi, xs, ys, hq1, hq2, hn⟩ := hg
    obtain ⟨its, rv, p1, hz1⟩ := I.list hq1
    obtain ⟨its2, rv2, p2, hz2⟩ := I.list hq2
    have l1' := rv.length
    have l2' := rv2.length
    have W := WalksT.zip2 (prog := X.prog) (w := X.w) (A := X.A) (I.ok.hd hc) z TI TO i1 i2 l1 l2 Dz its.toArray its2.toArray
    obtain ⟨sz, sTI, sTO, s1, s2⟩ := st
    have e : i = min its.toArray.size its2.toArray.size := by simp; omega
    subst e
    have hf4 : ∀ b ∈ [z, TO, i1, i2], FpOk X pins H b := fun b hb => hf b (by
      simp only [List.mem_cons, List.not_mem_nil, or_false] at hb ⊢
      rcases hb with h | h | h | h <;> simp [h])
    exact W.done s _ _ ⟨sz, sTI, sTO, s1, s2, p1.isList, p2.isList⟩ fun h' tk k => ⟨rfl, turnedL I k hf4⟩
  self := fun A i s Q E st h => wpAny_pyIter_zip st.1 h
theorem yls_zip {K : PySem.W.Frag} {H : Hp} {l1 l2 : Addr} {xs ys : List V} {ds es : List D} (sq : SqL K H l1 xs) (al : AllS K H ds xs) (sq2 : SqL K H l2 ys) (al2 : AllS K H es ys) : YlS K (Izl K l1 l2 (min ds.length es.length)) (zipD ds es) H where
  go := fun H' s i hi => by
    rw [zipD_length] at hi
    exact ⟨hi, xs, ys, s.seq sq, s.seq sq2, by rw [al.length, al2.length]⟩
  yld := fun H' s i v H'' d hd ⟨T, x, y, hx, hy, hT, hv, hH⟩ => by
    subst hH hv
    refine ⟨same_new hT _, ?_⟩
    obtain ⟨d1, d2, e1, e2, rfl⟩ := zipD_get hd
    obtain ⟨v1, hv1, q1⟩ := al.get e1
    obtain ⟨v2, hv2, q2⟩ := al2.get e2
    rw [hx xs (s.seq sq)] at hv1; cases hv1
    rw [hy ys (s.seq sq2)] at hv2; cases hv2
    have kp := Kp.of (s.trans (same_new hT (.tup [x, y])))
    exact IsS.s_tup upd_same (AllS.cons (q1.mono kp _ _) (AllS.cons (q2.mono kp _ _) AllS.nil))
  stop := fun H' s => ⟨zipD_length _ _, xs, ys, s.seq sq, s.seq sq2, by rw [al.length, al2.length]⟩
def jZip (wr : WA) : WIE := fun τ Q => wr τ fun rs => ∃ r r' ds es, rs = [r, r'] ∧ lsAny r = some ds ∧ lsAny r' = some es ∧ Q (zipD ds es)
theorem DIE.zip {elts : List Expr} {kk : Nat} {pt : Pos} (hg : Gl X "zip") (hm : X.mg "zip" = none) (hv : bootBuiltins "zip" = some (.type "zip")) (ha : DA X H0 [a, b] wr) (he : starEach [a, b] X.env = (false, eval a X.env) :: starEach [b] X.env := by rfl) (hpl : (backTo pos (starEach [b] X.env)).any (·.1) = false := by rfl) :
    DIE X H0 (.Tuple elts kk pt) (.Call (.Name "zip" p) [a, b] [] pos) (jZip wr) where
  mono := fun τ P Q f h => ha.mono τ _ _ (fun r ⟨r1, r2, ds, es, e1, e2, e3, q⟩ => ⟨r1, r2, ds, es, e1, e2, e3, f _ q⟩) h
  pi := by
    intro pins s σ H R I ⟨τ, hR, h⟩
    refine wpAny_Call_Name_kw (ld_blt I hg hm hv ?_ (by decide) (by decide))
    refine PyProof.Rows.callWith_type1 (thn (ha.pa pos pins s σ H (fun vs H1 => Same H H1 ∧ ∃ l1 l2 xs ys ds es, vs = [.ref l1, .ref l2] ∧ SqL X.K H1 l1 xs ∧ AllS X.K H1 ds xs ∧ SqL X.K H1 l2 ys ∧ AllS X.K H1 es ys ∧ ∀ J H', Same H H' → YlS X.K J (zipD ds es) H' → R J H') I
      ⟨τ, hR, ha.mono τ _ _ (fun rs ⟨r, r', ds, es, e1, e2, e3, q⟩ vs H1 s1 irs => ⟨s1, by
        subst e1
        obtain ⟨v, u, rfl, ir, ir2⟩ := allR2 irs
        obtain ⟨l, xs, rfl, sq, al⟩ := lsAny_of e2 ir
        obtain ⟨l2, ys, rfl, sq2, al2⟩ := lsAny_of e3 ir2
        exact ⟨l, l2, xs, ys, ds, es, rfl, sq, al, sq2, al2, q⟩⟩) h⟩) fun us s1 ⟨vs, H1, I1, rv, sm, l1, l2, xs, ys, ds, es, e1, sq, al, sq2, al2, q⟩ => ?_) he hpl
    subst e1
    have rv2 : ∃ u1 u2, us = [u1, u2] ∧ RelV (.ref l1) u1 ∧ RelV (.ref l2) u2 := by
      cases rv with
      | cons r1 rr =>
        obtain ⟨u2, rfl, r2⟩ := vals1 rr
        exact ⟨_, u2, rfl, r1, r2⟩
    obtain ⟨u1, u2, rfl, r1, r2⟩ := rv2
    · cases (show u1 = Value.ref l1 from r1)
      cases (show u2 = Value.ref l2 from r2)
      obtain ⟨its, rv', pl, hz'⟩ := I1.list sq
      obtain ⟨its2, rv2', pl2, hz2'⟩ := I1.list sq2
      obtain ⟨o, n, ho, _⟩ := id pl
      obtain ⟨o2, n2, ho2, _⟩ := id pl2
      have hl : @LT.lt Nat _ l1 s1.heap.objs.size := Heap.lt_size ho
      have hl2 : @LT.lt Nat _ l2 s1.heap.objs.size := Heap.lt_size ho2
      refine call_zip_2 pl.isList pl2.isList fun h' hz hTI hTO hi1 hi2 hsz k => ?_
      have Dz : ZipApart (s1.heap.objs.size + 4) (s1.heap.objs.size + 2) (s1.heap.objs.size + 3) s1.heap.objs.size (s1.heap.objs.size + 1) l1 l2 := by
        constructor <;> (show ¬ ((_ : Nat) = (_ : Nat)); omega)
      refine wpAny_pyIter_zip hz ⟨s1.heap.objs.size + 4, [s1.heap.objs.size + 4, s1.heap.objs.size + 3, s1.heap.objs.size, s1.heap.objs.size + 1, s1.heap.objs.size + 2], _, _, H1, rfl, I1.kept (t' := s1.toks) k, turn_zip (n := min ds.length es.length) Dz, ⟨hz, hTI, ⟨_, _, hTO⟩, hi1, hi2⟩, fun b hb => ?_, q _ _ sm (yls_zip sq al sq2 al2)⟩
      have hb : s1.heap.objs.size ≤ b := by
        simp only [List.mem_cons, List.not_mem_nil, or_false] at hb
        rcases hb with rfl | rfl | rfl | rfl | rfl <;> first | exact Nat.le_refl _ | exact Nat.le_add_right _ _
      exact I1.fpOk hb (I1.hok.fresh hb)
end
end TK
end
section
set_option maxRecDepth 100000
set_option maxHeartbeats 1000000
namespace HT
open PySem PySem.Spec PyProof.Rows L2
theorem del_tail {P : Value × Nat → Option Value} (a : Nat) : ∀ (its : List Value) (j : Nat), (∀ x k, k < j + its.length → P (x, k) = if a ≤ k then none else some x) → (its.zipIdx j).filterMap P = its.take (a - j)
  | [], j, _ => by simp
  | x :: its, j, h => by
    rw [List.zipIdx_cons, List.filterMap_cons, h x j (by simp)]
    have ih := del_tail a its (j + 1) fun y k hk => h y k (by simp at hk ⊢; omega)
    by_cases hj : a ≤ j
    · rw [if_pos hj, ih]
      have e1 : a - (j + 1) = 0 := by omega
      have e2 : a - j = 0 := by omega
      rw [e1, e2]; simp
    · rw [if_neg hj, ih]
      have e1 : a - j = (a - (j + 1)) + 1 := by omega
      rw [e1, List.take_succ_cons]
section
variable {prog : Program} {w : World} {A : Around} {E : Value → Shared → Prop} {s : Shared}
end
end HT
end
section
set_option maxRecDepth 100000
set_option maxHeartbeats 1000000
namespace TK
open PySem PySem.Spec PyProof.Rows L2
theorem Kp.updM {H : Hp} {a : Addr} {old : HO} (h : H a = some old) (nt : ∀ xs, old ≠ .tup xs) (nf : ∀ o u, old ≠ .frz o u) (o : HO) : Kp H (L2.upd H a o) :=
  ⟨fun c ys q => by rw [upd_ne (ne_of q h (fun z => nt _ z.symm))]; exact q, fun c ob u q => by rw [upd_ne (ne_of q h (fun z => nf _ _ z.symm))]; exact q⟩
theorem Rep.mutG {K : PySem.W.Frag} {H0 H : Hp} {τ : DSt} {σ : St} {i : Nat} {s s' : Sl} {a : Addr} {old new : HO} (hR : Rep K H0 τ σ H) (e1 : τ[i]? = some (some s)) (m : s.mut = true) (hv : σ[i]? = some (some (.ref a))) (h0 : H0 a = none)
    (sq : H a = some old) (nt : ∀ xs, old ≠ .tup xs) (nf : ∀ o u, old ≠ .frz o u) (hs' : SlR K H0 (upd H a new) s' (.ref a)) : Rep K H0 (τ.set i (some s')) σ (upd H a new) := by
  have kp : Kp H (upd H a new) := Kp.updM sq nt nf _
  have hl : i < τ.length := by
    rcases Nat.lt_or_ge i τ.length with h | h
    · exact h
    · rw [List.getElem?_eq_none_iff.mpr h] at e1; cases e1
  have oldE : ∀ (j : Nat) (t : Sl), (τ.set i (some s'))[j]? = some (some t) → j ≠ i → τ[j]? = some (some t) := fun j t e hj => by rw [List.getElem?_set_ne (fun z => hj z.symm)] at e; exact e
  have mutAt : ∀ (j : Nat) (t : Sl), (τ.set i (some s'))[j]? = some (some t) → t.mut = true → ∃ t', τ[j]? = some (some t') ∧ t'.mut = true := fun j t e mm => by
    by_cases hj : j = i
    · subst hj; exact ⟨_, e1, m⟩
    · exact ⟨t, oldE j t e hj, mm⟩
  refine ⟨by rw [List.length_set]; exact hR.len, fun b ob hb => ?_, fun j t e => ?_, fun j k t u v hne e2 e3 m1 m2 q1 q2 => ?_⟩
  · rw [upd_ne (ne_of_none hb h0)]; exact hR.same b ob hb
  · by_cases hj : j = i
    · subst hj
      rw [get_set_eq hl] at e; cases e
      exact ⟨_, hv, hs'⟩
    · have e := oldE j t e hj
      obtain ⟨v, q, r⟩ := hR.here j t e
      refine ⟨v, q, ?_⟩
      have ap : t.mut = true → v ≠ .ref a := fun mm z => by
        subst z
        exact hR.apart i j _ t (.ref a) (fun z => hj z.symm) e1 e m mm hv q
      cases t with
      | dat d => exact IsS.mono kp _ _ r
      | own es => obtain ⟨b, ys, e, n, q, t⟩ := r; exact ⟨b, ys, e, n, by rw [upd_ne (fun z => ap rfl (by rw [e, z]))]; exact q, t.mono kp _ _⟩
      | bor es => obtain ⟨b, ys, e, q, t⟩ := r; exact ⟨b, ys, e, q, t.mono kp _ _⟩
      | dk es => obtain ⟨b, ys, e, n, q, t⟩ := r; exact ⟨b, ys, e, n, by rw [upd_ne (fun z => ap rfl (by rw [e, z]))]; exact q, t.mono kp _ _⟩
      | dt es => obtain ⟨b, ys, e, n, q, t⟩ := r; exact ⟨b, ys, e, n, by rw [upd_ne (fun z => ap rfl (by rw [e, z]))]; exact q, t.mono kp _ _⟩
      | ob _ => exact r
      | ins _ _ _ => obtain ⟨e, n, dx, ys, q, t⟩ := r; exact ⟨e, n, dx, ys, by rw [upd_ne (fun z => ap rfl (by rw [e, z]))]; exact q, t.mono kp _ _⟩
  · obtain ⟨s1, e2', m1'⟩ := mutAt j t e2 m1
    obtain ⟨t1, e3', m2'⟩ := mutAt k u e3 m2
    exact hR.apart j k s1 t1 v hne e2' e3' m1' m2' q1 q2
def keyD : D → Option Key
  | .int i => some (.inl i)
  | .str x => some (.inr x)
  | _ => none
def keysD : List D → Option (List Key)
  | [] => some []
  | d :: r => (keyD d).bind fun k => (keysD r).map (k :: ·)
theorem keysD_of {K : PySem.W.Frag} {H : Hp} : ∀ {ds : List D} {ks : List Key} {xs : List V}, keysD ds = some ks → AllS K H ds xs → xs = ks.map kV
  | [], ks, xs, h, al => by cases h; unfold AllS at al; exact al
  | d :: r, ks, xs, h, al => by
    unfold keysD at h
    unfold AllS at al
    obtain ⟨v, t, rfl, iv, al⟩ := al
    cases d with
    | int i =>
      cases e : keysD r with
      | none => rw [e] at h; cases h
      | some k2 =>
        rw [e] at h
        have h : some (Sum.inl i :: k2) = some ks := h
        cases h
        rw [keysD_of e al]
        unfold IsS at iv
        rw [iv]; rfl
    | str i =>
      cases e : keysD r with
      | none => rw [e] at h; cases h
      | some k2 =>
        rw [e] at h
        have h : some (Sum.inr i :: k2) = some ks := h
        cases h
        rw [keysD_of e al]
        unfold IsS at iv
        rw [iv]; rfl
    | non => cases h
    | bl _ => cases h
    | tup _ => cases h
    | lst _ => cases h
section
variable {κ : Type} [DecidableEq κ]
def valD (kvs : List (κ × D)) (k : κ) : Option D := (kvs.find? fun kv => decide (kv.1 = k)).map (·.2)
def putD (kvs : List (κ × D)) (k : κ) (v : D) : List (κ × D) := if (kvs.any fun kv => decide (kv.1 = k)) = true then kvs.map (fun kv => if kv.1 = k then (kv.1, v) else kv) else kvs ++ [(k, v)]
theorem KVS.val {K : PySem.W.Frag} {H : Hp} {k : κ} : ∀ {kvs : List (κ × D)} {ps : List (κ × V)}, KVS K H kvs ps → (valD kvs k = none ∧ valV ps k = none) ∨ ∃ d v, valD kvs k = some d ∧ valV ps k = some v ∧ IsS K H d v
  | [], ps, h => by unfold KVS at h; subst h; exact .inl ⟨rfl, rfl⟩
  | p :: kvs, ps, h => by
    unfold KVS at h
    obtain ⟨v, r, rfl, iv, h⟩ := h
    by_cases e : p.1 = k
    · exact .inr ⟨p.2, v, by simp [valD, List.find?_cons, e], valV_pos e, iv⟩
    · rw [valV_neg (p := (p.1, v)) e]
      have : valD (p :: kvs) k = valD kvs k := by simp [valD, List.find?_cons, e]
      rw [this]
      exact KVS.val h
theorem KVS.any {K : PySem.W.Frag} {H : Hp} {k : κ} : ∀ {kvs : List (κ × D)} {ps : List (κ × V)}, KVS K H kvs ps → (kvs.any fun kv => decide (kv.1 = k)) = (ps.any fun kv => decide (kv.1 = k))
  | [], ps, h => by unfold KVS at h; subst h; rfl
  | p :: kvs, ps, h => by
    unfold KVS at h
    obtain ⟨v, r, rfl, iv, h⟩ := h
    rw [List.any_cons, List.any_cons, KVS.any h]
theorem KVS.length {K : PySem.W.Frag} {H : Hp} : ∀ {kvs : List (κ × D)} {ps : List (κ × V)}, KVS K H kvs ps → kvs.length = ps.length
  | [], ps, h => by unfold KVS at h; subst h; rfl
  | p :: kvs, ps, h => by
    unfold KVS at h
    obtain ⟨v, r, rfl, iv, h⟩ := h
    rw [List.length_cons, List.length_cons, KVS.length h]
theorem KVS.app {K : PySem.W.Frag} {H : Hp} {k : κ} {d : D} {v : V} (q : IsS K H d v) : ∀ {kvs : List (κ × D)} {ps : List (κ × V)}, KVS K H kvs ps → KVS K H (kvs ++ [(k, d)]) (ps ++ [(k, v)])
  | [], ps, h => by unfold KVS at h; subst h; exact ⟨v, [], rfl, q, rfl⟩
  | p :: kvs, ps, h => by
    unfold KVS at h
    obtain ⟨v', r, rfl, iv, h⟩ := h
    exact ⟨v', _, rfl, iv, KVS.app q h⟩
theorem KVS.repl {K : PySem.W.Frag} {H : Hp} {k : κ} {d : D} {v : V} (q : IsS K H d v) : ∀ {kvs : List (κ × D)} {ps : List (κ × V)}, KVS K H kvs ps → KVS K H (kvs.map fun kv => if kv.1 = k then (kv.1, d) else kv) (ps.map fun kv => if kv.1 = k then (kv.1, v) else kv)
  | [], ps, h => by unfold KVS at h; subst h; rfl
  | p :: kvs, ps, h => by
    unfold KVS at h
    obtain ⟨v', r, rfl, iv, h⟩ := h
    have ih := KVS.repl (k := k) q h
    by_cases e : p.1 = k
    · simp only [List.map_cons, e, if_true]
      exact ⟨v, _, rfl, q, ih⟩
    · simp only [List.map_cons, e, if_false]
      exact ⟨v', _, rfl, iv, ih⟩
theorem KVS.put {K : PySem.W.Frag} {H : Hp} {k : κ} {d : D} {v : V} (q : IsS K H d v) {kvs : List (κ × D)} {ps : List (κ × V)} (h : KVS K H kvs ps) : KVS K H (putD kvs k d) (putK ps k v) := by
  unfold putD putK
  rw [KVS.any h]
  split
  · exact KVS.repl (k := k) q h
  · exact KVS.app q h
end
section
variable {X : Cx} {H0 : Hp} {a b c e o tg : Expr} {pos pos' p2 apos cpos : Pos} {wa wb wi we : WE} {x : Str}
def wDNew (i : Nat) : WS := fun E τ => E.nx (τ.set i (some (.dt [])))
theorem DS.dnew {i : Nat} (hN : X.N.Nodup) (hi : X.N[i]? = some x) (hx : Loc X.env.scope x) (hs : swapsWith (.Dict [] [] p2) (some (.Name x pos')) pos.line X.env = pure false := by rfl)
    (hf : X.fn x = true ∨ X.env.scope.names.lookup x = some .local := by first | exact .inl rfl | exact .inr rfl | assumption) : DS X H0 (.Assign [.Name x pos'] (.Dict [] [] p2) pos) (wDNew i) where
  mono := fun τ E F le h => le.nx _ h
  ps := psW (ps_set hN hi hx pe_dnewT hs hf) fun D σ H ⟨τ, hR, h⟩ p hp => by
    have sm : Same H (upd H p (.dT [])) := same_new hp _
    refine h _ _ (Kp.of sm) ((hR.mono sm).set (s := .dt []) ⟨p, [], rfl, hR.same.free hp, upd_same, rfl⟩ fun _ j t hj e m q => ?_)
    obtain ⟨o, ho⟩ := hR.tracked e m q
    rw [hp] at ho; cases ho
theorem Rep.dtAt {K : PySem.W.Frag} {H : Hp} {τ : DSt} {σ : St} {i : Nat} {kvs : List (List Key × D)} (hR : Rep K H0 τ σ H) (e1 : τ[i]? = some (some (.dt kvs))) : ∃ a ps, σ[i]? = some (some (.ref a)) ∧ H0 a = none ∧ H a = some (.dT ps) ∧ KVS K H kvs ps := by
  obtain ⟨v, hv, a, xs, rfl, h0, sq, al⟩ := hR.here i _ e1
  exact ⟨a, xs, hv, h0, sq, al⟩
def wDGet (i : Nat) (we : WE) : WE := fun τ Q => ∃ kvs, τ[i]? = some (some (.dt kvs)) ∧ we τ fun r => ∃ ds ks d, r = .st (.tup ds) ∧ keysD ds = some ks ∧ valD kvs ks = some d ∧ Q (.st d)
theorem DE.dgetT {i : Nat} (hu : X.A.units + 1 < cLine) (ho : PE X o (tVar i)) (he : DE X H0 e we) (hs : NoSl e) : DE X H0 (.Subscript o e pos) (wDGet i we) where
  mono := fun τ P Q f ⟨kvs, e1, h⟩ => ⟨kvs, e1, he.mono τ _ _ (fun r ⟨ds, ks, d, a1, a2, a3, a4⟩ => ⟨ds, ks, d, a1, a2, a3, f _ a4⟩) h⟩
  pe := peW (pe_dget hu ho he.pe hs) fun σ H Q ⟨τ, hR, kvs, e1, h⟩ => by
    obtain ⟨a, ps, hv, h0, sq, kv⟩ := hR.dtAt e1
    refine ⟨_, hv, τ, hR, he.mono τ _ _ (fun r ⟨ds, ks, d, a1, a2, a3, a4⟩ v H1 s1 ir => ?_) h⟩
    subst a1
    have ir : IsS X.K H1 (.tup ds) v := ir
    unfold IsS at ir
    obtain ⟨b, xs, rfl, sb, al⟩ := ir
    rw [keysD_of a2 al] at sb
    rcases KVS.val (k := ks) (kv.mono (Kp.of s1) _ _) with ⟨n1, _⟩ | ⟨d', v', n1, n2, n3⟩
    · rw [a3] at n1; cases n1
    · rw [a3] at n1; cases n1
      refine ⟨a, v', rfl, ?_, a4 _ _ s1 n3⟩
      have g := DGet.t (s1 _ _ sq) sb
      rw [n2] at g
      exact g
def wDNotIn (i : Nat) (we : WE) : WT := fun τ Q => ∃ kvs, τ[i]? = some (some (.dt kvs)) ∧ we τ fun r => ∃ ds ks, r = .st (.tup ds) ∧ keysD ds = some ks ∧ Q (!(valD kvs ks).isSome)
theorem DT.dnotin {i : Nat} (hu : X.A.units + 1 < cLine) (he : DE X H0 e we) (ho : PE X o (tVar i)) (h1 : behindInMarks .NotIn o = false := by rfl) : DT X H0 (.Compare e [.NotIn] [o] pos) (wDNotIn i we) where
  mono := fun τ P Q f ⟨kvs, e1, h⟩ => ⟨kvs, e1, he.mono τ _ _ (fun r ⟨ds, ks, a1, a2, a4⟩ => ⟨ds, ks, a1, a2, f _ a4⟩) h⟩
  pt := ptW (pt_cmp (pc_dnotin hu he.pe ho) h1) fun σ H Q ⟨τ, hR, kvs, e1, h⟩ => by
    refine ⟨τ, hR, he.mono τ _ _ (fun r ⟨ds, ks, a1, a2, a4⟩ v H1 s1 ir => ?_) h⟩
    obtain ⟨a, ps, hv, h0, sq, kv⟩ := (hR.mono s1).dtAt e1
    subst a1
    have ir : IsS X.K H1 (.tup ds) v := ir
    unfold IsS at ir
    obtain ⟨b, xs, rfl, sb, al⟩ := ir
    rw [keysD_of a2 al] at sb
    refine ⟨_, hv, a, _, rfl, DGet.t sq sb, ?_⟩
    have e : (valV ps ks).isSome = (valD kvs ks).isSome := by
      rcases KVS.val (k := ks) kv with ⟨n1, n2⟩ | ⟨d', v', n1, n2, n3⟩ <;> rw [n1, n2] <;> rfl
    rw [e]
    exact ⟨_, rfl, a4 _ s1⟩
def wDPut (i : Nat) (we wv : WE) : WS := fun E τ => wv τ fun r => ∃ d, r = .st d ∧ ∃ kvs, τ[i]? = some (some (.dt kvs)) ∧ we τ fun rk => ∃ ds ks, rk = .st (.tup ds) ∧ keysD ds = some ks ∧ kvs.length < sizeLine ∧ E.nx (τ.set i (some (.dt (putD kvs ks d))))
theorem DS.dput {i : Nat} {v : Expr} {wv : WE} (hu : X.A.units + 1 < cLine) (ho : PE X o (tVar i)) (he : DE X H0 e we) (hv : DE X H0 v wv) (hs : swapsWith v (some (.Subscript o e pos')) pos.line X.env = pure false := by rfl) :
    DS X H0 (.Assign [.Subscript o e pos'] v pos) (wDPut i we wv) where
  mono := fun τ E F le h => hv.mono τ _ _ (fun r ⟨d, e1, kvs, e2, h⟩ => ⟨d, e1, kvs, e2, he.mono τ _ _ (fun r ⟨ds, ks, a1, a2, a3, a4⟩ => ⟨ds, ks, a1, a2, a3, le.nx _ a4⟩) h⟩) h
  ps := psW (ps_dput hu ho he.pe hv.pe hs) fun D σ H ⟨τ, hR, h⟩ => by
    refine ⟨τ, hR, hv.mono τ _ _ (fun r ⟨d, e1, kvs, e2, h⟩ u H1 s1 ir => ?_) h⟩
    subst e1
    have hR1 := hR.mono s1
    obtain ⟨a, ps, hva, h0, sq, kv⟩ := hR1.dtAt e2
    refine ⟨_, hva, τ, hR1, he.mono τ _ _ (fun rk ⟨ds, ks, a1, a2, a3, a4⟩ y H2 s2 ik => ?_) h⟩
    subst a1
    have ik : IsS X.K H2 (.tup ds) y := ik
    unfold IsS at ik
    obtain ⟨b, xs, rfl, sb, al⟩ := ik
    rw [keysD_of a2 al] at sb
    have sq2 := s2 _ _ sq
    have kv2 := kv.mono (Kp.of s2) _ _
    refine ⟨a, _, rfl, DPut.t sq2 sb (by rw [← KVS.length kv2]; exact a3), ?_⟩
    have kp : Kp H2 (upd H2 a (.dT (putK ps ks u))) := Kp.updM sq2 (by intro xs z; cases z) (by intro o u z; cases z) _
    have iv : IsS X.K H2 d u := IsS.mono (Kp.of s2) _ _ ir
    refine a4 σ _ ((Kp.of (s1.trans s2)).trans kp) ((hR1.mono s2).mutG e2 rfl hva h0 sq2 (by intro xs z; cases z) (by intro o u z; cases z) ⟨a, _, rfl, h0, upd_same, ?_⟩)
    exact KVS.mono kp _ _ (KVS.put iv kv2)
def wSetIx (i : Nat) (wi wv : WE) : WS := fun E τ => wv τ fun r => ∃ d, r = .st d ∧ ∃ ds, τ[i]? = some (some (.own ds)) ∧ wi τ fun rk => ∃ k j, rk = .st (.int k) ∧ ixN ds.length k = some j ∧ E.nx (τ.set i (some (.own (ds.set j d))))
theorem DS.setIx {i : Nat} {v : Expr} {wv : WE} (ho : PE X o (tVar i)) (he : DE X H0 e we) (hv : DE X H0 v wv)
    (hs : swapsWithSole [.Subscript o e pos'] v pos.line X.env = pure false := by rfl) (hw : swappedStores [.Subscript o e pos'] v X.env = pure none := by rfl)
    (h1 : (assignEach [.Subscript o e pos'] X.env).map (·.2) = [assign (.Subscript o e pos') X.env] := by rfl)
    (ha : ∀ v, assign (.Subscript o e pos') X.env v = (do
      let ov ← holding [v] (eval o X.env)
      let iv ← holding [v, ov] (eval e X.env)
      standAt pos'
      holding [v, ov, iv] (setItem ov iv v)
      release [v, ov, iv] []) := by intro _; rfl) : DS X H0 (.Assign [.Subscript o e pos'] v pos) (wSetIx i we wv) where
  mono := fun τ E F le h => hv.mono τ _ _ (fun r ⟨d, e1, ds, e2, h⟩ => ⟨d, e1, ds, e2, he.mono τ _ _ (fun r ⟨k, j, a1, a2, a3⟩ => ⟨k, j, a1, a2, le.nx _ a3⟩) h⟩) h
  ps := psW (ps_asg hv.pe (pg_sub ho he.pe set_list ha) hs hw h1) fun D σ H ⟨τ, hR, h⟩ => by
    refine ⟨τ, hR, hv.mono τ _ _ (fun r ⟨d, e1, ds, e2, h⟩ u H1 s1 ir => ?_) h⟩
    subst e1
    have hR1 := hR.mono s1
    obtain ⟨a, xs, hva, h0, sq, al⟩ := hR1.ownAt e2
    refine ⟨_, hva, τ, hR1, he.mono τ _ _ (fun rk ⟨k, j, a1, a2, a3⟩ y H2 s2 ik => ?_) h⟩
    subst a1
    cases (show y = .int k from ik)
    have sq2 := s2 _ _ sq
    refine ⟨a, xs, k, j, rfl, rfl, sq2, by rw [← al.length]; exact a2, ?_⟩
    have al2 : AllS X.K H2 (ds.set j d) (xs.set j u) := AllS.set (IsS.mono (Kp.of s2) _ _ ir) j (al.mono (Kp.of s2) _ _)
    exact a3 σ _ ((Kp.of (s1.trans s2)).trans (Kp.upd sq2 _)) ((hR1.mono s2).mutate e2 hva h0 sq2 al2)
def wDelTail (i : Nat) (we : WE) : WS := fun E τ => ∃ ds, τ[i]? = some (some (.own ds)) ∧ we τ fun r => ∃ k : Nat, r = .st (.int (-(k : Int))) ∧ 0 < k ∧ k ≤ ds.length ∧ E.nx (τ.set i (some (.own (ds.take (ds.length - k)))))
def wBitlen (we : WE) : WE := fun τ Q => we τ fun r => intR r fun i => Q (.st (.int (Builtin.Int.intBits i)))
theorem mt_bitlen : MtR X "int.bit_length" (fun x vs H Q => ∃ i, x = .int i ∧ vs = [] ∧ Q (.int (Builtin.Int.intBits i)) H) := by
  intro pins s σ H x vs v us Q I rx rv ⟨i, e1, e2, q⟩
  subst e1 e2
  obtain ⟨t, rfl⟩ := rx
  cases rv
  exact PyProof.Rows.call_int_bit_length ⟨.int _, H, I.tok _, ⟨_, rfl⟩, q⟩
theorem DE.bitlen (he : DE X H0 o we) (hbase : attributeBase o "bit_length" X.env (eval o X.env) = eval o X.env := by rfl) (hline : (apos.endLine == cpos.line) = true := by rfl) : DE X H0 (.Call (.Attribute o "bit_length" apos) [] [] cpos) (wBitlen we) where
  mono := fun τ P Q f h => he.mono τ _ _ (fun r h => by obtain ⟨i, rfl, h⟩ := intR_of h; exact f _ h) h
  pe := peW (pe_bm0 PySem.F.plainAttrs_int PySem.F.slot_int_bit_length PySem.F.type_int_bit_length mt_bitlen he.pe hbase hline) fun σ H Q ⟨τ, hR, h⟩ => ⟨τ, hR, he.mono τ _ _ (fun r h v H1 s1 ir => by
    obtain ⟨i, rfl, h⟩ := intR_of h
    cases (show v = .int i from ir)
    exact ⟨rfl, i, rfl, rfl, h _ _ s1 isr_int⟩) h⟩
end
end TK
end
section
set_option maxRecDepth 100000
namespace TK
open PySem PySem.Spec PyProof.Rows L2
def mk (p : Nat → Bool) : Nat → Nat
  | 0 => 0
  | m + 1 => mk p m + if p m then 2 ^ m else 0
theorem mk_lt (p : Nat → Bool) : ∀ m, mk p m < 2 ^ m
  | 0 => by simp [mk]
  | m + 1 => by
    have := mk_lt p m
    have e : 2 ^ (m + 1) = 2 ^ m + 2 ^ m := by rw [Nat.pow_succ]; omega
    simp only [mk]
    split <;> omega
theorem testBit_mk (p : Nat → Bool) : ∀ m i, (mk p m).testBit i = (decide (i < m) && p i)
  | 0, i => by simp [mk]
  | m + 1, i => by
    have hlt := mk_lt p m
    have ih := testBit_mk p m i
    simp only [mk]
    by_cases hp : p m = true
    · rw [if_pos hp, Nat.add_comm]
      by_cases hi : i = m
      · subst hi
        rw [Nat.testBit_two_pow_add_eq, ih]
        simp [hp]
      · rcases Nat.lt_or_gt_of_ne hi with h | h
        · rw [Nat.testBit_two_pow_add_gt h, ih]
          simp [h, Nat.lt_succ_of_lt h]
        · have : 2 ^ m + mk p m < 2 ^ i := by
            have e : 2 ^ (m + 1) ≤ 2 ^ i := Nat.pow_le_pow_right (by decide) h
            rw [Nat.pow_succ] at e
            omega
          rw [Nat.testBit_lt_two_pow this]
          have n1 : ¬ i < m + 1 := by omega
          simp [n1]
    · rw [if_neg hp, Nat.add_zero, ih]
      by_cases hi : i = m
      · subst hi
        simp [hp]
      · have : (i < m) ↔ (i < m + 1) := by omega
        simp [this]
theorem mk_congr {p q : Nat → Bool} {m : Nat} (h : ∀ i, i < m → p i = q i) : mk p m = mk q m := by
  apply Nat.eq_of_testBit_eq
  intro i
  rw [testBit_mk, testBit_mk]
  by_cases hi : i < m
  · rw [h i hi]
  · simp [hi]
theorem mk_or (p q : Nat → Bool) (m : Nat) : mk p m ||| mk q m = mk (fun i => p i || q i) m := by
  apply Nat.eq_of_testBit_eq
  intro i
  rw [Nat.testBit_or, testBit_mk, testBit_mk, testBit_mk]
  by_cases hi : i < m <;> simp [hi]
theorem mk_and (p q : Nat → Bool) (m : Nat) : mk p m &&& mk q m = mk (fun i => p i && q i) m := by
  apply Nat.eq_of_testBit_eq
  intro i
  rw [Nat.testBit_and, testBit_mk, testBit_mk, testBit_mk]
  by_cases hi : i < m <;> simp [hi]
theorem mk_sub {p q : Nat → Bool} (h : ∀ i, p i = true → q i = true) : ∀ m, mk q m = mk p m + mk (fun i => q i && !p i) m
  | 0 => by simp [mk]
  | m + 1 => by
    have ih := mk_sub h m
    simp only [mk]
    by_cases hp : p m = true
    · have hq := h m hp
      simp [hp, hq]; omega
    · by_cases hq : q m = true
      · simp [hp, hq]; omega
      · simp [hp, hq]; omega
theorem mk_false (m : Nat) : mk (fun _ => false) m = 0 := by
  induction m with
  | zero => rfl
  | succ m ih => simp [mk, ih]
theorem mk_one {b : Nat} : ∀ {m : Nat}, b < m → mk (fun e => e == b) m = 2 ^ b
  | 0, h => by omega
  | m + 1, h => by
    by_cases hb : b = m
    · subst hb
      have z : mk (fun e => e == b) b = 0 := by
        rw [mk_congr (q := fun _ => false) fun i hi => by have : ¬ i = b := by omega
                                                          simp [this]]
        exact mk_false b
      simp [mk, z]
    · have ih := mk_one (b := b) (m := m) (by omega)
      have n : ¬ m = b := fun z => hb z.symm
      simp [mk, ih, n]
theorem mk_from {b : Nat} : ∀ {m : Nat}, b ≤ m → mk (fun e => decide (b ≤ e)) m + 2 ^ b = 2 ^ m
  | 0, h => by have : b = 0 := by omega
               subst this; simp [mk]
  | m + 1, h => by
    by_cases hb : b = m + 1
    · subst hb
      have z : mk (fun e => decide (m + 1 ≤ e)) (m + 1) = 0 := by
        rw [mk_congr (q := fun _ => false) fun i hi => by have : ¬ m + 1 ≤ i := by omega
                                                          simp [this]]
        exact mk_false _
      rw [z]; omega
    · have ih := mk_from (b := b) (m := m) (by omega)
      have hm : b ≤ m := by omega
      have e : 2 ^ (m + 1) = 2 ^ m + 2 ^ m := by rw [Nat.pow_succ]; omega
      simp [mk, hm]
      omega
theorem bitAnd_nat (a b : Nat) : Builtin.bitAnd (a : Int) (b : Int) = ((a &&& b : Nat) : Int) := by
  unfold Builtin.bitAnd
  have h1 : decide (0 ≤ (a : Int)) = true := by simp
  have h2 : decide (0 ≤ (b : Int)) = true := by simp
  rw [h1, h2]
  simp
theorem bitOr_nat (a b : Nat) : Builtin.bitOr (a : Int) (b : Int) = ((a ||| b : Nat) : Int) := by
  unfold Builtin.bitOr Builtin.bitAnd Builtin.bitNot
  have h1 : decide (0 ≤ -(a : Int) - 1) = false := by simp; omega
  have h2 : decide (0 ≤ -(b : Int) - 1) = false := by simp; omega
  rw [h1, h2]
  have e1 : (-(-(a : Int) - 1) - 1).toNat = a := by omega
  have e2 : (-(-(b : Int) - 1) - 1).toNat = b := by omega
  simp only [e1, e2]
  omega
theorem bitXor_nat (a b : Nat) : Builtin.bitXor (a : Int) (b : Int) = ((a ||| b : Nat) : Int) - ((a &&& b : Nat) : Int) := by
  unfold Builtin.bitXor
  rw [bitOr_nat, bitAnd_nat]
theorem bitAndNot_nat (a b : Nat) : Builtin.bitAnd (a : Int) (Builtin.bitNot (b : Int)) = (a : Int) - ((a &&& b : Nat) : Int) := by
  unfold Builtin.bitAnd Builtin.bitNot
  have h1 : decide (0 ≤ (a : Int)) = true := by simp
  have h2 : decide (0 ≤ -(b : Int) - 1) = false := by simp; omega
  rw [h1, h2]
  have e2 : (-(-(b : Int) - 1) - 1).toNat = b := by omega
  simp only [e2, Int.toNat_natCast]
theorem mk_xor {p q : Nat → Bool} (h : ∀ i, p i = true → q i = true) (m : Nat) : Builtin.bitXor ((mk q m : Nat) : Int) ((mk p m : Nat) : Int) = ((mk (fun i => q i && !p i) m : Nat) : Int) := by
  rw [bitXor_nat, mk_or, mk_and]
  have e1 : mk (fun i => q i || p i) m = mk q m := mk_congr fun i _ => by
    cases hp : p i with
    | true => simp [h i hp]
    | false => simp
  have e2 : mk (fun i => q i && p i) m = mk p m := mk_congr fun i _ => by
    cases hp : p i with
    | true => simp [h i hp]
    | false => simp
  rw [e1, e2]
  have := mk_sub h m
  omega
theorem mk_andNot {p : Nat → Bool} {b m : Nat} (hb : b < m) : Builtin.bitAnd ((mk p m : Nat) : Int) (Builtin.bitNot ((2 ^ b : Nat) : Int)) = ((mk (fun i => p i && !(i == b)) m : Nat) : Int) := by
  rw [bitAndNot_nat, ← mk_one hb, mk_and]
  have := mk_sub (p := fun i => p i && i == b) (q := p) (fun i h => by simp at h; exact h.1) m
  have e : mk (fun i => p i && !(p i && i == b)) m = mk (fun i => p i && !(i == b)) m := mk_congr fun i _ => by cases p i <;> simp
  rw [e] at this
  omega
theorem mk_log {p : Nat → Bool} {k : Nat} (h : p k = true) : mk p (k + 1) = 2 ^ k + mk p k ∧ (mk p (k + 1)).log2 = k ∧ mk p (k + 1) ≠ 0 := by
  have e : mk p (k + 1) = 2 ^ k + mk p k := by simp [mk, h]; omega
  have hlt := mk_lt p k
  have hp : 0 < 2 ^ k := Nat.two_pow_pos k
  have n0 : mk p (k + 1) ≠ 0 := by omega
  refine ⟨e, ?_, n0⟩
  apply Nat.le_antisymm
  · have : (mk p (k + 1)).log2 < k + 1 := (Nat.log2_lt n0).mpr (mk_lt p (k + 1))
    omega
  · exact (Nat.le_log2 n0).mpr (by omega)
end TK
end
section
set_option maxRecDepth 100000
namespace TK
open PySem PySem.Spec PyProof.Rows L2
inductive Sh where
  | none | empty | signs (s : Str) | thn (a b : Sh) | or (a b : Sh) | and (a b : Sh) | not (a : Sh) | many (a : Sh)
  deriving DecidableEq
def Sh.word : Sh → Str
  | .none => "none" | .empty => "empty" | .signs _ => "signs" | .thn _ _ => "then" | .or _ _ => "or" | .and _ _ => "and" | .not _ => "not" | .many _ => "many"
def Sh.kids : Sh → List Sh
  | .thn a b => [a, b] | .or a b => [a, b] | .and a b => [a, b] | .not a => [a] | .many a => [a] | _ => []
def Sh.toD : Sh → D
  | .none => .tup [.str "none"]
  | .empty => .tup [.str "empty"]
  | .signs s => .tup [.str "signs", .str s]
  | .thn a b => .tup [.str "then", a.toD, b.toD]
  | .or a b => .tup [.str "or", a.toD, b.toD]
  | .and a b => .tup [.str "and", a.toD, b.toD]
  | .not a => .tup [.str "not", a.toD]
  | .many a => .tup [.str "many", a.toD]
def Sh.size : Sh → Nat
  | .thn a b => a.size + b.size + 1 | .or a b => a.size + b.size + 1 | .and a b => a.size + b.size + 1 | .not a => a.size + 1 | .many a => a.size + 1 | _ => 1
def Sh.high : Sh → Nat
  | .thn a b => max a.high b.high + 1 | .or a b => max a.high b.high + 1 | .and a b => max a.high b.high + 1 | .not a => a.high + 1 | .many a => a.high + 1 | _ => 0
def manyP (p : Nat → Nat → Bool) : Nat → Nat → Nat → Bool
  | 0, b, e => b == e
  | f + 1, b, e => b == e || (List.range (e - b)).any fun k => p b (b + k + 1) && manyP p f (b + k + 1) e
def fitP (L : List Nat) : Sh → Nat → Nat → Bool
  | .none, _, _ => false
  | .empty, b, e => b == e
  | .signs s, b, e => e == b + 1 && match L[b]? with
    | some c => inStr ⟨#[c]⟩ s
    | Option.none => false
  | .not a, b, e => !fitP L a b e
  | .or a c, b, e => fitP L a b e || fitP L c b e
  | .and a c, b, e => fitP L a b e && fitP L c b e
  | .thn a c, b, e => (List.range (e - b + 1)).any fun k => fitP L a b (b + k) && fitP L c (b + k) e
  | .many a, b, e => manyP (fitP L a) (e - b) b e
theorem any_congr {α : Type} {l : List α} {p q : α → Bool} (h : ∀ x ∈ l, p x = q x) : l.any p = l.any q := by
  induction l with
  | nil => rfl
  | cons a r ih => rw [List.any_cons, List.any_cons, h a List.mem_cons_self, ih fun x hx => h x (List.mem_cons_of_mem _ hx)]
theorem many_fuel (p : Nat → Nat → Bool) : ∀ (f b e : Nat), e - b ≤ f → manyP p f b e = manyP p (e - b) b e := by
  intro f
  induction f using Nat.strongRecOn with
  | ind f ih =>
    intro b e h
    match f, h with
    | 0, h =>
      have : e - b = 0 := by omega
      rw [this]
    | f + 1, h =>
      cases hn : e - b with
      | zero => simp [manyP, hn]
      | succ m =>
        rw [manyP, manyP]
        congr 1
        refine any_congr fun k hk => ?_
        have hk := List.mem_range.mp hk
        rw [ih f (by omega) (b + k + 1) e (by omega)]
        by_cases hm : m < f + 1
        · rw [ih m hm (b + k + 1) e (by omega)]
        · have : m = f + 1 := by omega
          omega
theorem many_step (L : List Nat) (a : Sh) (b e : Nat) : fitP L (.many a) b e = (b == e || (List.range (e - b)).any fun k => fitP L a b (b + k + 1) && fitP L (.many a) (b + k + 1) e) := by
  show manyP (fitP L a) (e - b) b e = _
  cases hn : e - b with
  | zero => simp [manyP]
  | succ m =>
    rw [manyP, hn]
    congr 1
    refine any_congr fun k hk => ?_
    have hk := List.mem_range.mp hk
    show _ = (_ && manyP (fitP L a) (e - (b + k + 1)) (b + k + 1) e)
    rw [many_fuel (fitP L a) m (b + k + 1) e (by omega)]
def pf (L : List Nat) (s : Sh) (b e : Nat) : Bool := decide (b ≤ e) && fitP L s b e
def tabI (L : List Nat) (s : Sh) (b : Nat) : D := .int ((mk (pf L s b) (L.length + 1) : Nat) : Int)
def tabD (L : List Nat) (s : Sh) : List D := (List.range (L.length + 1)).map (tabI L s)
theorem tab_len (L : List Nat) (s : Sh) : (tabD L s).length = L.length + 1 := by simp [tabD]
theorem tab_get (L : List Nat) (s : Sh) {b : Nat} (h : b < L.length + 1) : (tabD L s)[b]? = some (tabI L s b) := by
  simp [tabD, List.getElem?_map, List.getElem?_range h]
end TK
end
section
set_option maxRecDepth 100000
namespace TK
open PySem PySem.Spec PyProof.Rows L2
section
variable {τ : DSt} {E : DEnds} {Q : R → Prop} {QB : Bool → Prop} {wa wb wc we : WE} {wr : WA} {n : Nat} {d e : D} {ds es : List D} {i j : Int} {x y : Str}
@[simp] theorem s_bitlen : wBitlen we τ Q = we τ fun r => intR r fun i => Q (.st (.int (Builtin.Int.intBits i))) := rfl
@[simp] theorem s_inv : wInv we τ Q = we τ fun r => intR r fun i => Q (.st (.int (Builtin.bitNot i))) := rfl
@[simp] theorem s_dnew : wDNew n E τ = E.nx (τ.set n (some (.dt []))) := rfl
@[simp] theorem s_dgetT : wDGet n we τ Q = ∃ kvs, τ[n]? = some (some (.dt kvs)) ∧ we τ fun r => ∃ ds ks d, r = .st (.tup ds) ∧ keysD ds = some ks ∧ valD kvs ks = some d ∧ Q (.st d) := rfl
@[simp] theorem s_dnotin : wDNotIn n we τ QB = ∃ kvs, τ[n]? = some (some (.dt kvs)) ∧ we τ fun r => ∃ ds ks, r = .st (.tup ds) ∧ keysD ds = some ks ∧ QB (!(valD kvs ks).isSome) := rfl
@[simp] theorem s_dput : wDPut n wa wb E τ = wb τ fun r => ∃ d, r = .st d ∧ ∃ kvs, τ[n]? = some (some (.dt kvs)) ∧ wa τ fun rk => ∃ ds ks, rk = .st (.tup ds) ∧ keysD ds = some ks ∧ kvs.length < sizeLine ∧ E.nx (τ.set n (some (.dt (putD kvs ks d)))) := rfl
@[simp] theorem s_setIx : wSetIx n wa wb E τ = wb τ fun r => ∃ d, r = .st d ∧ ∃ ds, τ[n]? = some (some (.own ds)) ∧ wa τ fun rk => ∃ k j, rk = .st (.int k) ∧ ixN ds.length k = some j ∧ E.nx (τ.set n (some (.own (ds.set j d)))) := rfl
@[simp] theorem s_delTail : wDelTail n we E τ = ∃ ds, τ[n]? = some (some (.own ds)) ∧ we τ fun r => ∃ k : Nat, r = .st (.int (-(k : Int))) ∧ 0 < k ∧ k ≤ ds.length ∧ E.nx (τ.set n (some (.own (ds.take (ds.length - k))))) := rfl
@[simp] theorem s_jRevL {Q : List D → Prop} : jRevL wr τ Q = wr τ fun rs => ∃ r ds, rs = [r] ∧ lsAny r = some ds ∧ Q ds.reverse := rfl
@[simp] theorem s_jZip {Q : List D → Prop} : jZip wr τ Q = wr τ fun rs => ∃ r r' ds es, rs = [r, r'] ∧ lsAny r = some ds ∧ lsAny r' = some es ∧ Q (zipD ds es) := rfl
@[simp] theorem s_iRev1 {Q : List D → DSt → Prop} : iRev1 wr τ Q = wr τ fun rs => ∃ j : Int, rs = [.st (.int j)] ∧ 0 ≤ j ∧ j < 2 ^ 62 ∧ Q (rngR j.toNat) τ := rfl
@[simp] theorem s_iRng2 {Q : List D → DSt → Prop} : iRng2 wr τ Q = wr τ fun rs => ∃ i j : Int, rs = [.st (.int i), .st (.int j)] ∧ (-(2 ^ 62) ≤ i ∧ i < 2 ^ 62 ∧ -(2 ^ 62) ≤ j ∧ j < 2 ^ 62) ∧ Q (rngD i (j - i).toNat) τ := rfl
@[simp] theorem o_mul2 {k : Int} : mulD (.nw ds) (.st (.int k)) Q = (-(2 ^ 63) ≤ k ∧ k < 2 ^ 63 ∧ ds.length * k.toNat ≤ sizeLine ∧ Q (.nw (List.replicate k.toNat ds).flatten)) := rfl
@[simp] theorem o_sl5 {lo hi : Option Int} : slD (.bw ds) lo hi Q = Q (.nw (cutL ds lo hi)) := rfl
end
theorem comp_map2 {we : WE} {f : D → D → D} {rest : DSt} : ∀ (ps : List (D × D)) (o1 o2 : Option Sl) (Q : List D → Prop), (∀ p ∈ ps, ∀ Q' : R → Prop, Q' (.st (f p.1 p.2)) → we (some (.dat p.1) :: some (.dat p.2) :: rest) Q') →
    Q (ps.map fun p => f p.1 p.2) → compW (gTp 2 (gCn (gNm 0) (gCn (gNm 1) gNl))) tYes we (ps.map fun p => .tup [p.1, p.2]) (o1 :: o2 :: rest) Q
  | [], o1, o2, Q, h, q => q
  | p :: ps, o1, o2, Q, h, q => by
    simp only [List.map_cons, compW]
    simp
    refine h p List.mem_cons_self _ ⟨_, rfl, ?_⟩
    exact comp_map2 ps _ _ _ (fun p hp => h p (List.mem_cons_of_mem _ hp)) q
end TK
end
section
set_option maxRecDepth 100000
namespace TK
open PySem PySem.Spec PyProof.Rows L2
@[simp] theorem wn_none_empty : (Str.ofString "none" == Str.ofString "empty") = false := by decide
@[simp] theorem wn_none_signs : (Str.ofString "none" == Str.ofString "signs") = false := by decide
@[simp] theorem wn_none_then : (Str.ofString "none" == Str.ofString "then") = false := by decide
@[simp] theorem wn_none_or : (Str.ofString "none" == Str.ofString "or") = false := by decide
@[simp] theorem wn_none_and : (Str.ofString "none" == Str.ofString "and") = false := by decide
@[simp] theorem wn_none_not : (Str.ofString "none" == Str.ofString "not") = false := by decide
@[simp] theorem wn_none_many : (Str.ofString "none" == Str.ofString "many") = false := by decide
@[simp] theorem wn_empty_none : (Str.ofString "empty" == Str.ofString "none") = false := by decide
@[simp] theorem wn_empty_signs : (Str.ofString "empty" == Str.ofString "signs") = false := by decide
@[simp] theorem wn_empty_then : (Str.ofString "empty" == Str.ofString "then") = false := by decide
@[simp] theorem wn_empty_or : (Str.ofString "empty" == Str.ofString "or") = false := by decide
@[simp] theorem wn_empty_and : (Str.ofString "empty" == Str.ofString "and") = false := by decide
@[simp] theorem wn_empty_not : (Str.ofString "empty" == Str.ofString "not") = false := by decide
@[simp] theorem wn_empty_many : (Str.ofString "empty" == Str.ofString "many") = false := by decide
@[simp] theorem wn_signs_none : (Str.ofString "signs" == Str.ofString "none") = false := by decide
@[simp] theorem wn_signs_empty : (Str.ofString "signs" == Str.ofString "empty") = false := by decide
@[simp] theorem wn_signs_then : (Str.ofString "signs" == Str.ofString "then") = false := by decide
@[simp] theorem wn_signs_or : (Str.ofString "signs" == Str.ofString "or") = false := by decide
@[simp] theorem wn_signs_and : (Str.ofString "signs" == Str.ofString "and") = false := by decide
@[simp] theorem wn_signs_not : (Str.ofString "signs" == Str.ofString "not") = false := by decide
@[simp] theorem wn_signs_many : (Str.ofString "signs" == Str.ofString "many") = false := by decide
@[simp] theorem wn_then_none : (Str.ofString "then" == Str.ofString "none") = false := by decide
@[simp] theorem wn_then_empty : (Str.ofString "then" == Str.ofString "empty") = false := by decide
@[simp] theorem wn_then_signs : (Str.ofString "then" == Str.ofString "signs") = false := by decide
@[simp] theorem wn_then_or : (Str.ofString "then" == Str.ofString "or") = false := by decide
@[simp] theorem wn_then_and : (Str.ofString "then" == Str.ofString "and") = false := by decide
@[simp] theorem wn_then_not : (Str.ofString "then" == Str.ofString "not") = false := by decide
@[simp] theorem wn_then_many : (Str.ofString "then" == Str.ofString "many") = false := by decide
@[simp] theorem wn_or_none : (Str.ofString "or" == Str.ofString "none") = false := by decide
@[simp] theorem wn_or_empty : (Str.ofString "or" == Str.ofString "empty") = false := by decide
@[simp] theorem wn_or_signs : (Str.ofString "or" == Str.ofString "signs") = false := by decide
@[simp] theorem wn_or_then : (Str.ofString "or" == Str.ofString "then") = false := by decide
@[simp] theorem wn_or_and : (Str.ofString "or" == Str.ofString "and") = false := by decide
@[simp] theorem wn_or_not : (Str.ofString "or" == Str.ofString "not") = false := by decide
@[simp] theorem wn_or_many : (Str.ofString "or" == Str.ofString "many") = false := by decide
@[simp] theorem wn_and_none : (Str.ofString "and" == Str.ofString "none") = false := by decide
@[simp] theorem wn_and_empty : (Str.ofString "and" == Str.ofString "empty") = false := by decide
@[simp] theorem wn_and_signs : (Str.ofString "and" == Str.ofString "signs") = false := by decide
@[simp] theorem wn_and_then : (Str.ofString "and" == Str.ofString "then") = false := by decide
@[simp] theorem wn_and_or : (Str.ofString "and" == Str.ofString "or") = false := by decide
@[simp] theorem wn_and_not : (Str.ofString "and" == Str.ofString "not") = false := by decide
@[simp] theorem wn_and_many : (Str.ofString "and" == Str.ofString "many") = false := by decide
@[simp] theorem wn_not_none : (Str.ofString "not" == Str.ofString "none") = false := by decide
@[simp] theorem wn_not_empty : (Str.ofString "not" == Str.ofString "empty") = false := by decide
@[simp] theorem wn_not_signs : (Str.ofString "not" == Str.ofString "signs") = false := by decide
@[simp] theorem wn_not_then : (Str.ofString "not" == Str.ofString "then") = false := by decide
@[simp] theorem wn_not_or : (Str.ofString "not" == Str.ofString "or") = false := by decide
@[simp] theorem wn_not_and : (Str.ofString "not" == Str.ofString "and") = false := by decide
@[simp] theorem wn_not_many : (Str.ofString "not" == Str.ofString "many") = false := by decide
@[simp] theorem wn_many_none : (Str.ofString "many" == Str.ofString "none") = false := by decide
@[simp] theorem wn_many_empty : (Str.ofString "many" == Str.ofString "empty") = false := by decide
@[simp] theorem wn_many_signs : (Str.ofString "many" == Str.ofString "signs") = false := by decide
@[simp] theorem wn_many_then : (Str.ofString "many" == Str.ofString "then") = false := by decide
@[simp] theorem wn_many_or : (Str.ofString "many" == Str.ofString "or") = false := by decide
@[simp] theorem wn_many_and : (Str.ofString "many" == Str.ofString "and") = false := by decide
@[simp] theorem wn_many_not : (Str.ofString "many" == Str.ofString "not") = false := by decide
def kD : Key → D
  | .inl i => .int i
  | .inr x => .str x
theorem keysD_map : ∀ ks : List Key, keysD (ks.map kD) = some ks
  | [] => rfl
  | .inl i :: r => by simp [keysD, keyD, kD, keysD_map r]
  | .inr x :: r => by simp [keysD, keyD, kD, keysD_map r]
def rowK (shs : List Sh) : Sh → List Key
  | .none => [.inr "none"]
  | .empty => [.inr "empty"]
  | .signs s => [.inr "signs", .inr s]
  | .thn a b => [.inr "then", .inl (shs.idxOf a : Int), .inl (shs.idxOf b : Int)]
  | .or a b => [.inr "or", .inl (shs.idxOf a : Int), .inl (shs.idxOf b : Int)]
  | .and a b => [.inr "and", .inl (shs.idxOf a : Int), .inl (shs.idxOf b : Int)]
  | .not a => [.inr "not", .inl (shs.idxOf a : Int)]
  | .many a => [.inr "many", .inl (shs.idxOf a : Int)]
def rowD (shs : List Sh) (s : Sh) : D := .tup ((rowK shs s).map kD)
def tabsD (L : List Nat) (shs : List Sh) : List D := shs.map fun s => .lst (tabD L s)
theorem tabs_at (L : List Nat) {shs : List Sh} {a : Sh} (h : a ∈ shs) : atI (tabsD L shs) (shs.idxOf a : Int) = some (.lst (tabD L a)) := by
  have hlt : shs.idxOf a < shs.length := List.idxOf_lt_length_of_mem h
  refine atI_nat ?_
  rw [tabsD, List.getElem?_map, List.getElem?_eq_getElem hlt, List.getElem_idxOf hlt]
  rfl
end TK
end
section
set_option maxRecDepth 100000
namespace TK
open PySem PySem.Spec PyProof.Rows L2
def okK (shs : List Sh) (s : Sh) : Prop := ∀ c ∈ s.kids, c ∈ shs
theorem idx_app {l m : List Sh} {a : Sh} (h : a ∈ l) : (l ++ m).idxOf a = l.idxOf a := by
  rw [List.idxOf_append, if_pos h]
theorem rowK_app {l m : List Sh} {s : Sh} (h : okK l s) : rowK (l ++ m) s = rowK l s := by
  cases s with
  | thn a b => simp only [rowK]; rw [idx_app (h a (by simp [Sh.kids])), idx_app (h b (by simp [Sh.kids]))]
  | or a b => simp only [rowK]; rw [idx_app (h a (by simp [Sh.kids])), idx_app (h b (by simp [Sh.kids]))]
  | and a b => simp only [rowK]; rw [idx_app (h a (by simp [Sh.kids])), idx_app (h b (by simp [Sh.kids]))]
  | not a => simp only [rowK]; rw [idx_app (h a (by simp [Sh.kids]))]
  | many a => simp only [rowK]; rw [idx_app (h a (by simp [Sh.kids]))]
  | _ => rfl
theorem idx_inj {l : List Sh} {a b : Sh} (ha : a ∈ l) (h : l.idxOf a = l.idxOf b) (hb : b ∈ l) : a = b := by
  have h1 := List.getElem_idxOf (List.idxOf_lt_length_of_mem ha)
  have h2 := List.getElem_idxOf (List.idxOf_lt_length_of_mem hb)
  rw [← h1, ← h2]
  congr 1
theorem rowK_inj {l : List Sh} {s t : Sh} (hs : okK l s) (ht : okK l t) (h : rowK l s = rowK l t) : s = t := by
  have nat : ∀ {i j : Nat}, (Sum.inl (i : Int) : Key) = Sum.inl (j : Int) → i = j := fun h => by have := Sum.inl.inj h; omega
  cases s <;> cases t <;> simp only [rowK, List.cons.injEq, Sum.inr.injEq, and_true, true_and, reduceCtorEq, false_and, and_false] at h <;> first
    | rfl
    | (exfalso; revert h; decide)
    | (exfalso; have h := h.1; revert h; decide)
    | (rw [h])
    | (obtain ⟨h1, h2⟩ := h; rw [idx_inj (hs _ (by simp [Sh.kids])) (nat h1) (ht _ (by simp [Sh.kids])), idx_inj (hs _ (by simp [Sh.kids])) (nat h2) (ht _ (by simp [Sh.kids]))])
    | (rw [idx_inj (hs _ (by simp [Sh.kids])) (nat h) (ht _ (by simp [Sh.kids]))])
def Clo (shs : List Sh) : Prop := ∀ i s, shs[i]? = some s → okK (shs.take i) s
theorem Clo.all {shs : List Sh} (h : Clo shs) {s : Sh} (hs : s ∈ shs) : okK shs s := by
  obtain ⟨i, hi, e⟩ := List.getElem_of_mem hs
  intro c hc
  exact List.mem_of_mem_take (h i s (by rw [List.getElem?_eq_getElem hi, e]) c hc)
theorem Clo.app {shs : List Sh} (h : Clo shs) {x : Sh} (hx : okK shs x) : Clo (shs ++ [x]) := by
  intro i s e
  by_cases hi : i < shs.length
  · rw [List.getElem?_append_left hi] at e
    intro c hc
    rw [List.take_append_of_le_length (by omega)]
    exact h i s e c hc
  · have hi2 : i = shs.length := by
      have := (List.getElem?_eq_some_iff.mp e).1
      simp at this; omega
    subst hi2
    simp at e
    subst e
    rw [List.take_left]
    exact hx
theorem Clo.nil : Clo [] := fun i s e => by simp at e
def rowsL (shs : List Sh) : List D := shs.map (rowD shs)
def kvA (f : Sh → List Key) : List Sh → Nat → List (List Key × D)
  | [], _ => []
  | s :: r, j => (f s, .int (j : Int)) :: kvA f r (j + 1)
def kvL (shs : List Sh) : List (List Key × D) := kvA (rowK shs) shs 0
theorem kvA_len (f : Sh → List Key) : ∀ l j, (kvA f l j).length = l.length
  | [], j => rfl
  | s :: r, j => by simp [kvA, kvA_len f r (j + 1)]
theorem kvA_app (f : Sh → List Key) (x : Sh) : ∀ l j, kvA f (l ++ [x]) j = kvA f l j ++ [(f x, .int ((j + l.length : Nat) : Int))]
  | [], j => rfl
  | s :: r, j => by
    simp only [List.cons_append, kvA, kvA_app f x r (j + 1)]
    congr 4
    simp; omega
theorem kvA_congr {f g : Sh → List Key} : ∀ {l : List Sh} {j : Nat}, (∀ s ∈ l, f s = g s) → kvA f l j = kvA g l j
  | [], j, h => rfl
  | s :: r, j, h => by
    simp only [kvA]
    rw [h s List.mem_cons_self, kvA_congr fun s hs => h s (List.mem_cons_of_mem _ hs)]
theorem kvA_val {f : Sh → List Key} {x : Sh} : ∀ {l : List Sh} {j : Nat}, (∀ s ∈ l, f s = f x → s = x) → valD (kvA f l j) (f x) = if x ∈ l then some (.int ((j + l.idxOf x : Nat) : Int)) else none
  | [], j, h => by simp [kvA, valD]
  | s :: r, j, h => by
    have ih := kvA_val (f := f) (x := x) (l := r) (j := j + 1) fun s hs => h s (List.mem_cons_of_mem _ hs)
    by_cases e : s = x
    · subst e
      simp [kvA, valD, List.find?_cons]
    · have ne : f s ≠ f x := fun z => e (h s List.mem_cons_self z)
      have e1 : valD (kvA f (s :: r) j) (f x) = valD (kvA f r (j + 1)) (f x) := by simp [kvA, valD, List.find?_cons, ne]
      rw [e1, ih]
      by_cases hx : x ∈ r
      · have ei : (s :: r).idxOf x = r.idxOf x + 1 := by
          have hb : (s == x) = false := beq_eq_false_iff_ne.mpr e
          rw [List.idxOf_cons, hb]
          rfl
        rw [if_pos hx, if_pos (List.mem_cons_of_mem _ hx), ei]
        congr 3
        omega
      · have : ¬ x ∈ s :: r := fun z => by
          rcases List.mem_cons.mp z with z | z
          · exact e z.symm
          · exact hx z
        rw [if_neg hx, if_neg this]
theorem kvL_val {shs : List Sh} (h : Clo shs) {x : Sh} (hx : okK shs x) : valD (kvL shs) (rowK shs x) = if x ∈ shs then some (.int (shs.idxOf x : Int)) else none := by
  unfold kvL
  rw [kvA_val fun s hs e => rowK_inj (h.all hs) hx e]
  simp
theorem kvL_put {shs : List Sh} (h : Clo shs) {x : Sh} (hx : okK shs x) (hn : x ∉ shs) : putD (kvL shs) (rowK shs x) (.int (shs.length : Int)) = kvL (shs ++ [x]) := by
  have hv := kvL_val h hx
  rw [if_neg hn] at hv
  have hany : ((kvL shs).any fun kv => decide (kv.1 = rowK shs x)) = false := by
    unfold valD at hv
    rw [Option.map_eq_none_iff, List.find?_eq_none] at hv
    rw [List.any_eq_false]
    exact hv
  unfold putD
  rw [if_neg (by rw [hany]; decide)]
  unfold kvL
  rw [kvA_app, rowK_app hx, kvA_congr (f := rowK (shs ++ [x])) (g := rowK shs) fun s hs => rowK_app (h.all hs)]
  simp
theorem rowsL_app {shs : List Sh} (h : Clo shs) {x : Sh} (hx : okK shs x) : rowsL (shs ++ [x]) = rowsL shs ++ [rowD shs x] := by
  unfold rowsL
  rw [List.map_append]
  congr 1
  · exact List.map_congr_left fun s hs => by unfold rowD; rw [rowK_app (h.all hs)]
  · simp only [List.map_cons, List.map_nil]
    unfold rowD
    rw [rowK_app hx]
def ins (shs : List Sh) (s : Sh) : List Sh := if s ∈ shs then shs else shs ++ [s]
def addS : Sh → List Sh → List Sh
  | .thn a b, l => ins (addS b (addS a l)) (.thn a b)
  | .or a b, l => ins (addS b (addS a l)) (.or a b)
  | .and a b, l => ins (addS b (addS a l)) (.and a b)
  | .not a, l => ins (addS a l) (.not a)
  | .many a, l => ins (addS a l) (.many a)
  | s, l => ins l s
theorem ins_sub {l : List Sh} {s : Sh} : ∃ m, ins l s = l ++ m := by
  unfold ins
  split
  · exact ⟨[], by simp⟩
  · exact ⟨[s], rfl⟩
theorem ins_mem {l : List Sh} {s : Sh} : s ∈ ins l s := by
  unfold ins
  split
  · assumption
  · simp
theorem ins_len {l : List Sh} {s : Sh} : (ins l s).length ≤ l.length + 1 := by
  unfold ins
  split <;> simp
theorem ins_clo {l : List Sh} {s : Sh} (h : Clo l) (hs : okK l s) : Clo (ins l s) := by
  unfold ins
  split
  · exact h
  · exact h.app hs
theorem ins_el {l : List Sh} {s x : Sh} (h : x ∈ ins l s) : x ∈ l ∨ x = s := by
  unfold ins at h
  split at h
  · exact .inl h
  · rcases List.mem_append.mp h with h | h
    · exact .inl h
    · exact .inr (List.mem_singleton.mp h)
theorem Sh.size_pos (s : Sh) : 0 < s.size := by cases s <;> simp [Sh.size]
structure AddOk (s : Sh) (l l' : List Sh) : Prop where
  sub : ∃ m, l' = l ++ m
  mem : s ∈ l'
  len : l'.length ≤ l.length + s.size
  clo : Clo l → Clo l'
  el : ∀ x ∈ l', x ∈ l ∨ x.size ≤ s.size
theorem okK_sub {l m : List Sh} {s : Sh} (h : okK l s) : okK (l ++ m) s := fun c hc => List.mem_append_left _ (h c hc)
theorem AddOk.two {a b s : Sh} {l l1 l2 : List Sh} (h1 : AddOk a l l1) (h2 : AddOk b l1 l2) (hk : ∀ c ∈ s.kids, c = a ∨ c = b) (hz : s.size = a.size + b.size + 1) : AddOk s l (ins l2 s) ∧ okK l2 s := by
  obtain ⟨m1, e1⟩ := h1.sub
  obtain ⟨m2, e2⟩ := h2.sub
  obtain ⟨m3, e3⟩ := ins_sub (l := l2) (s := s)
  have ha : a ∈ l2 := by rw [e2]; exact List.mem_append_left _ h1.mem
  have ok : okK l2 s := fun c hc => by
    rcases hk c hc with rfl | rfl
    · exact ha
    · exact h2.mem
  refine ⟨⟨⟨m1 ++ m2 ++ m3, by rw [e3, e2, e1]; simp⟩, ins_mem, ?_, fun h => ins_clo (h2.clo (h1.clo h)) ok, fun x hx => ?_⟩, ok⟩
  · have := h1.len
    have := h2.len
    have := ins_len (l := l2) (s := s)
    omega
  · rcases ins_el hx with hx | hx
    · rcases h2.el x hx with hx | hx
      · rcases h1.el x hx with hx | hx
        · exact .inl hx
        · exact .inr (by omega)
      · exact .inr (by omega)
    · exact .inr (by rw [hx]; omega)
theorem AddOk.one {a s : Sh} {l l1 : List Sh} (h1 : AddOk a l l1) (hk : ∀ c ∈ s.kids, c = a) (hz : s.size = a.size + 1) : AddOk s l (ins l1 s) ∧ okK l1 s := by
  obtain ⟨m1, e1⟩ := h1.sub
  obtain ⟨m3, e3⟩ := ins_sub (l := l1) (s := s)
  have ok : okK l1 s := fun c hc => by rw [hk c hc]; exact h1.mem
  refine ⟨⟨⟨m1 ++ m3, by rw [e3, e1]; simp⟩, ins_mem, ?_, fun h => ins_clo (h1.clo h) ok, fun x hx => ?_⟩, ok⟩
  · have := h1.len
    have := ins_len (l := l1) (s := s)
    omega
  · rcases ins_el hx with hx | hx
    · rcases h1.el x hx with hx | hx
      · exact .inl hx
      · exact .inr (by omega)
    · exact .inr (by rw [hx]; omega)
theorem AddOk.leaf {s : Sh} {l : List Sh} (hk : s.kids = []) (hz : s.size = 1) : AddOk s l (ins l s) := by
  refine ⟨ins_sub, ins_mem, by have := ins_len (l := l) (s := s); omega, fun h => ins_clo h (fun c hc => by rw [hk] at hc; cases hc), fun x hx => ?_⟩
  rcases ins_el hx with hx | hx
  · exact .inl hx
  · exact .inr (by rw [hx]; omega)
theorem add_ok : ∀ (s : Sh) (l : List Sh), AddOk s l (addS s l)
  | .thn a b, l => ((add_ok a l).two (add_ok b _) (by simp [Sh.kids]) rfl).1
  | .or a b, l => ((add_ok a l).two (add_ok b _) (by simp [Sh.kids]) rfl).1
  | .and a b, l => ((add_ok a l).two (add_ok b _) (by simp [Sh.kids]) rfl).1
  | .not a, l => ((add_ok a l).one (by simp [Sh.kids]) rfl).1
  | .many a, l => ((add_ok a l).one (by simp [Sh.kids]) rfl).1
  | .none, l => .leaf rfl rfl
  | .empty, l => .leaf rfl rfl
  | .signs _, l => .leaf rfl rfl
theorem add_last (s : Sh) : ∃ m, addS s [] = m ++ [s] := by
  have two : ∀ a b : Sh, s.size = a.size + b.size + 1 → ∃ m, ins (addS b (addS a [])) s = m ++ [s] := fun a b hz => by
    have hn : s ∉ addS b (addS a []) := fun h => by
      have := a.size_pos
      have := b.size_pos
      rcases (add_ok b _).el s h with h | h
      · rcases (add_ok a []).el s h with h | h
        · cases h
        · omega
      · omega
    exact ⟨_, by unfold ins; rw [if_neg hn]⟩
  have one : ∀ a : Sh, s.size = a.size + 1 → ∃ m, ins (addS a []) s = m ++ [s] := fun a hz => by
    have hn : s ∉ addS a [] := fun h => by
      rcases (add_ok a []).el s h with h | h
      · cases h
      · omega
    exact ⟨_, by unfold ins; rw [if_neg hn]⟩
  cases s with
  | thn a b => exact two a b rfl
  | or a b => exact two a b rfl
  | and a b => exact two a b rfl
  | not a => exact one a rfl
  | many a => exact one a rfl
  | _ => exact ⟨[], rfl⟩
end TK
end
section
set_option maxRecDepth 100000
namespace TK
open PySem PySem.Spec PyProof.Rows L2
open Builtin Builtin.Str in
theorem slice_of {x : Str} {l u : Option Int} {a b : Nat} (hab : a ≤ b) (hb : b ≤ x.length) (h : strSliceIndices l u 1 x.length = (List.range (b - a)).map (fun k => a + k)) : (Txt.slice x l u).cps.toList = (x.cps.toList.drop a).take (b - a) := by
  have hx : x.length = x.cps.toList.length := by simp [Str.length]
  unfold Txt.slice
  rw [h]
  split
  · rename_i hc
    simp at hc
    have e : a = 0 := by omega
    subst e
    rw [List.drop_zero, List.take_of_length_le (by rw [← hx]; omega)]
  · have := StrLaws.picks x.cps.toList (b - a) a (by rw [← hx]; omega)
    simp only [Array.getElem?_toList] at this
    exact this
open Builtin Builtin.Str in
theorem idx_none_lo (u : Option Int) (n : Nat) : strSliceIndices none u 1 n = strSliceIndices (some ((0 : Nat) : Int)) u 1 n := by
  unfold strSliceIndices
  simp
  have e : Max.max (0 : Int) (Min.min 0 (n : Int)) = 0 := by omega
  rw [e]
open Builtin Builtin.Str in
theorem idx_none_hi (l : Option Int) (n : Nat) : strSliceIndices l none 1 n = strSliceIndices l (some (n : Int)) 1 n := by
  unfold strSliceIndices
  have h : ¬ ((n : Int) < 0) := by omega
  simp only [h, if_false, show (1 : Int) > 0 by decide, if_true]
  congr 1
  omega
theorem slice_to {x : Str} {k : Nat} (h : k ≤ x.length) : (Txt.slice x none (some (k : Int))).cps.toList = x.cps.toList.take k := by
  rw [slice_of (a := 0) (b := k) (Nat.zero_le _) h (by rw [idx_none_lo]; exact StrLaws.strSliceIndices_plain (Nat.zero_le _) h)]
  simp
theorem slice_from {x : Str} {k : Nat} (h : k ≤ x.length) : (Txt.slice x (some (k : Int)) none).cps.toList = x.cps.toList.drop k := by
  rw [slice_of (a := k) (b := x.length) h (Nat.le_refl _) (by rw [idx_none_hi]; exact StrLaws.strSliceIndices_plain h (Nat.le_refl _))]
  rw [List.take_of_length_le]
  simp [Str.length]
theorem slice_mid {x : Str} {a b : Nat} (hab : a ≤ b) (h : b ≤ x.length) : (Txt.slice x (some (a : Int)) (some (b : Int))).cps.toList = (x.cps.toList.drop a).take (b - a) :=
  slice_of hab h (StrLaws.strSliceIndices_plain hab h)
def sub (L : List Nat) (b e : Nat) : List Nat := (L.drop b).take (e - b)
theorem sub_len {L : List Nat} {b e : Nat} (h : b ≤ e) (h2 : e ≤ L.length) : (sub L b e).length = e - b := by simp [sub]; omega
theorem sub_take {L : List Nat} {b e k : Nat} (h : k ≤ e - b) : (sub L b e).take k = sub L b (b + k) := by
  unfold sub
  rw [List.take_take, Nat.min_eq_left h, Nat.add_sub_cancel_left]
theorem sub_drop {L : List Nat} {b e k : Nat} (h : k ≤ e - b) : (sub L b e).drop k = sub L (b + k) e := by
  unfold sub
  rw [List.drop_take, List.drop_drop]
  congr 1
  omega
theorem sub_nil {L : List Nat} {b e : Nat} (h : b ≤ e) (h2 : e ≤ L.length) : sub L b e = [] ↔ b = e := by
  rw [← List.length_eq_zero_iff, sub_len h h2]
  omega
theorem sub_one {L : List Nat} {b : Nat} {c : Nat} (h : L[b]? = some c) : sub L b (b + 1) = [c] := by
  have hb : b < L.length := (List.getElem?_eq_some_iff.mp h).1
  unfold sub
  rw [Nat.add_sub_cancel_left, List.drop_eq_getElem_cons hb]
  have e : L[b] = c := by rw [List.getElem?_eq_getElem hb] at h; exact Option.some.inj h
  simp [e]
theorem str_of {x y : Str} (h : x.cps.toList = y.cps.toList) : x = y := by
  cases x; cases y
  congr 1
  exact Array.toList_inj.mp h
end TK
end
section
set_option maxRecDepth 100000
namespace TK
open PySem PySem.Spec PyProof.Rows L2
end TK
end
section
set_option maxRecDepth 100000
set_option maxHeartbeats 1000000
namespace TK
open PySem PySem.Spec PyProof.Rows L2
theorem yl_enumL {K : PySem.W.Frag} {H0 H : Hp} {l : Addr} {xs : List V} {ds : List D} (hq : ∀ H', Kp H H' → Same H0 H' → SqL K H' l xs) (al : AllS K H ds xs) : Yl K H0 (Iel K l) (enmD ds) H where
  go := fun H' k s i hi => by
    rw [enmD_length] at hi
    exact ⟨xs, xs[i]'(by rw [← al.length]; exact hi), hq H' k s, List.getElem?_eq_getElem _⟩
  yld := fun H' k s i v H'' d hd ⟨T, x, hx, hT, hv, hH⟩ => by
    subst hH hv
    refine ⟨same_new hT _, ?_⟩
    obtain ⟨y, hy, rfl⟩ := enmD_get hd
    obtain ⟨v, hv, q⟩ := al.get hy
    rw [hx xs (hq H' k s)] at hv; cases hv
    exact IsS.s_tup upd_same (AllS.cons IsS.s_int (AllS.cons (q.mono (k.trans (Kp.of (same_new hT _))) _ _) AllS.nil))
  stop := fun H' k s => ⟨xs, hq H' k s, by rw [enmD_length]; exact al.length.symm⟩
section
variable {X : Cx} {H0 : Hp} {a : Expr} {p pos : Pos} {wr : WA}
def iEnum (wr : WA) : WI := fun τ Q => wr τ fun rs => ∃ ds, rs = [.st (.lst ds)] ∧ Q (enmD ds) τ
theorem DI.enumF {elts : List Expr} {kk : Nat} {pt : Pos} (hg : Gl X "enumerate") (hm : X.mg "enumerate" = none) (hv : bootBuiltins "enumerate" = some (.type "enumerate")) (ha : DA X H0 [a] wr) (he : starEach [a] X.env = (false, eval a X.env) :: starEach [] X.env := by rfl) (hpl : (backTo pos (starEach [] X.env)).any (·.1) = false := by rfl) :
    DI X H0 (.Tuple elts kk pt) (.Call (.Name "enumerate" p) [a] [] pos) (iEnum wr) where
  mono := fun τ P Q f h => ha.mono τ _ _ (fun r ⟨ds, e1, q⟩ => ⟨ds, e1, f _ _ q⟩) h
  pi := by
    intro pins s σ H R I ⟨τ, hR, h⟩
    refine wpAny_Call_Name_kw (ld_blt I hg hm hv ?_ (by decide) (by decide))
    refine PyProof.Rows.callWith_type1 (thn (ha.pa pos pins s σ H (fun vs H1 => Same H H1 ∧ ∃ l xs ds, vs = [.ref l] ∧ FzL X.K H1 l xs ∧ AllS X.K H1 ds xs ∧ ∀ J H', Kp H H' → Rep X.K H0 τ σ H' → Yl X.K H0 J (enmD ds) H' → R J H') I
      ⟨τ, hR, ha.mono τ _ _ (fun rs ⟨ds, e1, q⟩ vs H1 s1 irs => ⟨s1, by
        subst e1
        obtain ⟨v, rfl, ir⟩ := allR1 irs
        have ir : IsS X.K H1 (.lst ds) v := ir
        unfold IsS at ir
        obtain ⟨l, xs, rfl, sq, al⟩ := ir
        exact ⟨l, xs, ds, rfl, sq, al, q⟩⟩) h⟩) fun us s1 ⟨vs, H1, I1, rv, sm, l, xs, ds, e1, sq, al, q⟩ => ?_) he hpl
    subst e1
    have big : ∀ b ∈ [s1.heap.objs.size + 1, s1.heap.objs.size], FpOk X pins H1 b := fun b hb => by
      have hb : s1.heap.objs.size ≤ b := by
        rcases List.mem_cons.mp hb with rfl | hb
        · exact Nat.le_succ _
        · have e : b = s1.heap.objs.size := by simpa using hb
          rw [e]; exact Nat.le_refl _
      exact I1.fpOk hb (I1.hok.fresh hb)
    obtain ⟨u, rfl, ru⟩ := vals1 rv
    cases (show u = Value.ref l from ru)
    obtain ⟨its, rv', pl, hz'⟩ := I1.list sq.sq
    obtain ⟨o, n, ho, _⟩ := id pl
    have hl : l < s1.heap.objs.size := Heap.lt_size ho
    refine call_enumerate_list pl.isList fun h' he hi hz k => ?_
    refine wpAny_pyIter_enum he ⟨s1.heap.objs.size + 1, [s1.heap.objs.size + 1, s1.heap.objs.size], _, _, H1, rfl, I1.kept (t' := s1.toks) k, turn_enumL (l := l) (Nat.succ_ne_self _) (Nat.ne_of_lt (Nat.lt_succ_of_lt hl)) (Nat.ne_of_lt hl), ⟨⟨_, he⟩, hi⟩, big, q _ _ (Kp.of sm) (hR.mono sm) (yl_enumL (xs := xs) (fun H' k _ => (k.fzL sq).sq) al)⟩
end
section
variable {τ : DSt} {wr : WA} {QB : Bool → Prop}
@[simp] theorem s_iEnum {Q : List D → DSt → Prop} : iEnum wr τ Q = wr τ fun rs => ∃ ds, rs = [.st (.lst ds)] ∧ Q (enmD ds) τ := rfl
@[simp] theorem s_jRng2 {Q : List D → Prop} : jRng2 wr τ Q = wr τ fun rs => ∃ i j : Int, rs = [.st (.int i), .st (.int j)] ∧ (-(2 ^ 62) ≤ i ∧ i < 2 ^ 62 ∧ -(2 ^ 62) ≤ j ∧ j < 2 ^ 62) ∧ Q (rngD i (j - i).toNat) := rfl
@[simp] theorem o_isN {n : Bool} {r r' : R} : isND n r r' QB = ∃ d, r.d = some d ∧ r' = .st .non ∧ QB (match d with | .non => !n | _ => n) := rfl
end
end TK
end
section
set_option maxRecDepth 100000
namespace TK
open PySem PySem.Spec PyProof.Rows L2
theorem top_bit (p : Nat → Bool) : ∀ m, ((List.range m).filter p = [] ∧ mk p m = 0) ∨ ∃ l e, (List.range m).filter p = l ++ [e] ∧ e < m ∧ p e = true ∧ (mk p m).log2 = e ∧ mk p m ≠ 0
  | 0 => .inl ⟨rfl, rfl⟩
  | m + 1 => by
    rw [List.range_succ, List.filter_append]
    by_cases hp : p m = true
    · obtain ⟨e1, e2, e3⟩ := mk_log hp
      exact .inr ⟨(List.range m).filter p, m, by simp [hp], by omega, hp, e2, e3⟩
    · have e1 : mk p (m + 1) = mk p m := by simp [mk, hp]
      have e2 : [m].filter p = [] := by simp [hp]
      rw [e1, e2, List.append_nil]
      rcases top_bit p m with h | ⟨l, e, h1, h2, h3, h4, h5⟩
      · exact .inl h
      · exact .inr ⟨l, e, h1, by omega, h3, h4, h5⟩
theorem bits_of {p : Nat → Bool} {m : Nat} : (Builtin.Int.intBits ((mk p m : Nat) : Int) : Int) - 1 = match (List.range m).filter p |>.getLast? with
    | some e => (e : Int)
    | none => -1 := by
  unfold Builtin.Int.intBits
  rcases top_bit p m with ⟨h1, h2⟩ | ⟨l, e, h1, h2, h3, h4, h5⟩
  · rw [h1, h2]; rfl
  · have : (((mk p m : Nat) : Int) == 0) = false := by simpa using h5
    rw [h1, this]
    simp [h4]
def nextP (L : List Nat) (s : Sh) (b : Nat) : Option Nat := ((List.range (L.length + 1)).filter fun e => decide (b < e) && fitP L s b e).getLast?
theorem next_lt {L : List Nat} {s : Sh} {b e : Nat} (h : nextP L s b = some e) : b < e ∧ e ≤ L.length := by
  have hm := List.mem_of_getLast? h
  have := List.mem_filter.mp hm
  simp at this
  omega
def cutF (L : List Nat) (s : Sh) : Nat → Nat → Option (List (Nat × Nat))
  | 0, b => if b < L.length then none else some []
  | f + 1, b => if b < L.length then (match nextP L s b with
    | some e => (cutF L s f e).map ((b, e) :: ·)
    | none => none) else some []
def pieceS (L : List Nat) (b e : Nat) : Str := ⟨(sub L b e).toArray⟩
def pieceD (L : List Nat) (p : Nat × Nat) : D := .str (pieceS L p.1 p.2)
theorem piece_cps (L : List Nat) (b e : Nat) : (pieceS L b e).cps.toList = sub L b e := by simp [pieceS]
theorem cut_join (L : List Nat) (s : Sh) : ∀ (f b : Nat) (ps : List (Nat × Nat)), b ≤ L.length → cutF L s f b = some ps → (ps.map fun p => sub L p.1 p.2).flatten = sub L b L.length
  | 0, b, ps, hb, h => by
    unfold cutF at h
    split at h
    · cases h
    · cases h
      have : b = L.length := by omega
      rw [this]; simp [sub]
  | f + 1, b, ps, hb, h => by
    unfold cutF at h
    split at h
    · split at h
      · rename_i e he
        obtain ⟨h1, h2⟩ := next_lt he
        cases hc : cutF L s f e with
        | none => rw [hc] at h; cases h
        | some qs =>
          rw [hc] at h
          have h : some ((b, e) :: qs) = some ps := h
          cases h
          have ih := cut_join L s f e qs h2 hc
          simp only [List.map_cons, List.flatten_cons, ih]
          have t1 := sub_take (L := L) (b := b) (e := L.length) (k := e - b) (by omega)
          have t2 := sub_drop (L := L) (b := b) (e := L.length) (k := e - b) (by omega)
          rw [show b + (e - b) = e by omega] at t1 t2
          rw [← t1, ← t2, List.take_append_drop]
      · cases h
    · cases h
      have : b = L.length := by omega
      rw [this]; simp [sub]
theorem cut_len (L : List Nat) (s : Sh) : ∀ (f b : Nat) (ps : List (Nat × Nat)), cutF L s f b = some ps → ps.length ≤ f
  | 0, b, ps, h => by
    unfold cutF at h
    split at h
    · cases h
    · cases h; simp
  | f + 1, b, ps, h => by
    unfold cutF at h
    split at h
    · split at h
      · rename_i e he
        cases hc : cutF L s f e with
        | none => rw [hc] at h; cases h
        | some qs =>
          rw [hc] at h
          have h : some ((b, e) :: qs) = some ps := h
          cases h
          have := cut_len L s f e qs hc
          simp; omega
      · cases h
    · cases h; simp
theorem cut_fuel (L : List Nat) (s : Sh) : ∀ (f g b : Nat), L.length - b ≤ f → L.length - b ≤ g → cutF L s f b = cutF L s g b := by
  intro f
  induction f with
  | zero =>
    intro g b hf hg
    have : ¬ b < L.length := by omega
    cases g <;> simp [cutF, this]
  | succ f ih =>
    intro g b hf hg
    by_cases hb : b < L.length
    · cases g with
      | zero => omega
      | succ g =>
        simp only [cutF, if_pos hb]
        cases he : nextP L s b with
        | none => rfl
        | some e =>
          obtain ⟨h1, h2⟩ := next_lt he
          simp only
          rw [ih g e (by omega) (by omega)]
    · cases g <;> simp [cutF, hb]
theorem row_next {L : List Nat} {s : Sh} {b : Nat} (hb : b < L.length) : (∃ e, nextP L s b = some e ∧ (Builtin.Int.intBits ((mk (pf L s b) (L.length + 1) : Nat) : Int) : Int) - 1 = (e : Int)) ∨
    (nextP L s b = none ∧ (Builtin.Int.intBits ((mk (pf L s b) (L.length + 1) : Nat) : Int) : Int) - 1 ≤ (b : Int)) := by
  rw [bits_of]
  have hq : ∀ e, (decide (b < e) && fitP L s b e) = true ↔ pf L s b e = true ∧ b < e := fun e => by
    unfold pf
    simp only [Bool.and_eq_true, decide_eq_true_eq]
    constructor
    · rintro ⟨h1, h2⟩; exact ⟨⟨by omega, h2⟩, h1⟩
    · rintro ⟨⟨h1, h2⟩, h3⟩; exact ⟨h3, h2⟩
  have e1 : ((List.range (L.length + 1)).filter fun e => decide (b < e) && fitP L s b e) = ((List.range (L.length + 1)).filter (pf L s b)).filter fun e => decide (b < e) := by
    rw [List.filter_filter]
    refine List.filter_congr fun e _ => ?_
    rw [Bool.eq_iff_iff, hq e]
    simp [and_comm]
  unfold nextP
  rw [e1]
  rcases List.eq_nil_or_concat ((List.range (L.length + 1)).filter (pf L s b)) with h | ⟨r, x, h⟩
  · rw [h]
    exact .inr ⟨rfl, show (-1 : Int) ≤ (b : Int) by omega⟩
  · have h : (List.range (L.length + 1)).filter (pf L s b) = r ++ [x] := by simpa using h
    rw [h]
    by_cases hx : b < x
    · refine .inl ⟨x, ?_, by simp⟩
      rw [List.filter_append]
      simp [hx]
    · refine .inr ⟨?_, by simp; omega⟩
      have sorted : ∀ y ∈ r, y < x := by
        have hp : ((List.range (L.length + 1)).filter (pf L s b)).Pairwise (· < ·) := List.Pairwise.filter _ List.pairwise_lt_range
        rw [h, List.pairwise_append] at hp
        exact fun y hy => hp.2.2 y hy x (by simp)
      have : (r ++ [x]).filter (fun e => decide (b < e)) = [] := by
        rw [List.filter_eq_nil_iff]
        intro y hy
        rcases List.mem_append.mp hy with hy | hy
        · have := sorted y hy
          simp; omega
        · rw [List.mem_singleton.mp hy]
          simpa using hx
      rw [this]; rfl
end TK
end
section
set_option maxRecDepth 100000
set_option maxHeartbeats 1000000
namespace HT
open PySem PySem.Spec PyProof.Rows L2
theorem bounds_from {a n : Nat} (h : a ≤ n) : sliceBounds (some (a : Int)) none none n = ((a : Int), (n : Int), 1) := by
  simp only [sliceBounds, Option.getD_none]
  have h1 : ¬ ((a : Int) < 0) := by omega
  simp only [h1, show (1 : Int) > 0 by decide, if_true, if_false]
  congr 1
  omega
section
variable {prog : Program} {w : World} {A : Around} {E : Value → Shared → Prop} {s : Shared}
set_option maxRecDepth 100000 in
theorem delItem_from {l sl : Addr} {items : Array Value} {n : Nat} {vl : Value} {a : Nat} {Q : Unit → Shared → Prop}
    (e : s.heap.get? l = some { cls := .type "list", data := .seq items n }) (hs : s.heap.IsSliceOf sl vl .none .none) (pl : IsPart vl (some (a : Int))) (hk : a ≤ items.size)
    (hsz : items.size ≤ sizeLine) (h : ∀ F : Array Value → Array Value, F items = (items.toList.take (a)).toArray → Q () { s with heap := s.heap.update l (Obj.mapSeq F) }) :
    wpAny (model prog w) A (delItem (.ref l) (.ref sl)) Q E s := by
  have hl : s.heap.IsList l items := PySem.IsL.isList e
  obtain ⟨os, hos, hcs, hds⟩ := id hs
  have hTs : s.TypeIs (.ref sl) "slice" := ⟨os, hos, hcs⟩
  have hstep : ¬ ((rawPart none == rawInt 0) = true) := Bool.false_ne_true
  refine wpAny_delItem_slot hl.typeIs (by decide) PySem.F.slot_list_delitem (wpAny_call_entry PySem.F.slot_list_delitem hl.typeIs PySem.F.entry_list_delitem ?_ (PySem.F.args_list_delitem_2 _ _))
  show wpAny _ _ (Builtin.List.listSubscript? (.ref sl) >>= _) _ _ s
  refine wpAny_bind ?_
  unfold Builtin.List.listSubscript?
  refine wpAny_bind (wpAny_specialOf hTs slice_no_index ?_)
  simp only [Option.isNone_none, if_true]
  refine wpAny_pure ?_
  show wpAny _ _ (typeOf (.ref sl) >>= _) _ _ s
  refine wpAny_bind (wpAny_typeOf hTs ?_)
  first
    | rw [if_neg (by decide)]
    | refine PySem.W.KFB.if_not (by decide) ?_
  rw [listSliceParts_eq]
  refine wpAny_bind (wpAny_bind (wpAny_field hos hds (x := .none) rfl (wpAny_bind (wpAny_listPart .none ?_))))
  rw [if_neg hstep]
  refine wpAny_bind (wpAny_field hos hds (x := vl) rfl (wpAny_bind (wpAny_listPart pl ?_)))
  refine wpAny_bind (wpAny_field hos hds (x := .none) rfl (wpAny_bind (wpAny_listPart .none (wpAny_pure ?_))))
  unfold Builtin.List.listItems
  refine wpAny_bind (wpAny_bind (wpAny_seqItems e rfl (wpAny_pure ?_)))
  refine wpAny_bind (wpAny_of_eq ((sliceIndices_raw (some (a : Int)) none none items.size (by simp)).trans (congrArg (pure : Int × Int × Int → Sem (Int × Int × Int)) (bounds_from hk))) ?_)
  refine wpAny_bind (wpAny_rule ?_)
  have key : ∀ P : Value × Nat → Option Value, (∀ x j, j < 0 + items.toList.length → P (x, j) = if a ≤ j then none else some x) → (items.toList.zipIdx.filterMap P).toArray = (items.toList.take (a)).toArray := fun P hP => by
    rw [del_tail (a) items.toList 0 hP]; rfl
  have side : ∀ (x : Value) (j : Nat), j < 0 + items.toList.length → (if (if (1 : Int) > 0 then (decide ((a : Int) ≤ (j : Int)) && decide ((j : Int) < (items.size : Int)) && ((j : Int) - (a : Int)) % 1 == 0)
      else (decide ((items.size : Int) < (j : Int)) && decide ((j : Int) ≤ (a : Int)) && ((a : Int) - (j : Int)) % (-1) == 0)) = true then none else some x) = if a ≤ j then none else some x := fun x j hj => by
    have hj : j < items.size := by simpa using hj
    rw [if_pos (by decide : (1 : Int) > 0)]
    have e1 : ((j : Int) - (a : Int)) % 1 = 0 := Int.emod_one _
    rw [e1]
    by_cases hc : a ≤ j
    · rw [if_pos hc, if_pos]
      simp
      omega
    · rw [if_neg hc, if_neg]
      simp
      omega
  refine wpAny_bind (wpAny_updateSeq (hz := hsz) (_hz' := ?_) e rfl ?_)
  rotate_left
  · exact Nat.le_trans (Nat.le_of_eq (congrArg Array.size (key _ fun x j hj => side x j hj))) (by simp; omega)
  · refine wpAny_bind (wpAny_letGo ?_)
    exact wpAny_pure ⟨.none, rfl, h _ (key _ fun x j hj => side x j hj)⟩
end
end HT
namespace TK
open PySem PySem.Spec PyProof.Rows L2
section
variable {X : Cx} {H0 : Hp} {a b c e o tg : Expr} {pos pos' p2 apos cpos : Pos} {wa wb wi we : WE} {x : Str}
def wDelFrom (i : Nat) (we : WE) : WS := fun E τ => ∃ ds, τ[i]? = some (some (.own ds)) ∧ we τ fun r => ∃ k : Nat, r = .st (.int (k : Int)) ∧ k ≤ ds.length ∧ E.nx (τ.set i (some (.own (ds.take k))))
theorem DS.delFrom {i : Nat} {lo : Expr} (ho : PE X o (tVar i)) (he : DE X H0 lo we) : DS X H0 (.Delete [.Subscript o (.Slice (some lo) none none p2) pos'] pos) (wDelFrom i we) where
  mono := fun τ E F le ⟨ds, e1, h⟩ => ⟨ds, e1, he.mono τ _ _ (fun r ⟨k, a1, a3, a4⟩ => ⟨k, a1, a3, le.nx _ a4⟩) h⟩
  ps := by
    intro pins s σ H D I ⟨τ, hR, ds, e1, h⟩
    obtain ⟨a, xs, hv, h0, sq, al⟩ := hR.ownAt e1
    refine wpAny_Delete (wpAny_deleteEach_cons (wpAny_delete_Subscript (thn (ho pins s σ H (fun v H1 => v = .ref a ∧ H1 = H) I ⟨_, hv, rfl, rfl⟩) fun u s1 ⟨x, H1, I1, rx, ex, eH⟩ => ?_)))
    subst ex eH
    obtain rfl : u = Value.ref a := rx
    refine wpAny_Slice (thn (po_some he.pe pins s1 σ H1 (fun oi H2 => Same H1 H2 ∧ ∃ k : Nat, oi = some (k : Int) ∧ k ≤ ds.length ∧ (liftD X.K H0 H1 D).nx (τ.set i (some (.own (ds.take k))))) I1
      ⟨τ, hR, he.mono τ _ _ (fun r ⟨k, a1, a3, a4⟩ v H2 s2 ir => by subst a1; exact ⟨_, ir, s2, k, rfl, a3, a4⟩) h⟩) fun vl s2 ⟨l, H2, I2, pl, sm, k, el, k1, q⟩ => ?_)
    subst el
    rw [evalPart_none]
    refine wpAny_pure ?_
    refine wpAny_pure ?_
    have I4 : Inv X pins σ H2 { s2 with heap := s2.heap.push { cls := .type "slice", data := .fields #[vl, .none, .none] } } := I2.kept (t' := s2.toks) fun b ob q => Heap.get?_push_of_some _ q
    have sq2 := sm _ _ sq
    obtain ⟨z, its, n, r, hl, e⟩ := I4.lstM sq2
    have hal := al.length
    refine HT.delItem_from e (Heap.IsSliceOf.new ..) pl (by rw [List.size_toArray]; omega) (by rw [List.size_toArray]; omega) fun F hF => ?_
    refine wpAny_deleteEach_nil ?_
    have el : ds.length = its.length := by omega
    have al2 : AllS X.K H2 (ds.take k) (xs.take (k)) := by exact (al.mono (Kp.of sm) _ _).take _
    refine ⟨σ, _, I4.lset (its' := its.take (k)) (t' := s2.toks) sq2 e ?_ (r.take _) ?_, q σ _ ((Kp.of sm).trans (Kp.upd sq2 _)) ((hR.mono sm).mutate e1 hv h0 sq2 al2)⟩
    · rw [hF]
    · rw [List.length_take]; omega
@[simp] theorem s_delFrom {n : Nat} {E : DEnds} {τ : DSt} : wDelFrom n we E τ = ∃ ds, τ[n]? = some (some (.own ds)) ∧ we τ fun r => ∃ k : Nat, r = .st (.int (k : Int)) ∧ k ≤ ds.length ∧ E.nx (τ.set n (some (.own (ds.take k)))) := rfl
end
end TK
end
section
namespace L2
open PySem PySem.Spec PyProof.Rows
variable {X : Cx} {CX : CXT} {k i : Nat} {f : Addr} {fd : FuncData} {ps : List Str} {sp : Sp} {ds : List Value} {dvs : List V} {E : XK} {x : Str} {e : Expr} {es : List Expr} {t : TA} {p pos : Pos}
theorem pe_callL (F : FnOk X.prog X.w X.K X.mg X.base CX k f fd ps sp) (hr : Room k X.A) (hv : PE X (.Name x p) (tVar i)) (hk : PySem.W.keepIn X.K (.ref f) = true) (hb : Binds X.K fd ps ds) (hd : Vals dvs ds) (hx : Passes CX X E)
    (ha : PA X (e :: es) t) (he : starEach (e :: es) X.env = (false, eval e X.env) :: starEach es X.env := by rfl) (hpl : (backTo pos (starEach es X.env)).any (·.1) = false := by rfl) :
    PE X (.Call (.Name x p) (e :: es) [] pos) (fun σ H Q => σ[i]? = some (some (.ref f)) ∧ tCall sp dvs E t σ H Q) := by
  intro pins s σ H Q I ⟨h0, h⟩
  refine wpAny_Call_Name_kw (thn (hv pins s σ H (fun v H' => v = .ref f ∧ tCall sp dvs E t σ H' Q) I ⟨.ref f, h0, rfl, h⟩) fun u s1 ⟨v, H1, I1, r, ev, q⟩ => ?_)
  subst ev
  obtain rfl : u = Value.ref f := r
  refine PySem.W.callWith_K (h₀ := X.base) I1.ok.mod.kin hk (thn (ha pos pins s1 σ H1 _ I1 q) fun us s2 ⟨vs, H2, I2, r, q⟩ => ⟨I2.kIn, ?_⟩) he hpl
  exact run_fn F hr hb hd hx I2 r q
end L2
namespace TK
open PySem PySem.Spec PyProof.Rows L2
section
variable {X : Cx} {H0 : Hp} {e : Expr} {es : List Expr} {wr : WA} {k i : Nat} {f : Addr} {fd : FuncData} {ps : List Str} {sp : DSp} {x : Str} {p pos : Pos}
def wOb (a : Addr) : WE := fun _ Q => Q (.ob a)
theorem DE.fnv (hg : Gl X x) (hm : X.mg x = some (.ref f)) (hd : (x == ("__debug__" : Str)) = false := by decide) : DE X H0 (.Name x pos) (wOb f) where
  mono := fun τ P Q g h => g _ h
  pe := peW (pe_glob (v := .ref f) hg hm rfl hd) fun σ H Q ⟨τ, hR, h⟩ => h (.ref f) H (Same.refl H) rfl
def wCallL (i : Nat) (f : Addr) (sp : DSp) (wr : WA) : WE := fun τ Q => τ[i]? = some (some (.ob f)) ∧ wr τ fun rs => rs.all argOk = true ∧ ∃ r, sp (rs.map nrm) r ∧ Q r
theorem DE.callL (F : FnOk X.prog X.w X.K X.mg X.base CX0 k f fd ps (liftSp X.K (e :: es).length sp)) (hr : Room k X.A) (hv : PE X (.Name x p) (tVar i)) (hk : PySem.W.keepIn X.K (.ref f) = true) (hb : Binds X.K fd ps [])
    (ha : DA X H0 (e :: es) wr) (he : starEach (e :: es) X.env = (false, eval e X.env) :: starEach es X.env := by rfl) (hpl : (backTo pos (starEach es X.env)).any (·.1) = false := by rfl) :
    DE X H0 (.Call (.Name x p) (e :: es) [] pos) (wCallL i f sp wr) where
  mono := fun τ P Q f h => ⟨h.1, ha.mono τ _ _ (fun rs ⟨ok, r, h1, h2⟩ => ⟨ok, r, h1, f r h2⟩) h.2⟩
  pe := peW (pe_callL F hr hv hk hb .nil pass0 ha.pa he hpl) fun σ H Q ⟨τ, hR, h0, h⟩ => by
    obtain ⟨v, hv, rv⟩ := hR.here i _ h0
    obtain rfl : v = .ref f := rv
    exact ⟨hv, τ, hR, ha.mono τ _ _ (fun rs ⟨hln, ok, r, h1, h2⟩ vs H1 s1 irs => by
      refine ⟨rs, r, hln, ?_, ok, h1, fun v H' s2 ir => h2 v H' (s1.trans s2) (ir.older s1)⟩
      rw [List.append_nil]
      exact irs.v) (ha.len τ _ h)⟩
@[simp] theorem o_argob {a : Addr} : argOk (.ob a) = true := rfl
@[simp] theorem o_nrmob {a : Addr} : nrm (.ob a) = .ob a := rfl
@[simp] theorem s_ob {a : Addr} {τ : DSt} {Q : R → Prop} : wOb a τ Q = Q (.ob a) := rfl
@[simp] theorem s_callL {τ : DSt} {Q : R → Prop} : wCallL i f sp wr τ Q = (τ[i]? = some (some (.ob f)) ∧ wr τ fun rs => rs.all argOk = true ∧ ∃ r, sp (rs.map nrm) r ∧ Q r) := rfl
end
end TK
end
section
set_option maxRecDepth 100000
namespace K06
open PySem PySem.Spec PyProof.Rows L2 TK
def top (i : Nat) : Stmt := PySem.Challenge.pw_textkinds_k06_stretches.main.body.getD i (.Pass ⟨0, 0, 0, 0⟩)
def innerKV : List (Str × Int) := [("none", 0), ("empty", 0), ("signs", 0), ("then", 2), ("or", 2), ("and", 2), ("not", 1), ("many", 1)]
structure Txt (K : PySem.W.Frag) (mg : Str → Option Value) (w : World) : Prop where
  m_enumerate : mg "enumerate" = none
  m_int : mg "int" = none
  m_len : mg "len" = none
  m_list : mg "list" = none
  m_range : mg "range" = none
  m_reversed : mg "reversed" = none
  m_tuple : mg "tuple" = none
  m_zip : mg "zip" = none
  e_INNER : ∃ d, MDict K w d innerKV ∧ mg "INNER" = some (.ref d)
theorem bt_enumerate : bootBuiltins "enumerate" = some (.type "enumerate") := by decide +kernel
theorem bt_int : bootBuiltins "int" = some (.type "int") := by decide +kernel
theorem bt_len : bootBuiltins "len" = some (.builtin "len") := by decide +kernel
theorem bt_list : bootBuiltins "list" = some (.type "list") := by decide +kernel
theorem bt_range : bootBuiltins "range" = some (.type "range") := by decide +kernel
theorem bt_reversed : bootBuiltins "reversed" = some (.type "reversed") := by decide +kernel
theorem bt_tuple : bootBuiltins "tuple" = some (.type "tuple") := by decide +kernel
theorem bt_zip : bootBuiltins "zip" = some (.type "zip") := by decide +kernel
section
variable {P : Program} {w : World} {K : PySem.W.Frag} {mg : Str → Option Value} {base : Heap}
abbrev st_inner_shapes : Stmt := top 2
abbrev N_inner_shapes : List Str := ["shape"]
theorem sc_inner_shapes : FnScope ["shape"] ["shape"] (defScope st_inner_shapes) := ⟨rfl, rfl, rfl, by decide +kernel, rfl, by decide +kernel, by decide +kernel⟩
def w_inner_shapes   : WS := (wSeq (wIfS (wOp (eqD 60 false) (wMget innerKV (wOp ixD (wV 0) (wC (.int 0)))) (wC (.int 0))) (wRet (wLst wNil)) wNext) (wRet (wCB listD (wCons (wSl (wV 0) (oSome (wC (.int 1))) oNone) wNil))))
set_option maxHeartbeats 4000000 in
theorem ok_inner_shapes {k : Nat} {f : Addr} {fd : FuncData} {sp : DSp} (T : Txt K mg w) (D : Df K mg "inner_shapes" st_inner_shapes ["shape"] f fd)
    (hw : ∀ rs r, rs.length = 1 → sp rs r → w_inner_shapes   (Ends1 r) (startD N_inner_shapes rs)) : FnD P w K mg base (k + 1) f fd ["shape"] sp := by
  refine D.ok sc_inner_shapes (ws := w_inner_shapes  ) (fun cdv A outer s H E hr => ?_) hw
  have nd := sc_inner_shapes.nd
  obtain ⟨da_INNER, md_INNER, mn_INNER⟩ := T.e_INNER
  exact (DSs.cons (DS.ife (DT.cmp (cd_eq (n := 60) (hu60 hr)) eqD_mono (DE.mget md_INNER rfl mn_INNER (DE.ix (DE.var (pv 0)) DE.int (fun _ _ => rfl)) (fun _ _ => rfl)) DE.int (nomark _)) (DSs.one (DS.ret (DE.lst DA.nil))) DSs.nil) (DSs.one (DS.ret (DE.callTy call_listR listD_mono rfl T.m_list bt_list (DA.cons (DE.slice (DE.var (pv 0)) (DO.some DE.int) DO.none) DA.nil)))))
abbrev st_rows_of : Stmt := top 3
abbrev N_rows_of : List Str := ["shape"]
theorem sc_rows_of : FnScope ["shape"] ["shape"] (defScope st_rows_of) := ⟨rfl, rfl, rfl, by decide +kernel, rfl, by decide +kernel, by decide +kernel⟩
def w_rows_of (a_inner_shapes : Addr) (sp_rows_by : DSp) : WS := (wRet (wCall sp_rows_by (wCons (wV 0) (wCons (wOb a_inner_shapes) wNil))))
set_option maxHeartbeats 4000000 in
theorem ok_rows_of {k : Nat} {f : Addr} {fd : FuncData} {sp : DSp} {l_rows_by : Nat} {a_rows_by : Addr} {fd_rows_by : FuncData} {sp_rows_by : DSp} (D_rows_by : Df K mg "rows_by" (top 4) ["whole", "inner_parts"] a_rows_by fd_rows_by) (G_rows_by : FnD P w K mg base l_rows_by a_rows_by fd_rows_by ["whole", "inner_parts"] sp_rows_by) (h_rows_by : l_rows_by ≤ k) {a_inner_shapes : Addr} {fd_inner_shapes : FuncData} (D_inner_shapes : Df K mg "inner_shapes" (top 2) ["shape"] a_inner_shapes fd_inner_shapes) (T : Txt K mg w) (D : Df K mg "rows_of" st_rows_of ["shape"] f fd)
    (hw : ∀ rs r, rs.length = 1 → sp rs r → w_rows_of a_inner_shapes sp_rows_by (Ends1 r) (startD N_rows_of rs)) : FnD P w K mg base (k + 1) f fd ["shape"] sp := by
  refine D.ok sc_rows_of (ws := w_rows_of a_inner_shapes sp_rows_by) (fun cdv A outer s H E hr => ?_) hw
  have nd := sc_rows_of.nd
  exact (DSs.one (DS.ret (DE.call G_rows_by (hr.mono h_rows_by) rfl D_rows_by.m D_rows_by.k D_rows_by.b (DA.cons (DE.var (pv 0)) (DA.cons (DE.fnv rfl D_inner_shapes.m) DA.nil)))))
abbrev st_rows_by : Stmt := top 4
abbrev N_rows_by : List Str := ["whole", "inner_parts", "rows", "numbers", "finished", "waiting", "part", "inner_finished", "inner", "first", "row"]
theorem sc_rows_by : FnScope ["whole", "inner_parts", "rows", "numbers", "finished", "waiting", "part", "inner_finished", "inner", "first", "row"] ["whole", "inner_parts"] (defScope st_rows_by) := ⟨rfl, rfl, rfl, by decide +kernel, rfl, by decide +kernel, by decide +kernel⟩
def w_rows_by (a_inner_shapes : Addr) (sp_inner_shapes : DSp) : WS := (wSeq (wSet 2 (wLst wNil)) (wSeq (wDNew 3) (wSeq (wSet 4 (wLst wNil)) (wSeq (wSet 5 (wLst (wCons (wFz (wTup (wCons (wFz (wV 0)) (wCons (wFz (wC (.bl false))) wNil)))) wNil))) (wSeq (wWhile (wTru (wV 5)) (wSeq (wPop 5 (gTp 2 (gCn (gNm 6) (gCn (gNm 7) gNl)))) (wSeq (wSet 8 (wCallL 1 a_inner_shapes sp_inner_shapes (wCons (wV 6) wNil))) (wSeq (wIfS (wAnd (wTru (wV 8)) (wNot (wTru (wV 7)))) (wSeq (wAppend 5 (wFz (wTup (wCons (wFz (wV 6)) (wCons (wFz (wC (.bl true))) wNil))))) (wSeq (wExtend 5 (wComp 1 [] (jRevL (wCons (wV 8) wNil)) (gNm 0) tYes (wFz (wTup (wCons (wFz (wV 0)) (wCons (wFz (wC (.bl false))) wNil)))))) wCnt)) wNext) (wSeq (wSet 9 (wOp (intD NoC fun i j => i - j) (wCB lenD (wCons (wV 4) wNil)) (wCB lenD (wCons (wV 8) wNil)))) (wSeq (wSet 10 (wOp addD (wOp addD (wSl (wV 6) oNone (oSome (wC (.int 1)))) (wCB tupleD (wCons (wSl (wV 4) (oSome (wV 9)) oNone) wNil))) (wSl (wV 6) (oSome (wOp addD (wC (.int 1)) (wCB lenD (wCons (wV 8) wNil)))) oNone))) (wSeq (wDelFrom 4 (wV 9)) (wSeq (wIfS (wDNotIn 3 (wV 10)) (wSeq (wDPut 3 (wV 10) (wCB lenD (wCons (wV 2) wNil))) (wAppend 2 (wFz (wV 10)))) wNext) (wAppend 4 (wFz (wDGet 3 (wV 10)))))))))))) (wRetV 2))))))
set_option maxHeartbeats 4000000 in
theorem ok_rows_by {k : Nat} {f : Addr} {fd : FuncData} {sp : DSp} {l_inner_shapes : Nat} {a_inner_shapes : Addr} {fd_inner_shapes : FuncData} {sp_inner_shapes : DSp} (D_inner_shapes : Df K mg "inner_shapes" (top 2) ["shape"] a_inner_shapes fd_inner_shapes) (G_inner_shapes : FnD P w K mg base l_inner_shapes a_inner_shapes fd_inner_shapes ["shape"] sp_inner_shapes) (h_inner_shapes : l_inner_shapes ≤ k) (T : Txt K mg w) (D : Df K mg "rows_by" st_rows_by ["whole", "inner_parts"] f fd)
    (hw : ∀ rs r, rs.length = 2 → sp rs r → w_rows_by a_inner_shapes sp_inner_shapes (Ends1 r) (startD N_rows_by rs)) : FnD P w K mg base (k + 1) f fd ["whole", "inner_parts"] sp := by
  refine D.ok sc_rows_by (ws := w_rows_by a_inner_shapes sp_inner_shapes) (fun cdv A outer s H E hr => ?_) hw
  have nd := sc_rows_by.nd
  exact (DSs.cons (DS.set (i := 2) (DE.lst DA.nil) nd rfl (by first | exact Or.inl rfl | exact Or.inr rfl)) (DSs.cons (DS.dnew (i := 3) nd rfl (by first | exact Or.inl rfl | exact Or.inr rfl)) (DSs.cons (DS.set (i := 4) (DE.lst DA.nil) nd rfl (by first | exact Or.inl rfl | exact Or.inr rfl)) (DSs.cons (DS.set (i := 5) (DE.lst (DA.cons (DE.fz (DE.tup (DA.cons (DE.fz (DE.var (pv 0))) (DA.cons (DE.fz DE.bl) DA.nil)))) DA.nil)) nd rfl (by first | exact Or.inl rfl | exact Or.inr rfl)) (DSs.cons (DS.whl PassesOwn.never (DT.tru (DE.var (pv 5)) (fun _ => rfl)) (DSs.cons (DS.pop (pv 5) (DG.tp (n := 2) rfl (DGs.cons (DG.nm (i := 6) nd rfl (by first | exact Or.inl rfl | exact Or.inr rfl)) (DGs.cons (DG.nm (i := 7) nd rfl (by first | exact Or.inl rfl | exact Or.inr rfl)) DGs.nil)))) (DSs.cons (DS.set (i := 8) (DE.callL G_inner_shapes (hr.mono h_inner_shapes) (pv 1) D_inner_shapes.k D_inner_shapes.b (DA.cons (DE.var (pv 6)) DA.nil)) nd rfl (by first | exact Or.inl rfl | exact Or.inr rfl)) (DSs.cons (DS.ife (DW.t (DW.and (DT.tru (DE.var (pv 8)) (fun _ => rfl)) (DW.and1 (DT.nt (DT.tru (DE.var (pv 7)) (fun _ => rfl)))))) (DSs.cons (DS.append (pv 5) (DE.fz (DE.tup (DA.cons (DE.fz (DE.var (pv 6))) (DA.cons (DE.fz DE.bl) DA.nil))))) (DSs.cons (DS.extend (pv 5) (DE.comp rfl (blk_of (sc := defScope st_rows_by) (N0 := ["whole", "inner_parts", "rows", "numbers", "finished", "waiting", "part", "inner_finished", "inner", "first", "row"]) (N := ["one"]) (nt := 1) (cap := []) rfl rfl (by decide +kernel)) (DIE.revL rfl T.m_reversed bt_reversed (DA.cons (DE.var (pv 8)) DA.nil)) (fun _ _ _ _ => (DG.nm (i := 0) (show List.Nodup (["one"] : List Str) by decide +kernel) rfl (by first | exact Or.inl rfl | exact Or.inr rfl))) (fun _ _ _ _ => DIf.nil) (fun _ _ _ _ => (DE.fz (DE.tup (DA.cons (DE.fz (DE.var (pv 0))) (DA.cons (DE.fz DE.bl) DA.nil))))))) (DSs.one DS.cont))) DSs.nil) (DSs.cons (DS.set (i := 9) (DE.op od_sub intD_mono (DE.callB call_lenR lenD_mono rfl T.m_len bt_len (DA.cons (DE.var (pv 4)) DA.nil)) (DE.callB call_lenR lenD_mono rfl T.m_len bt_len (DA.cons (DE.var (pv 8)) DA.nil))) nd rfl (by first | exact Or.inl rfl | exact Or.inr rfl)) (DSs.cons (DS.set (i := 10) (DE.op od_add addD_mono (DE.op od_add addD_mono (DE.slice (DE.var (pv 6)) DO.none (DO.some DE.int)) (DE.callTy call_tupleR tupleD_mono rfl T.m_tuple bt_tuple (DA.cons (DE.slice (DE.var (pv 4)) (DO.some (DE.var (pv 9))) DO.none) DA.nil))) (DE.slice (DE.var (pv 6)) (DO.some (DE.op od_add addD_mono DE.int (DE.callB call_lenR lenD_mono rfl T.m_len bt_len (DA.cons (DE.var (pv 8)) DA.nil)))) DO.none)) nd rfl (by first | exact Or.inl rfl | exact Or.inr rfl)) (DSs.cons (DS.delFrom (pv 4) (DE.var (pv 9))) (DSs.cons (DS.ife (DT.dnotin (Room.hu1 hr) (DE.var (pv 10)) (pv 3)) (DSs.cons (DS.dput (Room.hu1 hr) (pv 3) (DE.var (pv 10)) (DE.callB call_lenR lenD_mono rfl T.m_len bt_len (DA.cons (DE.var (pv 2)) DA.nil))) (DSs.one (DS.append (pv 2) (DE.fz (DE.var (pv 10)))))) DSs.nil) (DSs.one (DS.append (pv 4) (DE.fz (DE.dgetT (Room.hu1 hr) (pv 3) (DE.var (pv 10)) (fun _ _ => rfl))))))))))))) (DSs.one (DS.retV (pv 2))))))))
abbrev st_ends_of : Stmt := top 5
abbrev N_ends_of : List Str := ["shape", "text", "tables", "row"]
theorem sc_ends_of : FnScope ["shape", "text", "tables", "row"] ["shape", "text"] (defScope st_ends_of) := ⟨rfl, rfl, rfl, by decide +kernel, rfl, by decide +kernel, by decide +kernel⟩
def w_ends_of  (sp_rows_of : DSp) (sp_row_ends : DSp) : WS := (wSeq (wSet 2 (wLst wNil)) (wSeq (wFor (iLst (wFz (wCall sp_rows_of (wCons (wV 0) wNil)))) (gNm 3) (wAppend 2 (wFz (wCall sp_row_ends (wCons (wV 3) (wCons (wV 2) (wCons (wV 1) wNil))))))) (wRet (wOp ixD (wV 2) (wNeg (wC (.int 1)))))))
set_option maxHeartbeats 4000000 in
theorem ok_ends_of {k : Nat} {f : Addr} {fd : FuncData} {sp : DSp} {l_rows_of : Nat} {a_rows_of : Addr} {fd_rows_of : FuncData} {sp_rows_of : DSp} {l_row_ends : Nat} {a_row_ends : Addr} {fd_row_ends : FuncData} {sp_row_ends : DSp} (D_rows_of : Df K mg "rows_of" (top 3) ["shape"] a_rows_of fd_rows_of) (G_rows_of : FnD P w K mg base l_rows_of a_rows_of fd_rows_of ["shape"] sp_rows_of) (h_rows_of : l_rows_of ≤ k) (D_row_ends : Df K mg "row_ends" (top 6) ["row", "tables", "text"] a_row_ends fd_row_ends) (G_row_ends : FnD P w K mg base l_row_ends a_row_ends fd_row_ends ["row", "tables", "text"] sp_row_ends) (h_row_ends : l_row_ends ≤ k) (T : Txt K mg w) (D : Df K mg "ends_of" st_ends_of ["shape", "text"] f fd)
    (hw : ∀ rs r, rs.length = 2 → sp rs r → w_ends_of  sp_rows_of sp_row_ends (Ends1 r) (startD N_ends_of rs)) : FnD P w K mg base (k + 1) f fd ["shape", "text"] sp := by
  refine D.ok sc_ends_of (ws := w_ends_of  sp_rows_of sp_row_ends) (fun cdv A outer s H E hr => ?_) hw
  have nd := sc_ends_of.nd
  exact (DSs.cons (DS.set (i := 2) (DE.lst DA.nil) nd rfl (by first | exact Or.inl rfl | exact Or.inr rfl)) (DSs.cons (DS.for PassesOwn.never rfl (DI.lst (DE.fz (DE.call G_rows_of (hr.mono h_rows_of) rfl D_rows_of.m D_rows_of.k D_rows_of.b (DA.cons (DE.var (pv 0)) DA.nil)))) (DG.nm (i := 3) nd rfl (by first | exact Or.inl rfl | exact Or.inr rfl)) (DSs.one (DS.append (pv 2) (DE.fz (DE.call G_row_ends (hr.mono h_row_ends) rfl D_row_ends.m D_row_ends.k D_row_ends.b (DA.cons (DE.var (pv 3)) (DA.cons (DE.var (pv 2)) (DA.cons (DE.var (pv 1)) DA.nil)))))))) (DSs.one (DS.ret (DE.ix (DE.var (pv 2)) (DE.neg DE.int) (fun _ _ => rfl))))))
abbrev st_row_ends : Stmt := top 6
abbrev N_row_ends : List Str := ["row", "tables", "text", "word", "one", "other"]
theorem sc_row_ends : FnScope ["row", "tables", "text", "word", "one", "other"] ["row", "tables", "text"] (defScope st_row_ends) := ⟨rfl, rfl, rfl, by decide +kernel, rfl, by decide +kernel, by decide +kernel⟩
def w_row_ends  (sp_not_ends : DSp) (sp_many_ends : DSp) (sp_reached_from : DSp) : WS := (wSeq (wSet 3 (wOp ixD (wV 0) (wC (.int 0)))) (wSeq (wIfS (wOp (eqD 60 false) (wV 3) (wC (.str "none"))) (wRet (wOp mulD (wLst (wCons (wFz (wC (.int 0))) wNil)) (wOp addD (wCB lenD (wCons (wV 2) wNil)) (wC (.int 1))))) wNext) (wSeq (wIfS (wOp (eqD 60 false) (wV 3) (wC (.str "empty"))) (wRet (wComp 1 [] (jRng1 (wCons (wOp addD (wCB lenD (wCons (wV 2) wNil)) (wC (.int 1))) wNil)) (gNm 0) tYes (wFz (wOp (intD CPow fun i j => i * 2 ^ j.toNat) (wC (.int 1)) (wV 0))))) wNext) (wSeq (wIfS (wOp (eqD 60 false) (wV 3) (wC (.str "signs"))) (wRet (wOp addD (wComp 2 [0] (jEnum (wCons (wV 2) wNil)) (gTp 2 (gCn (gNm 0) (gCn (gNm 1) gNl))) tYes (wFz (wIf (wOp (inD false) (wV 1) (wOp ixD (wV 2) (wC (.int 1)))) (wOp (intD CPow fun i j => i * 2 ^ j.toNat) (wC (.int 2)) (wV 0)) (wC (.int 0))))) (wLst (wCons (wFz (wC (.int 0))) wNil)))) wNext) (wSeq (wSet 4 (wOp ixD (wV 1) (wOp ixD (wV 0) (wC (.int 1))))) (wSeq (wIfS (wOp (eqD 60 false) (wV 3) (wC (.str "not"))) (wRet (wCall sp_not_ends (wCons (wV 4) wNil))) wNext) (wSeq (wIfS (wOp (eqD 60 false) (wV 3) (wC (.str "many"))) (wRet (wCall sp_many_ends (wCons (wV 4) wNil))) wNext) (wSeq (wSet 5 (wOp ixD (wV 1) (wOp ixD (wV 0) (wC (.int 2))))) (wSeq (wIfS (wOp (eqD 60 false) (wV 3) (wC (.str "then"))) (wRet (wComp 1 [5] (jLst (wV 4)) (gNm 0) tYes (wFz (wCall sp_reached_from (wCons (wV 0) (wCons (wV 1) wNil)))))) wNext) (wSeq (wIfS (wOp (eqD 60 false) (wV 3) (wC (.str "or"))) (wRet (wComp 2 [] (jZip (wCons (wV 4) (wCons (wV 5) wNil))) (gTp 2 (gCn (gNm 0) (gCn (gNm 1) gNl))) tYes (wFz (wOp (intD NoC fun i j => Builtin.bitOr i j) (wV 0) (wV 1))))) wNext) (wRet (wComp 2 [] (jZip (wCons (wV 4) (wCons (wV 5) wNil))) (gTp 2 (gCn (gNm 0) (gCn (gNm 1) gNl))) tYes (wFz (wOp (intD NoC fun i j => Builtin.bitAnd i j) (wV 0) (wV 1)))))))))))))))
set_option maxHeartbeats 4000000 in
theorem ok_row_ends {k : Nat} {f : Addr} {fd : FuncData} {sp : DSp} {l_not_ends : Nat} {a_not_ends : Addr} {fd_not_ends : FuncData} {sp_not_ends : DSp} {l_many_ends : Nat} {a_many_ends : Addr} {fd_many_ends : FuncData} {sp_many_ends : DSp} {l_reached_from : Nat} {a_reached_from : Addr} {fd_reached_from : FuncData} {sp_reached_from : DSp} (D_not_ends : Df K mg "not_ends" (top 7) ["one"] a_not_ends fd_not_ends) (G_not_ends : FnD P w K mg base l_not_ends a_not_ends fd_not_ends ["one"] sp_not_ends) (h_not_ends : l_not_ends ≤ k) (D_many_ends : Df K mg "many_ends" (top 8) ["one"] a_many_ends fd_many_ends) (G_many_ends : FnD P w K mg base l_many_ends a_many_ends fd_many_ends ["one"] sp_many_ends) (h_many_ends : l_many_ends ≤ k) (D_reached_from : Df K mg "reached_from" (top 9) ["marks", "ends"] a_reached_from fd_reached_from) (G_reached_from : FnD P w K mg base l_reached_from a_reached_from fd_reached_from ["marks", "ends"] sp_reached_from) (h_reached_from : l_reached_from ≤ k) (T : Txt K mg w) (D : Df K mg "row_ends" st_row_ends ["row", "tables", "text"] f fd)
    (hw : ∀ rs r, rs.length = 3 → sp rs r → w_row_ends  sp_not_ends sp_many_ends sp_reached_from (Ends1 r) (startD N_row_ends rs)) : FnD P w K mg base (k + 1) f fd ["row", "tables", "text"] sp := by
  refine D.ok sc_row_ends (ws := w_row_ends  sp_not_ends sp_many_ends sp_reached_from) (fun cdv A outer s H E hr => ?_) hw
  have nd := sc_row_ends.nd
  exact (DSs.cons (DS.set (i := 3) (DE.ix (DE.var (pv 0)) DE.int (fun _ _ => rfl)) nd rfl (by first | exact Or.inl rfl | exact Or.inr rfl)) (DSs.cons (DS.ife (DT.cmp (cd_eq (n := 60) (hu60 hr)) eqD_mono (DE.var (pv 3)) DE.str (nomark _)) (DSs.one (DS.ret (DE.op od_mul mulD_mono (DE.lst (DA.cons (DE.fz DE.int) DA.nil)) (DE.op od_add addD_mono (DE.callB call_lenR lenD_mono rfl T.m_len bt_len (DA.cons (DE.var (pv 2)) DA.nil)) DE.int)))) DSs.nil) (DSs.cons (DS.ife (DT.cmp (cd_eq (n := 60) (hu60 hr)) eqD_mono (DE.var (pv 3)) DE.str (nomark _)) (DSs.one (DS.ret (DE.comp rfl (blk_of (sc := defScope st_row_ends) (N0 := ["row", "tables", "text", "word", "one", "other"]) (N := ["begin"]) (nt := 1) (cap := []) rfl rfl (by decide +kernel)) (DIE.rng1 rfl T.m_range (DA.cons (DE.op od_add addD_mono (DE.callB call_lenR lenD_mono rfl T.m_len bt_len (DA.cons (DE.var (pv 2)) DA.nil)) DE.int) DA.nil)) (fun _ _ _ _ => (DG.nm (i := 0) (show List.Nodup (["begin"] : List Str) by decide +kernel) rfl (by first | exact Or.inl rfl | exact Or.inr rfl))) (fun _ _ _ _ => DIf.nil) (fun _ _ _ _ => (DE.fz (DE.op od_shl intD_mono DE.int (DE.var (pv 0)))))))) DSs.nil) (DSs.cons (DS.ife (DT.cmp (cd_eq (n := 60) (hu60 hr)) eqD_mono (DE.var (pv 3)) DE.str (nomark _)) (DSs.one (DS.ret (DE.op od_add addD_mono (DE.comp rfl (blk_of (sc := defScope st_row_ends) (N0 := ["row", "tables", "text", "word", "one", "other"]) (N := ["begin", "sign", "row"]) (nt := 2) (cap := [0]) rfl rfl (by decide +kernel)) (DIE.enumS rfl T.m_enumerate bt_enumerate (DA.cons (DE.var (pv 2)) DA.nil)) (fun _ _ _ _ => (DG.tp (n := 2) rfl (DGs.cons (DG.nm (i := 0) (show List.Nodup (["begin", "sign", "row"] : List Str) by decide +kernel) rfl (by first | exact Or.inl rfl | exact Or.inr rfl)) (DGs.cons (DG.nm (i := 1) (show List.Nodup (["begin", "sign", "row"] : List Str) by decide +kernel) rfl (by first | exact Or.inl rfl | exact Or.inr rfl)) DGs.nil)))) (fun _ _ _ _ => DIf.nil) (fun _ _ _ _ => (DE.fz (DE.ife (DT.cmp cd_in inD_mono (DE.var (pv 1)) (DE.ix (DE.var (pv 2)) DE.int (fun _ _ => rfl)) (by with_unfolding_all rfl)) (DE.op od_shl intD_mono DE.int (DE.var (pv 0))) DE.int)))) (DE.lst (DA.cons (DE.fz DE.int) DA.nil))))) DSs.nil) (DSs.cons (DS.set (i := 4) (DE.ix (DE.var (pv 1)) (DE.ix (DE.var (pv 0)) DE.int (fun _ _ => rfl)) (fun _ _ => rfl)) nd rfl (by first | exact Or.inl rfl | exact Or.inr rfl)) (DSs.cons (DS.ife (DT.cmp (cd_eq (n := 60) (hu60 hr)) eqD_mono (DE.var (pv 3)) DE.str (nomark _)) (DSs.one (DS.ret (DE.call G_not_ends (hr.mono h_not_ends) rfl D_not_ends.m D_not_ends.k D_not_ends.b (DA.cons (DE.var (pv 4)) DA.nil)))) DSs.nil) (DSs.cons (DS.ife (DT.cmp (cd_eq (n := 60) (hu60 hr)) eqD_mono (DE.var (pv 3)) DE.str (nomark _)) (DSs.one (DS.ret (DE.call G_many_ends (hr.mono h_many_ends) rfl D_many_ends.m D_many_ends.k D_many_ends.b (DA.cons (DE.var (pv 4)) DA.nil)))) DSs.nil) (DSs.cons (DS.set (i := 5) (DE.ix (DE.var (pv 1)) (DE.ix (DE.var (pv 0)) DE.int (fun _ _ => rfl)) (fun _ _ => rfl)) nd rfl (by first | exact Or.inl rfl | exact Or.inr rfl)) (DSs.cons (DS.ife (DT.cmp (cd_eq (n := 60) (hu60 hr)) eqD_mono (DE.var (pv 3)) DE.str (nomark _)) (DSs.one (DS.ret (DE.comp rfl (blk_of (sc := defScope st_row_ends) (N0 := ["row", "tables", "text", "word", "one", "other"]) (N := ["marks", "other"]) (nt := 1) (cap := [5]) rfl rfl (by decide +kernel)) (DIE.lst (DE.var (pv 4))) (fun _ _ _ _ => (DG.nm (i := 0) (show List.Nodup (["marks", "other"] : List Str) by decide +kernel) rfl (by first | exact Or.inl rfl | exact Or.inr rfl))) (fun _ _ _ _ => DIf.nil) (fun _ _ _ _ => (DE.fz (DE.call G_reached_from (hr.mono h_reached_from) rfl D_reached_from.m D_reached_from.k D_reached_from.b (DA.cons (DE.var (pv 0)) (DA.cons (DE.var (pv 1)) DA.nil)))))))) DSs.nil) (DSs.cons (DS.ife (DT.cmp (cd_eq (n := 60) (hu60 hr)) eqD_mono (DE.var (pv 3)) DE.str (nomark _)) (DSs.one (DS.ret (DE.comp rfl (blk_of (sc := defScope st_row_ends) (N0 := ["row", "tables", "text", "word", "one", "other"]) (N := ["marks", "others"]) (nt := 2) (cap := []) rfl rfl (by decide +kernel)) (DIE.zip rfl T.m_zip bt_zip (DA.cons (DE.var (pv 4)) (DA.cons (DE.var (pv 5)) DA.nil))) (fun _ _ _ _ => (DG.tp (n := 2) rfl (DGs.cons (DG.nm (i := 0) (show List.Nodup (["marks", "others"] : List Str) by decide +kernel) rfl (by first | exact Or.inl rfl | exact Or.inr rfl)) (DGs.cons (DG.nm (i := 1) (show List.Nodup (["marks", "others"] : List Str) by decide +kernel) rfl (by first | exact Or.inl rfl | exact Or.inr rfl)) DGs.nil)))) (fun _ _ _ _ => DIf.nil) (fun _ _ _ _ => (DE.fz (DE.op od_or intD_mono (DE.var (pv 0)) (DE.var (pv 1)))))))) DSs.nil) (DSs.one (DS.ret (DE.comp rfl (blk_of (sc := defScope st_row_ends) (N0 := ["row", "tables", "text", "word", "one", "other"]) (N := ["marks", "others"]) (nt := 2) (cap := []) rfl rfl (by decide +kernel)) (DIE.zip rfl T.m_zip bt_zip (DA.cons (DE.var (pv 4)) (DA.cons (DE.var (pv 5)) DA.nil))) (fun _ _ _ _ => (DG.tp (n := 2) rfl (DGs.cons (DG.nm (i := 0) (show List.Nodup (["marks", "others"] : List Str) by decide +kernel) rfl (by first | exact Or.inl rfl | exact Or.inr rfl)) (DGs.cons (DG.nm (i := 1) (show List.Nodup (["marks", "others"] : List Str) by decide +kernel) rfl (by first | exact Or.inl rfl | exact Or.inr rfl)) DGs.nil)))) (fun _ _ _ _ => DIf.nil) (fun _ _ _ _ => (DE.fz (DE.op od_and intD_mono (DE.var (pv 0)) (DE.var (pv 1))))))))))))))))))
abbrev st_not_ends : Stmt := top 7
abbrev N_not_ends : List Str := ["one", "past"]
theorem sc_not_ends : FnScope ["one", "past"] ["one"] (defScope st_not_ends) := ⟨rfl, rfl, rfl, by decide +kernel, rfl, by decide +kernel, by decide +kernel⟩
def w_not_ends   : WS := (wSeq (wSet 1 (wOp (intD CPow fun i j => i * 2 ^ j.toNat) (wC (.int 1)) (wCB lenD (wCons (wV 0) wNil)))) (wRet (wComp 2 [1] (jEnum (wCons (wV 0) wNil)) (gTp 2 (gCn (gNm 0) (gCn (gNm 1) gNl))) tYes (wFz (wOp (intD NoC fun i j => Builtin.bitXor i j) (wOp (intD NoC fun i j => i - j) (wV 2) (wOp (intD CPow fun i j => i * 2 ^ j.toNat) (wC (.int 1)) (wV 0))) (wV 1))))))
set_option maxHeartbeats 4000000 in
theorem ok_not_ends {k : Nat} {f : Addr} {fd : FuncData} {sp : DSp} (T : Txt K mg w) (D : Df K mg "not_ends" st_not_ends ["one"] f fd)
    (hw : ∀ rs r, rs.length = 1 → sp rs r → w_not_ends   (Ends1 r) (startD N_not_ends rs)) : FnD P w K mg base (k + 1) f fd ["one"] sp := by
  refine D.ok sc_not_ends (ws := w_not_ends  ) (fun cdv A outer s H E hr => ?_) hw
  have nd := sc_not_ends.nd
  exact (DSs.cons (DS.set (i := 1) (DE.op od_shl intD_mono DE.int (DE.callB call_lenR lenD_mono rfl T.m_len bt_len (DA.cons (DE.var (pv 0)) DA.nil))) nd rfl (by first | exact Or.inl rfl | exact Or.inr rfl)) (DSs.one (DS.ret (DE.comp rfl (blk_of (sc := defScope st_not_ends) (N0 := ["one", "past"]) (N := ["begin", "marks", "past"]) (nt := 2) (cap := [1]) rfl rfl (by decide +kernel)) (DIE.enumS rfl T.m_enumerate bt_enumerate (DA.cons (DE.var (pv 0)) DA.nil)) (fun _ _ _ _ => (DG.tp (n := 2) rfl (DGs.cons (DG.nm (i := 0) (show List.Nodup (["begin", "marks", "past"] : List Str) by decide +kernel) rfl (by first | exact Or.inl rfl | exact Or.inr rfl)) (DGs.cons (DG.nm (i := 1) (show List.Nodup (["begin", "marks", "past"] : List Str) by decide +kernel) rfl (by first | exact Or.inl rfl | exact Or.inr rfl)) DGs.nil)))) (fun _ _ _ _ => DIf.nil) (fun _ _ _ _ => (DE.fz (DE.op od_xor intD_mono (DE.op od_sub intD_mono (DE.var (pv 2)) (DE.op od_shl intD_mono DE.int (DE.var (pv 0)))) (DE.var (pv 1)))))))))
abbrev st_many_ends : Stmt := top 8
abbrev N_many_ends : List Str := ["one", "ends", "begin", "here"]
theorem sc_many_ends : FnScope ["one", "ends", "begin", "here"] ["one"] (defScope st_many_ends) := ⟨rfl, rfl, rfl, by decide +kernel, rfl, by decide +kernel, by decide +kernel⟩
def w_many_ends  (sp_reached_from : DSp) : WS := (wSeq (wSet 1 (wOp mulD (wLst (wCons (wFz (wC (.int 0))) wNil)) (wCB lenD (wCons (wV 0) wNil)))) (wSeq (wFor (iRev1 (wCons (wCB lenD (wCons (wV 0) wNil)) wNil)) (gNm 2) (wSeq (wSet 3 (wOp (intD CPow fun i j => i * 2 ^ j.toNat) (wC (.int 1)) (wV 2))) (wSetIx 1 (wV 2) (wFz (wOp (intD NoC fun i j => Builtin.bitOr i j) (wV 3) (wCall sp_reached_from (wCons (wOp (intD NoC fun i j => Builtin.bitAnd i j) (wOp ixD (wV 0) (wV 2)) (wInv (wV 3))) (wCons (wV 1) wNil)))))))) (wRetV 1)))
set_option maxHeartbeats 4000000 in
theorem ok_many_ends {k : Nat} {f : Addr} {fd : FuncData} {sp : DSp} {l_reached_from : Nat} {a_reached_from : Addr} {fd_reached_from : FuncData} {sp_reached_from : DSp} (D_reached_from : Df K mg "reached_from" (top 9) ["marks", "ends"] a_reached_from fd_reached_from) (G_reached_from : FnD P w K mg base l_reached_from a_reached_from fd_reached_from ["marks", "ends"] sp_reached_from) (h_reached_from : l_reached_from ≤ k) (T : Txt K mg w) (D : Df K mg "many_ends" st_many_ends ["one"] f fd)
    (hw : ∀ rs r, rs.length = 1 → sp rs r → w_many_ends  sp_reached_from (Ends1 r) (startD N_many_ends rs)) : FnD P w K mg base (k + 1) f fd ["one"] sp := by
  refine D.ok sc_many_ends (ws := w_many_ends  sp_reached_from) (fun cdv A outer s H E hr => ?_) hw
  have nd := sc_many_ends.nd
  exact (DSs.cons (DS.set (i := 1) (DE.op od_mul mulD_mono (DE.lst (DA.cons (DE.fz DE.int) DA.nil)) (DE.callB call_lenR lenD_mono rfl T.m_len bt_len (DA.cons (DE.var (pv 0)) DA.nil))) nd rfl (by first | exact Or.inl rfl | exact Or.inr rfl)) (DSs.cons (DS.for PassesOwn.never rfl (DI.rev1 rfl T.m_reversed bt_reversed rfl T.m_range (DA.cons (DE.callB call_lenR lenD_mono rfl T.m_len bt_len (DA.cons (DE.var (pv 0)) DA.nil)) DA.nil)) (DG.nm (i := 2) nd rfl (by first | exact Or.inl rfl | exact Or.inr rfl)) (DSs.cons (DS.set (i := 3) (DE.op od_shl intD_mono DE.int (DE.var (pv 2))) nd rfl (by first | exact Or.inl rfl | exact Or.inr rfl)) (DSs.one (DS.setIx (pv 1) (DE.var (pv 2)) (DE.fz (DE.op od_or intD_mono (DE.var (pv 3)) (DE.call G_reached_from (hr.mono h_reached_from) rfl D_reached_from.m D_reached_from.k D_reached_from.b (DA.cons (DE.op od_and intD_mono (DE.ix (DE.var (pv 0)) (DE.var (pv 2)) (fun _ _ => rfl)) (DE.inv (DE.var (pv 3)))) (DA.cons (DE.var (pv 1)) DA.nil))))))))) (DSs.one (DS.retV (pv 1)))))
abbrev st_reached_from : Stmt := top 9
abbrev N_reached_from : List Str := ["marks", "ends", "reached", "place"]
theorem sc_reached_from : FnScope ["marks", "ends", "reached", "place"] ["marks", "ends"] (defScope st_reached_from) := ⟨rfl, rfl, rfl, by decide +kernel, rfl, by decide +kernel, by decide +kernel⟩
def w_reached_from   : WS := (wSeq (wSet 2 (wC (.int 0))) (wSeq (wWhile (wOp (cmpI fun i j => decide (j < i)) (wV 0) (wC (.int 0))) (wSeq (wSet 3 (wOp (intD NoC fun i j => i - j) (wBitlen (wV 0)) (wC (.int 1)))) (wSeq (wAug 2 (intD NoC fun i j => Builtin.bitOr i j) (wOp ixD (wV 1) (wV 3))) (wAug 0 (intD NoC fun i j => i - j) (wOp (intD CPow fun i j => i * 2 ^ j.toNat) (wC (.int 1)) (wV 3)))))) (wRetV 2)))
set_option maxHeartbeats 4000000 in
theorem ok_reached_from {k : Nat} {f : Addr} {fd : FuncData} {sp : DSp} (T : Txt K mg w) (D : Df K mg "reached_from" st_reached_from ["marks", "ends"] f fd)
    (hw : ∀ rs r, rs.length = 2 → sp rs r → w_reached_from   (Ends1 r) (startD N_reached_from rs)) : FnD P w K mg base (k + 1) f fd ["marks", "ends"] sp := by
  refine D.ok sc_reached_from (ws := w_reached_from  ) (fun cdv A outer s H E hr => ?_) hw
  have nd := sc_reached_from.nd
  exact (DSs.cons (DS.set (i := 2) DE.int nd rfl (by first | exact Or.inl rfl | exact Or.inr rfl)) (DSs.cons (DS.whl PassesOwn.never (DT.cmp cd_gt cmpI_mono (DE.var (pv 0)) DE.int (nomark _)) (DSs.cons (DS.set (i := 3) (DE.op od_sub intD_mono (DE.bitlen (DE.var (pv 0))) DE.int) nd rfl (by first | exact Or.inl rfl | exact Or.inr rfl)) (DSs.cons (DS.aug (i := 2) oi_or intD_mono (DE.ix (DE.var (pv 1)) (DE.var (pv 3)) (fun _ _ => rfl)) nd rfl (by first | exact Or.inl rfl | exact Or.inr rfl)) (DSs.one (DS.aug (i := 0) oi_sub intD_mono (DE.op od_shl intD_mono DE.int (DE.var (pv 3))) nd rfl (by first | exact Or.inl rfl | exact Or.inr rfl)))))) (DSs.one (DS.retV (pv 2)))))
abbrev st_longest_beginning : Stmt := top 11
abbrev N_longest_beginning : List Str := ["shape", "text", "marks"]
theorem sc_longest_beginning : FnScope ["shape", "text", "marks"] ["shape", "text"] (defScope st_longest_beginning) := ⟨rfl, rfl, rfl, by decide +kernel, rfl, by decide +kernel, by decide +kernel⟩
def w_longest_beginning  (sp_ends_of : DSp) : WS := (wSeq (wSet 2 (wOp ixD (wCall sp_ends_of (wCons (wV 0) (wCons (wV 1) wNil))) (wC (.int 0)))) (wRet (wIf (wOp (cmpI fun i j => decide (j < i)) (wV 2) (wC (.int 0))) (wOp (intD NoC fun i j => i - j) (wBitlen (wV 2)) (wC (.int 1))) (wC .non))))
set_option maxHeartbeats 4000000 in
theorem ok_longest_beginning {k : Nat} {f : Addr} {fd : FuncData} {sp : DSp} {l_ends_of : Nat} {a_ends_of : Addr} {fd_ends_of : FuncData} {sp_ends_of : DSp} (D_ends_of : Df K mg "ends_of" (top 5) ["shape", "text"] a_ends_of fd_ends_of) (G_ends_of : FnD P w K mg base l_ends_of a_ends_of fd_ends_of ["shape", "text"] sp_ends_of) (h_ends_of : l_ends_of ≤ k) (T : Txt K mg w) (D : Df K mg "longest_beginning" st_longest_beginning ["shape", "text"] f fd)
    (hw : ∀ rs r, rs.length = 2 → sp rs r → w_longest_beginning  sp_ends_of (Ends1 r) (startD N_longest_beginning rs)) : FnD P w K mg base (k + 1) f fd ["shape", "text"] sp := by
  refine D.ok sc_longest_beginning (ws := w_longest_beginning  sp_ends_of) (fun cdv A outer s H E hr => ?_) hw
  have nd := sc_longest_beginning.nd
  exact (DSs.cons (DS.set (i := 2) (DE.ix (DE.call G_ends_of (hr.mono h_ends_of) rfl D_ends_of.m D_ends_of.k D_ends_of.b (DA.cons (DE.var (pv 0)) (DA.cons (DE.var (pv 1)) DA.nil))) DE.int (fun _ _ => rfl)) nd rfl (by first | exact Or.inl rfl | exact Or.inr rfl)) (DSs.one (DS.ret (DE.ife (DT.cmp cd_gt cmpI_mono (DE.var (pv 2)) DE.int (nomark _)) (DE.op od_sub intD_mono (DE.bitlen (DE.var (pv 2))) DE.int) DE.non))))
abbrev st_stretches : Stmt := top 12
abbrev N_stretches : List Str := ["shape", "text", "told", "begin", "marks"]
theorem sc_stretches : FnScope ["shape", "text", "told", "begin", "marks"] ["shape", "text"] (defScope st_stretches) := ⟨rfl, rfl, rfl, by decide +kernel, rfl, by decide +kernel, by decide +kernel⟩
def w_stretches  (sp_ends_of : DSp) : WS := (wSeq (wSet 2 (wLst wNil)) (wSeq (wFor (iEnum (wCons (wCall sp_ends_of (wCons (wV 0) (wCons (wV 1) wNil))) wNil)) (gTp 2 (gCn (gNm 3) (gCn (gNm 4) gNl))) (wExtend 2 (wComp 1 [3, 4] (jRng2 (wCons (wV 3) (wCons (wOp addD (wCB lenD (wCons (wV 1) wNil)) (wC (.int 1))) wNil))) (gNm 0) (wOp (eqD 60 false) (wOp (intD NoC fun i j => Builtin.bitAnd i j) (wOp (intD (fun _ j => 0 ≤ j) fun i j => i / 2 ^ j.toNat) (wV 2) (wV 0)) (wC (.int 1))) (wC (.int 1))) (wFz (wTup (wCons (wFz (wV 1)) (wCons (wFz (wV 0)) wNil))))))) (wRetV 2)))
set_option maxHeartbeats 4000000 in
theorem ok_stretches {k : Nat} {f : Addr} {fd : FuncData} {sp : DSp} {l_ends_of : Nat} {a_ends_of : Addr} {fd_ends_of : FuncData} {sp_ends_of : DSp} (D_ends_of : Df K mg "ends_of" (top 5) ["shape", "text"] a_ends_of fd_ends_of) (G_ends_of : FnD P w K mg base l_ends_of a_ends_of fd_ends_of ["shape", "text"] sp_ends_of) (h_ends_of : l_ends_of ≤ k) (T : Txt K mg w) (D : Df K mg "stretches" st_stretches ["shape", "text"] f fd)
    (hw : ∀ rs r, rs.length = 2 → sp rs r → w_stretches  sp_ends_of (Ends1 r) (startD N_stretches rs)) : FnD P w K mg base (k + 1) f fd ["shape", "text"] sp := by
  refine D.ok sc_stretches (ws := w_stretches  sp_ends_of) (fun cdv A outer s H E hr => ?_) hw
  have nd := sc_stretches.nd
  exact (DSs.cons (DS.set (i := 2) (DE.lst DA.nil) nd rfl (by first | exact Or.inl rfl | exact Or.inr rfl)) (DSs.cons (DS.for PassesOwn.never rfl (DI.enumF rfl T.m_enumerate bt_enumerate (DA.cons (DE.call G_ends_of (hr.mono h_ends_of) rfl D_ends_of.m D_ends_of.k D_ends_of.b (DA.cons (DE.var (pv 0)) (DA.cons (DE.var (pv 1)) DA.nil))) DA.nil)) (DG.tp (n := 2) rfl (DGs.cons (DG.nm (i := 3) nd rfl (by first | exact Or.inl rfl | exact Or.inr rfl)) (DGs.cons (DG.nm (i := 4) nd rfl (by first | exact Or.inl rfl | exact Or.inr rfl)) DGs.nil))) (DSs.one (DS.extend (pv 2) (DE.comp rfl (blk_of (sc := defScope st_stretches) (N0 := ["shape", "text", "told", "begin", "marks"]) (N := ["end", "begin", "marks"]) (nt := 1) (cap := [3, 4]) rfl rfl (by decide +kernel)) (DIE.rng2 rfl T.m_range (DA.cons (DE.var (pv 3)) (DA.cons (DE.op od_add addD_mono (DE.callB call_lenR lenD_mono rfl T.m_len bt_len (DA.cons (DE.var (pv 1)) DA.nil)) DE.int) DA.nil))) (fun _ _ _ _ => (DG.nm (i := 0) (show List.Nodup (["end", "begin", "marks"] : List Str) by decide +kernel) rfl (by first | exact Or.inl rfl | exact Or.inr rfl))) (fun _ _ _ _ => (DIf.one (DT.cmp (cd_eq (n := 60) (hu60 hr)) eqD_mono (DE.op od_and intD_mono (DE.op od_shr intD_mono (DE.var (pv 2)) (DE.var (pv 0))) DE.int) DE.int (nomark _)))) (fun _ _ _ _ => (DE.fz (DE.tup (DA.cons (DE.fz (DE.var (pv 1))) (DA.cons (DE.fz (DE.var (pv 0))) DA.nil))))))))) (DSs.one (DS.retV (pv 2)))))
abbrev st_cut_up : Stmt := top 13
abbrev N_cut_up : List Str := ["shape", "text", "ends", "pieces", "begin", "end"]
theorem sc_cut_up : FnScope ["shape", "text", "ends", "pieces", "begin", "end"] ["shape", "text"] (defScope st_cut_up) := ⟨rfl, rfl, rfl, by decide +kernel, rfl, by decide +kernel, by decide +kernel⟩
def w_cut_up  (sp_ends_of : DSp) : WS := (wSeq (wSet 2 (wCall sp_ends_of (wCons (wV 0) (wCons (wV 1) wNil)))) (wSeq (wSet 3 (wLst wNil)) (wSeq (wSet 4 (wC (.int 0))) (wSeq (wWhile (wOp (cmpI fun i j => decide (i < j)) (wV 4) (wCB lenD (wCons (wV 1) wNil))) (wSeq (wSet 5 (wOp (intD NoC fun i j => i - j) (wBitlen (wOp ixD (wV 2) (wV 4))) (wC (.int 1)))) (wSeq (wIfS (wOp (cmpI fun i j => decide (i ≤ j)) (wV 5) (wV 4)) (wRet (wC .non)) wNext) (wSeq (wAppend 3 (wFz (wSl (wV 1) (oSome (wV 4)) (oSome (wV 5))))) (wSet 4 (wV 5)))))) (wRetV 3)))))
set_option maxHeartbeats 4000000 in
theorem ok_cut_up {k : Nat} {f : Addr} {fd : FuncData} {sp : DSp} {l_ends_of : Nat} {a_ends_of : Addr} {fd_ends_of : FuncData} {sp_ends_of : DSp} (D_ends_of : Df K mg "ends_of" (top 5) ["shape", "text"] a_ends_of fd_ends_of) (G_ends_of : FnD P w K mg base l_ends_of a_ends_of fd_ends_of ["shape", "text"] sp_ends_of) (h_ends_of : l_ends_of ≤ k) (T : Txt K mg w) (D : Df K mg "cut_up" st_cut_up ["shape", "text"] f fd)
    (hw : ∀ rs r, rs.length = 2 → sp rs r → w_cut_up  sp_ends_of (Ends1 r) (startD N_cut_up rs)) : FnD P w K mg base (k + 1) f fd ["shape", "text"] sp := by
  refine D.ok sc_cut_up (ws := w_cut_up  sp_ends_of) (fun cdv A outer s H E hr => ?_) hw
  have nd := sc_cut_up.nd
  exact (DSs.cons (DS.set (i := 2) (DE.call G_ends_of (hr.mono h_ends_of) rfl D_ends_of.m D_ends_of.k D_ends_of.b (DA.cons (DE.var (pv 0)) (DA.cons (DE.var (pv 1)) DA.nil))) nd rfl (by first | exact Or.inl rfl | exact Or.inr rfl)) (DSs.cons (DS.set (i := 3) (DE.lst DA.nil) nd rfl (by first | exact Or.inl rfl | exact Or.inr rfl)) (DSs.cons (DS.set (i := 4) DE.int nd rfl (by first | exact Or.inl rfl | exact Or.inr rfl)) (DSs.cons (DS.whl PassesOwn.never (DT.cmp cd_lt cmpI_mono (DE.var (pv 4)) (DE.callB call_lenR lenD_mono rfl T.m_len bt_len (DA.cons (DE.var (pv 1)) DA.nil)) (nomark _)) (DSs.cons (DS.set (i := 5) (DE.op od_sub intD_mono (DE.bitlen (DE.ix (DE.var (pv 2)) (DE.var (pv 4)) (fun _ _ => rfl))) DE.int) nd rfl (by first | exact Or.inl rfl | exact Or.inr rfl)) (DSs.cons (DS.ife (DT.cmp cd_le cmpI_mono (DE.var (pv 5)) (DE.var (pv 4)) (nomark _)) (DSs.one (DS.ret DE.non)) DSs.nil) (DSs.cons (DS.append (pv 3) (DE.fz (DE.slice (DE.var (pv 1)) (DO.some (DE.var (pv 4))) (DO.some (DE.var (pv 5)))))) (DSs.one (DS.set (i := 4) (DE.var (pv 5)) nd rfl (by first | exact Or.inl rfl | exact Or.inr rfl))))))) (DSs.one (DS.retV (pv 3)))))))
abbrev st_law_cell : Stmt := top 15
abbrev N_law_cell : List Str := ["_law_script", "_law_k"]
theorem sc_law_cell : FnScope ["_law_script", "_law_k"] ["_law_script", "_law_k"] (defScope st_law_cell) := ⟨rfl, rfl, rfl, by decide +kernel, rfl, by decide +kernel, by decide +kernel⟩
def w_law_cell   : WS := (wSeq (wIfS (wOp (eqD 60 false) (wV 0) (wLst wNil)) (wRet (wOp mulD (wC (.int 7)) (wV 1))) wNext) (wRet (wOp addD (wOp ixD (wV 0) (wOp (intD (fun _ j => 0 < j) fun i j => i % j) (wV 1) (wCB lenD (wCons (wV 0) wNil)))) (wOp mulD (wC (.int 6553)) (wOp (intD CDiv fun i j => i / j) (wV 1) (wCB lenD (wCons (wV 0) wNil)))))))
set_option maxHeartbeats 4000000 in
theorem ok_law_cell {k : Nat} {f : Addr} {fd : FuncData} {sp : DSp} (T : Txt K mg w) (D : Df K mg "_law_cell" st_law_cell ["_law_script", "_law_k"] f fd)
    (hw : ∀ rs r, rs.length = 2 → sp rs r → w_law_cell   (Ends1 r) (startD N_law_cell rs)) : FnD P w K mg base (k + 1) f fd ["_law_script", "_law_k"] sp := by
  refine D.ok sc_law_cell (ws := w_law_cell  ) (fun cdv A outer s H E hr => ?_) hw
  have nd := sc_law_cell.nd
  exact (DSs.cons (DS.ife (DT.cmp (cd_eq (n := 60) (hu60 hr)) eqD_mono (DE.var (pv 0)) (DE.lst DA.nil) (nomark _)) (DSs.one (DS.ret (DE.op od_mul mulD_mono DE.int (DE.var (pv 1))))) DSs.nil) (DSs.one (DS.ret (DE.op od_add addD_mono (DE.ix (DE.var (pv 0)) (DE.op od_mod intD_mono (DE.var (pv 1)) (DE.callB call_lenR lenD_mono rfl T.m_len bt_len (DA.cons (DE.var (pv 0)) DA.nil))) (fun _ _ => rfl)) (DE.op od_mul mulD_mono DE.int (DE.op od_fdiv intD_mono (DE.var (pv 1)) (DE.callB call_lenR lenD_mono rfl T.m_len bt_len (DA.cons (DE.var (pv 0)) DA.nil))))))))
abbrev st_law_drawn : Stmt := top 16
abbrev N_law_drawn : List Str := ["_law_script", "_law_k", "_law_many", "_law_cell_here"]
theorem sc_law_drawn : FnScope ["_law_script", "_law_k", "_law_many", "_law_cell_here"] ["_law_script", "_law_k", "_law_many"] (defScope st_law_drawn) := ⟨rfl, rfl, rfl, by decide +kernel, rfl, by decide +kernel, by decide +kernel⟩
def w_law_drawn  (sp_law_cell : DSp) : WS := (wSeq (wSet 3 (wOp (intD (fun _ j => 0 < j) fun i j => i % j) (wOp addD (wOp mulD (wOp (intD (fun _ j => 0 < j) fun i j => i % j) (wCall sp_law_cell (wCons (wV 0) (wCons (wV 1) wNil))) (wC (.int 2147483563))) (wC (.int 69069))) (wOp mulD (wC (.int 104723)) (wOp addD (wV 1) (wC (.int 1))))) (wC (.int 2147483563)))) (wSeq (wSet 3 (wOp (intD (fun _ j => 0 < j) fun i j => i % j) (wOp addD (wOp mulD (wV 3) (wV 3)) (wOp (intD CDiv fun i j => i / j) (wV 3) (wC (.int 3)))) (wC (.int 2147483399)))) (wRet (wOp (intD (fun _ j => 0 < j) fun i j => i % j) (wOp (intD CDiv fun i j => i / j) (wOp (intD (fun _ j => 0 < j) fun i j => i % j) (wOp addD (wOp mulD (wV 3) (wV 3)) (wOp (intD CDiv fun i j => i / j) (wV 3) (wC (.int 7)))) (wC (.int 2147483647))) (wC (.int 11))) (wV 2)))))
set_option maxHeartbeats 4000000 in
theorem ok_law_drawn {k : Nat} {f : Addr} {fd : FuncData} {sp : DSp} {l_law_cell : Nat} {a_law_cell : Addr} {fd_law_cell : FuncData} {sp_law_cell : DSp} (D_law_cell : Df K mg "_law_cell" (top 15) ["_law_script", "_law_k"] a_law_cell fd_law_cell) (G_law_cell : FnD P w K mg base l_law_cell a_law_cell fd_law_cell ["_law_script", "_law_k"] sp_law_cell) (h_law_cell : l_law_cell ≤ k) (T : Txt K mg w) (D : Df K mg "_law_drawn" st_law_drawn ["_law_script", "_law_k", "_law_many"] f fd)
    (hw : ∀ rs r, rs.length = 3 → sp rs r → w_law_drawn  sp_law_cell (Ends1 r) (startD N_law_drawn rs)) : FnD P w K mg base (k + 1) f fd ["_law_script", "_law_k", "_law_many"] sp := by
  refine D.ok sc_law_drawn (ws := w_law_drawn  sp_law_cell) (fun cdv A outer s H E hr => ?_) hw
  have nd := sc_law_drawn.nd
  exact (DSs.cons (DS.set (i := 3) (DE.op od_mod intD_mono (DE.op od_add addD_mono (DE.op od_mul mulD_mono (DE.op od_mod intD_mono (DE.call G_law_cell (hr.mono h_law_cell) rfl D_law_cell.m D_law_cell.k D_law_cell.b (DA.cons (DE.var (pv 0)) (DA.cons (DE.var (pv 1)) DA.nil))) DE.int) DE.int) (DE.op od_mul mulD_mono DE.int (DE.op od_add addD_mono (DE.var (pv 1)) DE.int))) DE.int) nd rfl (by first | exact Or.inl rfl | exact Or.inr rfl)) (DSs.cons (DS.set (i := 3) (DE.op od_mod intD_mono (DE.op od_add addD_mono (DE.op od_mul mulD_mono (DE.var (pv 3)) (DE.var (pv 3))) (DE.op od_fdiv intD_mono (DE.var (pv 3)) DE.int)) DE.int) nd rfl (by first | exact Or.inl rfl | exact Or.inr rfl)) (DSs.one (DS.ret (DE.op od_mod intD_mono (DE.op od_fdiv intD_mono (DE.op od_mod intD_mono (DE.op od_add addD_mono (DE.op od_mul mulD_mono (DE.var (pv 3)) (DE.var (pv 3))) (DE.op od_fdiv intD_mono (DE.var (pv 3)) DE.int)) DE.int) DE.int) (DE.var (pv 2)))))))
abbrev st_law_text : Stmt := top 17
abbrev N_law_text : List Str := ["_law_script", "_law_at", "_law_most"]
theorem sc_law_text : FnScope ["_law_script", "_law_at", "_law_most"] ["_law_script", "_law_at", "_law_most"] (defScope st_law_text) := ⟨rfl, rfl, rfl, by decide +kernel, rfl, by decide +kernel, by decide +kernel⟩
def w_law_text  (sp_law_drawn : DSp) : WS := (wRet (wJoin (wC (.str "")) (wComp 1 [0, 1] (jRng1 (wCons (wCall sp_law_drawn (wCons (wV 0) (wCons (wV 1) (wCons (wOp addD (wV 2) (wC (.int 1))) wNil)))) wNil)) (gNm 0) tYes (wFz (wOp ixD (wC (.str "01ab")) (wCall sp_law_drawn (wCons (wV 1) (wCons (wOp addD (wOp addD (wV 2) (wC (.int 1))) (wV 0)) (wCons (wC (.int 4)) wNil)))))))))
set_option maxHeartbeats 4000000 in
theorem ok_law_text {k : Nat} {f : Addr} {fd : FuncData} {sp : DSp} {l_law_drawn : Nat} {a_law_drawn : Addr} {fd_law_drawn : FuncData} {sp_law_drawn : DSp} (D_law_drawn : Df K mg "_law_drawn" (top 16) ["_law_script", "_law_k", "_law_many"] a_law_drawn fd_law_drawn) (G_law_drawn : FnD P w K mg base l_law_drawn a_law_drawn fd_law_drawn ["_law_script", "_law_k", "_law_many"] sp_law_drawn) (h_law_drawn : l_law_drawn ≤ k) (T : Txt K mg w) (D : Df K mg "_law_text" st_law_text ["_law_script", "_law_at", "_law_most"] f fd)
    (hw : ∀ rs r, rs.length = 3 → sp rs r → w_law_text  sp_law_drawn (Ends1 r) (startD N_law_text rs)) : FnD P w K mg base (k + 1) f fd ["_law_script", "_law_at", "_law_most"] sp := by
  refine D.ok sc_law_text (ws := w_law_text  sp_law_drawn) (fun cdv A outer s H E hr => ?_) hw
  have nd := sc_law_text.nd
  exact (DSs.one (DS.ret (DE.join DE.str (DE.comp rfl (blk_of (sc := defScope st_law_text) (N0 := ["_law_script", "_law_at", "_law_most"]) (N := ["_law_k", "_law_script", "_law_at"]) (nt := 1) (cap := [0, 1]) rfl rfl (by decide +kernel)) (DIE.rng1 rfl T.m_range (DA.cons (DE.call G_law_drawn (hr.mono h_law_drawn) rfl D_law_drawn.m D_law_drawn.k D_law_drawn.b (DA.cons (DE.var (pv 0)) (DA.cons (DE.var (pv 1)) (DA.cons (DE.op od_add addD_mono (DE.var (pv 2)) DE.int) DA.nil)))) DA.nil)) (fun _ _ _ _ => (DG.nm (i := 0) (show List.Nodup (["_law_k", "_law_script", "_law_at"] : List Str) by decide +kernel) rfl (by first | exact Or.inl rfl | exact Or.inr rfl))) (fun _ _ _ _ => DIf.nil) (fun _ _ _ _ => (DE.fz (DE.ix DE.str (DE.call G_law_drawn (hr.mono h_law_drawn) rfl D_law_drawn.m D_law_drawn.k D_law_drawn.b (DA.cons (DE.var (pv 1)) (DA.cons (DE.op od_add addD_mono (DE.op od_add addD_mono (DE.var (pv 2)) DE.int) (DE.var (pv 0))) (DA.cons DE.int DA.nil)))) (fun _ _ => rfl))))))))
abbrev st_law_texts : Stmt := top 18
abbrev N_law_texts : List Str := ["_law_long", "_law_found", "_law_row", "_law_turn", "_law_longer", "_law_text_here"]
theorem sc_law_texts : FnScope ["_law_long", "_law_found", "_law_row", "_law_turn", "_law_longer", "_law_text_here"] ["_law_long"] (defScope st_law_texts) := ⟨rfl, rfl, rfl, by decide +kernel, rfl, by decide +kernel, by decide +kernel⟩
def w_law_texts   : WS := (wSeq (wSet 1 (wLst (wCons (wFz (wC (.str ""))) wNil))) (wSeq (wSet 2 (wLst (wCons (wFz (wC (.str ""))) wNil))) (wSeq (wFor (iRng1 (wCons (wV 0) wNil)) (gNm 3) (wSeq (wSet 4 (wLst wNil)) (wSeq (wFor (iLst (wFz (wV 2))) (gNm 5) (wSet 4 (wOp addD (wV 4) (wComp 1 [5] (jStr (wC (.str "01ab"))) (gNm 0) tYes (wFz (wOp addD (wV 1) (wV 0))))))) (wSeq (wSet 2 (wV 4)) (wSet 1 (wOp addD (wV 1) (wV 2))))))) (wRetV 1))))
set_option maxHeartbeats 4000000 in
theorem ok_law_texts {k : Nat} {f : Addr} {fd : FuncData} {sp : DSp} (T : Txt K mg w) (D : Df K mg "_law_texts" st_law_texts ["_law_long"] f fd)
    (hw : ∀ rs r, rs.length = 1 → sp rs r → w_law_texts   (Ends1 r) (startD N_law_texts rs)) : FnD P w K mg base (k + 1) f fd ["_law_long"] sp := by
  refine D.ok sc_law_texts (ws := w_law_texts  ) (fun cdv A outer s H E hr => ?_) hw
  have nd := sc_law_texts.nd
  exact (DSs.cons (DS.set (i := 1) (DE.lst (DA.cons (DE.fz DE.str) DA.nil)) nd rfl (by first | exact Or.inl rfl | exact Or.inr rfl)) (DSs.cons (DS.set (i := 2) (DE.lst (DA.cons (DE.fz DE.str) DA.nil)) nd rfl (by first | exact Or.inl rfl | exact Or.inr rfl)) (DSs.cons (DS.for PassesOwn.never rfl (DI.rng1 rfl T.m_range (DA.cons (DE.var (pv 0)) DA.nil)) (DG.nm (i := 3) nd rfl (by first | exact Or.inl rfl | exact Or.inr rfl)) (DSs.cons (DS.set (i := 4) (DE.lst DA.nil) nd rfl (by first | exact Or.inl rfl | exact Or.inr rfl)) (DSs.cons (DS.for PassesOwn.never rfl (DI.lst (DE.fz (DE.var (pv 2)))) (DG.nm (i := 5) nd rfl (by first | exact Or.inl rfl | exact Or.inr rfl)) (DSs.one (DS.set (i := 4) (DE.op od_add addD_mono (DE.var (pv 4)) (DE.comp rfl (blk_of (sc := defScope st_law_texts) (N0 := ["_law_long", "_law_found", "_law_row", "_law_turn", "_law_longer", "_law_text_here"]) (N := ["_law_sign", "_law_text_here"]) (nt := 1) (cap := [5]) rfl rfl (by decide +kernel)) (DIE.str DE.str) (fun _ _ _ _ => (DG.nm (i := 0) (show List.Nodup (["_law_sign", "_law_text_here"] : List Str) by decide +kernel) rfl (by first | exact Or.inl rfl | exact Or.inr rfl))) (fun _ _ _ _ => DIf.nil) (fun _ _ _ _ => (DE.fz (DE.op od_add addD_mono (DE.var (pv 1)) (DE.var (pv 0))))))) nd rfl (by first | exact Or.inl rfl | exact Or.inr rfl)))) (DSs.cons (DS.set (i := 2) (DE.var (pv 4)) nd rfl (by first | exact Or.inl rfl | exact Or.inr rfl)) (DSs.one (DS.set (i := 1) (DE.op od_add addD_mono (DE.var (pv 1)) (DE.var (pv 2))) nd rfl (by first | exact Or.inl rfl | exact Or.inr rfl))))))) (DSs.one (DS.retV (pv 1))))))
abbrev st_law_shape : Stmt := top 19
abbrev N_law_shape : List Str := ["_law_script", "_law_at", "_law_deep", "_law_way", "_law_some", "_law_leaf", "_law_one"]
theorem sc_law_shape : FnScope ["_law_script", "_law_at", "_law_deep", "_law_way", "_law_some", "_law_leaf", "_law_one"] ["_law_script", "_law_at", "_law_deep"] (defScope st_law_shape) := ⟨rfl, rfl, rfl, by decide +kernel, rfl, by decide +kernel, by decide +kernel⟩
def w_law_shape  (sp_law_drawn : DSp) (sp_law_shape : DSp) : WS := (wSeq (wSet 3 (wCall sp_law_drawn (wCons (wV 0) (wCons (wV 1) (wCons (wC (.int 9)) wNil))))) (wSeq (wIfS (wOr (wOp (eqD 60 false) (wV 2) (wC (.int 0))) (wOp (cmpI fun i j => decide (i < j)) (wV 3) (wC (.int 2)))) (wSeq (wSet 4 (wJoin (wC (.str "")) (wComp 2 [0, 1] (jEnum (wCons (wC (.str "01ab")) wNil)) (gTp 2 (gCn (gNm 0) (gCn (gNm 1) gNl))) (wOp (eqD 60 false) (wCall sp_law_drawn (wCons (wV 2) (wCons (wOp addD (wOp addD (wV 3) (wC (.int 1))) (wV 0)) (wCons (wC (.int 2)) wNil)))) (wC (.int 0))) (wFz (wV 1))))) (wSeq (wSet 5 (wTup (wCons (wFz (wC (.str "signs"))) (wCons (wFz (wV 4)) wNil)))) (wSeq (wIfS (wOp (eqD 60 false) (wV 4) (wC (.str ""))) (wSet 5 (wOp ixD (wLst (wCons (wFz (wTup (wCons (wFz (wC (.str "none"))) wNil))) (wCons (wFz (wTup (wCons (wFz (wC (.str "empty"))) wNil))) (wCons (wFz (wTup (wCons (wFz (wC (.str "signs"))) (wCons (wFz (wC (.str "a"))) wNil)))) (wCons (wFz (wTup (wCons (wFz (wC (.str "empty"))) wNil))) wNil))))) (wCall sp_law_drawn (wCons (wV 0) (wCons (wOp addD (wV 1) (wC (.int 5))) (wCons (wC (.int 4)) wNil)))))) wNext) (wRetV 5)))) wNext) (wSeq (wSet 6 (wCall sp_law_shape (wCons (wV 0) (wCons (wOp addD (wOp mulD (wV 1) (wC (.int 2))) (wC (.int 11))) (wCons (wOp (intD NoC fun i j => i - j) (wV 2) (wC (.int 1))) wNil))))) (wSeq (wIfS (wOp (cmpI fun i j => decide (i < j)) (wV 3) (wC (.int 4))) (wRet (wTup (wCons (wFz (wOp ixD (wLst (wCons (wFz (wC (.str "not"))) (wCons (wFz (wC (.str "many"))) wNil))) (wOp (intD NoC fun i j => i - j) (wV 3) (wC (.int 2))))) (wCons (wFz (wV 6)) wNil)))) wNext) (wRet (wTup (wCons (wFz (wOp ixD (wLst (wCons (wFz (wC (.str "then"))) (wCons (wFz (wC (.str "or"))) (wCons (wFz (wC (.str "and"))) (wCons (wFz (wC (.str "then"))) (wCons (wFz (wC (.str "or"))) wNil)))))) (wOp (intD NoC fun i j => i - j) (wV 3) (wC (.int 4))))) (wCons (wFz (wV 6)) (wCons (wFz (wCall sp_law_shape (wCons (wV 0) (wCons (wOp addD (wOp mulD (wV 1) (wC (.int 2))) (wC (.int 31))) (wCons (wOp (intD NoC fun i j => i - j) (wV 2) (wC (.int 1))) wNil))))) wNil)))))))))
set_option maxHeartbeats 4000000 in
theorem ok_law_shape {k : Nat} {f : Addr} {fd : FuncData} {sp : DSp} {l_law_drawn : Nat} {a_law_drawn : Addr} {fd_law_drawn : FuncData} {sp_law_drawn : DSp} {l_law_shape : Nat} {a_law_shape : Addr} {fd_law_shape : FuncData} {sp_law_shape : DSp} (D_law_drawn : Df K mg "_law_drawn" (top 16) ["_law_script", "_law_k", "_law_many"] a_law_drawn fd_law_drawn) (G_law_drawn : FnD P w K mg base l_law_drawn a_law_drawn fd_law_drawn ["_law_script", "_law_k", "_law_many"] sp_law_drawn) (h_law_drawn : l_law_drawn ≤ k) (D_law_shape : Df K mg "_law_shape" (top 19) ["_law_script", "_law_at", "_law_deep"] a_law_shape fd_law_shape) (G_law_shape : FnD P w K mg base l_law_shape a_law_shape fd_law_shape ["_law_script", "_law_at", "_law_deep"] sp_law_shape) (h_law_shape : l_law_shape ≤ k) (T : Txt K mg w) (D : Df K mg "_law_shape" st_law_shape ["_law_script", "_law_at", "_law_deep"] f fd)
    (hw : ∀ rs r, rs.length = 3 → sp rs r → w_law_shape  sp_law_drawn sp_law_shape (Ends1 r) (startD N_law_shape rs)) : FnD P w K mg base (k + 1) f fd ["_law_script", "_law_at", "_law_deep"] sp := by
  refine D.ok sc_law_shape (ws := w_law_shape  sp_law_drawn sp_law_shape) (fun cdv A outer s H E hr => ?_) hw
  have nd := sc_law_shape.nd
  exact (DSs.cons (DS.set (i := 3) (DE.call G_law_drawn (hr.mono h_law_drawn) rfl D_law_drawn.m D_law_drawn.k D_law_drawn.b (DA.cons (DE.var (pv 0)) (DA.cons (DE.var (pv 1)) (DA.cons DE.int DA.nil)))) nd rfl (by first | exact Or.inl rfl | exact Or.inr rfl)) (DSs.cons (DS.ife (DW.t (DW.or (DT.cmp (cd_eq (n := 60) (hu60 hr)) eqD_mono (DE.var (pv 2)) DE.int (nomark _)) (DW.or1 (DT.cmp cd_lt cmpI_mono (DE.var (pv 3)) DE.int (nomark _))))) (DSs.cons (DS.set (i := 4) (DE.join DE.str (DE.comp rfl (blk_of (sc := defScope st_law_shape) (N0 := ["_law_script", "_law_at", "_law_deep", "_law_way", "_law_some", "_law_leaf", "_law_one"]) (N := ["_law_k", "_law_sign", "_law_script", "_law_at"]) (nt := 2) (cap := [0, 1]) rfl rfl (by decide +kernel)) (DIE.enumS rfl T.m_enumerate bt_enumerate (DA.cons DE.str DA.nil)) (fun _ _ _ _ => (DG.tp (n := 2) rfl (DGs.cons (DG.nm (i := 0) (show List.Nodup (["_law_k", "_law_sign", "_law_script", "_law_at"] : List Str) by decide +kernel) rfl (by first | exact Or.inl rfl | exact Or.inr rfl)) (DGs.cons (DG.nm (i := 1) (show List.Nodup (["_law_k", "_law_sign", "_law_script", "_law_at"] : List Str) by decide +kernel) rfl (by first | exact Or.inl rfl | exact Or.inr rfl)) DGs.nil)))) (fun _ _ _ _ => (DIf.one (DT.cmp (cd_eq (n := 60) (hu60 hr)) eqD_mono (DE.call G_law_drawn (hr.mono h_law_drawn) rfl D_law_drawn.m D_law_drawn.k D_law_drawn.b (DA.cons (DE.var (pv 2)) (DA.cons (DE.op od_add addD_mono (DE.op od_add addD_mono (DE.var (pv 3)) DE.int) (DE.var (pv 0))) (DA.cons DE.int DA.nil)))) DE.int (nomark _)))) (fun _ _ _ _ => (DE.fz (DE.var (pv 1)))))) nd rfl (by first | exact Or.inl rfl | exact Or.inr rfl)) (DSs.cons (DS.set (i := 5) (DE.tup (DA.cons (DE.fz DE.str) (DA.cons (DE.fz (DE.var (pv 4))) DA.nil))) nd rfl (by first | exact Or.inl rfl | exact Or.inr rfl)) (DSs.cons (DS.ife (DT.cmp (cd_eq (n := 60) (hu60 hr)) eqD_mono (DE.var (pv 4)) DE.str (nomark _)) (DSs.one (DS.set (i := 5) (DE.ix (DE.lst (DA.cons (DE.fz (DE.tup (DA.cons (DE.fz DE.str) DA.nil))) (DA.cons (DE.fz (DE.tup (DA.cons (DE.fz DE.str) DA.nil))) (DA.cons (DE.fz (DE.tup (DA.cons (DE.fz DE.str) (DA.cons (DE.fz DE.str) DA.nil)))) (DA.cons (DE.fz (DE.tup (DA.cons (DE.fz DE.str) DA.nil))) DA.nil))))) (DE.call G_law_drawn (hr.mono h_law_drawn) rfl D_law_drawn.m D_law_drawn.k D_law_drawn.b (DA.cons (DE.var (pv 0)) (DA.cons (DE.op od_add addD_mono (DE.var (pv 1)) DE.int) (DA.cons DE.int DA.nil)))) (fun _ _ => rfl)) nd rfl (by first | exact Or.inl rfl | exact Or.inr rfl))) DSs.nil) (DSs.one (DS.retV (pv 5)))))) DSs.nil) (DSs.cons (DS.set (i := 6) (DE.call G_law_shape (hr.mono h_law_shape) rfl D_law_shape.m D_law_shape.k D_law_shape.b (DA.cons (DE.var (pv 0)) (DA.cons (DE.op od_add addD_mono (DE.op od_mul mulD_mono (DE.var (pv 1)) DE.int) DE.int) (DA.cons (DE.op od_sub intD_mono (DE.var (pv 2)) DE.int) DA.nil)))) nd rfl (by first | exact Or.inl rfl | exact Or.inr rfl)) (DSs.cons (DS.ife (DT.cmp cd_lt cmpI_mono (DE.var (pv 3)) DE.int (nomark _)) (DSs.one (DS.ret (DE.tup (DA.cons (DE.fz (DE.ix (DE.lst (DA.cons (DE.fz DE.str) (DA.cons (DE.fz DE.str) DA.nil))) (DE.op od_sub intD_mono (DE.var (pv 3)) DE.int) (fun _ _ => rfl))) (DA.cons (DE.fz (DE.var (pv 6))) DA.nil))))) DSs.nil) (DSs.one (DS.ret (DE.tup (DA.cons (DE.fz (DE.ix (DE.lst (DA.cons (DE.fz DE.str) (DA.cons (DE.fz DE.str) (DA.cons (DE.fz DE.str) (DA.cons (DE.fz DE.str) (DA.cons (DE.fz DE.str) DA.nil)))))) (DE.op od_sub intD_mono (DE.var (pv 3)) DE.int) (fun _ _ => rfl))) (DA.cons (DE.fz (DE.var (pv 6))) (DA.cons (DE.fz (DE.call G_law_shape (hr.mono h_law_shape) rfl D_law_shape.m D_law_shape.k D_law_shape.b (DA.cons (DE.var (pv 0)) (DA.cons (DE.op od_add addD_mono (DE.op od_mul mulD_mono (DE.var (pv 1)) DE.int) DE.int) (DA.cons (DE.op od_sub intD_mono (DE.var (pv 2)) DE.int) DA.nil))))) DA.nil))))))))))
abbrev st_law_fits : Stmt := top 20
abbrev N_law_fits : List Str := ["_law_shape_here", "_law_text_here", "_law_word", "_law_at", "_law_behind"]
theorem sc_law_fits : FnScope ["_law_shape_here", "_law_text_here", "_law_word", "_law_at", "_law_behind"] ["_law_shape_here", "_law_text_here"] (defScope st_law_fits) := ⟨rfl, rfl, rfl, by decide +kernel, rfl, by decide +kernel, by decide +kernel⟩
def w_law_fits  (sp_law_fits : DSp) : WS := (wSeq (wSet 2 (wOp ixD (wV 0) (wC (.int 0)))) (wSeq (wIfS (wOp (eqD 60 false) (wV 2) (wC (.str "none"))) (wRet (wC (.bl false))) wNext) (wSeq (wIfS (wOp (eqD 60 false) (wV 2) (wC (.str "empty"))) (wRet (wB (wOp (eqD 60 false) (wV 1) (wC (.str ""))))) wNext) (wSeq (wIfS (wOp (eqD 60 false) (wV 2) (wC (.str "signs"))) (wRet (wAndV (wB (wOp (eqD 60 false) (wCB lenD (wCons (wV 1) wNil)) (wC (.int 1)))) (wB (wOp (inD false) (wV 1) (wOp ixD (wV 0) (wC (.int 1))))))) wNext) (wSeq (wIfS (wOp (eqD 60 false) (wV 2) (wC (.str "not"))) (wRet (wNotV (wCall sp_law_fits (wCons (wOp ixD (wV 0) (wC (.int 1))) (wCons (wV 1) wNil))))) wNext) (wSeq (wIfS (wOp (eqD 60 false) (wV 2) (wC (.str "or"))) (wRet (wOrV (wCall sp_law_fits (wCons (wOp ixD (wV 0) (wC (.int 1))) (wCons (wV 1) wNil))) (wCall sp_law_fits (wCons (wOp ixD (wV 0) (wC (.int 2))) (wCons (wV 1) wNil))))) wNext) (wSeq (wIfS (wOp (eqD 60 false) (wV 2) (wC (.str "and"))) (wRet (wAndV (wCall sp_law_fits (wCons (wOp ixD (wV 0) (wC (.int 1))) (wCons (wV 1) wNil))) (wCall sp_law_fits (wCons (wOp ixD (wV 0) (wC (.int 2))) (wCons (wV 1) wNil))))) wNext) (wSeq (wIfS (wAnd (wOp (eqD 60 false) (wV 2) (wC (.str "many"))) (wOp (eqD 60 false) (wV 1) (wC (.str "")))) (wRet (wC (.bl true))) wNext) (wSeq (wFor (iRng2 (wCons (wCB intOfD (wCons (wB (wOp (eqD 60 false) (wV 2) (wC (.str "many")))) wNil)) (wCons (wOp addD (wCB lenD (wCons (wV 1) wNil)) (wC (.int 1))) wNil))) (gNm 3) (wSeq (wSet 4 (wOp ixD (wLst (wCons (wFz (wV 0)) (wCons (wFz (wOp ixD (wV 0) (wNeg (wC (.int 1))))) wNil))) (wCB intOfD (wCons (wB (wOp (eqD 60 false) (wV 2) (wC (.str "then")))) wNil)))) (wIfS (wAnd (wTru (wCall sp_law_fits (wCons (wOp ixD (wV 0) (wC (.int 1))) (wCons (wSl (wV 1) oNone (oSome (wV 3))) wNil)))) (wTru (wCall sp_law_fits (wCons (wV 4) (wCons (wSl (wV 1) (oSome (wV 3)) oNone) wNil))))) (wRet (wC (.bl true))) wNext))) (wRet (wC (.bl false))))))))))))
set_option maxHeartbeats 4000000 in
theorem ok_law_fits {k : Nat} {f : Addr} {fd : FuncData} {sp : DSp} {l_law_fits : Nat} {a_law_fits : Addr} {fd_law_fits : FuncData} {sp_law_fits : DSp} (D_law_fits : Df K mg "_law_fits" (top 20) ["_law_shape_here", "_law_text_here"] a_law_fits fd_law_fits) (G_law_fits : FnD P w K mg base l_law_fits a_law_fits fd_law_fits ["_law_shape_here", "_law_text_here"] sp_law_fits) (h_law_fits : l_law_fits ≤ k) (T : Txt K mg w) (D : Df K mg "_law_fits" st_law_fits ["_law_shape_here", "_law_text_here"] f fd)
    (hw : ∀ rs r, rs.length = 2 → sp rs r → w_law_fits  sp_law_fits (Ends1 r) (startD N_law_fits rs)) : FnD P w K mg base (k + 1) f fd ["_law_shape_here", "_law_text_here"] sp := by
  refine D.ok sc_law_fits (ws := w_law_fits  sp_law_fits) (fun cdv A outer s H E hr => ?_) hw
  have nd := sc_law_fits.nd
  exact (DSs.cons (DS.set (i := 2) (DE.ix (DE.var (pv 0)) DE.int (fun _ _ => rfl)) nd rfl (by first | exact Or.inl rfl | exact Or.inr rfl)) (DSs.cons (DS.ife (DT.cmp (cd_eq (n := 60) (hu60 hr)) eqD_mono (DE.var (pv 2)) DE.str (nomark _)) (DSs.one (DS.ret DE.bl)) DSs.nil) (DSs.cons (DS.ife (DT.cmp (cd_eq (n := 60) (hu60 hr)) eqD_mono (DE.var (pv 2)) DE.str (nomark _)) (DSs.one (DS.ret (DE.cmp (cd_eq (n := 60) (hu60 hr)) eqD_mono (DE.var (pv 1)) DE.str (nomark _)))) DSs.nil) (DSs.cons (DS.ife (DT.cmp (cd_eq (n := 60) (hu60 hr)) eqD_mono (DE.var (pv 2)) DE.str (nomark _)) (DSs.one (DS.ret (DE.and (DE.cmp (cd_eq (n := 60) (hu60 hr)) eqD_mono (DE.callB call_lenR lenD_mono rfl T.m_len bt_len (DA.cons (DE.var (pv 1)) DA.nil)) DE.int (nomark _)) (DE.and1 (DE.cmp cd_in inD_mono (DE.var (pv 1)) (DE.ix (DE.var (pv 0)) DE.int (fun _ _ => rfl)) (by with_unfolding_all rfl)))))) DSs.nil) (DSs.cons (DS.ife (DT.cmp (cd_eq (n := 60) (hu60 hr)) eqD_mono (DE.var (pv 2)) DE.str (nomark _)) (DSs.one (DS.ret (DE.nt (DE.call G_law_fits (hr.mono h_law_fits) rfl D_law_fits.m D_law_fits.k D_law_fits.b (DA.cons (DE.ix (DE.var (pv 0)) DE.int (fun _ _ => rfl)) (DA.cons (DE.var (pv 1)) DA.nil)))))) DSs.nil) (DSs.cons (DS.ife (DT.cmp (cd_eq (n := 60) (hu60 hr)) eqD_mono (DE.var (pv 2)) DE.str (nomark _)) (DSs.one (DS.ret (DE.or (DE.call G_law_fits (hr.mono h_law_fits) rfl D_law_fits.m D_law_fits.k D_law_fits.b (DA.cons (DE.ix (DE.var (pv 0)) DE.int (fun _ _ => rfl)) (DA.cons (DE.var (pv 1)) DA.nil))) (DE.or1 (DE.call G_law_fits (hr.mono h_law_fits) rfl D_law_fits.m D_law_fits.k D_law_fits.b (DA.cons (DE.ix (DE.var (pv 0)) DE.int (fun _ _ => rfl)) (DA.cons (DE.var (pv 1)) DA.nil))))))) DSs.nil) (DSs.cons (DS.ife (DT.cmp (cd_eq (n := 60) (hu60 hr)) eqD_mono (DE.var (pv 2)) DE.str (nomark _)) (DSs.one (DS.ret (DE.and (DE.call G_law_fits (hr.mono h_law_fits) rfl D_law_fits.m D_law_fits.k D_law_fits.b (DA.cons (DE.ix (DE.var (pv 0)) DE.int (fun _ _ => rfl)) (DA.cons (DE.var (pv 1)) DA.nil))) (DE.and1 (DE.call G_law_fits (hr.mono h_law_fits) rfl D_law_fits.m D_law_fits.k D_law_fits.b (DA.cons (DE.ix (DE.var (pv 0)) DE.int (fun _ _ => rfl)) (DA.cons (DE.var (pv 1)) DA.nil))))))) DSs.nil) (DSs.cons (DS.ife (DW.t (DW.and (DT.cmp (cd_eq (n := 60) (hu60 hr)) eqD_mono (DE.var (pv 2)) DE.str (nomark _)) (DW.and1 (DT.cmp (cd_eq (n := 60) (hu60 hr)) eqD_mono (DE.var (pv 1)) DE.str (nomark _))))) (DSs.one (DS.ret DE.bl)) DSs.nil) (DSs.cons (DS.for PassesOwn.never rfl (DI.rng2 rfl T.m_range (DA.cons (DE.callTy call_intR intOfD_mono rfl T.m_int bt_int (DA.cons (DE.cmp (cd_eq (n := 60) (hu60 hr)) eqD_mono (DE.var (pv 2)) DE.str (nomark _)) DA.nil)) (DA.cons (DE.op od_add addD_mono (DE.callB call_lenR lenD_mono rfl T.m_len bt_len (DA.cons (DE.var (pv 1)) DA.nil)) DE.int) DA.nil))) (DG.nm (i := 3) nd rfl (by first | exact Or.inl rfl | exact Or.inr rfl)) (DSs.cons (DS.set (i := 4) (DE.ix (DE.lst (DA.cons (DE.fz (DE.var (pv 0))) (DA.cons (DE.fz (DE.ix (DE.var (pv 0)) (DE.neg DE.int) (fun _ _ => rfl))) DA.nil))) (DE.callTy call_intR intOfD_mono rfl T.m_int bt_int (DA.cons (DE.cmp (cd_eq (n := 60) (hu60 hr)) eqD_mono (DE.var (pv 2)) DE.str (nomark _)) DA.nil)) (fun _ _ => rfl)) nd rfl (by first | exact Or.inl rfl | exact Or.inr rfl)) (DSs.one (DS.ife (DW.t (DW.and (DT.tru (DE.call G_law_fits (hr.mono h_law_fits) rfl D_law_fits.m D_law_fits.k D_law_fits.b (DA.cons (DE.ix (DE.var (pv 0)) DE.int (fun _ _ => rfl)) (DA.cons (DE.slice (DE.var (pv 1)) DO.none (DO.some (DE.var (pv 3)))) DA.nil))) (fun _ => rfl)) (DW.and1 (DT.tru (DE.call G_law_fits (hr.mono h_law_fits) rfl D_law_fits.m D_law_fits.k D_law_fits.b (DA.cons (DE.var (pv 4)) (DA.cons (DE.slice (DE.var (pv 1)) (DO.some (DE.var (pv 3))) DO.none) DA.nil))) (fun _ => rfl))))) (DSs.one (DS.ret DE.bl)) DSs.nil)))) (DSs.one (DS.ret DE.bl)))))))))))
abbrev st_law_cut : Stmt := top 21
abbrev N_law_cut : List Str := ["_law_shape_here", "_law_text_here", "_law_sizes", "_law_behind"]
theorem sc_law_cut : FnScope ["_law_shape_here", "_law_text_here", "_law_sizes", "_law_behind"] ["_law_shape_here", "_law_text_here"] (defScope st_law_cut) := ⟨rfl, rfl, rfl, by decide +kernel, rfl, by decide +kernel, by decide +kernel⟩
def w_law_cut  (sp_law_fits : DSp) (sp_law_cut : DSp) : WS := (wSeq (wIfS (wOp (eqD 60 false) (wV 1) (wC (.str ""))) (wRet (wLst wNil)) wNext) (wSeq (wSet 2 (wComp 1 [0, 1] (jRng2 (wCons (wC (.int 1)) (wCons (wOp addD (wCB lenD (wCons (wV 1) wNil)) (wC (.int 1))) wNil))) (gNm 0) (wTru (wCall sp_law_fits (wCons (wV 1) (wCons (wSl (wV 2) oNone (oSome (wV 0))) wNil)))) (wFz (wV 0)))) (wSeq (wIfS (wOp (eqD 60 false) (wV 2) (wLst wNil)) (wRet (wC .non)) wNext) (wSeq (wSet 3 (wCall sp_law_cut (wCons (wV 0) (wCons (wSl (wV 1) (oSome (wOp ixD (wV 2) (wNeg (wC (.int 1))))) oNone) wNil)))) (wSeq (wIfS (wOp (isND false) (wV 3) (wC .non)) (wRet (wC .non)) wNext) (wRet (wOp addD (wLst (wCons (wFz (wSl (wV 1) oNone (oSome (wOp ixD (wV 2) (wNeg (wC (.int 1))))))) wNil)) (wV 3))))))))
set_option maxHeartbeats 4000000 in
theorem ok_law_cut {k : Nat} {f : Addr} {fd : FuncData} {sp : DSp} {l_law_fits : Nat} {a_law_fits : Addr} {fd_law_fits : FuncData} {sp_law_fits : DSp} {l_law_cut : Nat} {a_law_cut : Addr} {fd_law_cut : FuncData} {sp_law_cut : DSp} (D_law_fits : Df K mg "_law_fits" (top 20) ["_law_shape_here", "_law_text_here"] a_law_fits fd_law_fits) (G_law_fits : FnD P w K mg base l_law_fits a_law_fits fd_law_fits ["_law_shape_here", "_law_text_here"] sp_law_fits) (h_law_fits : l_law_fits ≤ k) (D_law_cut : Df K mg "_law_cut" (top 21) ["_law_shape_here", "_law_text_here"] a_law_cut fd_law_cut) (G_law_cut : FnD P w K mg base l_law_cut a_law_cut fd_law_cut ["_law_shape_here", "_law_text_here"] sp_law_cut) (h_law_cut : l_law_cut ≤ k) (T : Txt K mg w) (D : Df K mg "_law_cut" st_law_cut ["_law_shape_here", "_law_text_here"] f fd)
    (hw : ∀ rs r, rs.length = 2 → sp rs r → w_law_cut  sp_law_fits sp_law_cut (Ends1 r) (startD N_law_cut rs)) : FnD P w K mg base (k + 1) f fd ["_law_shape_here", "_law_text_here"] sp := by
  refine D.ok sc_law_cut (ws := w_law_cut  sp_law_fits sp_law_cut) (fun cdv A outer s H E hr => ?_) hw
  have nd := sc_law_cut.nd
  exact (DSs.cons (DS.ife (DT.cmp (cd_eq (n := 60) (hu60 hr)) eqD_mono (DE.var (pv 1)) DE.str (nomark _)) (DSs.one (DS.ret (DE.lst DA.nil))) DSs.nil) (DSs.cons (by first | exact DS.set (i := 2) (DE.comp rfl (blk_of (sc := defScope st_law_cut) (N0 := ["_law_shape_here", "_law_text_here", "_law_sizes", "_law_behind"]) (N := ["_law_size", "_law_shape_here", "_law_text_here"]) (nt := 1) (cap := [0, 1]) rfl rfl (by decide +kernel)) (DIE.rng2 rfl T.m_range (DA.cons DE.int (DA.cons (DE.op od_add addD_mono (DE.callB call_lenR lenD_mono rfl T.m_len bt_len (DA.cons (DE.var (pv 1)) DA.nil)) DE.int) DA.nil))) (fun _ _ _ _ => (DG.nm (i := 0) (show List.Nodup (["_law_size", "_law_shape_here", "_law_text_here"] : List Str) by decide +kernel) rfl (by first | exact Or.inl rfl | exact Or.inr rfl))) (fun _ _ _ _ => (DIf.one (DT.tru (DE.call G_law_fits (hr.mono h_law_fits) rfl D_law_fits.m D_law_fits.k D_law_fits.b (DA.cons (DE.var (pv 1)) (DA.cons (DE.slice (DE.var (pv 2)) DO.none (DO.some (DE.var (pv 0)))) DA.nil))) (fun _ => rfl)))) (fun _ _ _ _ => (DE.fz (DE.var (pv 0))))) nd rfl (by first | exact Or.inl rfl | exact Or.inr rfl) | exact DS.setC (i := 2) rfl (blk_of (sc := defScope st_law_cut) (N0 := ["_law_shape_here", "_law_text_here", "_law_sizes", "_law_behind"]) (N := ["_law_size", "_law_shape_here", "_law_text_here"]) (nt := 1) (cap := [0, 1]) rfl rfl (by decide +kernel)) (DIE.rng2 rfl T.m_range (DA.cons DE.int (DA.cons (DE.op od_add addD_mono (DE.callB call_lenR lenD_mono rfl T.m_len bt_len (DA.cons (DE.var (pv 1)) DA.nil)) DE.int) DA.nil))) (fun _ _ _ _ => (DG.nm (i := 0) (show List.Nodup (["_law_size", "_law_shape_here", "_law_text_here"] : List Str) by decide +kernel) rfl (by first | exact Or.inl rfl | exact Or.inr rfl))) (fun _ _ _ _ => (DIf.one (DT.tru (DE.call G_law_fits (hr.mono h_law_fits) rfl D_law_fits.m D_law_fits.k D_law_fits.b (DA.cons (DE.var (pv 1)) (DA.cons (DE.slice (DE.var (pv 2)) DO.none (DO.some (DE.var (pv 0)))) DA.nil))) (fun _ => rfl)))) (fun _ _ _ _ => (DE.fz (DE.var (pv 0)))) nd rfl (by first | exact Or.inl rfl | exact Or.inr rfl)) (DSs.cons (DS.ife (DT.cmp (cd_eq (n := 60) (hu60 hr)) eqD_mono (DE.var (pv 2)) (DE.lst DA.nil) (nomark _)) (DSs.one (DS.ret DE.non)) DSs.nil) (DSs.cons (DS.set (i := 3) (DE.call G_law_cut (hr.mono h_law_cut) rfl D_law_cut.m D_law_cut.k D_law_cut.b (DA.cons (DE.var (pv 0)) (DA.cons (DE.slice (DE.var (pv 1)) (DO.some (DE.ix (DE.var (pv 2)) (DE.neg DE.int) (fun _ _ => rfl))) DO.none) DA.nil))) nd rfl (by first | exact Or.inl rfl | exact Or.inr rfl)) (DSs.cons (DS.ife (DT.cmp cd_isN isND_mono (DE.var (pv 3)) DE.non (nomark _)) (DSs.one (DS.ret DE.non)) DSs.nil) (DSs.one (DS.ret (DE.op od_add addD_mono (DE.lst (DA.cons (DE.fz (DE.slice (DE.var (pv 1)) DO.none (DO.some (DE.ix (DE.var (pv 2)) (DE.neg DE.int) (fun _ _ => rfl))))) DA.nil)) (DE.var (pv 3))))))))))
abbrev st_law : Stmt := top 22
abbrev N_law : List Str := ["_law_script", "_law_shape_here", "_law_text_here", "_law_due", "_law_start", "_law_end", "_law_begun", "_law_told"]
theorem sc_law : FnScope ["_law_script", "_law_shape_here", "_law_text_here", "_law_due", "_law_start", "_law_end", "_law_begun", "_law_told"] ["_law_script"] (defScope st_law) := ⟨rfl, rfl, rfl, by decide +kernel, rfl, by decide +kernel, by decide +kernel⟩
def w_law  (sp_law_shape : DSp) (sp_law_text : DSp) (sp_law_fits : DSp) (sp_stretches : DSp) (sp_longest_beginning : DSp) (sp_cut_up : DSp) (sp_law_cut : DSp) : WS := (wSeq (wSet 1 (wCall sp_law_shape (wCons (wV 0) (wCons (wC (.int 1)) (wCons (wC (.int 2)) wNil))))) (wSeq (wSet 2 (wCall sp_law_text (wCons (wV 0) (wCons (wC (.int 200)) (wCons (wC (.int 5)) wNil))))) (wSeq (wSet 3 (wLst wNil)) (wSeq (wFor (iRng1 (wCons (wOp addD (wCB lenD (wCons (wV 2) wNil)) (wC (.int 1))) wNil)) (gNm 4) (wFor (iRng2 (wCons (wV 4) (wCons (wOp addD (wCB lenD (wCons (wV 2) wNil)) (wC (.int 1))) wNil))) (gNm 5) (wIfS (wTru (wCall sp_law_fits (wCons (wV 1) (wCons (wSl (wV 2) (oSome (wV 4)) (oSome (wV 5))) wNil)))) (wAppend 3 (wFz (wTup (wCons (wFz (wV 4)) (wCons (wFz (wV 5)) wNil))))) wNext))) (wSeq (wIfS (wOp (eqD 59 true) (wCall sp_stretches (wCons (wV 1) (wCons (wV 2) wNil))) (wV 3)) (wRet (wC (.bl false))) wNext) (wSeq (wSet 6 (wComp 2 [] (jLst (wV 3)) (gTp 2 (gCn (gNm 0) (gCn (gNm 1) gNl))) (wOp (eqD 60 false) (wV 0) (wC (.int 0))) (wFz (wV 1)))) (wSeq (wIfS (wOp (eqD 59 true) (wCall sp_longest_beginning (wCons (wV 1) (wCons (wV 2) wNil))) (wOp ixD (wOp addD (wLst (wCons (wFz (wC .non)) wNil)) (wV 6)) (wNeg (wC (.int 1))))) (wRet (wC (.bl false))) wNext) (wSeq (wSet 7 (wCall sp_cut_up (wCons (wV 1) (wCons (wV 2) wNil)))) (wSeq (wIfS (wOp (eqD 59 true) (wV 7) (wCall sp_law_cut (wCons (wV 1) (wCons (wV 2) wNil)))) (wRet (wC (.bl false))) wNext) (wRet (wOrV (wB (wOp (isND false) (wV 7) (wC .non))) (wB (wOp (eqD 60 false) (wJoin (wC (.str "")) (wV 7)) (wV 2))))))))))))))
set_option maxHeartbeats 4000000 in
theorem ok_law {k : Nat} {f : Addr} {fd : FuncData} {sp : DSp} {l_law_shape : Nat} {a_law_shape : Addr} {fd_law_shape : FuncData} {sp_law_shape : DSp} {l_law_text : Nat} {a_law_text : Addr} {fd_law_text : FuncData} {sp_law_text : DSp} {l_law_fits : Nat} {a_law_fits : Addr} {fd_law_fits : FuncData} {sp_law_fits : DSp} {l_stretches : Nat} {a_stretches : Addr} {fd_stretches : FuncData} {sp_stretches : DSp} {l_longest_beginning : Nat} {a_longest_beginning : Addr} {fd_longest_beginning : FuncData} {sp_longest_beginning : DSp} {l_cut_up : Nat} {a_cut_up : Addr} {fd_cut_up : FuncData} {sp_cut_up : DSp} {l_law_cut : Nat} {a_law_cut : Addr} {fd_law_cut : FuncData} {sp_law_cut : DSp} (D_law_shape : Df K mg "_law_shape" (top 19) ["_law_script", "_law_at", "_law_deep"] a_law_shape fd_law_shape) (G_law_shape : FnD P w K mg base l_law_shape a_law_shape fd_law_shape ["_law_script", "_law_at", "_law_deep"] sp_law_shape) (h_law_shape : l_law_shape ≤ k) (D_law_text : Df K mg "_law_text" (top 17) ["_law_script", "_law_at", "_law_most"] a_law_text fd_law_text) (G_law_text : FnD P w K mg base l_law_text a_law_text fd_law_text ["_law_script", "_law_at", "_law_most"] sp_law_text) (h_law_text : l_law_text ≤ k) (D_law_fits : Df K mg "_law_fits" (top 20) ["_law_shape_here", "_law_text_here"] a_law_fits fd_law_fits) (G_law_fits : FnD P w K mg base l_law_fits a_law_fits fd_law_fits ["_law_shape_here", "_law_text_here"] sp_law_fits) (h_law_fits : l_law_fits ≤ k) (D_stretches : Df K mg "stretches" (top 12) ["shape", "text"] a_stretches fd_stretches) (G_stretches : FnD P w K mg base l_stretches a_stretches fd_stretches ["shape", "text"] sp_stretches) (h_stretches : l_stretches ≤ k) (D_longest_beginning : Df K mg "longest_beginning" (top 11) ["shape", "text"] a_longest_beginning fd_longest_beginning) (G_longest_beginning : FnD P w K mg base l_longest_beginning a_longest_beginning fd_longest_beginning ["shape", "text"] sp_longest_beginning) (h_longest_beginning : l_longest_beginning ≤ k) (D_cut_up : Df K mg "cut_up" (top 13) ["shape", "text"] a_cut_up fd_cut_up) (G_cut_up : FnD P w K mg base l_cut_up a_cut_up fd_cut_up ["shape", "text"] sp_cut_up) (h_cut_up : l_cut_up ≤ k) (D_law_cut : Df K mg "_law_cut" (top 21) ["_law_shape_here", "_law_text_here"] a_law_cut fd_law_cut) (G_law_cut : FnD P w K mg base l_law_cut a_law_cut fd_law_cut ["_law_shape_here", "_law_text_here"] sp_law_cut) (h_law_cut : l_law_cut ≤ k) (T : Txt K mg w) (D : Df K mg "law" st_law ["_law_script"] f fd)
    (hw : ∀ rs r, rs.length = 1 → sp rs r → w_law  sp_law_shape sp_law_text sp_law_fits sp_stretches sp_longest_beginning sp_cut_up sp_law_cut (Ends1 r) (startD N_law rs)) : FnD P w K mg base (k + 1) f fd ["_law_script"] sp := by
  refine D.ok sc_law (ws := w_law  sp_law_shape sp_law_text sp_law_fits sp_stretches sp_longest_beginning sp_cut_up sp_law_cut) (fun cdv A outer s H E hr => ?_) hw
  have nd := sc_law.nd
  exact (DSs.cons (DS.set (i := 1) (DE.call G_law_shape (hr.mono h_law_shape) rfl D_law_shape.m D_law_shape.k D_law_shape.b (DA.cons (DE.var (pv 0)) (DA.cons DE.int (DA.cons DE.int DA.nil)))) nd rfl (by first | exact Or.inl rfl | exact Or.inr rfl)) (DSs.cons (DS.set (i := 2) (DE.call G_law_text (hr.mono h_law_text) rfl D_law_text.m D_law_text.k D_law_text.b (DA.cons (DE.var (pv 0)) (DA.cons DE.int (DA.cons DE.int DA.nil)))) nd rfl (by first | exact Or.inl rfl | exact Or.inr rfl)) (DSs.cons (DS.set (i := 3) (DE.lst DA.nil) nd rfl (by first | exact Or.inl rfl | exact Or.inr rfl)) (DSs.cons (DS.for PassesOwn.never rfl (DI.rng1 rfl T.m_range (DA.cons (DE.op od_add addD_mono (DE.callB call_lenR lenD_mono rfl T.m_len bt_len (DA.cons (DE.var (pv 2)) DA.nil)) DE.int) DA.nil)) (DG.nm (i := 4) nd rfl (by first | exact Or.inl rfl | exact Or.inr rfl)) (DSs.one (DS.for PassesOwn.never rfl (DI.rng2 rfl T.m_range (DA.cons (DE.var (pv 4)) (DA.cons (DE.op od_add addD_mono (DE.callB call_lenR lenD_mono rfl T.m_len bt_len (DA.cons (DE.var (pv 2)) DA.nil)) DE.int) DA.nil))) (DG.nm (i := 5) nd rfl (by first | exact Or.inl rfl | exact Or.inr rfl)) (DSs.one (DS.ife (DT.tru (DE.call G_law_fits (hr.mono h_law_fits) rfl D_law_fits.m D_law_fits.k D_law_fits.b (DA.cons (DE.var (pv 1)) (DA.cons (DE.slice (DE.var (pv 2)) (DO.some (DE.var (pv 4))) (DO.some (DE.var (pv 5)))) DA.nil))) (fun _ => rfl)) (DSs.one (DS.append (pv 3) (DE.fz (DE.tup (DA.cons (DE.fz (DE.var (pv 4))) (DA.cons (DE.fz (DE.var (pv 5))) DA.nil)))))) DSs.nil))))) (DSs.cons (DS.ife (DT.cmp (cd_neD (n := 59) (hu59 hr)) eqD_mono (DE.call G_stretches (hr.mono h_stretches) rfl D_stretches.m D_stretches.k D_stretches.b (DA.cons (DE.var (pv 1)) (DA.cons (DE.var (pv 2)) DA.nil))) (DE.var (pv 3)) (nomark _)) (DSs.one (DS.ret DE.bl)) DSs.nil) (DSs.cons (by first | exact DS.set (i := 6) (DE.comp rfl (blk_of (sc := defScope st_law) (N0 := ["_law_script", "_law_shape_here", "_law_text_here", "_law_due", "_law_start", "_law_end", "_law_begun", "_law_told"]) (N := ["_law_start", "_law_end"]) (nt := 2) (cap := []) rfl rfl (by decide +kernel)) (DIE.lst (DE.var (pv 3))) (fun _ _ _ _ => (DG.tp (n := 2) rfl (DGs.cons (DG.nm (i := 0) (show List.Nodup (["_law_start", "_law_end"] : List Str) by decide +kernel) rfl (by first | exact Or.inl rfl | exact Or.inr rfl)) (DGs.cons (DG.nm (i := 1) (show List.Nodup (["_law_start", "_law_end"] : List Str) by decide +kernel) rfl (by first | exact Or.inl rfl | exact Or.inr rfl)) DGs.nil)))) (fun _ _ _ _ => (DIf.one (DT.cmp (cd_eq (n := 60) (hu60 hr)) eqD_mono (DE.var (pv 0)) DE.int (nomark _)))) (fun _ _ _ _ => (DE.fz (DE.var (pv 1))))) nd rfl (by first | exact Or.inl rfl | exact Or.inr rfl) | exact DS.setC (i := 6) rfl (blk_of (sc := defScope st_law) (N0 := ["_law_script", "_law_shape_here", "_law_text_here", "_law_due", "_law_start", "_law_end", "_law_begun", "_law_told"]) (N := ["_law_start", "_law_end"]) (nt := 2) (cap := []) rfl rfl (by decide +kernel)) (DIE.lst (DE.var (pv 3))) (fun _ _ _ _ => (DG.tp (n := 2) rfl (DGs.cons (DG.nm (i := 0) (show List.Nodup (["_law_start", "_law_end"] : List Str) by decide +kernel) rfl (by first | exact Or.inl rfl | exact Or.inr rfl)) (DGs.cons (DG.nm (i := 1) (show List.Nodup (["_law_start", "_law_end"] : List Str) by decide +kernel) rfl (by first | exact Or.inl rfl | exact Or.inr rfl)) DGs.nil)))) (fun _ _ _ _ => (DIf.one (DT.cmp (cd_eq (n := 60) (hu60 hr)) eqD_mono (DE.var (pv 0)) DE.int (nomark _)))) (fun _ _ _ _ => (DE.fz (DE.var (pv 1)))) nd rfl (by first | exact Or.inl rfl | exact Or.inr rfl)) (DSs.cons (DS.ife (DT.cmp (cd_neD (n := 59) (hu59 hr)) eqD_mono (DE.call G_longest_beginning (hr.mono h_longest_beginning) rfl D_longest_beginning.m D_longest_beginning.k D_longest_beginning.b (DA.cons (DE.var (pv 1)) (DA.cons (DE.var (pv 2)) DA.nil))) (DE.ix (DE.op od_add addD_mono (DE.lst (DA.cons (DE.fz DE.non) DA.nil)) (DE.var (pv 6))) (DE.neg DE.int) (fun _ _ => rfl)) (nomark _)) (DSs.one (DS.ret DE.bl)) DSs.nil) (DSs.cons (DS.set (i := 7) (DE.call G_cut_up (hr.mono h_cut_up) rfl D_cut_up.m D_cut_up.k D_cut_up.b (DA.cons (DE.var (pv 1)) (DA.cons (DE.var (pv 2)) DA.nil))) nd rfl (by first | exact Or.inl rfl | exact Or.inr rfl)) (DSs.cons (DS.ife (DT.cmp (cd_neD (n := 59) (hu59 hr)) eqD_mono (DE.var (pv 7)) (DE.call G_law_cut (hr.mono h_law_cut) rfl D_law_cut.m D_law_cut.k D_law_cut.b (DA.cons (DE.var (pv 1)) (DA.cons (DE.var (pv 2)) DA.nil))) (nomark _)) (DSs.one (DS.ret DE.bl)) DSs.nil) (DSs.one (DS.ret (DE.or (DE.cmp cd_isN isND_mono (DE.var (pv 7)) DE.non (nomark _)) (DE.or1 (DE.cmp (cd_eq (n := 60) (hu60 hr)) eqD_mono (DE.join DE.str (DE.var (pv 7))) (DE.var (pv 2)) (nomark _)))))))))))))))
end
end K06
end
section
set_option maxRecDepth 100000
namespace K06
open PySem PySem.Spec PyProof.Rows L2 TK
abbrev scr (ns : List Int) : D := .lst (ns.map D.int)
def cellF (ns : List Int) (k : Int) : Int := if ns = [] then 7 * k else (ns[(k % (ns.length : Int)).toNat]?.getD 0) + 6553 * (k / (ns.length : Int))
def sp_cell : DSp := fun rs r => ∃ ns k, rs = [.st (scr ns), .st (.int k)] ∧ ns.length ≤ 63 ∧ r = .st (.int (cellF ns k))
theorem depth_scr (ns : List Int) : D.depth (scr ns) ≤ 60 := by
  have : D.depths (ns.map D.int) = 0 := by
    induction ns with
    | nil => simp [D.depths]
    | cons n r ih => simp [D.depths, D.depth, ih]
  simp [D.depth, this]
theorem atI_scr {ns : List Int} {k : Int} (h : ns ≠ []) : atI (ns.map D.int) (k % (ns.length : Int)) = some (.int (ns[(k % (ns.length : Int)).toNat]?.getD 0)) := by
  have hp : 0 < (ns.length : Int) := by have := List.length_pos_iff.mpr h; omega
  have h0 := Int.emod_nonneg k (by omega : (ns.length : Int) ≠ 0)
  have h1 := Int.emod_lt_of_pos k hp
  have hlt : (k % (ns.length : Int)).toNat < ns.length := by omega
  have e : k % (ns.length : Int) = (((k % (ns.length : Int)).toNat : Nat) : Int) := by omega
  have q : atI (ns.map D.int) (((k % (ns.length : Int)).toNat : Nat) : Int) = some (.int (ns[(k % (ns.length : Int)).toNat]?.getD 0)) := atI_nat (by rw [List.getElem?_map, List.getElem?_eq_getElem hlt]; rfl)
  rw [← e] at q
  exact q
theorem rd_cell : ∀ rs r, rs.length = 2 → sp_cell rs r → w_law_cell (Ends1 r) (startD N_law_cell rs) := by
  rintro rs r _ ⟨ns, k, rfl, hn, rfl⟩
  have hd := depth_scr ns
  by_cases h : ns = []
  · subst h
    simp [w_law_cell, CMul, cellF, hd, D.depth, D.depths]
  · have hp : 0 < (ns.length : Int) := by have := List.length_pos_iff.mpr h; omega
    simp [w_law_cell, CMul, CDiv, cellF, hd, h, atI_scr h]
    omega
def drawnF (ns : List Int) (k m : Int) : Int :=
  let c := ((cellF ns k) % 2147483563 * 69069 + 104723 * (k + 1)) % 2147483563
  let c := (c * c + c / 3) % 2147483399
  (c * c + c / 7) % 2147483647 / 11 % m
def sp_drawn : DSp := fun rs r => ∃ ns k m, rs = [.st (scr ns), .st (.int k), .st (.int m)] ∧ ns.length ≤ 63 ∧ 0 < m ∧ r = .st (.int (drawnF ns k m))
theorem rd_drawn : ∀ rs r, rs.length = 3 → sp_drawn rs r → w_law_drawn sp_cell (Ends1 r) (startD N_law_drawn rs) := by
  rintro rs r _ ⟨ns, k, m, rfl, hn, hm, rfl⟩
  have key : ∀ c : Int, 0 ≤ c → c < 2147483648 → CMul c c := fun c h1 h2 => .inl ⟨by omega, by omega⟩
  simp [w_law_drawn, sp_cell, hm, hn]
  refine ⟨_, ⟨ns, k, ⟨rfl, rfl⟩, hn, rfl⟩, ?_⟩
  have e1 := Int.emod_nonneg (cellF ns k) (by decide : (2147483563 : Int) ≠ 0)
  have e2 := Int.emod_lt_of_pos (cellF ns k) (by decide : (0 : Int) < 2147483563)
  have b1 := Int.emod_nonneg (cellF ns k % 2147483563 * 69069 + 104723 * (k + 1)) (by decide : (2147483563 : Int) ≠ 0)
  have b2 := Int.emod_lt_of_pos (cellF ns k % 2147483563 * 69069 + 104723 * (k + 1)) (by decide : (0 : Int) < 2147483563)
  simp only [o_intD, o_mul, o_add1, o_sto1, o_rd1, o_ret1, o_ends, drawnF]
  generalize (cellF ns k % 2147483563 * 69069 + 104723 * (k + 1)) % 2147483563 = c at b1 b2 ⊢
  have b3 := Int.emod_nonneg (c * c + c / 3) (by decide : (2147483399 : Int) ≠ 0)
  have b4 := Int.emod_lt_of_pos (c * c + c / 3) (by decide : (0 : Int) < 2147483399)
  generalize (c * c + c / 3) % 2147483399 = c2 at b3 b4 ⊢
  have cd : ∀ c : Int, CDiv c 3 ∧ CDiv c 7 ∧ CDiv c 11 := fun c => ⟨⟨by decide, by decide⟩, ⟨by decide, by decide⟩, ⟨by decide, by decide⟩⟩
  exact ⟨by decide, .inl ⟨by omega, by omega⟩, .inl ⟨by decide, by decide⟩, by decide, key _ b1 (by omega), (cd c).1, by decide, key _ b3 (by omega), (cd c2).2.1, by decide, (cd _).2.2, hm, trivial⟩
theorem drawn_nn (ns : List Int) (k : Int) {m : Int} (h : 0 < m) : 0 ≤ drawnF ns k m := Int.emod_nonneg _ (by omega)
theorem drawn_lt (ns : List Int) (k : Int) {m : Int} (h : 0 < m) : drawnF ns k m < m := Int.emod_lt_of_pos _ h
end K06
end
section
set_option maxRecDepth 100000
set_option maxHeartbeats 4000000
namespace K06
open PySem PySem.Spec PyProof.Rows L2 TK
def reachB (p : Nat → Bool) (f : Nat → Nat → Bool) (k j : Nat) : Bool := (List.range k).any fun i => p i && f i j
theorem reach_succ (p : Nat → Bool) (f : Nat → Nat → Bool) (k j : Nat) : reachB p f (k + 1) j = (reachB p f k j || (p k && f k j)) := by
  unfold reachB
  rw [List.range_succ, List.any_append]
  simp
def rT : WT := wOp (cmpI fun i j => decide (j < i)) (wV 0) (wC (.int 0))
def rBd : WS := (wSeq (wSet 3 (wOp (intD NoC fun i j => i - j) (wBitlen (wV 0)) (wC (.int 1)))) (wSeq (wAug 2 (intD NoC fun i j => Builtin.bitOr i j) (wOp ixD (wV 1) (wV 3))) (wAug 0 (intD NoC fun i j => i - j) (wOp (intD CPow fun i j => i * 2 ^ j.toNat) (wC (.int 1)) (wV 3)))))
theorem ix_any {rr : R} {es : List D} (h : lsAny rr = some es) {i : Nat} {d : D} (hd : es[i]? = some d) {Q : R → Prop} (q : Q (.st d)) : ixD rr (.st (.int (i : Int))) Q := by
  cases rr with
  | st x =>
    cases x with
    | lst ds => cases h; exact ⟨d, atI_nat hd, q⟩
    | _ => cases h
  | nw ds => cases h; exact ⟨d, atI_nat hd, q⟩
  | bw ds => cases h; exact ⟨d, atI_nat hd, q⟩
  | _ => cases h
theorem reach_loop {M : Nat} (hM : M ≤ 100) {p : Nat → Bool} {f : Nat → Nat → Bool} {rr : R} {es : List D} (hr : lsAny rr = some es) (he : ∀ i, i < M → p i = true → es[i]? = some (.int ((mk (f i) M : Nat) : Int))) {sl : Sl} (hs : rdS sl = rr) {E : DEnds} :
    ∀ (k n : Nat) (q : Nat → Bool) (o3 : Option Sl), k ≤ M → k + 1 ≤ n → (∀ o3, E.nx [some (.dat (.int 0)), some sl, some (.dat (.int ((mk (fun j => q j || reachB p f k j) M : Nat) : Int))), o3]) →
    whileN rT rBd n E [some (.dat (.int ((mk p k : Nat) : Int))), some sl, some (.dat (.int ((mk q M : Nat) : Int))), o3]
  | 0, n + 1, q, o3, _, _, h => by
    have h := h o3
    have e : mk (fun j => q j || reachB p f 0 j) M = mk q M := mk_congr fun i _ => by simp [reachB]
    rw [e] at h
    simp [whileN, rT, mk]
    exact h
  | k + 1, n + 1, q, o3, hk, hn, h => by
    by_cases hp : p k = true
    · obtain ⟨e1, e2, e3⟩ := mk_log hp
      have pos : (0 : Int) < ((mk p (k + 1) : Nat) : Int) := by omega
      have hb : Builtin.Int.intBits ((mk p (k + 1) : Nat) : Int) = k + 1 := by
        unfold Builtin.Int.intBits
        have : (((mk p (k + 1) : Nat) : Int) == 0) = false := by simpa using e3
        rw [this]
        simp [e2]
      rw [whileN]
      simp only [rT, s_op, s_var, s_con]
      refine ⟨_, rfl, ?_⟩
      have pos' : 0 < mk p (k + 1) := by omega
      simp [pos', rBd, hb]
      rw [hs]
      refine ix_any hr (he k (by omega) hp) ?_
      simp [bitOr_nat, mk_or]
      refine ⟨⟨by omega, by omega, by decide⟩, ?_⟩
      have em : ((mk p (k + 1) : Nat) : Int) - 2 ^ k = ((mk p k : Nat) : Int) := by rw [e1]; push_cast; omega
      rw [em]
      refine reach_loop hM hr he hs k n _ _ (by omega) (by omega) fun o3 => ?_
      have e : mk (fun j => (q j || f k j) || reachB p f k j) M = mk (fun j => q j || reachB p f (k + 1) j) M := mk_congr fun i _ => by
        rw [reach_succ, hp]
        cases q i <;> cases f k i <;> cases reachB p f k i <;> rfl
      rw [e]
      exact h o3
    · have e1 : mk p (k + 1) = mk p k := by simp [mk, hp]
      rw [e1]
      refine reach_loop hM hr he hs k (n + 1) q o3 (by omega) (by omega) fun o3 => ?_
      have e : mk (fun j => q j || reachB p f k j) M = mk (fun j => q j || reachB p f (k + 1) j) M := mk_congr fun i _ => by
        rw [reach_succ]
        simp [hp]
      rw [e]
      exact h o3
def sp_reached : DSp := fun rs r => ∃ p M es f rr, rs = [.st (.int ((mk p M : Nat) : Int)), rr] ∧ (argOk rr = true ∧ nrm rr = rr) ∧ lsAny rr = some es ∧ M ≤ 100 ∧ (∀ i, i < M → p i = true → es[i]? = some (.int ((mk (f i) M : Nat) : Int))) ∧ r = .st (.int ((mk (reachB p f M) M : Nat) : Int))
theorem rd_reached : ∀ rs r, rs.length = 2 → sp_reached rs r → w_reached_from (Ends1 r) (startD N_reached_from rs) := by
  rintro rs r _ ⟨p, M, es, f, rr, rfl, hn, hr, hM, he, rfl⟩
  have hs : rdS (slotOf rr) = rr := by
    cases rr with
    | st x => rfl
    | nw ds => cases hn.2
    | bw ds => rfl
    | dk _ => cases hr
    | dt _ => cases hr
    | ob _ => cases hr
    | ms _ _ _ _ => cases hr
  have z : ((mk (fun _ => false) M : Nat) : Int) = 0 := by rw [mk_false]; rfl
  simp [w_reached_from]
  refine ⟨M + 1, ?_⟩
  have := reach_loop hM hr he hs (E := { Ends1 (.st (.int ((mk (reachB p f M) M : Nat) : Int))) with nx := wRetV 2 (Ends1 (.st (.int ((mk (reachB p f M) M : Nat) : Int)))) }) M (M + 1) (fun _ => false) none (Nat.le_refl _) (Nat.le_refl _) fun o3 => by simp
  rw [z] at this
  exact this
end K06
end
section
set_option maxRecDepth 100000
set_option maxHeartbeats 4000000
namespace K06
open PySem PySem.Spec PyProof.Rows L2 TK
theorem enm_range (m : Nat) (g : Nat → D) : enmD ((List.range m).map g) = ((List.range m).map fun (b : Nat) => (D.int (b : Int), g b)).map fun p => .tup [p.1, p.2] := by
  apply List.ext_getElem?
  intro i
  unfold enmD
  rw [List.getElem?_map, List.getElem?_zipIdx, List.getElem?_map, List.getElem?_map, List.getElem?_map]
  by_cases hi : i < m
  · rw [List.getElem?_range hi]; simp
  · rw [List.getElem?_eq_none_iff.mpr (by simpa using hi)]; simp
theorem zip_range (m : Nat) (g h : Nat → D) : zipD ((List.range m).map g) ((List.range m).map h) = ((List.range m).map fun b => (g b, h b)).map fun p => .tup [p.1, p.2] := by
  unfold zipD
  rw [List.zip_map']
def xorD (N : Nat) : D → D → D
  | .int b, .int m => .int (Builtin.bitXor (2 ^ N - 2 ^ b.toNat) m)
  | _, _ => .non
theorem tab_not (L : List Nat) (a : Sh) {b : Nat} (hb : b < L.length + 1) : xorD (L.length + 1) (.int (b : Int)) (tabI L a b) = tabI L (.not a) b := by
  have e1 := mk_from (b := b) (m := L.length + 1) (by omega)
  have e2 : (2 : Int) ^ (L.length + 1) - 2 ^ b = ((mk (fun e => decide (b ≤ e)) (L.length + 1) : Nat) : Int) := by
    have : ((2 ^ (L.length + 1) : Nat) : Int) = ((mk (fun e => decide (b ≤ e)) (L.length + 1) + 2 ^ b : Nat) : Int) := by rw [e1]
    push_cast at this
    omega
  unfold tabI
  simp only [xorD, Int.toNat_natCast]
  rw [e2, mk_xor (p := pf L a b) (q := fun e => decide (b ≤ e)) (fun i h => by unfold pf at h; simp at h; simp [h.1])]
  congr 2
  exact mk_congr fun i _ => by
    unfold pf
    simp only [fitP]
    cases decide (b ≤ i) <;> simp
def okL (L : List Nat) : Prop := L.length ≤ 60
def sp_not : DSp := fun rs r => ∃ L a, okL L ∧ rs = [.st (.lst (tabD L a))] ∧ r = .nw (tabD L (.not a))
theorem rd_not : ∀ rs r, rs.length = 1 → sp_not rs r → w_not_ends (Ends1 r) (startD N_not_ends rs) := by
  rintro rs r _ ⟨L, a, hL, rfl, rfl⟩
  have hL : L.length ≤ 60 := hL
  have z : (tabD L a).length ≤ sizeLine := by rw [tab_len]; exact Nat.le_trans (show L.length + 1 ≤ 61 by omega) (by decide)
  simp [w_not_ends, tab_len]
  refine ⟨⟨by omega, by omega, by decide⟩, ?_⟩
  refine ⟨by rw [enmD_length]; exact z, ?_⟩
  simp [blkSt, borS]
  have te : enmD (tabD L a) = ((List.range (L.length + 1)).map fun (b : Nat) => (D.int (b : Int), tabI L a b)).map fun p => .tup [p.1, p.2] := enm_range _ _
  rw [te]
  refine comp_map2 (f := xorD (L.length + 1)) _ none none _ (fun p hp Q' q => ?_) ?_
  · obtain ⟨b, hb, rfl⟩ := List.mem_map.mp hp
    have hb := List.mem_range.mp hb
    simp [tabI]
    refine ⟨⟨by omega, by omega, by decide⟩, ?_⟩
    exact q
  · rw [List.map_map]
    refine List.map_congr_left fun b hb => ?_
    exact tab_not L a (List.mem_range.mp hb)
theorem rngR_succ (k : Nat) : rngR (k + 1) = .int (k : Int) :: rngR k := by
  unfold rngR
  rw [List.range_succ_eq_map, List.map_cons, List.map_map]
  congr 1
  · congr 1; push_cast; omega
  · refine List.map_congr_left fun i hi => ?_
    simp only [Function.comp_apply]
    congr 1
    push_cast; omega
def manyE (L : List Nat) (a : Sh) (k : Nat) : List D := (List.range (L.length + 1)).map fun i => if i < k then .int 0 else tabI L (.many a) i
theorem manyE_get (L : List Nat) (a : Sh) (k : Nat) {i : Nat} (hi : i < L.length + 1) : (manyE L a k)[i]? = some (if i < k then .int 0 else tabI L (.many a) i) := by
  simp [manyE, List.getElem?_map, List.getElem?_range hi]
theorem manyE_set (L : List Nat) (a : Sh) {k : Nat} (hk : k < L.length + 1) : (manyE L a (k + 1)).set k (tabI L (.many a) k) = manyE L a k := by
  apply List.ext_getElem?
  intro i
  by_cases hi : i < L.length + 1
  · by_cases h : i = k
    · subst h
      rw [List.getElem?_set_self (by simp [manyE]; omega), manyE_get L a i hi]
      simp
    · rw [List.getElem?_set_ne (fun z => h z.symm), manyE_get L a _ hi, manyE_get L a _ hi]
      by_cases h2 : i < k
      · simp [h2, Nat.lt_succ_of_lt h2]
      · have : ¬ i < k + 1 := by omega
        simp [h2, this]
  · rw [List.getElem?_eq_none_iff.mpr (by simp [manyE]; omega), List.getElem?_eq_none_iff.mpr (by simp [manyE]; omega)]
theorem many_bits (L : List Nat) (a : Sh) {k j : Nat} (hj : j < L.length + 1) : ((j == k) || reachB (fun i => pf L a k i && !(i == k)) (fun i => pf L (.many a) i) (L.length + 1) j) = pf L (.many a) k j := by
  rw [Bool.eq_iff_iff]
  unfold pf reachB
  rw [many_step]
  simp only [Bool.or_eq_true, beq_iff_eq, List.any_eq_true, List.mem_range, Bool.and_eq_true, decide_eq_true_eq, Bool.not_eq_true', beq_eq_false_iff_ne]
  constructor
  · rintro (rfl | ⟨i, hi, ⟨⟨h1, h2⟩, h3⟩, h4, h5⟩)
    · exact ⟨Nat.le_refl _, .inl rfl⟩
    · refine ⟨by omega, .inr ⟨i - k - 1, by omega, ?_, ?_⟩⟩
      · rw [show k + (i - k - 1) + 1 = i by omega]; exact h2
      · rw [show k + (i - k - 1) + 1 = i by omega]; exact h5
  · rintro ⟨h1, h2 | ⟨m, hm, h3, h4⟩⟩
    · exact .inl h2.symm
    · exact .inr ⟨k + m + 1, by omega, ⟨⟨by omega, h3⟩, by omega⟩, by omega, h4⟩
theorem many_loop (L : List Nat) (hL : okL L) (a : Sh) {E : DEnds} : ∀ (k : Nat) (o2 o3 : Option Sl), k ≤ L.length + 1 → (∀ o2 o3, E.nx [some (.dat (.lst (tabD L a))), some (.own (manyE L a 0)), o2, o3]) →
    forW (gNm 2) (wSeq (wSet 3 (wOp (intD CPow fun i j => i * 2 ^ j.toNat) (wC (.int 1)) (wV 2))) (wSetIx 1 (wV 2) (wFz (wOp (intD NoC fun i j => Builtin.bitOr i j) (wV 3) (wCall sp_reached (wCons (wOp (intD NoC fun i j => Builtin.bitAnd i j) (wOp ixD (wV 0) (wV 2)) (wInv (wV 3))) (wCons (wV 1) wNil)))))))
      E (rngR k) [some (.dat (.lst (tabD L a))), some (.own (manyE L a k)), o2, o3]
  | 0, o2, o3, _, h => h o2 o3
  | k + 1, o2, o3, hk, h => by
    have hL' : L.length ≤ 60 := hL
    have hk' : k < L.length + 1 := by omega
    rw [rngR_succ]
    simp only [forW]
    have at_ : atI (tabD L a) (k : Int) = some (tabI L a k) := atI_nat (tab_get L a hk')
    have hx : ixN (manyE L a (k + 1)).length (k : Int) = some k := by
      have : (manyE L a (k + 1)).length = L.length + 1 := by simp [manyE]
      rw [this]
      unfold ixN
      rw [if_pos (by omega), if_pos (by omega)]; simp
    have hp : ((2 : Int) ^ k) = ((2 ^ k : Nat) : Int) := by push_cast; rfl
    simp [at_, tabI]
    refine ⟨⟨by omega, by omega, by decide⟩, ?_⟩
    rw [hp, mk_andNot hk']
    refine ⟨_, ⟨fun i => pf L a k i && !(i == k), L.length + 1, manyE L a (k + 1), fun i => pf L (.many a) i, .bw (manyE L a (k + 1)), rfl, ⟨rfl, rfl⟩, rfl, by omega, fun i hi hpi => ?_, rfl⟩, ?_⟩
    · have hik : ¬ i < k + 1 := by
        unfold pf at hpi
        simp at hpi
        omega
      rw [manyE_get L a _ hi, if_neg hik]
      rfl
    · simp
      refine ⟨k, hx, ?_⟩
      have e : Builtin.bitOr ((2 ^ k : Nat) : Int) ((mk (reachB (fun i => pf L a k i && !(i == k)) (fun i => pf L (.many a) i) (L.length + 1)) (L.length + 1) : Nat) : Int) = ((mk (pf L (.many a) k) (L.length + 1) : Nat) : Int) := by
        rw [← mk_one hk', bitOr_nat, mk_or]
        congr 1
        exact mk_congr fun j hj => many_bits L a hj
      have es := manyE_set L a hk'
      unfold tabI at es
      rw [← e] at es
      push_cast at es
      rw [es]
      exact many_loop L hL a k _ _ (by omega) h
def sp_many : DSp := fun rs r => ∃ L a, okL L ∧ rs = [.st (.lst (tabD L a))] ∧ r = .nw (tabD L (.many a))
theorem rd_many : ∀ rs r, rs.length = 1 → sp_many rs r → w_many_ends sp_reached (Ends1 r) (startD N_many_ends rs) := by
  rintro rs r _ ⟨L, a, hL, rfl, rfl⟩
  have hL' : L.length ≤ 60 := hL
  have z1 : (1 : Nat) ≤ sizeLine := by decide
  have z2 : L.length + 1 ≤ sizeLine := Nat.le_trans (show L.length + 1 ≤ 61 by omega) (by decide)
  have e1 : ((L.length : Int) + 1).toNat = L.length + 1 := by omega
  simp [w_many_ends, tab_len, z1, e1, z2]
  refine ⟨by omega, by omega, by omega, by omega, ?_⟩
  have e2 : List.replicate (L.length + 1) (D.int 0) = manyE L a (L.length + 1) := by
    apply List.ext_getElem?
    intro i
    by_cases hi : i < L.length + 1
    · rw [manyE_get L a _ hi, if_pos hi, List.getElem?_replicate, if_pos hi]
    · rw [List.getElem?_eq_none_iff.mpr (by simp; omega), List.getElem?_eq_none_iff.mpr (by simp [manyE]; omega)]
  rw [e2]
  refine many_loop L hL a (L.length + 1) none none (Nat.le_refl _) fun o2 o3 => ?_
  simp
  have e3 : manyE L a 0 = tabD L (.many a) := by simp [manyE, tabD]
  rw [e3]
end K06
end
section
set_option maxRecDepth 100000
set_option maxHeartbeats 4000000
namespace K06
open PySem PySem.Spec PyProof.Rows L2 TK
theorem tab_none (L : List Nat) : List.replicate (L.length + 1) (D.int 0) = tabD L .none := by
  apply List.ext_getElem?
  intro i
  by_cases hi : i < L.length + 1
  · rw [tab_get L _ hi, List.getElem?_replicate, if_pos hi]
    unfold tabI
    rw [mk_congr (q := fun _ => false) fun j _ => by simp [pf, fitP], mk_false]
    rfl
  · rw [List.getElem?_eq_none_iff.mpr (by simp; omega), List.getElem?_eq_none_iff.mpr (by rw [tab_len]; omega)]
def shlD : D → D
  | .int b => .int (2 ^ b.toNat)
  | d => d
theorem tab_empty (L : List Nat) : (rngD 0 (L.length + 1)).map shlD = tabD L .empty := by
  unfold rngD tabD
  rw [List.map_map]
  refine List.map_congr_left fun b hb => ?_
  have hb := List.mem_range.mp hb
  have e : mk (pf L .empty b) (L.length + 1) = 2 ^ b := by
    rw [← mk_one hb]
    refine mk_congr fun j _ => ?_
    unfold pf
    simp only [fitP]
    by_cases h : j = b
    · subst h; simp
    · have h' : (b == j) = false := by simp; exact fun z => h z.symm
      have h2 : (j == b) = false := by simpa using h
      rw [h', h2]; simp
  show shlD (.int (0 + (b : Int))) = tabI L .empty b
  unfold tabI
  rw [e]
  simp [shlD]
def signD (s : Str) : D → D → D
  | .int b, .str c => if inStr c s then .int (2 * 2 ^ b.toNat) else .int 0
  | _, _ => .non
theorem tab_sign (L : List Nat) (s : Str) {b c : Nat} (h : L[b]? = some c) : signD s (.int (b : Int)) (.str ⟨#[c]⟩) = tabI L (.signs s) b := by
  have hb : b < L.length := (List.getElem?_eq_some_iff.mp h).1
  unfold tabI
  by_cases hi : inStr ⟨#[c]⟩ s = true
  · have e : mk (pf L (.signs s) b) (L.length + 1) = 2 ^ (b + 1) := by
      rw [← mk_one (show b + 1 < L.length + 1 by omega)]
      refine mk_congr fun j _ => ?_
      unfold pf
      simp only [fitP, h, hi]
      by_cases hj : j = b + 1
      · subst hj; simp
      · simp [hj]
    rw [e]
    simp [signD, hi, Int.pow_succ]
    omega
  · have e : mk (pf L (.signs s) b) (L.length + 1) = 0 := by
      rw [mk_congr (q := fun _ => false) fun j _ => by unfold pf; simp only [fitP, h]; simp [hi]]
      exact mk_false _
    rw [e]
    simp [signD, hi]
theorem tab_sign_end (L : List Nat) (s : Str) : tabI L (.signs s) L.length = .int 0 := by
  unfold tabI
  rw [mk_congr (q := fun _ => false) fun j _ => by unfold pf; simp [fitP], mk_false]
  rfl
theorem thn_bits (L : List Nat) (a c : Sh) {b j : Nat} (hj : j < L.length + 1) : reachB (pf L a b) (fun i => pf L c i) (L.length + 1) j = pf L (.thn a c) b j := by
  rw [Bool.eq_iff_iff]
  unfold pf reachB
  simp only [fitP, List.any_eq_true, List.mem_range, Bool.and_eq_true, decide_eq_true_eq]
  constructor
  · rintro ⟨i, hi, ⟨h1, h2⟩, h3, h4⟩
    refine ⟨by omega, i - b, by omega, ?_, ?_⟩
    · rw [show b + (i - b) = i by omega]; exact h2
    · rw [show b + (i - b) = i by omega]; exact h4
  · rintro ⟨h1, k, hk, h2, h3⟩
    exact ⟨b + k, by omega, ⟨by omega, h2⟩, by omega, h3⟩
def binD (g : Int → Int → Int) : D → D → D
  | .int a, .int b => .int (g a b)
  | _, _ => .non
theorem tab_or (L : List Nat) (a c : Sh) (b : Nat) : binD Builtin.bitOr (tabI L a b) (tabI L c b) = tabI L (.or a c) b := by
  unfold tabI
  simp only [binD, bitOr_nat, mk_or]
  congr 2
  exact mk_congr fun j _ => by unfold pf; simp only [fitP]; cases decide (b ≤ j) <;> simp
theorem tab_and (L : List Nat) (a c : Sh) (b : Nat) : binD Builtin.bitAnd (tabI L a b) (tabI L c b) = tabI L (.and a c) b := by
  unfold tabI
  simp only [binD, bitAnd_nat, mk_and]
  congr 2
  exact mk_congr fun j _ => by unfold pf; simp only [fitP]; cases decide (b ≤ j) <;> simp
def sp_row_ends : DSp := fun rs r => ∃ L t shs s, okL L ∧ t.cps.toList = L ∧ okK shs s ∧ rs = [.st (rowD shs s), .bw (tabsD L shs), .st (.str t)] ∧ r = .nw (tabD L s)
theorem rd_row_ends : ∀ rs r, rs.length = 3 → sp_row_ends rs r → w_row_ends sp_not sp_many sp_reached (Ends1 r) (startD N_row_ends rs) := by
  rintro rs r _ ⟨L, t, shs, s, hL, ht, hk, rfl, rfl⟩
  have hL' : L.length ≤ 60 := hL
  have tl : t.length = L.length := by rw [← ht]; simp [Str.length]
  have zt : L.length ≤ sizeLine := Nat.le_trans hL' (by decide)
  have z1 : (1 : Nat) ≤ sizeLine := by decide
  have z61 : ∀ m : Nat, m ≤ 1000 → m ≤ sizeLine := fun m h => Nat.le_trans h (by decide)
  have a0 : ∀ (x : D) (r : List D), atI (x :: r) 0 = some x := fun x r => by simp [atI, ixN]
  have a1 : ∀ (x y : D) (r : List D), atI (x :: y :: r) 1 = some y := fun x y r => by
    have h : (1 : Int) < (r.length : Int) + 1 + 1 := by omega
    simp [atI, ixN, h]
  have a2 : ∀ (x y z : D), atI [x, y, z] 2 = some z := fun x y z => rfl
  have e : ((L.length : Int) + 1).toNat = L.length + 1 := by omega
  have zl : ∀ s, (tabD L s).length ≤ sizeLine := fun s => by rw [tab_len]; exact z61 _ (by omega)
  cases s with
  | none =>
    simp [w_row_ends, rowD, rowK, kD, a0, tl, zt, z1, e]
    exact ⟨by omega, by omega, z61 _ (by omega), tab_none _⟩
  | empty =>
    simp [w_row_ends, rowD, rowK, kD, a0, tl, zt, z1, e]
    refine ⟨by omega, by omega, z61 _ (by simp [rngD]; omega), ?_⟩
    simp [blkSt, borS]
    refine comp_map (f := shlD) _ _ _ (fun d hd Q' q => ?_) (tab_empty L)
    obtain ⟨b, hb, rfl⟩ := List.mem_map.mp hd
    have hb := List.mem_range.mp hb
    simp
    refine ⟨⟨by omega, by omega, by decide⟩, ?_⟩
    simpa [shlD] using q
  | signs x =>
    simp [w_row_ends, rowD, rowK, kD, a0, a1, tl, zt, z1, e]
    have se : sgnD t = (List.range L.length).map fun (b : Nat) => D.str ⟨#[L[b]?.getD 0]⟩ := by
      unfold sgnD
      rw [ht]
      apply List.ext_getElem?
      intro i
      rw [List.getElem?_map, List.getElem?_map]
      by_cases hi : i < L.length
      · rw [List.getElem?_range hi, List.getElem?_eq_getElem hi]; simp [List.getElem?_eq_getElem hi]
      · rw [List.getElem?_eq_none_iff.mpr (by simpa using hi), List.getElem?_eq_none_iff.mpr (by simpa using hi)]; rfl
    rw [se, enm_range]
    refine .inl ⟨by simp; exact z61 _ (by omega), ?_⟩
    simp [blkSt, borS]
    rw [← List.map_map (g := fun p : D × D => D.tup [p.1, p.2])]
    refine comp_map2 (f := signD x) _ none none _ (fun p hp Q' q => ?_) ?_
    · obtain ⟨b, hb, rfl⟩ := List.mem_map.mp hp
      have hb := List.mem_range.mp hb
      simp [a1]
      simp [signD] at q
      by_cases hi : inStr ⟨#[L[b]?.getD 0]⟩ x = true
      · simp [hi] at q ⊢
        exact ⟨⟨by omega, by omega, by decide⟩, q⟩
      · simp [hi] at q ⊢
        exact q
    · simp
      refine ⟨z61 _ (by omega), ?_⟩
      unfold tabD
      rw [List.range_succ, List.map_append]
      congr 1
      · refine List.map_congr_left fun b hb => ?_
        have hb := List.mem_range.mp hb
        have := tab_sign L x (b := b) (c := L[b]) (List.getElem?_eq_getElem hb)
        simpa [List.getElem?_eq_getElem hb] using this
      · simp [tab_sign_end]
  | not a =>
    have ha : a ∈ shs := hk a (by simp [Sh.kids])
    simp [w_row_ends, rowD, rowK, kD, a0, a1, tabs_at L ha]
    exact ⟨_, ⟨L, a, hL, rfl, rfl⟩, by simp⟩
  | many a =>
    have ha : a ∈ shs := hk a (by simp [Sh.kids])
    simp [w_row_ends, rowD, rowK, kD, a0, a1, tabs_at L ha]
    exact ⟨_, ⟨L, a, hL, rfl, rfl⟩, by simp⟩
  | thn a c =>
    have ha : a ∈ shs := hk a (by simp [Sh.kids])
    have hc : c ∈ shs := hk c (by simp [Sh.kids])
    simp [w_row_ends, rowD, rowK, kD, a0, a1, a2, tabs_at L ha, tabs_at L hc]
    refine ⟨zl a, ?_⟩
    simp [blkSt, borS]
    let g : D → D := fun d => match d with
      | .int m => .int ((mk (reachB (fun i => m.toNat.testBit i) (fun i => pf L c i) (L.length + 1)) (L.length + 1) : Nat) : Int)
      | d => d
    refine comp_map (f := g) _ _ _ (fun d hd Q' q => ?_) ?_
    · obtain ⟨b, hb, rfl⟩ := List.mem_map.mp hd
      simp [tabI]
      refine ⟨_, ⟨pf L a b, L.length + 1, tabD L c, fun i => pf L c i, .st (.lst (tabD L c)), rfl, ⟨rfl, rfl⟩, rfl, by omega, fun i hi _ => tab_get L c hi, rfl⟩, ?_⟩
      have e : mk (reachB (fun i => (mk (pf L a b) (L.length + 1)).testBit i) (fun i => pf L c i) (L.length + 1)) (L.length + 1) = mk (reachB (pf L a b) (fun i => pf L c i) (L.length + 1)) (L.length + 1) := mk_congr fun j _ => by
        unfold reachB
        refine any_congr fun i hi => ?_
        simp only [testBit_mk]
        simp [List.mem_range.mp hi]
      simp only [g, tabI, Int.toNat_natCast, e] at q
      exact q
    · unfold tabD
      rw [List.map_map]
      refine List.map_congr_left fun b hb => ?_
      simp only [Function.comp_apply, tabI, g, Int.toNat_natCast]
      congr 2
      refine mk_congr fun j hj => ?_
      rw [← thn_bits L a c hj]
      unfold reachB
      refine any_congr fun i hi => ?_
      simp only [testBit_mk]
      simp [List.mem_range.mp hi]
  | or a c =>
    have ha : a ∈ shs := hk a (by simp [Sh.kids])
    have hc : c ∈ shs := hk c (by simp [Sh.kids])
    simp [w_row_ends, rowD, rowK, kD, a0, a1, a2, tabs_at L ha, tabs_at L hc]
    refine ⟨_, _, ⟨rfl, rfl⟩, _, rfl, _, rfl, ?_⟩
    have ez : zipD (tabD L a) (tabD L c) = _ := zip_range _ _ _
    rw [ez]
    refine ⟨by simp; exact z61 _ (by omega), ?_⟩
    simp [blkSt, borS]
    rw [← List.map_map (g := fun p : D × D => D.tup [p.1, p.2])]
    refine comp_map2 (f := binD Builtin.bitOr) _ none none _ (fun p hp Q' q => ?_) ?_
    · obtain ⟨b, hb, rfl⟩ := List.mem_map.mp hp
      simp [tabI]
      simpa [tabI, binD] using q
    · rw [List.map_map]
      exact List.map_congr_left fun b hb => tab_or L a c b
  | and a c =>
    have ha : a ∈ shs := hk a (by simp [Sh.kids])
    have hc : c ∈ shs := hk c (by simp [Sh.kids])
    simp [w_row_ends, rowD, rowK, kD, a0, a1, a2, tabs_at L ha, tabs_at L hc]
    refine ⟨_, _, ⟨rfl, rfl⟩, _, rfl, _, rfl, ?_⟩
    have ez : zipD (tabD L a) (tabD L c) = _ := zip_range _ _ _
    rw [ez]
    refine ⟨by simp; exact z61 _ (by omega), ?_⟩
    simp [blkSt, borS]
    rw [← List.map_map (g := fun p : D × D => D.tup [p.1, p.2])]
    refine comp_map2 (f := binD Builtin.bitAnd) _ none none _ (fun p hp Q' q => ?_) ?_
    · obtain ⟨b, hb, rfl⟩ := List.mem_map.mp hp
      simp [tabI]
      simpa [tabI, binD] using q
    · rw [List.map_map]
      exact List.map_congr_left fun b hb => tab_and L a c b
end K06
end
section
set_option maxRecDepth 100000
set_option maxHeartbeats 4000000
namespace K06
open PySem PySem.Spec PyProof.Rows L2 TK
theorem lk_none : lkp innerKV (Str.ofString "none") = some 0 := by decide +kernel
theorem lk_empty : lkp innerKV (Str.ofString "empty") = some 0 := by decide +kernel
theorem lk_signs : lkp innerKV (Str.ofString "signs") = some 0 := by decide +kernel
theorem lk_then : lkp innerKV (Str.ofString "then") = some 2 := by decide +kernel
theorem lk_or : lkp innerKV (Str.ofString "or") = some 2 := by decide +kernel
theorem lk_and : lkp innerKV (Str.ofString "and") = some 2 := by decide +kernel
theorem lk_not : lkp innerKV (Str.ofString "not") = some 1 := by decide +kernel
theorem lk_many : lkp innerKV (Str.ofString "many") = some 1 := by decide +kernel
theorem at0 {x : D} {r : List D} : atI (x :: r) 0 = some x := by simp [atI, ixN]
theorem cut1 {x : D} {r : List D} : cutL (x :: r) (some 1) none = r := by simp [cutL, HT.sIx]
def kidsD (s : Sh) : List D := s.kids.map Sh.toD
def sp_inner : DSp := fun rs r => ∃ s : Sh, rs = [.st s.toD] ∧ r = .nw (kidsD s)
theorem rd_inner : ∀ rs r, rs.length = 1 → sp_inner rs r → w_inner_shapes (Ends1 r) (startD N_inner_shapes rs) := by
  rintro rs r _ ⟨s, rfl, rfl⟩
  cases s <;> simp [w_inner_shapes, Sh.toD, at0, cut1, kidsD, Sh.kids, lk_none, lk_empty, lk_signs, lk_then, lk_or, lk_and, lk_not, lk_many]
def rwT : WT := wTru (wV 5)
def insW : WS := (wSeq (wIfS (wDNotIn 3 (wV 10)) (wSeq (wDPut 3 (wV 10) (wCB lenD (wCons (wV 2) wNil))) (wAppend 2 (wFz (wV 10)))) wNext) (wAppend 4 (wFz (wDGet 3 (wV 10)))))
def rwB (ai : Addr) : WS := (wSeq (wPop 5 (gTp 2 (gCn (gNm 6) (gCn (gNm 7) gNl)))) (wSeq (wSet 8 (wCallL 1 ai sp_inner (wCons (wV 6) wNil))) (wSeq (wIfS (wAnd (wTru (wV 8)) (wNot (wTru (wV 7)))) (wSeq (wAppend 5 (wFz (wTup (wCons (wFz (wV 6)) (wCons (wFz (wC (.bl true))) wNil))))) (wSeq (wExtend 5 (wComp 1 [] (jRevL (wCons (wV 8) wNil)) (gNm 0) tYes (wFz (wTup (wCons (wFz (wV 0)) (wCons (wFz (wC (.bl false))) wNil)))))) wCnt)) wNext) (wSeq (wSet 9 (wOp (intD NoC fun i j => i - j) (wCB lenD (wCons (wV 4) wNil)) (wCB lenD (wCons (wV 8) wNil)))) (wSeq (wSet 10 (wOp addD (wOp addD (wSl (wV 6) oNone (oSome (wC (.int 1)))) (wCB tupleD (wCons (wSl (wV 4) (oSome (wV 9)) oNone) wNil))) (wSl (wV 6) (oSome (wOp addD (wC (.int 1)) (wCB lenD (wCons (wV 8) wNil)))) oNone))) (wSeq (wDelFrom 4 (wV 9)) insW))))))
def pr (s : Sh) (b : Bool) : D := .tup [s.toD, .bl b]
def stR (ai : Addr) (d0 : D) (shs : List Sh) (fin wait : List D) (o5 o6 o7 o9 o8 : Option Sl) : DSt := [some (.dat d0), some (.ob ai), some (.own (rowsL shs)), some (.dt (kvL shs)), some (.own fin), some (.own wait), o5, o6, o7, o9, o8]
theorem intern {ai : Addr} {d0 : D} {shs : List Sh} (hc : Clo shs) {s : Sh} (hs : okK shs s) {fin wait : List D} {o5 o6 o7 o9 : Option Sl} {E : DEnds} (h1 : shs.length ≤ 1000) (h2 : fin.length ≤ 1000)
    (h : ∀ o8, E.nx (stR ai d0 (ins shs s) (fin ++ [.int ((ins shs s).idxOf s : Int)]) wait o5 o6 o7 o9 o8)) :
    insW E [some (.dat d0), some (.ob ai), some (.own (rowsL shs)), some (.dt (kvL shs)), some (.own fin), some (.own wait), o5, o6, o7, o9, some (.dat (rowD shs s))] := by
  have z1 : (rowsL shs).length < sizeLine := Nat.lt_of_lt_of_le (show (rowsL shs).length < 1001 by simp [rowsL]; omega) (by decide)
  have z2 : fin.length < sizeLine := Nat.lt_of_lt_of_le (show fin.length < 1001 by omega) (by decide)
  have z3 : (kvL shs).length < sizeLine := Nat.lt_of_lt_of_le (show (kvL shs).length < 1001 by rw [kvL, kvA_len]; omega) (by decide)
  have hk : keysD ((rowK shs s).map kD) = some (rowK shs s) := keysD_map _
  have hv := kvL_val hc hs
  have hl : ((rowsL shs).length : Int) = (shs.length : Int) := by simp [rowsL]
  simp only [insW, s_seq, s_ifS, s_dnotin, s_var]
  refine ⟨_, rfl, _, rfl, _, _, rfl, hk, ?_⟩
  by_cases hm : s ∈ shs
  · rw [if_pos hm] at hv
    rw [hv]
    have e : ins shs s = shs := by unfold ins; rw [if_pos hm]
    rw [e] at h
    simp [rowD, hk, hv, z2]
    exact h _
  · rw [if_neg hm] at hv
    rw [hv]
    have e : ins shs s = shs ++ [s] := by unfold ins; rw [if_neg hm]
    rw [e] at h
    have hv2 := kvL_val (hc.app hs) (x := s) (okK_sub hs)
    rw [rowK_app hs, if_pos (by simp)] at hv2
    simp [rowD, hk, hl, z3, kvL_put hc hs hm, z1, hv2, z2]
    have := h (some (.dat (rowD shs s)))
    unfold stR at this
    rw [rowsL_app hc hs] at this
    exact this
end K06
end
section
set_option maxRecDepth 100000
set_option maxHeartbeats 4000000
namespace K06
open PySem PySem.Spec PyProof.Rows L2 TK
theorem cut01 {x : D} {r : List D} : cutL (x :: r) none (some 1) = [x] := by
  have : min 1 (r.length + 1) = 1 := by omega
  simp [cutL, HT.sIx, this]
theorem cut_at {α : Type} (l m : List α) : cutL (l ++ m) (some (l.length : Int)) none = m := by
  unfold cutL
  rw [HT.sIx_nat, HT.sIx_none]
  simp
theorem cut_end {α : Type} (l : List α) : cutL l (some (l.length : Int)) none = [] := by
  unfold cutL
  rw [HT.sIx_nat, HT.sIx_none]
  simp
theorem leaf_step {ai : Addr} {d0 : D} {shs : List Sh} (hc : Clo shs) {s : Sh} (hk : s.kids = []) {fin wait : List D} {o5 o6 o7 o9 o8 : Option Sl} {E : DEnds} {n : Nat} (h1 : shs.length ≤ 1000) (h2 : fin.length ≤ 1000)
    (h : ∀ o5 o6 o7 o9 o8, whileN rwT (rwB ai) n E (stR ai d0 (ins shs s) (fin ++ [.int ((ins shs s).idxOf s : Int)]) wait o5 o6 o7 o9 o8)) :
    whileN rwT (rwB ai) (n + 1) E (stR ai d0 shs fin (wait ++ [pr s false]) o5 o6 o7 o9 o8) := by
  have z : ∀ m : Nat, m ≤ 2000 → m ≤ sizeLine := fun m h => Nat.le_trans h (by decide)
  have kd : kidsD s = [] := by simp [kidsD, hk]
  have hr : s.toD = rowD shs s := by cases s <;> first | rfl | (simp [Sh.kids] at hk)
  rw [whileN]
  simp only [rwT, s_tru, s_var, stR]
  refine ⟨_, rfl, ?_⟩
  simp only [rwB, s_seq, s_pop]
  simp
  refine ⟨wait, _, ⟨rfl, rfl⟩, ?_⟩
  simp [pr]
  refine ⟨_, ⟨s, rfl, rfl⟩, ?_⟩
  simp [kd]
  have hd : ∃ x r, s.toD = .tup (x :: r) ∧ r.length ≤ 1 := by cases s <;> first | exact ⟨_, _, rfl, Nat.le_refl _⟩ | exact ⟨_, _, rfl, Nat.zero_le _⟩ | (simp [Sh.kids] at hk)
  obtain ⟨x, r, e1, e3⟩ := hd
  rw [e1]
  have c0 : cutL fin (some (fin.length : Int)) none = [] := by
    unfold cutL; rw [HT.sIx_nat]; simp
  simp [cut01, c0, cut1, z]
  rw [e1] at hr
  refine ⟨z _ (by omega), ?_⟩
  rw [hr]
  refine ⟨fin.length, rfl, Nat.le_refl _, ?_⟩
  rw [List.take_length]
  exact intern hc (s := s) (fun c hc => by rw [hk] at hc; cases hc) h1 h2 fun o8 => h _ _ _ _ o8
theorem open_step {ai : Addr} {d0 : D} {shs : List Sh} {s : Sh} (hk : s.kids ≠ []) {fin wait : List D} {o5 o6 o7 o9 o8 : Option Sl} {E : DEnds} {n : Nat} (h2 : wait.length ≤ 1000) (h3 : s.kids.length ≤ 2)
    (h : ∀ o5 o6 o7 o9 o8, whileN rwT (rwB ai) n E (stR ai d0 shs fin (wait ++ pr s true :: s.kids.reverse.map fun c => pr c false) o5 o6 o7 o9 o8)) :
    whileN rwT (rwB ai) (n + 1) E (stR ai d0 shs fin (wait ++ [pr s false]) o5 o6 o7 o9 o8) := by
  have z : ∀ m : Nat, m ≤ 2000 → m ≤ sizeLine := fun m h => Nat.le_trans h (by decide)
  have kd : (kidsD s).isEmpty = false := by
    cases hq : s.kids with
    | nil => exact absurd hq hk
    | cons a r => simp [kidsD, hq]
  have kl : (kidsD s).length ≤ 2 := by simpa [kidsD] using h3
  rw [whileN]
  simp only [rwT, s_tru, s_var, stR]
  refine ⟨_, rfl, ?_⟩
  simp only [rwB, s_seq, s_pop]
  simp
  refine ⟨wait, _, ⟨rfl, rfl⟩, ?_⟩
  simp [pr]
  refine ⟨_, ⟨s, rfl, rfl⟩, ?_⟩
  simp [kd, z]
  refine ⟨Nat.lt_of_lt_of_le (show wait.length < 1001 by omega) (by decide), z _ (by omega), ?_⟩
  simp [blkSt, borS]
  refine comp_map (f := fun d => .tup [d, .bl false]) _ _ _ (fun d hd Q' q => ?_) ?_
  · simp [z]
    exact q
  · refine ⟨z _ (by simp; omega), ?_⟩
    have := h (some (.dat s.toD)) (some (.dat (.bl false))) (some (.own (kidsD s))) o9 o8
    unfold stR at this
    simp [kidsD, pr, List.map_reverse, Function.comp_def] at this ⊢
    exact this
theorem close_step {ai : Addr} {d0 : D} {shs : List Sh} (hc : Clo shs) {s : Sh} (hk : s.kids ≠ []) (hs : okK shs s) {fin wait : List D} {o5 o6 o7 o9 o8 : Option Sl} {E : DEnds} {n : Nat} (h1 : shs.length ≤ 1000) (h2 : fin.length ≤ 1000)
    (h : ∀ o5 o6 o7 o9 o8, whileN rwT (rwB ai) n E (stR ai d0 (ins shs s) (fin ++ [.int ((ins shs s).idxOf s : Int)]) wait o5 o6 o7 o9 o8)) :
    whileN rwT (rwB ai) (n + 1) E (stR ai d0 shs (fin ++ s.kids.map fun c => .int (shs.idxOf c : Int)) (wait ++ [pr s true]) o5 o6 o7 o9 o8) := by
  have z : ∀ m : Nat, m ≤ 2000 → m ≤ sizeLine := fun m h => Nat.le_trans h (by decide)
  have kd : (kidsD s).isEmpty = false := by
    cases hq : s.kids with
    | nil => exact absurd hq hk
    | cons a r => simp [kidsD, hq]
  have hd : ∃ w r, s.toD = .tup (.str w :: r) ∧ rowD shs s = .tup (.str w :: s.kids.map fun c => .int (shs.idxOf c : Int)) := by
    cases s <;> first | exact ⟨_, _, rfl, rfl⟩ | exact absurd rfl hk
  obtain ⟨w, r, e1, e2⟩ := hd
  have kl : (kidsD s).length = (s.kids.map fun c => D.int (shs.idxOf c : Int)).length := by simp [kidsD]
  have kp : 0 < s.kids.length := List.length_pos_iff.mpr hk
  have k2 : s.kids.length ≤ 2 := by cases s <;> simp [Sh.kids]
  rw [whileN]
  simp only [rwT, s_tru, s_var, stR]
  refine ⟨_, rfl, ?_⟩
  simp only [rwB, s_seq, s_pop]
  simp
  refine ⟨wait, _, ⟨rfl, rfl⟩, ?_⟩
  simp [pr]
  refine ⟨_, ⟨s, rfl, rfl⟩, ?_⟩
  simp [kd]
  rw [e1]
  have kl2 : r.length = s.kids.length := by cases s <;> first | (cases e1; rfl) | exact absurd rfl hk
  have f1 : (fin.length : Int) + (s.kids.length : Int) - ((kidsD s).length : Int) = (fin.length : Int) := by simp [kidsD]
  have f2 : (1 : Int) + ((kidsD s).length : Int) = ((D.str w :: r).length : Int) := by simp [kidsD, kl2]; omega
  have f3 : ((D.str w :: r).length : Int) = (r.length : Int) + 1 := rfl
  have ce : cutL (D.str w :: r) (some ((D.str w :: r).length : Int)) none = [] := cut_end _
  rw [f3] at ce f2
  simp [f1, f2, ce, cut01, cut_at, z]
  refine ⟨z _ (by omega), ?_⟩
  rw [← e2]
  refine ⟨z _ (by omega), fin.length, rfl, by omega, ?_⟩
  rw [List.take_left]
  exact intern hc hs h1 h2 fun o8 => h _ _ _ _ o8
def itS : Sh → Nat
  | .thn a b => itS a + itS b + 2 | .or a b => itS a + itS b + 2 | .and a b => itS a + itS b + 2 | .not a => itS a + 2 | .many a => itS a + 2 | _ => 1
theorem two_run {ai : Addr} {d0 : D} {E : DEnds} {a b s : Sh} (hk : s.kids = [a, b]) (hz : s.size = a.size + b.size + 1)
    (iha : ∀ (shs : List Sh) (fin wait : List D) (n : Nat), Clo shs → shs.length + a.size ≤ 900 → fin.length + a.size ≤ 900 → wait.length + 3 * a.size ≤ 900 → (∀ o5 o6 o7 o9 o8, whileN rwT (rwB ai) n E (stR ai d0 (addS a shs) (fin ++ [.int ((addS a shs).idxOf a : Int)]) wait o5 o6 o7 o9 o8)) →
      ∀ o5 o6 o7 o9 o8, whileN rwT (rwB ai) (n + itS a) E (stR ai d0 shs fin (wait ++ [pr a false]) o5 o6 o7 o9 o8))
    (ihb : ∀ (shs : List Sh) (fin wait : List D) (n : Nat), Clo shs → shs.length + b.size ≤ 900 → fin.length + b.size ≤ 900 → wait.length + 3 * b.size ≤ 900 → (∀ o5 o6 o7 o9 o8, whileN rwT (rwB ai) n E (stR ai d0 (addS b shs) (fin ++ [.int ((addS b shs).idxOf b : Int)]) wait o5 o6 o7 o9 o8)) →
      ∀ o5 o6 o7 o9 o8, whileN rwT (rwB ai) (n + itS b) E (stR ai d0 shs fin (wait ++ [pr b false]) o5 o6 o7 o9 o8))
    (shs : List Sh) (fin wait : List D) (n : Nat) (hc : Clo shs) (h1 : shs.length + s.size ≤ 900) (h2 : fin.length + s.size ≤ 900) (h3 : wait.length + 3 * s.size ≤ 900)
    (h : ∀ o5 o6 o7 o9 o8, whileN rwT (rwB ai) n E (stR ai d0 (ins (addS b (addS a shs)) s) (fin ++ [.int ((ins (addS b (addS a shs)) s).idxOf s : Int)]) wait o5 o6 o7 o9 o8)) (o5 o6 o7 o9 o8 : Option Sl) :
    whileN rwT (rwB ai) (n + (itS a + itS b + 2)) E (stR ai d0 shs fin (wait ++ [pr s false]) o5 o6 o7 o9 o8) := by
  have pa := add_ok a shs
  have pb := add_ok b (addS a shs)
  have pz := a.size_pos
  have pz2 := b.size_pos
  have la := pa.len
  have lb := pb.len
  have ok : okK (addS b (addS a shs)) s := by
    intro c hcc
    rw [hk] at hcc
    simp only [List.mem_cons, List.not_mem_nil, or_false] at hcc
    rcases hcc with rfl | rfl
    · obtain ⟨m, e⟩ := pb.sub
      rw [e]; exact List.mem_append_left _ pa.mem
    · exact pb.mem
  have ia : (addS b (addS a shs)).idxOf a = (addS a shs).idxOf a := by
    obtain ⟨m, e⟩ := pb.sub
    rw [e]; exact idx_app pa.mem
  rw [show n + (itS a + itS b + 2) = ((n + 1) + itS b) + itS a + 1 by omega]
  refine open_step (by rw [hk]; simp) (by omega) (by rw [hk]; simp) fun o5 o6 o7 o9 o8 => ?_
  rw [hk]
  have e : wait ++ pr s true :: ([a, b].reverse.map fun c => pr c false) = (wait ++ [pr s true] ++ [pr b false]) ++ [pr a false] := by simp
  rw [e]
  refine iha shs fin _ _ hc (by omega) (by omega) (by simp; omega) (fun o5 o6 o7 o9 o8 => ?_) _ _ _ _ _
  refine ihb _ _ _ _ (pa.clo hc) (by omega) (by simp; omega) (by simp; omega) (fun o5 o6 o7 o9 o8 => ?_) _ _ _ _ _
  have e2 : fin ++ [D.int ((addS a shs).idxOf a : Int)] ++ [D.int ((addS b (addS a shs)).idxOf b : Int)] = fin ++ s.kids.map fun c => .int ((addS b (addS a shs)).idxOf c : Int) := by
    rw [hk]; simp [ia]
  rw [e2]
  exact close_step (pb.clo (pa.clo hc)) (by rw [hk]; simp) ok (by omega) (by omega) h
theorem one_run {ai : Addr} {d0 : D} {E : DEnds} {a s : Sh} (hk : s.kids = [a]) (hz : s.size = a.size + 1)
    (iha : ∀ (shs : List Sh) (fin wait : List D) (n : Nat), Clo shs → shs.length + a.size ≤ 900 → fin.length + a.size ≤ 900 → wait.length + 3 * a.size ≤ 900 → (∀ o5 o6 o7 o9 o8, whileN rwT (rwB ai) n E (stR ai d0 (addS a shs) (fin ++ [.int ((addS a shs).idxOf a : Int)]) wait o5 o6 o7 o9 o8)) →
      ∀ o5 o6 o7 o9 o8, whileN rwT (rwB ai) (n + itS a) E (stR ai d0 shs fin (wait ++ [pr a false]) o5 o6 o7 o9 o8))
    (shs : List Sh) (fin wait : List D) (n : Nat) (hc : Clo shs) (h1 : shs.length + s.size ≤ 900) (h2 : fin.length + s.size ≤ 900) (h3 : wait.length + 3 * s.size ≤ 900)
    (h : ∀ o5 o6 o7 o9 o8, whileN rwT (rwB ai) n E (stR ai d0 (ins (addS a shs) s) (fin ++ [.int ((ins (addS a shs) s).idxOf s : Int)]) wait o5 o6 o7 o9 o8)) (o5 o6 o7 o9 o8 : Option Sl) :
    whileN rwT (rwB ai) (n + (itS a + 2)) E (stR ai d0 shs fin (wait ++ [pr s false]) o5 o6 o7 o9 o8) := by
  have pa := add_ok a shs
  have pz := a.size_pos
  have la := pa.len
  have ok : okK (addS a shs) s := by
    intro c hcc
    rw [hk] at hcc
    rw [List.mem_singleton.mp hcc]
    exact pa.mem
  rw [show n + (itS a + 2) = (n + 1) + itS a + 1 by omega]
  refine open_step (by rw [hk]; simp) (by omega) (by rw [hk]; simp) fun o5 o6 o7 o9 o8 => ?_
  rw [hk]
  have e : wait ++ pr s true :: ([a].reverse.map fun c => pr c false) = (wait ++ [pr s true]) ++ [pr a false] := by simp
  rw [e]
  refine iha shs fin _ _ hc (by omega) (by omega) (by simp; omega) (fun o5 o6 o7 o9 o8 => ?_) _ _ _ _ _
  have e2 : fin ++ [D.int ((addS a shs).idxOf a : Int)] = fin ++ s.kids.map fun c => .int ((addS a shs).idxOf c : Int) := by
    rw [hk]; simp
  rw [e2]
  exact close_step (pa.clo hc) (by rw [hk]; simp) ok (by omega) (by omega) h
theorem rows_run {ai : Addr} {d0 : D} {E : DEnds} : ∀ (s : Sh) (shs : List Sh) (fin wait : List D) (n : Nat), Clo shs → shs.length + s.size ≤ 900 → fin.length + s.size ≤ 900 → wait.length + 3 * s.size ≤ 900 →
    (∀ o5 o6 o7 o9 o8, whileN rwT (rwB ai) n E (stR ai d0 (addS s shs) (fin ++ [.int ((addS s shs).idxOf s : Int)]) wait o5 o6 o7 o9 o8)) →
    ∀ o5 o6 o7 o9 o8, whileN rwT (rwB ai) (n + itS s) E (stR ai d0 shs fin (wait ++ [pr s false]) o5 o6 o7 o9 o8)
  | .thn a b => two_run rfl rfl (rows_run a) (rows_run b)
  | .or a b => two_run rfl rfl (rows_run a) (rows_run b)
  | .and a b => two_run rfl rfl (rows_run a) (rows_run b)
  | .not a => one_run rfl rfl (rows_run a)
  | .many a => one_run rfl rfl (rows_run a)
  | .none => fun shs fin wait n hc h1 h2 h3 h o5 o6 o7 o9 o8 => leaf_step hc rfl (by omega) (by omega) h
  | .empty => fun shs fin wait n hc h1 h2 h3 h o5 o6 o7 o9 o8 => leaf_step hc rfl (by omega) (by omega) h
  | .signs _ => fun shs fin wait n hc h1 h2 h3 h o5 o6 o7 o9 o8 => leaf_step hc rfl (by omega) (by omega) h
def sp_rows_by (ai : Addr) : DSp := fun rs r => ∃ s : Sh, s.size ≤ 100 ∧ rs = [.st s.toD, .ob ai] ∧ r = .nw (rowsL (addS s []))
theorem rd_rows_by (ai : Addr) : ∀ rs r, rs.length = 2 → sp_rows_by ai rs r → w_rows_by ai sp_inner (Ends1 r) (startD N_rows_by rs) := by
  rintro rs r _ ⟨s, hz, rfl, rfl⟩
  have z : ∀ m : Nat, m ≤ 2000 → m ≤ sizeLine := fun m h => Nat.le_trans h (by decide)
  simp [w_rows_by, z]
  refine ⟨1 + itS s, ?_⟩
  refine rows_run (d0 := s.toD) s [] [] [] 1 Clo.nil (by simp; omega) (by simp; omega) (by simp; omega) (fun o5 o6 o7 o9 o8 => ?_) none none none none none
  simp [whileN, rwT, stR]
def sp_rows : DSp := fun rs r => ∃ s : Sh, s.size ≤ 100 ∧ rs = [.st s.toD] ∧ r = .nw (rowsL (addS s []))
theorem rd_rows (ai : Addr) : ∀ rs r, rs.length = 1 → sp_rows rs r → w_rows_of ai (sp_rows_by ai) (Ends1 r) (startD N_rows_of rs) := by
  rintro rs r _ ⟨s, hz, rfl, rfl⟩
  simp [w_rows_of]
  exact ⟨_, ⟨s, hz, rfl, rfl⟩, rfl⟩
end K06
end
section
set_option maxRecDepth 100000
set_option maxHeartbeats 4000000
namespace K06
open PySem PySem.Spec PyProof.Rows L2 TK
theorem at_last {α : Type} (ds : List α) (x : α) : atI (ds ++ [x]) (-1) = some x := by
  have hl : (ds ++ [x]).length = ds.length + 1 := by simp
  have e : ixN (ds ++ [x]).length (-1) = some ds.length := by
    unfold ixN
    rw [if_neg (by decide), hl]
    rw [if_pos (by omega)]
    congr 1
    omega
  unfold atI
  rw [e]
  simp
theorem ends_loop {L : List Nat} (hL : okL L) {t : Str} (ht : t.cps.toList = L) {o0 : Option Sl} {E : DEnds} : ∀ (post pre : List Sh) (o3 : Option Sl), Clo (pre ++ post) → pre.length + post.length ≤ 900 →
    (∀ o3, E.nx [o0, some (.dat (.str t)), some (.own (tabsD L (pre ++ post))), o3]) →
    forW (gNm 3) (wAppend 2 (wFz (wCall sp_row_ends (wCons (wV 3) (wCons (wV 2) (wCons (wV 1) wNil)))))) E (post.map (rowD (pre ++ post))) [o0, some (.dat (.str t)), some (.own (tabsD L pre)), o3]
  | [], pre, o3, hc, hz, h => by simpa [forW] using h o3
  | s :: post, pre, o3, hc, hz, h => by
    have ok : okK pre s := by
      have := hc pre.length s (by simp)
      rwa [List.take_left] at this
    have er : rowD (pre ++ s :: post) s = rowD pre s := by unfold rowD; rw [rowK_app ok]
    have z : (tabsD L pre).length < sizeLine := Nat.lt_of_lt_of_le (show (tabsD L pre).length < 901 by simp [tabsD]; simp at hz; omega) (by decide)
    simp only [List.map_cons, forW, er]
    simp
    refine ⟨_, ⟨L, t, pre, s, hL, ht, ok, rfl, rfl⟩, ?_⟩
    simp
    refine ⟨z, ?_⟩
    have e1 : pre ++ s :: post = (pre ++ [s]) ++ post := by simp
    have e2 : tabsD L pre ++ [D.lst (tabD L s)] = tabsD L (pre ++ [s]) := by simp [tabsD]
    rw [e1, e2]
    refine ends_loop hL ht post (pre ++ [s]) _ (by rw [← e1]; exact hc) (by simp at hz ⊢; omega) fun o3 => ?_
    rw [← e1]
    exact h o3
def sp_ends : DSp := fun rs r => ∃ s L t, okL L ∧ t.cps.toList = L ∧ s.size ≤ 100 ∧ rs = [.st (Sh.toD s), .st (.str t)] ∧ r = .st (.lst (tabD L s))
theorem rd_ends : ∀ rs r, rs.length = 2 → sp_ends rs r → w_ends_of sp_rows sp_row_ends (Ends1 r) (startD N_ends_of rs) := by
  rintro rs r _ ⟨s, L, t, hL, ht, hz, rfl, rfl⟩
  have ok := add_ok s []
  have hl := ok.len
  simp [w_ends_of]
  refine ⟨_, ⟨s, hz, rfl, rfl⟩, ?_⟩
  simp
  have el := ends_loop hL ht (o0 := some (.dat s.toD)) (E := { nx := wRet (wOp ixD (wV 2) (wNeg (wC (.int 1)))) (Ends1 (.st (.lst (tabD L s)))), rt := (Ends1 (.st (.lst (tabD L s)))).rt, bk := (Ends1 (.st (.lst (tabD L s)))).bk, ct := (Ends1 (.st (.lst (tabD L s)))).ct }) (addS s []) [] none (ok.clo Clo.nil) (by simp at hl ⊢; omega) fun o3 => by
    obtain ⟨m, e⟩ := add_last s
    simp [e, tabsD, at_last]
  exact el
end K06
end
section
set_option maxRecDepth 100000
set_option maxHeartbeats 4000000
namespace K06
open PySem PySem.Spec PyProof.Rows L2 TK
def mu (s : Sh) (n : Nat) : Nat := s.high * 8 + n
def sp_lf (k : Nat) : DSp := fun rs r => ∃ L s b e t, okL L ∧ b ≤ e ∧ e ≤ L.length ∧ e - b ≤ 7 ∧ t.cps.toList = sub L b e ∧ mu s (e - b) < k ∧ rs = [.st (Sh.toD s), .st (.str t)] ∧ r = .st (.bl (fitP L s b e))
theorem at1 {x y : D} {r : List D} : atI (x :: y :: r) 1 = some y := by
  have h : (1 : Int) < (r.length : Int) + 1 + 1 := by omega
  simp [atI, ixN, h]
theorem at2 {x y z : D} : atI [x, y, z] 2 = some z := rfl
def lfB (sp : DSp) : WS := (wSeq (wSet 4 (wOp ixD (wLst (wCons (wFz (wV 0)) (wCons (wFz (wOp ixD (wV 0) (wNeg (wC (.int 1))))) wNil))) (wCB intOfD (wCons (wB (wOp (eqD 60 false) (wV 2) (wC (.str "then")))) wNil)))) (wIfS (wAnd (wTru (wCall sp (wCons (wOp ixD (wV 0) (wC (.int 1))) (wCons (wSl (wV 1) oNone (oSome (wV 3))) wNil)))) (wTru (wCall sp (wCons (wV 4) (wCons (wSl (wV 1) (oSome (wV 3)) oNone) wNil))))) (wRet (wC (.bl true))) wNext))
theorem lf_step {K : Nat} {L : List Nat} (hL : okL L) {t : Str} {b e k : Nat} (hb : b ≤ e) (he : e ≤ L.length) (h7 : e - b ≤ 7) (ht : t.cps.toList = sub L b e) (hk : k ≤ e - b) {s a c : Sh} {w : Str} {r : List D}
    (hd : s.toD = .tup (.str w :: a.toD :: r)) (hbh : ∃ x, atI (D.str w :: a.toD :: r) (-1) = some x ∧ (if w == Str.ofString "then" then x else s.toD) = c.toD)
    (m1 : mu a k < K) (m2 : mu c (e - (b + k)) < K) {o4 : Option Sl} {E : DEnds}
    (h1 : (fitP L a b (b + k) && fitP L c (b + k) e) = true → E.rt (.st (.bl true)))
    (h2 : (fitP L a b (b + k) && fitP L c (b + k) e) = false → ∀ o4, E.nx [some (.dat s.toD), some (.dat (.str t)), some (.dat (.str w)), some (.dat (.int (k : Int))), o4]) :
    lfB (sp_lf K) E [some (.dat s.toD), some (.dat (.str t)), some (.dat (.str w)), some (.dat (.int (k : Int))), o4] := by
  have tl : t.length = e - b := by
    have := congrArg List.length ht
    rw [sub_len hb he] at this
    simpa [Str.length] using this
  have zt : t.length ≤ sizeLine := by rw [tl]; exact Nat.le_trans h7 (by decide)
  have z2 : (2 : Nat) ≤ sizeLine := by decide
  obtain ⟨x, hx, hc⟩ := hbh
  rw [hd]
  simp [lfB, hx, z2]
  have pick : atI [D.tup (.str w :: a.toD :: r), x] (if w = Str.ofString "then" then 1 else 0) = some c.toD := by
    by_cases hw : w = Str.ofString "then"
    · rw [if_pos hw]
      rw [if_pos (by simp [hw])] at hc
      rw [← hc]; rfl
    · rw [if_neg hw]
      rw [if_neg (by simpa using hw)] at hc
      rw [← hc, ← hd]; rfl
  refine ⟨_, pick, ?_⟩
  simp [at1, zt]
  refine ⟨_, ⟨L, a, b, b + k, _, hL, by omega, by omega, by omega, by rw [slice_to (by omega), ht, sub_take hk], by rw [Nat.add_sub_cancel_left]; exact m1, rfl, rfl⟩, ?_⟩
  simp
  by_cases f1 : fitP L a b (b + k) = true
  · simp [f1]
    refine ⟨_, ⟨L, c, b + k, e, _, hL, by omega, he, by omega, by rw [slice_from (by omega), ht, sub_drop hk], m2, rfl, rfl⟩, ?_⟩
    simp
    by_cases f2 : fitP L c (b + k) e = true
    · simp [f2]; exact h1 (by rw [f1, f2]; rfl)
    · simp [f2]
      have := h2 (by simp [f2]) (some (.dat c.toD))
      rw [hd] at this
      exact this
  · simp [f1]
    have := h2 (by simp [f1]) (some (.dat c.toD))
    rw [hd] at this
    exact this
theorem lf_loop {K : Nat} {L : List Nat} (hL : okL L) {t : Str} {b e : Nat} (hb : b ≤ e) (he : e ≤ L.length) (h7 : e - b ≤ 7) (ht : t.cps.toList = sub L b e) {s a c : Sh} {w : Str} {r : List D}
    (hd : s.toD = .tup (.str w :: a.toD :: r)) (hbh : ∃ x, atI (D.str w :: a.toD :: r) (-1) = some x ∧ (if w == Str.ofString "then" then x else s.toD) = c.toD) {E : DEnds} :
    ∀ (ks : List Nat) (o3 o4 : Option Sl), (∀ k ∈ ks, k ≤ e - b ∧ mu a k < K ∧ mu c (e - (b + k)) < K) → ((ks.any fun k => fitP L a b (b + k) && fitP L c (b + k) e) = true → E.rt (.st (.bl true))) →
    ((ks.any fun k => fitP L a b (b + k) && fitP L c (b + k) e) = false → ∀ o3 o4, E.nx [some (.dat s.toD), some (.dat (.str t)), some (.dat (.str w)), o3, o4]) →
    forW (gNm 3) (lfB (sp_lf K)) E (ks.map fun (k : Nat) => .int (k : Int)) [some (.dat s.toD), some (.dat (.str t)), some (.dat (.str w)), o3, o4]
  | [], o3, o4, hk, h1, h2 => h2 rfl o3 o4
  | k :: ks, o3, o4, hk, h1, h2 => by
    obtain ⟨k1, k2, k3⟩ := hk k List.mem_cons_self
    simp only [List.map_cons, forW, s_gNm]
    refine lf_step (E := { E with nx := forW (gNm 3) (lfB (sp_lf K)) E (ks.map fun (k : Nat) => .int (k : Int)), ct := forW (gNm 3) (lfB (sp_lf K)) E (ks.map fun (k : Nat) => .int (k : Int)), bk := E.nx }) hL hb he h7 ht k1 hd hbh k2 k3 (fun hh => h1 (by rw [List.any_cons, hh]; rfl)) (fun hh o4 => ?_)
    refine lf_loop hL hb he h7 ht hd hbh ks _ _ (fun k hk' => hk k (List.mem_cons_of_mem _ hk')) (fun q => h1 (by rw [List.any_cons, q, Bool.or_true])) (fun q => h2 (by rw [List.any_cons, hh, q]; rfl))
theorem rd_lf (K : Nat) : ∀ rs r, rs.length = 2 → sp_lf (K + 1) rs r → w_law_fits (sp_lf K) (Ends1 r) (startD N_law_fits rs) := by
  rintro rs r _ ⟨L, s, b, e, t, hL, hb, he, h7, ht, hm, rfl, rfl⟩
  have tl : t.length = e - b := by
    have := congrArg List.length ht
    rw [sub_len hb he] at this
    simpa [Str.length] using this
  have zt : t.length ≤ sizeLine := by rw [tl]; exact Nat.le_trans h7 (by decide)
  have z2 : (2 : Nat) ≤ sizeLine := by decide
  have zb : e ≤ sizeLine + b := by omega
  have te : (t == Str.ofString "") = (b == e) := by
    rw [Bool.eq_iff_iff, beq_iff_eq, beq_iff_eq]
    rw [← sub_nil hb he, ← ht]
    constructor
    · intro h; rw [h]; rfl
    · intro h; exact str_of (by rw [h]; rfl)
  cases s with
  | none => simp [w_law_fits, Sh.toD, at0, fitP]
  | empty =>
    simp [w_law_fits, Sh.toD, at0, fitP]
    exact te
  | signs x =>
    simp [w_law_fits, Sh.toD, at0, at1, zt, fitP, tl]
    by_cases h1 : e = b + 1
    · subst h1
      refine ⟨zb, ?_⟩
      have hlt : b < L.length := by omega
      have hs := sub_one (List.getElem?_eq_getElem hlt)
      have et : t = ⟨#[L[b]]⟩ := str_of (by rw [ht, hs])
      simp [List.getElem?_eq_getElem hlt, et]
    · have h2 : ¬ (((e - b : Nat) : Int) = 1) := by omega
      simp [h1, h2]
      exact zb
  | not a =>
    simp only [mu, Sh.high] at hm
    simp [w_law_fits, Sh.toD, at0, at1, fitP]
    exact ⟨_, ⟨L, a, b, e, t, hL, hb, he, h7, ht, by simp only [mu]; omega, rfl, rfl⟩, by simp⟩
  | or a c =>
    simp only [mu, Sh.high] at hm
    simp [w_law_fits, Sh.toD, at0, at1, at2, fitP]
    refine ⟨_, ⟨L, a, b, e, t, hL, hb, he, h7, ht, by simp only [mu]; omega, rfl, rfl⟩, ?_⟩
    simp
    cases hf : fitP L a b e with
    | true => simp
    | false =>
      simp
      exact ⟨_, ⟨L, c, b, e, t, hL, hb, he, h7, ht, by simp only [mu]; omega, rfl, rfl⟩, by simp⟩
  | and a c =>
    simp only [mu, Sh.high] at hm
    simp [w_law_fits, Sh.toD, at0, at1, at2, fitP]
    refine ⟨_, ⟨L, a, b, e, t, hL, hb, he, h7, ht, by simp only [mu]; omega, rfl, rfl⟩, ?_⟩
    simp
    cases hf : fitP L a b e with
    | false => simp
    | true =>
      simp
      exact ⟨_, ⟨L, c, b, e, t, hL, hb, he, h7, ht, by simp only [mu]; omega, rfl, rfl⟩, by simp⟩
  | thn a c =>
    simp only [mu, Sh.high] at hm
    simp [w_law_fits, Sh.toD, at0, zt, tl]
    refine ⟨zb, 0, _, ⟨rfl, rfl⟩, ⟨by omega, by omega, by omega, by omega⟩, ?_⟩
    have er : rngD 0 (((e - b : Nat) : Int) + 1 - 0).toNat = (List.range (e - b + 1)).map fun (k : Nat) => .int (k : Int) := by
      have : (((e - b : Nat) : Int) + 1 - 0).toNat = e - b + 1 := by omega
      rw [this]
      unfold rngD
      simp
    rw [er]
    refine lf_loop (s := .thn a c) (a := a) (c := c) (w := Str.ofString "then") (r := [c.toD]) hL hb he h7 ht rfl ⟨c.toD, rfl, by simp⟩ _ none none (fun k hk => ?_) (fun q => ?_) (fun q o3 o4 => ?_)
    · have hk := List.mem_range.mp hk
      refine ⟨by omega, ?_, ?_⟩
      · simp only [mu]; omega
      · simp only [mu]; omega
    · simp [fitP]
      simpa using q
    · simp
      exact q
  | many a =>
    simp only [mu, Sh.high] at hm
    simp [w_law_fits, Sh.toD, at0, zt, tl, te]
    by_cases hbe : b = e
    · rw [if_pos hbe, many_step]
      simp [hbe]
    · rw [if_neg hbe]
      refine ⟨zb, 1, _, ⟨rfl, rfl⟩, ⟨by omega, by omega, by omega, by omega⟩, ?_⟩
      have er : rngD 1 (((e - b : Nat) : Int) + 1 - 1).toNat = ((List.range (e - b)).map fun k => k + 1).map fun (k : Nat) => .int (k : Int) := by
        have : (((e - b : Nat) : Int) + 1 - 1).toNat = e - b := by omega
        rw [this]
        unfold rngD
        rw [List.map_map]
        refine List.map_congr_left fun k hk => ?_
        simp; omega
      rw [er]
      have ea : (((List.range (e - b)).map fun k => k + 1).any fun k => fitP L a b (b + k) && fitP L (.many a) (b + k) e) = fitP L (.many a) b e := by
        rw [many_step, List.any_map]
        have : (b == e) = false := by simpa using hbe
        rw [this, Bool.false_or]
        rfl
      refine lf_loop (s := .many a) (a := a) (c := .many a) (w := Str.ofString "many") (r := []) hL hb he h7 ht rfl ⟨a.toD, rfl, by simp [Sh.toD]⟩ _ none none (fun k hk => ?_) (fun q => ?_) (fun q o3 o4 => ?_)
      · obtain ⟨k', hk', rfl⟩ := List.mem_map.mp hk
        have hk' := List.mem_range.mp hk'
        refine ⟨by omega, ?_, ?_⟩
        · simp only [mu]; omega
        · simp only [mu, Sh.high]; omega
      · rw [ea] at q
        simp [q]
      · rw [ea] at q
        simp [q]
end K06
end
section
set_option maxRecDepth 100000
set_option maxHeartbeats 4000000
namespace K06
open PySem PySem.Spec PyProof.Rows L2 TK
def sg (j : Nat) : Str := (["0", "1", "a", "b"] : List Str).getD j ""
def okT (t : Str) (l : List Nat) : Prop := (∀ j ∈ l, j < 4) ∧ sgnD t = l.map fun j => .str (sg j)
theorem sgn_append (a b : Str) : sgnD (a ++ b) = sgnD a ++ sgnD b := by
  unfold sgnD
  rw [Str.cps_append]
  simp
theorem sgn_empty : sgnD Str.empty = [] := rfl
theorem sgn_sg {j : Nat} (h : j < 4) : sgnD (sg j) = [.str (sg j)] := by
  match j, h with
  | 0, _ => rfl
  | 1, _ => rfl
  | 2, _ => rfl
  | 3, _ => rfl
theorem emp : (Str.ofString "") = Str.empty := by rfl
theorem sgn_join : ∀ ys : List Str, sgnD (Str.join Str.empty ys) = (ys.map sgnD).flatten
  | [] => rfl
  | [x] => by simp [Str.join]
  | x :: y :: r => by
    show sgnD (x ++ Str.empty ++ Str.join Str.empty (y :: r)) = _
    rw [sgn_append, sgn_append, sgn_empty, sgn_join (y :: r)]
    simp
theorem okT_join {l : List Nat} (h : ∀ j ∈ l, j < 4) : okT (Txt.join (Str.ofString "") (l.map sg)) l := by
  refine ⟨h, ?_⟩
  have e : Txt.join (Str.ofString "") (l.map sg) = Str.join Str.empty (l.map sg) := StrLaws.glued_eq_join _ _
  rw [e, sgn_join]
  induction l with
  | nil => rfl
  | cons j r ih =>
    simp only [List.map_cons, List.flatten_cons, sgn_sg (h j List.mem_cons_self)]
    rw [ih (fun j hj => h j (List.mem_cons_of_mem _ hj)) (StrLaws.glued_eq_join _ _)]
    rfl
theorem ix_sg {j : Int} (h0 : 0 ≤ j) (h1 : j < 4) {Q : R → Prop} (q : Q (.st (.str (sg j.toNat)))) : ixD (.st (.str "01ab")) (.st (.int j)) Q := by
  have hj : j = 0 ∨ j = 1 ∨ j = 2 ∨ j = 3 := by omega
  rcases hj with rfl | rfl | rfl | rfl
  · exact ⟨by decide, _, rfl, q⟩
  · exact ⟨by decide, _, rfl, q⟩
  · exact ⟨by decide, _, rfl, q⟩
  · exact ⟨by decide, _, rfl, q⟩
theorem strsOf_map : ∀ l : List Str, strsOf (l.map D.str) = some l
  | [] => rfl
  | x :: r => by simp [strsOf, strsOf_map r]
theorem sg_len {j : Nat} (h : j < 4) : (sg j).length = 1 := by
  match j, h with
  | 0, _ => rfl
  | 1, _ => rfl
  | 2, _ => rfl
  | 3, _ => rfl
theorem sum_sg : ∀ {l : List Nat}, (∀ j ∈ l, j < 4) → ((l.map sg).map (·.length)).sum = l.length
  | [], _ => rfl
  | j :: r, h => by
    simp only [List.map_cons, List.sum_cons, List.length_cons, sg_len (h j List.mem_cons_self)]
    rw [sum_sg fun j hj => h j (List.mem_cons_of_mem _ hj)]
    omega
def sp_law_text : DSp := fun rs r => w_law_text sp_drawn (Ends1 r) (startD N_law_text rs)
def drawS (ns : List Int) (at_ : Int) : D → D
  | .int k => .str (sg (drawnF ns (at_ + 1 + k) 4).toNat)
  | d => d
theorem text_ex (ns : List Int) (hn : ns.length ≤ 63) (at_ most : Int) (h0 : 0 ≤ most) (h1 : most ≤ 20) : ∃ t l, okT t l ∧ (l.length : Int) ≤ most ∧ sp_law_text [.st (scr ns), .st (.int at_), .st (.int most)] (.st (.str t)) := by
  have d0 := drawn_nn ns at_ (m := most + 1) (by omega)
  have d1 := drawn_lt ns at_ (m := most + 1) (by omega)
  let l : List Nat := (List.range (drawnF ns at_ (most + 1)).toNat).map fun (k : Nat) => (drawnF ns (at_ + 1 + (0 + (k : Int))) 4).toNat
  have hl : ∀ j ∈ l, j < 4 := by
    intro j hj
    obtain ⟨k, _, rfl⟩ := List.mem_map.mp hj
    have a := drawn_nn ns (at_ + 1 + (0 + (k : Int))) (m := 4) (by decide)
    have b := drawn_lt ns (at_ + 1 + (0 + (k : Int))) (m := 4) (by decide)
    omega
  have hll : (l.length : Int) ≤ most := by simp [l]; omega
  refine ⟨_, l, okT_join hl, hll, ?_⟩
  simp [sp_law_text, w_law_text]
  refine ⟨_, ⟨ns, at_, most + 1, rfl, hn, by omega, rfl⟩, _, rfl, by omega, by omega, ?_, ?_⟩
  · exact Nat.le_trans (show _ ≤ 21 by simp [rngD]; omega) (by decide)
  · simp [blkSt, borS]
    refine comp_map (f := drawS ns at_) (rngD 0 (drawnF ns at_ (most + 1)).toNat) _ _ (fun d hd Q' q => ?_) ?_
    · obtain ⟨k, _, rfl⟩ := List.mem_map.mp hd
      simp
      refine ⟨_, ⟨ns, at_ + 1 + (0 + (k : Int)), 4, by simp, hn, by decide, rfl⟩, ?_⟩
      exact ix_sg (drawn_nn ns _ (by decide)) (drawn_lt ns _ (by decide)) q
    · have e : (rngD 0 (drawnF ns at_ (most + 1)).toNat).map (drawS ns at_) = (l.map sg).map D.str := by
        simp only [rngD, l, List.map_map]
        rfl
      rw [e]
      refine ⟨_, strsOf_map _, ?_, rfl⟩
      rw [sum_sg hl]
      have : (Str.ofString "").length = 0 := rfl
      rw [this]
      simp
      omega
theorem comp_drawn (ns : List Int) (hn : ns.length ≤ 63) (at_ : Int) : ∀ (l : List (Nat × Str)) (o1 o2 : Option Sl), ∃ ys : List Str, (∀ y ∈ ys, y ∈ l.map (·.2)) ∧ ys.length ≤ l.length ∧
    ∀ Q : List D → Prop, Q (ys.map D.str) → compW (gTp 2 (gCn (gNm 0) (gCn (gNm 1) gNl))) (wOp (eqD 60 false) (wCall sp_drawn (wCons (wV 2) (wCons (wOp addD (wOp addD (wV 3) (wC (.int 1))) (wV 0)) (wCons (wC (.int 2)) wNil)))) (wC (.int 0))) (wFz (wV 1))
      (l.map fun p => .tup [.int (p.1 : Int), .str p.2]) [o1, o2, some (.dat (scr ns)), some (.dat (.int at_))] Q
  | [], o1, o2 => ⟨[], by simp, by simp, fun Q h => h⟩
  | p :: r, o1, o2 => by
    obtain ⟨ys, h1, h2, h3⟩ := comp_drawn ns hn at_ r (some (.dat (.int (p.1 : Int)))) (some (.dat (.str p.2)))
    by_cases hd : drawnF ns (at_ + 1 + (p.1 : Int)) 2 = 0
    · refine ⟨p.2 :: ys, ?_, by simp; exact h2, fun Q q => ?_⟩
      · intro y hy
        rcases List.mem_cons.mp hy with rfl | hy
        · simp
        · exact List.mem_cons_of_mem _ (h1 y hy)
      · simp only [List.map_cons, compW]
        simp
        refine ⟨_, ⟨ns, at_ + 1 + (p.1 : Int), 2, rfl, hn, by decide, rfl⟩, ?_⟩
        simp [hd]
        exact h3 _ q
    · refine ⟨ys, fun y hy => List.mem_cons_of_mem _ (h1 y hy), by simp; omega, fun Q q => ?_⟩
      simp only [List.map_cons, compW]
      simp
      refine ⟨_, ⟨ns, at_ + 1 + (p.1 : Int), 2, rfl, hn, by decide, rfl⟩, ?_⟩
      simp [hd]
      exact h3 _ q
theorem enm_all : enmD (sgnD "01ab") = ([(0, "0"), (1, "1"), (2, "a"), (3, "b")] : List (Nat × Str)).map fun p => .tup [.int (p.1 : Int), .str p.2] := by rfl
theorem sum_one : ∀ l : List Str, (∀ s ∈ l, s.length ≤ 1) → (l.map (·.length)).sum ≤ l.length
  | [], _ => by simp
  | s :: r, h => by
    have h1 := h s List.mem_cons_self
    have h2 := sum_one r fun z hz => h z (List.mem_cons_of_mem _ hz)
    simp only [List.map_cons, List.sum_cons, List.length_cons]
    omega
theorem atI_lt {α : Type} (l : List α) {i : Int} (h0 : 0 ≤ i) (h1 : i < (l.length : Int)) : ∃ d ∈ l, atI l i = some d := by
  have hlt : i.toNat < l.length := by omega
  have e : i = ((i.toNat : Nat) : Int) := by omega
  refine ⟨l[i.toNat], List.getElem_mem hlt, ?_⟩
  have q : atI l ((i.toNat : Nat) : Int) = some l[i.toNat] := atI_nat (List.getElem?_eq_getElem hlt)
  rw [← e] at q
  exact q
def leafs : List D := [Sh.toD .none, Sh.toD .empty, Sh.toD (.signs "a"), Sh.toD .empty]
theorem leaf_ok {d : D} (h : d ∈ leafs) : ∃ s : Sh, d = s.toD ∧ s.high = 0 := by
  simp only [leafs, List.mem_cons, List.not_mem_nil, or_false] at h
  rcases h with rfl | rfl | rfl | rfl <;> exact ⟨_, rfl, rfl⟩
theorem leaf_ex (sp : DSp) (ns : List Int) (hn : ns.length ≤ 63) (at_ deep : Int) (hd : deep = 0 ∨ drawnF ns at_ 9 < 2) :
    ∃ s : Sh, s.high = 0 ∧ w_law_shape sp_drawn sp (Ends1 (.st s.toD)) (startD N_law_shape [.st (scr ns), .st (.int at_), .st (.int deep)]) := by
  obtain ⟨ys, h1, h2, h3⟩ := comp_drawn ns hn at_ [(0, "0"), (1, "1"), (2, "a"), (3, "b")] none none
  have z : ∀ m : Nat, m ≤ 100 → m ≤ sizeLine := fun m h => Nat.le_trans h (by decide)
  have hone : ∀ s ∈ ys, s.length ≤ 1 := fun s hs => by
    have := h1 s hs
    simp only [List.map_cons, List.map_nil, List.mem_cons, List.not_mem_nil, or_false] at this
    rcases this with rfl | rfl | rfl | rfl <;> decide
  have hsum := sum_one ys hone
  have hz : (ys.map (·.length)).sum + ys.length * (Str.ofString "").length ≤ 16777216 := by
    have h4 : (Str.ofString "").length = 0 := rfl
    have h5 : ys.length ≤ 4 := h2
    rw [h4]; omega
  have hen : (enmD (sgnD "01ab")).length ≤ sizeLine := z _ (by rw [enm_all]; decide)
  by_cases hs : Txt.join "" ys = ""
  · have q0 := drawn_nn ns (at_ + 5) (m := 4) (by decide)
    have q1 := drawn_lt ns (at_ + 5) (m := 4) (by decide)
    obtain ⟨d, hdm, hda⟩ := atI_lt leafs q0 q1
    obtain ⟨s, rfl, hsh⟩ := leaf_ok hdm
    refine ⟨s, hsh, ?_⟩
    simp [w_law_shape]
    refine ⟨_, ⟨ns, at_, 9, rfl, hn, by decide, rfl⟩, ?_⟩
    by_cases h0 : deep = 0
    · simp [h0]
      refine Or.inl ⟨hen, ?_⟩
      rw [enm_all]
      refine h3 _ ⟨ys, strsOf_map ys, hz, z 2 (by decide), ?_⟩
      rw [if_pos hs]
      refine ⟨z 1 (by decide), z 2 (by decide), z 1 (by decide), z 4 (by decide), _, ⟨ns, at_ + 5, 4, rfl, hn, by decide, rfl⟩, ?_⟩
      simp
      exact hda
    · have h9 : drawnF ns at_ 9 < 2 := hd.resolve_left h0
      simp [h0, h9]
      refine Or.inl ⟨hen, ?_⟩
      rw [enm_all]
      refine h3 _ ⟨ys, strsOf_map ys, hz, z 2 (by decide), ?_⟩
      rw [if_pos hs]
      refine ⟨z 1 (by decide), z 2 (by decide), z 1 (by decide), z 4 (by decide), _, ⟨ns, at_ + 5, 4, rfl, hn, by decide, rfl⟩, ?_⟩
      simp
      exact hda
  · refine ⟨.signs (Txt.join "" ys), rfl, ?_⟩
    simp [w_law_shape]
    refine ⟨_, ⟨ns, at_, 9, rfl, hn, by decide, rfl⟩, ?_⟩
    by_cases h0 : deep = 0
    · simp [h0]
      refine Or.inl ⟨hen, ?_⟩
      rw [enm_all]
      refine h3 _ ⟨ys, strsOf_map ys, hz, z 2 (by decide), ?_⟩
      rw [if_neg hs]
      rfl
    · have h9 : drawnF ns at_ 9 < 2 := hd.resolve_left h0
      simp [h0, h9]
      refine Or.inl ⟨hen, ?_⟩
      rw [enm_all]
      refine h3 _ ⟨ys, strsOf_map ys, hz, z 2 (by decide), ?_⟩
      rw [if_neg hs]
      rfl
def sp_shape : Nat → DSp
  | 0 => fun _ _ => False
  | k + 1 => fun rs r => w_law_shape sp_drawn (sp_shape k) (Ends1 r) (startD N_law_shape rs)
theorem cmul_small {a : Int} : CMul a 2 := .inr ⟨by decide, by decide⟩
theorem shape_ex (ns : List Int) (hn : ns.length ≤ 63) : ∀ (k : Nat) (at_ deep : Int), 0 ≤ deep → deep < (k : Int) →
    ∃ s : Sh, (s.high : Int) ≤ deep ∧ sp_shape k [.st (scr ns), .st (.int at_), .st (.int deep)] (.st s.toD)
  | 0, at_, deep, h0, h1 => by omega
  | k + 1, at_, deep, h0, h1 => by
    have z : ∀ m : Nat, m ≤ 100 → m ≤ sizeLine := fun m h => Nat.le_trans h (by decide)
    have cm := cmul_small (a := at_)
    by_cases hl : deep = 0 ∨ drawnF ns at_ 9 < 2
    · obtain ⟨d, e1, e3⟩ := leaf_ex (sp_shape k) ns hn at_ deep hl
      exact ⟨d, by omega, e3⟩
    · have n0 : ¬ deep = 0 := fun h => hl (Or.inl h)
      have n1 : ¬ drawnF ns at_ 9 < 2 := fun h => hl (Or.inr h)
      obtain ⟨a, a2, a3⟩ := shape_ex ns hn k (at_ * 2 + 11) (deep - 1) (by omega) (by omega)
      obtain ⟨b, b2, b3⟩ := shape_ex ns hn k (at_ * 2 + 31) (deep - 1) (by omega) (by omega)
      have q1 := drawn_lt ns at_ (m := 9) (by decide)
      by_cases h4 : drawnF ns at_ 9 < 4
      · obtain ⟨s, hs, hsa⟩ := atI_lt [D.str "not", D.str "many"] (i := drawnF ns at_ 9 - 2) (by omega) (by simp; omega)
        have ht : ∃ t, s = .str t ∧ ∃ x : Sh, x.toD = .tup [.str t, a.toD] ∧ x.high = a.high + 1 := by
          simp at hs
          rcases hs with rfl | rfl
          · exact ⟨_, rfl, .not a, rfl, rfl⟩
          · exact ⟨_, rfl, .many a, rfl, rfl⟩
        obtain ⟨t, rfl, x, hx, hh⟩ := ht
        refine ⟨x, by omega, ?_⟩
        rw [hx]
        simp [sp_shape, w_law_shape]
        refine ⟨_, ⟨ns, at_, 9, rfl, hn, by decide, rfl⟩, ?_⟩
        simp [n0, n1]
        refine ⟨cm, _, a3, ?_⟩
        simp [h4, z]
        exact hsa
      · obtain ⟨s, hs, hsa⟩ := atI_lt [D.str "then", D.str "or", D.str "and", D.str "then", D.str "or"] (i := drawnF ns at_ 9 - 4) (by omega) (by simp; omega)
        have ht : ∃ t, s = .str t ∧ ∃ x : Sh, x.toD = .tup [.str t, a.toD, b.toD] ∧ x.high = max a.high b.high + 1 := by
          simp at hs
          rcases hs with rfl | rfl | rfl | rfl | rfl
          · exact ⟨_, rfl, .thn a b, rfl, rfl⟩
          · exact ⟨_, rfl, .or a b, rfl, rfl⟩
          · exact ⟨_, rfl, .and a b, rfl, rfl⟩
          · exact ⟨_, rfl, .thn a b, rfl, rfl⟩
          · exact ⟨_, rfl, .or a b, rfl, rfl⟩
        obtain ⟨t, rfl, x, hx, hh⟩ := ht
        refine ⟨x, by omega, ?_⟩
        rw [hx]
        simp [sp_shape, w_law_shape]
        refine ⟨_, ⟨ns, at_, 9, rfl, hn, by decide, rfl⟩, ?_⟩
        simp [n0, n1]
        refine ⟨cm, _, a3, ?_⟩
        simp [h4, z]
        refine ⟨_, hsa, cm, _, b3, ?_⟩
        simp
theorem size_high : ∀ s : Sh, s.size + 1 ≤ 2 ^ (s.high + 1)
  | .thn a b => by
    have h1 := size_high a
    have h2 := size_high b
    have l1 : 2 ^ (a.high + 1) ≤ 2 ^ (max a.high b.high + 1) := Nat.pow_le_pow_right (by decide) (by omega)
    have l2 : 2 ^ (b.high + 1) ≤ 2 ^ (max a.high b.high + 1) := Nat.pow_le_pow_right (by decide) (by omega)
    simp only [Sh.size, Sh.high]
    rw [Nat.pow_succ 2 (max a.high b.high + 1)]
    omega
  | .or a b => by
    have h1 := size_high a
    have h2 := size_high b
    have l1 : 2 ^ (a.high + 1) ≤ 2 ^ (max a.high b.high + 1) := Nat.pow_le_pow_right (by decide) (by omega)
    have l2 : 2 ^ (b.high + 1) ≤ 2 ^ (max a.high b.high + 1) := Nat.pow_le_pow_right (by decide) (by omega)
    simp only [Sh.size, Sh.high]
    rw [Nat.pow_succ 2 (max a.high b.high + 1)]
    omega
  | .and a b => by
    have h1 := size_high a
    have h2 := size_high b
    have l1 : 2 ^ (a.high + 1) ≤ 2 ^ (max a.high b.high + 1) := Nat.pow_le_pow_right (by decide) (by omega)
    have l2 : 2 ^ (b.high + 1) ≤ 2 ^ (max a.high b.high + 1) := Nat.pow_le_pow_right (by decide) (by omega)
    simp only [Sh.size, Sh.high]
    rw [Nat.pow_succ 2 (max a.high b.high + 1)]
    omega
  | .not a => by
    have h1 := size_high a
    simp only [Sh.size, Sh.high]
    rw [Nat.pow_succ 2 (a.high + 1)]
    omega
  | .many a => by
    have h1 := size_high a
    simp only [Sh.size, Sh.high]
    rw [Nat.pow_succ 2 (a.high + 1)]
    omega
  | .none => by simp [Sh.size, Sh.high]
  | .empty => by simp [Sh.size, Sh.high]
  | .signs _ => by simp [Sh.size, Sh.high]
theorem size_le {s : Sh} {n : Nat} (h : s.high ≤ n) : s.size + 1 ≤ 2 ^ (n + 1) := Nat.le_trans (size_high s) (Nat.pow_le_pow_right (by decide) (by omega))
end K06
end
section
set_option maxRecDepth 100000
set_option maxHeartbeats 4000000
namespace K06
open PySem PySem.Spec PyProof.Rows L2 TK
def optI : Option Nat → D
  | some e => .int (e : Int)
  | none => .non
def begL (L : List Nat) (s : Sh) : List Nat := (List.range (L.length + 1)).filter (fitP L s 0)
theorem pf0 (L : List Nat) (s : Sh) : (List.range (L.length + 1)).filter (pf L s 0) = begL L s := by
  unfold begL
  exact List.filter_congr fun e _ => by simp [pf]
def sp_longest : DSp := fun rs r => ∃ s L t, okL L ∧ t.cps.toList = L ∧ s.size ≤ 100 ∧ rs = [.st (Sh.toD s), .st (.str t)] ∧ r = .st (optI (begL L s).getLast?)
theorem rd_longest : ∀ rs r, rs.length = 2 → sp_longest rs r → w_longest_beginning sp_ends (Ends1 r) (startD N_longest_beginning rs) := by
  rintro rs r _ ⟨s, L, t, hL, ht, hz, rfl, rfl⟩
  have a0 : atI (tabD L s) 0 = some (tabI L s 0) := atI_nat (j := 0) (tab_get L s (by omega))
  simp [w_longest_beginning]
  refine ⟨_, ⟨s, L, t, hL, ht, hz, rfl, rfl⟩, ?_⟩
  simp [a0, tabI]
  have hb := bits_of (p := pf L s 0) (m := L.length + 1)
  rw [pf0] at hb
  rcases top_bit (pf L s 0) (L.length + 1) with ⟨h1, h2⟩ | ⟨l, e, h1, h2, h3, h4, h5⟩
  · rw [pf0] at h1
    rw [h1, h2]
    simp [optI]
  · rw [pf0] at h1
    rw [h1] at hb ⊢
    have hp : 0 < mk (pf L s 0) (L.length + 1) := by omega
    rw [if_pos hp]
    simp at hb
    simp [optI, hb]
def rowP (L : List Nat) (s : Sh) (b : Nat) : List D := ((List.range (L.length + 1 - b)).filter fun k => fitP L s b (b + k)).map fun (k : Nat) => .tup [.int (b : Int), .int ((b + k : Nat) : Int)]
def dueD (L : List Nat) (s : Sh) (m : Nat) : List D := (List.range m).flatMap (rowP L s)
theorem due_succ (L : List Nat) (s : Sh) (m : Nat) : dueD L s (m + 1) = dueD L s m ++ rowP L s m := by
  unfold dueD
  rw [List.range_succ, List.flatMap_append]
  simp
theorem row_len (L : List Nat) (s : Sh) (b : Nat) : (rowP L s b).length ≤ L.length + 1 := by
  unfold rowP
  rw [List.length_map]
  have := List.length_filter_le (fun k => fitP L s b (b + k)) (List.range (L.length + 1 - b))
  simp at this
  omega
theorem due_len (L : List Nat) (s : Sh) : ∀ m, (dueD L s m).length ≤ m * (L.length + 1)
  | 0 => by simp [dueD]
  | m + 1 => by
    rw [due_succ, List.length_append, Nat.succ_mul]
    have := due_len L s m
    have := row_len L s m
    omega
theorem bit_at (p : Nat → Bool) (m e : Nat) : Builtin.bitAnd (((mk p m : Nat) : Int) / 2 ^ e) 1 = if (decide (e < m) && p e) = true then 1 else 0 := by
  have e1 : ((mk p m : Nat) : Int) / 2 ^ e = (((mk p m) / 2 ^ e : Nat) : Int) := by push_cast; rfl
  rw [e1]
  have e2 := bitAnd_nat ((mk p m) / 2 ^ e) 1
  have e3 : ((1 : Nat) : Int) = 1 := rfl
  rw [e3] at e2
  rw [e2, ← testBit_mk]
  have e4 : (mk p m).testBit e = decide ((mk p m) / 2 ^ e % 2 = 1) := by
    rw [Nat.testBit_eq_decide_div_mod_eq]
  rw [e4, Nat.and_one_is_mod]
  rcases Nat.mod_two_eq_zero_or_one ((mk p m) / 2 ^ e) with h | h <;> simp [h]
def fitI (L : List Nat) (s : Sh) (b : Nat) : D → Bool
  | .int e => fitP L s b e.toNat
  | _ => false
theorem str_loop {L : List Nat} (hL : okL L) {t : Str} (ht : t.cps.toList = L) {s : Sh} {o0 : Option Sl} {E : DEnds} : ∀ (n m : Nat) (o3 o4 : Option Sl), m + n = L.length + 1 →
    (∀ o3 o4, E.nx [o0, some (.dat (.str t)), some (.own (dueD L s (L.length + 1))), o3, o4]) →
    forW (gTp 2 (gCn (gNm 3) (gCn (gNm 4) gNl))) (wExtend 2 (wComp 1 [3, 4] (jRng2 (wCons (wV 3) (wCons (wOp addD (wCB lenD (wCons (wV 1) wNil)) (wC (.int 1))) wNil))) (gNm 0) (wOp (eqD 60 false) (wOp (intD NoC fun i j => Builtin.bitAnd i j) (wOp (intD (fun _ j => 0 ≤ j) fun i j => i / 2 ^ j.toNat) (wV 2) (wV 0)) (wC (.int 1))) (wC (.int 1))) (wFz (wTup (wCons (wFz (wV 1)) (wCons (wFz (wV 0)) wNil))))))
      E (((List.range n).map fun (k : Nat) => (m + k)).map fun (b : Nat) => .tup [.int (b : Int), tabI L s b]) [o0, some (.dat (.str t)), some (.own (dueD L s m)), o3, o4]
  | 0, m, o3, o4, hm, h => by
    have : m = L.length + 1 := by omega
    subst this
    simpa [forW] using h o3 o4
  | n + 1, m, o3, o4, hm, h => by
    have hL' : L.length ≤ 60 := hL
    have tl : t.length = L.length := by rw [← ht]; simp [Str.length]
    have zt : L.length ≤ sizeLine := Nat.le_trans hL' (by decide)
    have z2 : (2 : Nat) ≤ sizeLine := by decide
    rw [List.range_succ_eq_map]
    simp only [List.map_cons, forW, List.map_map]
    simp [tl, zt]
    have er : ((L.length : Int) + 1 - (m : Int)).toNat = L.length + 1 - m := by omega
    refine ⟨_, _, ⟨rfl, rfl⟩, ⟨by omega, by omega, by omega, by omega⟩, Nat.le_trans (show _ ≤ 61 by simp [rngD]; omega) (by decide), ?_⟩
    rw [er]
    simp [blkSt, borS, tabI]
    refine comp_filter (p := fitI L s m) (f := fun d => .tup [.int (m : Int), d]) _ _ _ (fun d hd Q' q => ?_) (fun d hd Q' hp q => ?_) ?_
    · obtain ⟨k, hk, rfl⟩ := List.mem_map.mp hd
      have hk := List.mem_range.mp hk
      have e1 : (m : Int) + (k : Int) = ((m + k : Nat) : Int) := by push_cast; rfl
      simp only [fitI] at q
      rw [e1, Int.toNat_natCast] at q
      simp
      rw [e1]
      refine ⟨by omega, ?_⟩
      rw [Int.toNat_natCast, bit_at]
      have e2 : (decide (m + k < L.length + 1) && pf L s m (m + k)) = fitP L s m (m + k) := by
        have : m + k < L.length + 1 := by omega
        simp [this, pf]
      rw [e2]
      cases hf : fitP L s m (m + k) <;> simp [hf] at q ⊢ <;> exact q
    · simp [z2]; exact q
    · have er2 : ((rngD (m : Int) (L.length + 1 - m)).filter (fitI L s m)).map (fun d => D.tup [.int (m : Int), d]) = rowP L s m := by
        unfold rngD rowP
        rw [List.filter_map, List.map_map]
        have ef : (fitI L s m ∘ fun (i : Nat) => D.int ((m : Int) + (i : Int))) = fun k => fitP L s m (m + k) := by
          funext k
          simp only [Function.comp_apply, fitI]
          congr 1
        rw [ef]
        refine List.map_congr_left fun k _ => ?_
        simp
      rw [er2]
      have dl := due_len L s m
      have rl := row_len L s m
      have mb : m * (L.length + 1) ≤ 61 * 61 := Nat.mul_le_mul (by omega) (by omega)
      refine ⟨Nat.le_trans (show (dueD L s m).length + (rowP L s m).length ≤ 4000 by omega) (by decide), ?_⟩
      rw [← due_succ]
      have es : ((List.range n).map ((fun (b : Nat) => D.tup [.int (b : Int), tabI L s b]) ∘ (fun k => m + k) ∘ Nat.succ)) = ((List.range n).map fun (k : Nat) => (m + 1 + k)).map fun (b : Nat) => .tup [.int (b : Int), tabI L s b] := by
        rw [List.map_map]
        refine List.map_congr_left fun k _ => ?_
        simp only [Function.comp_apply]
        rw [show m + k.succ = m + 1 + k by omega]
      have := str_loop hL ht (s := s) (o0 := o0) (E := E) n (m + 1) (some (.dat (.int (m : Int)))) (some (.dat (tabI L s m))) (by omega) h
      rw [← es] at this
      simpa [tabI, Function.comp_def] using this
def sp_stretches : DSp := fun rs r => ∃ s L t, okL L ∧ t.cps.toList = L ∧ s.size ≤ 100 ∧ rs = [.st (Sh.toD s), .st (.str t)] ∧ r = .nw (dueD L s (L.length + 1))
theorem rd_stretches : ∀ rs r, rs.length = 2 → sp_stretches rs r → w_stretches sp_ends (Ends1 r) (startD N_stretches rs) := by
  rintro rs r _ ⟨s, L, t, hL, ht, hz, rfl, rfl⟩
  simp [w_stretches]
  refine ⟨_, ⟨s, L, t, hL, ht, hz, rfl, rfl⟩, _, rfl, ?_⟩
  have te : enmD (tabD L s) = ((List.range (L.length + 1)).map fun (k : Nat) => (0 + k)).map fun (b : Nat) => .tup [.int (b : Int), tabI L s b] := by
    unfold tabD
    rw [enm_range, List.map_map, List.map_map]
    refine List.map_congr_left fun k _ => ?_
    simp
  rw [te]
  exact str_loop hL ht (L.length + 1) 0 none none (by omega) fun o3 o4 => by simp
end K06
end
section
set_option maxRecDepth 100000
set_option maxHeartbeats 4000000
namespace K06
open PySem PySem.Spec PyProof.Rows L2 TK
def cutR (L : List Nat) : Option (List (Nat × Nat)) → R
  | none => .st .non
  | some ps => .nw (ps.map (pieceD L))
def cuT : WT := wOp (cmpI fun i j => decide (i < j)) (wV 4) (wCB lenD (wCons (wV 1) wNil))
def cuB : WS := (wSeq (wSet 5 (wOp (intD NoC fun i j => i - j) (wBitlen (wOp ixD (wV 2) (wV 4))) (wC (.int 1)))) (wSeq (wIfS (wOp (cmpI fun i j => decide (i ≤ j)) (wV 5) (wV 4)) (wRet (wC .non)) wNext) (wSeq (wAppend 3 (wFz (wSl (wV 1) (oSome (wV 4)) (oSome (wV 5))))) (wSet 4 (wV 5)))))
theorem cut_loop {L : List Nat} (hL : okL L) {t : Str} (ht : t.cps.toList = L) {s : Sh} {o0 : Option Sl} {E : DEnds} : ∀ (f b : Nat) (acc : List D) (o5 : Option Sl), L.length - b ≤ f → b ≤ L.length → acc.length + f ≤ 1000 →
    (cutF L s f b = none → E.rt (.st .non)) → (∀ ps, cutF L s f b = some ps → ∀ o5, E.nx [o0, some (.dat (.str t)), some (.dat (.lst (tabD L s))), some (.own (acc ++ ps.map (pieceD L))), some (.dat (.int (L.length : Int))), o5]) →
    whileN cuT cuB (f + 1) E [o0, some (.dat (.str t)), some (.dat (.lst (tabD L s))), some (.own acc), some (.dat (.int (b : Int))), o5] := by
  intro f
  have hL' : L.length ≤ 60 := hL
  have tl : t.length = L.length := by rw [← ht]; simp [Str.length]
  have zt : L.length ≤ sizeLine := Nat.le_trans hL' (by decide)
  have fin : ∀ (n b : Nat) (acc : List D) (o5 : Option Sl), b = L.length → (∀ o5, E.nx [o0, some (.dat (.str t)), some (.dat (.lst (tabD L s))), some (.own acc), some (.dat (.int (L.length : Int))), o5]) → whileN cuT cuB (n + 1) E [o0, some (.dat (.str t)), some (.dat (.lst (tabD L s))), some (.own acc), some (.dat (.int (b : Int))), o5] := by
    intro n b acc o5 hb h
    subst hb
    simp [whileN, cuT, tl, zt]
    exact h o5
  induction f with
  | zero =>
    intro b acc o5 hf hb hz h1 h2
    have hb' : b = L.length := by omega
    refine fin 0 b acc o5 hb' fun o5 => ?_
    have := h2 [] (by simp [cutF, hb']) o5
    simpa using this
  | succ f ih =>
    intro b acc o5 hf hb hz h1 h2
    by_cases hlt : b < L.length
    · have at_ : atI (tabD L s) (b : Int) = some (tabI L s b) := atI_nat (tab_get L s (by omega))
      have hbi : (b : Int) < (L.length : Int) := by omega
      rw [whileN]
      simp only [cuT, s_op, s_var]
      refine ⟨_, rfl, ?_⟩
      simp [tl, zt, hlt, cuB, at_, tabI]
      rcases row_next (L := L) (s := s) hlt with ⟨e, hn, hbit⟩ | ⟨hn, hbit⟩
      · obtain ⟨n1, n2⟩ := next_lt hn
        rw [hbit]
        have : ¬ (e : Int) ≤ (b : Int) := by omega
        simp [show ¬ e ≤ b by omega, tl, zt]
        refine ⟨Nat.lt_of_lt_of_le (show acc.length < 1001 by omega) (by decide), ?_⟩
        have es : Txt.slice t (some (b : Int)) (some (e : Int)) = pieceS L b e := str_of (by rw [slice_mid (by omega) (by omega), ht, piece_cps]; rfl)
        rw [es]
        refine ih e (acc ++ [pieceD L (b, e)]) _ (by omega) n2 (by simp; omega) (fun hc => h1 ?_) (fun ps hc o5 => ?_)
        · simp [cutF, hlt, hn, hc]
        · have := h2 ((b, e) :: ps) (by simp [cutF, hlt, hn, hc]) o5
          simpa using this
      · rw [if_pos hbit]
        exact h1 (by simp [cutF, hlt, hn])
    · have hb' : b = L.length := by omega
      refine fin (f + 1) b acc o5 hb' fun o5 => ?_
      have := h2 [] (by simp [cutF, hlt]) o5
      simpa using this
def sp_cut : DSp := fun rs r => ∃ s L t, okL L ∧ t.cps.toList = L ∧ s.size ≤ 100 ∧ rs = [.st (Sh.toD s), .st (.str t)] ∧ r = cutR L (cutF L s L.length 0)
theorem rd_cut : ∀ rs r, rs.length = 2 → sp_cut rs r → w_cut_up sp_ends (Ends1 r) (startD N_cut_up rs) := by
  rintro rs r _ ⟨s, L, t, hL, ht, hz, rfl, rfl⟩
  have hL' : L.length ≤ 60 := hL
  simp [w_cut_up]
  refine ⟨_, ⟨s, L, t, hL, ht, hz, rfl, rfl⟩, ?_⟩
  simp
  refine ⟨L.length + 1, ?_⟩
  have := cut_loop hL ht (s := s) (o0 := some (.dat s.toD)) (E := { Ends1 (cutR L (cutF L s L.length 0)) with nx := wRetV 3 (Ends1 (cutR L (cutF L s L.length 0))) }) L.length 0 [] none (by omega) (by omega) (by simp; omega) (fun hc => by simp [hc, cutR]) (fun ps hc o5 => by simp [hc, cutR])
  exact this
theorem next_sizes (L : List Nat) (s : Sh) {b : Nat} (hb : b ≤ L.length) : ((List.range (L.length + 1)).filter fun e => decide (b < e) && fitP L s b e) = ((List.range (L.length - b)).filter fun k => fitP L s b (b + (k + 1))).map fun k => b + (k + 1) := by
  have e : L.length + 1 = (b + 1) + (L.length - b) := by omega
  rw [e, List.range_add, List.filter_append]
  have e1 : (List.range (b + 1)).filter (fun e => decide (b < e) && fitP L s b e) = [] := by
    rw [List.filter_eq_nil_iff]
    intro x hx
    have := List.mem_range.mp hx
    have : ¬ b < x := by omega
    simp [this]
  rw [e1, List.nil_append, List.filter_map]
  have e2 : ((fun e => decide (b < e) && fitP L s b e) ∘ fun x => b + 1 + x) = fun k => fitP L s b (b + (k + 1)) := by
    funext k
    simp only [Function.comp_apply]
    rw [show b + 1 + k = b + (k + 1) by omega]
    simp
  rw [e2]
  refine List.map_congr_left fun k _ => ?_
  omega
def sizP (L : List Nat) (s : Sh) (b : Nat) : D → Bool
  | .int k => fitP L s b (b + k.toNat)
  | _ => false
def sp_lc (k : Nat) : DSp := fun rs r => ∃ L s b t, okL L ∧ b ≤ L.length ∧ L.length - b ≤ 7 ∧ t.cps.toList = sub L b L.length ∧ s.high ≤ 3 ∧ L.length - b < k ∧ rs = [.st (Sh.toD s), .st (.str t)] ∧ r = cutR L (cutF L s (L.length - b) b)
theorem rd_lc (K : Nat) : ∀ rs r, rs.length = 2 → sp_lc (K + 1) rs r → w_law_cut (sp_lf 40) (sp_lc K) (Ends1 r) (startD N_law_cut rs) := by
  rintro rs r _ ⟨L, s, b, t, hL, hb, h7, ht, hh, hk, rfl, rfl⟩
  have tl : t.length = L.length - b := by
    have := congrArg List.length ht
    rw [sub_len hb (Nat.le_refl _)] at this
    simpa [Str.length] using this
  have zt : t.length ≤ sizeLine := by rw [tl]; exact Nat.le_trans h7 (by decide)
  have zb : L.length ≤ sizeLine + b := by omega
  have z1 : (1 : Nat) ≤ sizeLine := by decide
  have te : (t == Str.ofString "") = (b == L.length) := by
    rw [Bool.eq_iff_iff, beq_iff_eq, beq_iff_eq]
    rw [← sub_nil hb (Nat.le_refl _), ← ht]
    constructor
    · intro h; rw [h]; rfl
    · intro h; exact str_of (by rw [h]; rfl)
  simp [w_law_cut, te]
  by_cases he : b = L.length
  · rw [if_pos he]
    have : cutF L s (L.length - b) b = some [] := by
      have : ¬ b < L.length := by omega
      cases L.length - b <;> simp [cutF, this]
    rw [this]; simp [cutR]
  · rw [if_neg he]
    have hlt : b < L.length := by omega
    simp [tl]
    refine ⟨zb, 1, _, ⟨rfl, rfl⟩, ⟨by omega, by omega, by omega, by omega⟩, Nat.le_trans (show _ ≤ 8 by simp [rngD]; omega) (by decide), ?_⟩
    simp [blkSt, borS]
    have er : (((L.length - b : Nat) : Int) + 1 - 1).toNat = L.length - b := by omega
    refine comp_filter (p := sizP L s b) (f := fun d => d) _ _ _ (fun d hd Q' q => ?_) (fun d hd Q' hp q => by simp; exact q) ?_
    · obtain ⟨k, hk', rfl⟩ := List.mem_map.mp hd
      have hk' := List.mem_range.mp hk'
      have e1 : (1 : Int) + (k : Int) = ((k + 1 : Nat) : Int) := by push_cast; omega
      rw [e1] at q ⊢
      simp [zt]
      refine ⟨_, ⟨L, s, b, b + (k + 1), _, hL, by omega, by omega, by omega, ?_, by simp only [mu]; omega, rfl, rfl⟩, ?_⟩
      · have e2 : ((k : Int) + 1) = ((k + 1 : Nat) : Int) := by push_cast; rfl
        rw [e2, slice_to (by omega), ht, sub_take (by omega)]
      · simp
        simpa [sizP] using q
    · rw [List.map_id']
      have ef : (rngD 1 (L.length - b)).filter (sizP L s b) = ((List.range (L.length - b)).filter fun k => fitP L s b (b + (k + 1))).map fun (k : Nat) => D.int ((k + 1 : Nat) : Int) := by
        unfold rngD
        rw [List.filter_map]
        have e2 : (sizP L s b ∘ fun (i : Nat) => D.int (1 + (i : Int))) = fun k => fitP L s b (b + (k + 1)) := by
          funext k
          simp only [Function.comp_apply, sizP]
          congr 1
          omega
        rw [e2]
        refine List.map_congr_left fun k _ => ?_
        congr 1
        push_cast; omega
      rw [ef]
      have nx : nextP L s b = (((List.range (L.length - b)).filter fun k => fitP L s b (b + (k + 1))).map fun k => b + (k + 1)).getLast? := by
        unfold nextP; rw [next_sizes L s hb]
      rcases List.eq_nil_or_concat ((List.range (L.length - b)).filter fun k => fitP L s b (b + (k + 1))) with h | ⟨l, k, h⟩
      · rw [h] at nx ⊢
        have hc : cutF L s (L.length - b) b = none := by
          obtain ⟨f, hf⟩ : ∃ f, L.length - b = f + 1 := ⟨L.length - b - 1, by omega⟩
          rw [hf]
          simp [cutF, hlt, nx]
        rw [hc]
        simp [cutR, D.depth, D.depths]
      · have h : ((List.range (L.length - b)).filter fun k => fitP L s b (b + (k + 1))) = l ++ [k] := by simpa using h
        have hk' : k < L.length - b := by
          have : k ∈ (List.range (L.length - b)).filter fun k => fitP L s b (b + (k + 1)) := by rw [h]; simp
          exact List.mem_range.mp (List.mem_filter.mp this).1
        rw [h] at nx ⊢
        have nx : nextP L s b = some (b + (k + 1)) := by rw [nx]; simp
        rw [List.map_append]
        have dp : D.depths (l.map (fun (k : Nat) => D.int ((k + 1 : Nat) : Int)) ++ [D.int ((k + 1 : Nat) : Int)]) ≤ 50 := by
          have : ∀ (l : List D), (∀ d ∈ l, d.depth ≤ 0) → D.depths l ≤ 50 := fun l => by
            induction l with
            | nil => intro _; simp [D.depths]
            | cons a r ih =>
              intro h
              have h1 := h a List.mem_cons_self
              have h2 := ih fun d hd => h d (List.mem_cons_of_mem _ hd)
              simp [D.depths]; omega
          refine this _ fun d hd => ?_
          rcases List.mem_append.mp hd with hd | hd
          · obtain ⟨_, _, rfl⟩ := List.mem_map.mp hd
            simp
          · rw [List.mem_singleton.mp hd]; simp
        have al := at_last (l.map fun (k : Nat) => D.int ((k + 1 : Nat) : Int)) (D.int ((k + 1 : Nat) : Int))
        simp only [List.map_cons, List.map_nil]
        obtain ⟨m, hm⟩ : ∃ m, m = k + 1 := ⟨_, rfl⟩
        have hm1 : b + m ≤ L.length := by omega
        have hm0 : 0 < m := by omega
        rw [← hm] at nx dp al ⊢
        generalize l.map (fun (k : Nat) => D.int ((k + 1 : Nat) : Int)) = ds at dp al ⊢
        have hne : (D.lst (ds ++ [D.int (m : Int)]) = D.lst []) = False := by simp
        simp [al]
        refine ⟨by simp [D.depth]; omega, zb, _, ⟨L, s, b + m, _, hL, hm1, by omega, ?_, hh, by omega, rfl, rfl⟩, ?_⟩
        · rw [slice_from (by omega), ht, sub_drop (by omega)]
        have hc : cutF L s (L.length - b) b = (cutF L s (L.length - (b + m)) (b + m)).map ((b, b + m) :: ·) := by
          obtain ⟨f, hf⟩ : ∃ f, L.length - b = f + 1 := ⟨L.length - b - 1, by omega⟩
          rw [hf]
          simp only [cutF, hlt, nx, if_true]
          rw [cut_fuel L s f (L.length - (b + m)) (b + m) (by omega) (by omega)]
        have hp : Txt.slice t none (some (m : Int)) = pieceS L b (b + m) := str_of (by rw [slice_to (by omega), ht, sub_take (by omega), piece_cps])
        rw [hc, hp]
        cases hq : cutF L s (L.length - (b + m)) (b + m) with
        | none => simp [cutR]
        | some ps =>
          have hl := cut_len L s _ _ _ hq
          simp [cutR]
          exact ⟨zb, z1, Nat.le_trans (show _ ≤ 8 by omega) (by decide), rfl⟩
end K06
end
section
set_option maxRecDepth 100000
set_option maxHeartbeats 4000000
namespace K06
open PySem PySem.Spec PyProof.Rows L2 TK
def inW (sp : DSp) : WS := (wIfS (wTru (wCall sp (wCons (wV 1) (wCons (wSl (wV 2) (oSome (wV 4)) (oSome (wV 5))) wNil)))) (wAppend 3 (wFz (wTup (wCons (wFz (wV 4)) (wCons (wFz (wV 5)) wNil))))) wNext)
theorem law_in {L : List Nat} (hL : okL L) {t : Str} (ht : t.cps.toList = L) {s : Sh} (h7 : L.length ≤ 7) (hh : s.high ≤ 3) {b : Nat} (hb : b ≤ L.length) {o0 o6 o7 : Option Sl} {E : DEnds} : ∀ (ks : List Nat) (acc : List D) (o5 : Option Sl), (∀ k ∈ ks, b + k ≤ L.length) → acc.length + ks.length ≤ 1000 →
    (∀ o5, E.nx [o0, some (.dat s.toD), some (.dat (.str t)), some (.own (acc ++ (ks.filter fun k => fitP L s b (b + k)).map fun (k : Nat) => .tup [.int (b : Int), .int ((b + k : Nat) : Int)])), some (.dat (.int (b : Int))), o5, o6, o7]) →
    forW (gNm 5) (inW (sp_lf 40)) E (ks.map fun (k : Nat) => .int ((b + k : Nat) : Int)) [o0, some (.dat s.toD), some (.dat (.str t)), some (.own acc), some (.dat (.int (b : Int))), o5, o6, o7]
  | [], acc, o5, hk, hz, h => by simpa [forW] using h o5
  | k :: ks, acc, o5, hk, hz, h => by
    have hk0 := hk k List.mem_cons_self
    have tl : t.length = L.length := by rw [← ht]; simp [Str.length]
    have zt : L.length ≤ sizeLine := Nat.le_trans h7 (by decide)
    have z2 : (2 : Nat) ≤ sizeLine := by decide
    have za : acc.length < sizeLine := Nat.lt_of_lt_of_le (show _ < 1001 by omega) (by decide)
    simp only [List.length_cons] at hz
    obtain ⟨e, he⟩ : ∃ e, e = b + k := ⟨_, rfl⟩
    have hs : (Txt.slice t (some (b : Int)) (some (e : Int))).cps.toList = sub L b e := by
      rw [slice_mid (by omega) (by omega), ht]; rfl
    simp only [List.map_cons, forW]
    rw [← he]
    simp only [List.filter_cons, ← he] at h
    simp [inW, tl, zt]
    refine ⟨_, ⟨L, s, b, e, _, hL, by omega, by omega, by omega, hs, by simp only [mu]; omega, rfl, rfl⟩, ?_⟩
    cases hf : fitP L s b e
    · simp
      refine law_in hL ht h7 hh hb ks acc _ (fun k h => hk k (List.mem_cons_of_mem _ h)) (by omega) fun o5 => ?_
      simpa [hf] using h o5
    · simp [z2, za]
      refine law_in hL ht h7 hh hb ks _ _ (fun k h => hk k (List.mem_cons_of_mem _ h)) (by simp; omega) fun o5 => ?_
      have := h o5
      rw [hf] at this
      simpa [he] using this
def outW : WS := (wFor (iRng2 (wCons (wV 4) (wCons (wOp addD (wCB lenD (wCons (wV 2) wNil)) (wC (.int 1))) wNil))) (gNm 5) (inW (sp_lf 40)))
theorem rng_nat (b n : Nat) : rngD (b : Int) n = (List.range n).map fun (k : Nat) => D.int ((b + k : Nat) : Int) := by
  unfold rngD
  refine List.map_congr_left fun k _ => ?_
  push_cast; rfl
theorem law_out {L : List Nat} (hL : okL L) {t : Str} (ht : t.cps.toList = L) {s : Sh} (h7 : L.length ≤ 7) (hh : s.high ≤ 3) {o0 o6 o7 : Option Sl} {E : DEnds} : ∀ (n m : Nat) (o4 o5 : Option Sl), m + n = L.length + 1 →
    (∀ o4 o5, E.nx [o0, some (.dat s.toD), some (.dat (.str t)), some (.own (dueD L s (L.length + 1))), o4, o5, o6, o7]) →
    forW (gNm 4) outW E ((List.range n).map fun (k : Nat) => .int ((m + k : Nat) : Int)) [o0, some (.dat s.toD), some (.dat (.str t)), some (.own (dueD L s m)), o4, o5, o6, o7]
  | 0, m, o4, o5, hm, h => by
    have : m = L.length + 1 := by omega
    subst this
    simpa [forW] using h o4 o5
  | n + 1, m, o4, o5, hm, h => by
    have tl : t.length = L.length := by rw [← ht]; simp [Str.length]
    have zt : L.length ≤ sizeLine := Nat.le_trans h7 (by decide)
    have er : ((L.length : Int) + 1 - (m : Int)).toNat = L.length + 1 - m := by omega
    have es : (List.range n).map ((fun (k : Nat) => D.int ((m + k : Nat) : Int)) ∘ Nat.succ) = (List.range n).map fun (k : Nat) => D.int ((m + 1 + k : Nat) : Int) := by
      refine List.map_congr_left fun k _ => ?_
      simp only [Function.comp_apply]
      rw [show m + k.succ = m + 1 + k by omega]
    have dl := due_len L s m
    have mb : m * (L.length + 1) ≤ 8 * 8 := Nat.mul_le_mul (by omega) (by omega)
    rw [List.range_succ_eq_map]
    simp only [List.map_cons, forW, List.map_map]
    rw [es]
    simp [outW, tl, zt]
    refine ⟨_, _, ⟨rfl, rfl⟩, ⟨by omega, by omega, by omega, by omega⟩, ?_⟩
    rw [er, rng_nat]
    refine law_in hL ht h7 hh (by omega) _ _ _ (fun k hk => ?_) (by simp; omega) fun o5 => ?_
    · have := List.mem_range.mp hk
      omega
    · have := law_out hL ht h7 hh (o0 := o0) (o6 := o6) (o7 := o7) (E := E) n (m + 1) (some (.dat (.int (m : Int)))) o5 (by omega) h
      rw [due_succ] at this
      exact this
end K06
end
section
set_option maxRecDepth 100000
set_option maxHeartbeats 4000000
namespace K06
open PySem PySem.Spec PyProof.Rows L2 TK
def prD (p : Nat × Nat) : D := .tup [.int (p.1 : Int), .int (p.2 : Int)]
def rowQ (L : List Nat) (s : Sh) (b : Nat) : List (Nat × Nat) := ((List.range (L.length + 1 - b)).filter fun k => fitP L s b (b + k)).map fun (k : Nat) => (b, b + k)
def dueP (L : List Nat) (s : Sh) (m : Nat) : List (Nat × Nat) := (List.range m).flatMap (rowQ L s)
theorem row_pr (L : List Nat) (s : Sh) (b : Nat) : rowP L s b = (rowQ L s b).map prD := by
  unfold rowP rowQ
  rw [List.map_map]
  rfl
theorem due_pr (L : List Nat) (s : Sh) (m : Nat) : dueD L s m = (dueP L s m).map prD := by
  unfold dueD dueP
  rw [List.map_flatMap]
  congr 1
  funext b
  exact row_pr L s b
theorem due_beg (L : List Nat) (s : Sh) : ∀ m, ((dueP L s (m + 1)).filter fun p => p.1 == 0).map (·.2) = begL L s
  | 0 => by
    simp [dueP, rowQ, begL, List.filter_map, Function.comp_def]
  | m + 1 => by
    have h := due_beg L s m
    have e : dueP L s (m + 1 + 1) = dueP L s (m + 1) ++ rowQ L s (m + 1) := by
      unfold dueP
      rw [List.range_succ, List.flatMap_append]
      simp
    have e2 : (rowQ L s (m + 1)).filter (fun p => p.1 == 0) = [] := by
      unfold rowQ
      rw [List.filter_map]
      have : ((fun p : Nat × Nat => p.1 == 0) ∘ fun (k : Nat) => (m + 1, m + 1 + k)) = fun _ => false := by
        funext k; simp
      rw [this]
      simp
    rw [e, List.filter_append, e2, List.append_nil, h]
theorem beg_comp : ∀ (ps : List (Nat × Nat)) (o1 o2 : Option Sl) (Q : List D → Prop), Q (((ps.filter fun p => p.1 == 0).map (·.2)).map fun (e : Nat) => D.int (e : Int)) →
    compW (gTp 2 (gCn (gNm 0) (gCn (gNm 1) gNl))) (wOp (eqD 60 false) (wV 0) (wC (.int 0))) (wFz (wV 1)) (ps.map prD) [o1, o2] Q
  | [], o1, o2, Q, q => q
  | p :: ps, o1, o2, Q, q => by
    obtain ⟨a, b⟩ := p
    simp only [List.map_cons, compW, prD]
    simp
    by_cases ha : a = 0
    · subst ha
      simp
      refine beg_comp ps _ _ _ ?_
      simpa using q
    · rw [if_neg ha]
      refine beg_comp ps _ _ _ ?_
      simpa [ha] using q
theorem depths_le {n : Nat} : ∀ (l : List D), (∀ d ∈ l, d.depth ≤ n) → D.depths l ≤ n + 1
  | [], _ => by simp [D.depths]
  | a :: r, h => by
    have h1 := h a List.mem_cons_self
    have h2 := depths_le r fun d hd => h d (List.mem_cons_of_mem _ hd)
    simp [D.depths]; omega
theorem join_cps : ∀ l : List Str, (Str.join Str.empty l).cps.toList = (l.map fun x => x.cps.toList).flatten
  | [] => rfl
  | [x] => by simp [Str.join]
  | x :: y :: r => by
    show (x ++ Str.empty ++ Str.join Str.empty (y :: r)).cps.toList = _
    rw [Str.cps_append, Str.cps_append, Array.toList_append, Array.toList_append, join_cps (y :: r)]
    have : Str.empty.cps.toList = [] := rfl
    rw [this]
    simp
theorem sum_len : ∀ l : List Str, (l.map (·.length)).sum = (l.map fun x => x.cps.toList).flatten.length
  | [] => rfl
  | x :: r => by
    have := sum_len r
    simp only [List.map_cons, List.sum_cons, List.flatten_cons, List.length_append, this]
    simp [Str.length]
def sp_law : DSp := fun rs r => ∃ ns : List Int, rs = [.st (scr ns)] ∧ ns.length ≤ 63 ∧ r = .st (.bl true)
theorem sq_call {i : Nat} {sp : DSp} {wr : WA} {rest : WS} {E : DEnds} {τ : DSt} (rs : List R) {d : D} (h1 : ∀ Q : List R → Prop, Q rs → wr τ Q) (h2 : rs.all argOk = true) (h3 : sp (rs.map nrm) (.st d)) (h4 : rest E (τ.set i (some (.dat d)))) : wSeq (wSet i (wCall sp wr)) rest E τ :=
  h1 _ ⟨h2, .st d, h3, h4⟩
theorem sq_if {T : WT} {A rest : WS} {τ : DSt} {E : DEnds} (h1 : ∀ Q : Bool → Prop, Q false → T τ Q) (h2 : rest E τ) : wSeq (wIfS T A wNext) rest E τ := h1 _ (by simpa using h2)
theorem sq_nil {i : Nat} {rest : WS} {E : DEnds} {τ : DSt} (h4 : rest E (τ.set i (some (.own [])))) : wSeq (wSet i (wLst wNil)) rest E τ := by
  simpa using h4
theorem rd_law : ∀ rs r, rs.length = 1 → sp_law rs r → w_law (sp_shape 3) sp_law_text (sp_lf 40) sp_stretches sp_longest sp_cut (sp_lc 8) (Ends1 r) (startD N_law rs) := by
  rintro rs r - ⟨ns, rfl, hn, rfl⟩
  have z : ∀ m : Nat, m ≤ 1000 → m ≤ sizeLine := fun m h => Nat.le_trans h (by decide)
  obtain ⟨s, s2, s3⟩ := shape_ex ns hn 3 1 2 (by decide) (by decide)
  obtain ⟨t, tl, t1, t2, t3⟩ := text_ex ns hn 200 5 (by decide) (by decide)
  have zs := size_le (s := s) (n := 2) (by omega)
  have zs : s.size ≤ 100 := by omega
  have lt : t.cps.toList.length = tl.length := by
    have := congrArg List.length t1.2
    simpa [sgnD] using this
  obtain ⟨L, ht⟩ : ∃ L, t.cps.toList = L := ⟨_, rfl⟩
  rw [ht] at lt
  have h7 : L.length ≤ 7 := by omega
  have hL : okL L := show L.length ≤ 60 by omega
  have hh : s.high ≤ 3 := by omega
  have tl' : t.length = L.length := by rw [← ht]; simp [Str.length]
  simp only [w_law, o_start]
  refine sq_call [.st (scr ns), .st (.int 1), .st (.int 2)] (fun Q q => by simp; exact q) rfl s3 ?_
  refine sq_call [.st (scr ns), .st (.int 200), .st (.int 5)] (fun Q q => by simp; exact q) rfl t3 ?_
  refine sq_nil ?_
  rw [s_seq, s_for]
  simp [tl', z L.length (by omega)]
  refine ⟨by omega, by omega, ?_⟩
  rw [show rngD 0 (L.length + 1) = (List.range (L.length + 1)).map fun (k : Nat) => D.int ((0 + k : Nat) : Int) from rng_nat 0 (L.length + 1)]
  refine law_out hL ht h7 hh (L.length + 1) 0 none none (by omega) fun o4 o5 => ?_
  have dd : (D.lst (dueD L s (L.length + 1))).depth ≤ 59 := by
    have : D.depths (dueD L s (L.length + 1)) ≤ 2 := depths_le _ fun d hd => by
      rw [due_pr] at hd
      obtain ⟨p, _, rfl⟩ := List.mem_map.mp hd
      simp [prD, D.depth, D.depths]
    simp only [D.depth]
    omega
  dsimp only
  refine sq_if (fun Q q => ?_) ?_
  · simp
    refine ⟨_, ⟨s, L, t, hL, ht, zs, rfl, rfl⟩, ?_⟩
    simp
    exact ⟨dd, by rw [D.eqs_refl]; exact q⟩
  simp
  have dl := due_len L s (L.length + 1)
  have mb : (L.length + 1) * (L.length + 1) ≤ 8 * 8 := Nat.mul_le_mul (by omega) (by omega)
  refine ⟨z _ (by omega), ?_⟩
  rw [due_pr]
  refine beg_comp (dueP L s (L.length + 1)) none none _ ?_
  rw [due_beg]
  have bl : (begL L s).length ≤ L.length + 1 := by
    have := List.length_filter_le (fitP L s 0) (List.range (L.length + 1))
    simpa [begL] using this
  refine ⟨_, ⟨s, L, t, hL, ht, zs, rfl, rfl⟩, by decide, z _ (by simp; omega), optI (begL L s).getLast?, ?_, _, rfl, ?_, D.eq_refl _, _, ⟨s, L, t, hL, ht, zs, rfl, rfl⟩, ?_⟩
  · rcases List.eq_nil_or_concat (begL L s) with h | ⟨l, e, h⟩
    · rw [h]; rfl
    · rw [h]
      have := at_last (D.non :: l.map fun (e : Nat) => D.int (e : Int)) (D.int (e : Int))
      simpa [optI] using this
  · cases (begL L s).getLast? <;> simp [optI, D.depth]
  have hlc : sp_lc 8 [R.st s.toD, R.st (D.str t)] (cutR L (cutF L s L.length 0)) := ⟨L, s, 0, t, hL, by omega, by omega, by rw [ht]; simp [sub], hh, by omega, rfl, rfl⟩
  cases hq : cutF L s L.length 0 with
  | none =>
    rw [hq] at hlc
    simp [cutR] at hlc ⊢
    exact ⟨_, hlc, _, rfl, by decide, by decide⟩
  | some ps =>
    have hl := cut_len L s _ _ _ hq
    have hj := cut_join L s _ _ _ (by omega) hq
    rw [hq] at hlc
    simp only [cutR] at hlc ⊢
    simp
    refine ⟨_, hlc, _, rfl, ?_, ?_⟩
    · have : D.depths (ps.map (pieceD L)) ≤ 1 := depths_le _ fun d hd => by
        obtain ⟨p, _, rfl⟩ := List.mem_map.mp hd
        simp [pieceD, D.depth]
      simp only [D.depth]
      omega
    · have ep : ps.map (pieceD L) = (ps.map fun p => pieceS L p.1 p.2).map D.str := by rw [List.map_map]; rfl
      have ec : ((ps.map fun p => pieceS L p.1 p.2).map fun x => x.cps.toList).flatten = L := by
        rw [List.map_map]
        have : ((fun x : Str => x.cps.toList) ∘ fun p : Nat × Nat => pieceS L p.1 p.2) = fun p => sub L p.1 p.2 := by
          funext p; exact piece_cps _ _ _
        rw [this, hj]
        simp [sub]
      refine ⟨D.eq_refl _, _, by rw [ep]; exact strsOf_map _, ?_, str_of ?_⟩
      · rw [sum_len, ec]
        have : (Str.ofString "").length = 0 := rfl
        rw [this]
        omega
      · have e : Txt.join (Str.ofString "") (ps.map fun p => pieceS L p.1 p.2) = Str.join Str.empty (ps.map fun p => pieceS L p.1 p.2) := StrLaws.glued_eq_join _ _
        rw [e, join_cps, ec, ht]
end K06
end
section
set_option maxRecDepth 100000
set_option maxHeartbeats 4000000
namespace K06
open PySem PySem.Spec PyProof.Rows L2 TK
section
variable {P : Program} {w : World} {K : PySem.W.Frag} {mg : Str → Option Value} {base : Heap}
theorem fn_none {f : Addr} {fd : FuncData} {ps : List Str} {sp : DSp} {k : Nat} (h : ∀ rs r, ¬ sp rs r) : FnD P w K mg base k f fd ps sp := by
  have no : ∀ vs H Q E, ¬ liftSp K ps.length sp vs H Q E := fun vs H Q E ⟨rs, r, _, _, _, q, _⟩ => h _ _ q
  exact ⟨fun vs H Q E q => absurd q (no vs H Q E), fun A outer s H args us vs Q E _ _ _ _ q => absurd q (no vs H Q E)⟩
theorem law_shape_all {a_law_drawn : Addr} {fd_law_drawn : FuncData} (D_law_drawn : Df K mg "_law_drawn" (top 16) ["_law_script", "_law_k", "_law_many"] a_law_drawn fd_law_drawn) (G_law_drawn : FnD P w K mg base 2 a_law_drawn fd_law_drawn ["_law_script", "_law_k", "_law_many"] sp_drawn) {f : Addr} {fd : FuncData} (T : Txt K mg w) (D : Df K mg "_law_shape" st_law_shape ["_law_script", "_law_at", "_law_deep"] f fd) : ∀ k : Nat, FnD P w K mg base (k + 2) f fd ["_law_script", "_law_at", "_law_deep"] (sp_shape k)
  | 0 => fn_none fun rs r h => h
  | k + 1 => ok_law_shape (k := k + 2) D_law_drawn G_law_drawn (by omega) D (law_shape_all D_law_drawn G_law_drawn T D k) (Nat.le_refl _) T D fun rs r _ h => h
theorem law_fits_all  {f : Addr} {fd : FuncData} (T : Txt K mg w) (D : Df K mg "_law_fits" st_law_fits ["_law_shape_here", "_law_text_here"] f fd) : ∀ k : Nat, FnD P w K mg base (k + 1) f fd ["_law_shape_here", "_law_text_here"] (sp_lf k)
  | 0 => fn_none fun rs r ⟨_, _, _, _, _, _, _, _, _, _, h, _⟩ => absurd h (Nat.not_lt_zero _)
  | k + 1 => ok_law_fits (k := k + 1) D (law_fits_all  T D k) (Nat.le_refl _) T D (rd_lf k)
theorem law_cut_all {a_law_fits : Addr} {fd_law_fits : FuncData} (D_law_fits : Df K mg "_law_fits" (top 20) ["_law_shape_here", "_law_text_here"] a_law_fits fd_law_fits) (G_law_fits : FnD P w K mg base 41 a_law_fits fd_law_fits ["_law_shape_here", "_law_text_here"] (sp_lf 40)) {f : Addr} {fd : FuncData} (T : Txt K mg w) (D : Df K mg "_law_cut" st_law_cut ["_law_shape_here", "_law_text_here"] f fd) : ∀ k : Nat, FnD P w K mg base (k + 41) f fd ["_law_shape_here", "_law_text_here"] (sp_lc k)
  | 0 => fn_none fun rs r ⟨_, _, _, _, _, _, _, _, _, h, _⟩ => absurd h (Nat.not_lt_zero _)
  | k + 1 => ok_law_cut (k := k + 41) D_law_fits G_law_fits (by omega) D (law_cut_all D_law_fits G_law_fits T D k) (Nat.le_refl _) T D (rd_lc k)
end
theorem all_mk {l : PySem.W.OpenLaw} {w : World} {K : PySem.W.Frag} {h : Heap} {mg : Str → Option Value} {fa : Addr} (X : K.In h) (G : h.Ns mainGlobals mg) (hfa : mg "law" = some (.ref fa))
    {f1 : Addr} {od1 an1 : Option Addr} {sl1 : Array (Option Value)} {oc1 kV1 dc1 pm1 cd1 ct1 : Value}
    (a1 : PySem.W.nsIn K mainGlobals "_law_cell" = some (some (.ref f1))) (l1 : K.lookup f1 = some ⟨oc1, od1, .func (PySem.W.fnOf "_law_cell" "_law_cell" (defArgs st_law_cell) (defBody st_law_cell) (defScope st_law_cell) .none kV1 dc1 pm1 an1 cd1 ct1), sl1⟩) (c1 : PySem.W.codeIn K cd1 "_law_cell" = true) (k1 : PySem.W.keepIn K (.ref f1) = true)
    {f2 : Addr} {od2 an2 : Option Addr} {sl2 : Array (Option Value)} {oc2 kV2 dc2 pm2 cd2 ct2 : Value}
    (a2 : PySem.W.nsIn K mainGlobals "_law_drawn" = some (some (.ref f2))) (l2 : K.lookup f2 = some ⟨oc2, od2, .func (PySem.W.fnOf "_law_drawn" "_law_drawn" (defArgs st_law_drawn) (defBody st_law_drawn) (defScope st_law_drawn) .none kV2 dc2 pm2 an2 cd2 ct2), sl2⟩) (c2 : PySem.W.codeIn K cd2 "_law_drawn" = true) (k2 : PySem.W.keepIn K (.ref f2) = true)
    {f3 : Addr} {od3 an3 : Option Addr} {sl3 : Array (Option Value)} {oc3 kV3 dc3 pm3 cd3 ct3 : Value}
    (a3 : PySem.W.nsIn K mainGlobals "_law_shape" = some (some (.ref f3))) (l3 : K.lookup f3 = some ⟨oc3, od3, .func (PySem.W.fnOf "_law_shape" "_law_shape" (defArgs st_law_shape) (defBody st_law_shape) (defScope st_law_shape) .none kV3 dc3 pm3 an3 cd3 ct3), sl3⟩) (c3 : PySem.W.codeIn K cd3 "_law_shape" = true) (k3 : PySem.W.keepIn K (.ref f3) = true)
    {f4 : Addr} {od4 an4 : Option Addr} {sl4 : Array (Option Value)} {oc4 kV4 dc4 pm4 cd4 ct4 : Value}
    (a4 : PySem.W.nsIn K mainGlobals "_law_text" = some (some (.ref f4))) (l4 : K.lookup f4 = some ⟨oc4, od4, .func (PySem.W.fnOf "_law_text" "_law_text" (defArgs st_law_text) (defBody st_law_text) (defScope st_law_text) .none kV4 dc4 pm4 an4 cd4 ct4), sl4⟩) (c4 : PySem.W.codeIn K cd4 "_law_text" = true) (k4 : PySem.W.keepIn K (.ref f4) = true)
    {f5 : Addr} {od5 an5 : Option Addr} {sl5 : Array (Option Value)} {oc5 kV5 dc5 pm5 cd5 ct5 : Value}
    (a5 : PySem.W.nsIn K mainGlobals "_law_fits" = some (some (.ref f5))) (l5 : K.lookup f5 = some ⟨oc5, od5, .func (PySem.W.fnOf "_law_fits" "_law_fits" (defArgs st_law_fits) (defBody st_law_fits) (defScope st_law_fits) .none kV5 dc5 pm5 an5 cd5 ct5), sl5⟩) (c5 : PySem.W.codeIn K cd5 "_law_fits" = true) (k5 : PySem.W.keepIn K (.ref f5) = true)
    {f6 : Addr} {od6 an6 : Option Addr} {sl6 : Array (Option Value)} {oc6 kV6 dc6 pm6 cd6 ct6 : Value}
    (a6 : PySem.W.nsIn K mainGlobals "inner_shapes" = some (some (.ref f6))) (l6 : K.lookup f6 = some ⟨oc6, od6, .func (PySem.W.fnOf "inner_shapes" "inner_shapes" (defArgs st_inner_shapes) (defBody st_inner_shapes) (defScope st_inner_shapes) .none kV6 dc6 pm6 an6 cd6 ct6), sl6⟩) (c6 : PySem.W.codeIn K cd6 "inner_shapes" = true) (k6 : PySem.W.keepIn K (.ref f6) = true)
    {f7 : Addr} {od7 an7 : Option Addr} {sl7 : Array (Option Value)} {oc7 kV7 dc7 pm7 cd7 ct7 : Value}
    (a7 : PySem.W.nsIn K mainGlobals "rows_by" = some (some (.ref f7))) (l7 : K.lookup f7 = some ⟨oc7, od7, .func (PySem.W.fnOf "rows_by" "rows_by" (defArgs st_rows_by) (defBody st_rows_by) (defScope st_rows_by) .none kV7 dc7 pm7 an7 cd7 ct7), sl7⟩) (c7 : PySem.W.codeIn K cd7 "rows_by" = true) (k7 : PySem.W.keepIn K (.ref f7) = true)
    {f8 : Addr} {od8 an8 : Option Addr} {sl8 : Array (Option Value)} {oc8 kV8 dc8 pm8 cd8 ct8 : Value}
    (a8 : PySem.W.nsIn K mainGlobals "rows_of" = some (some (.ref f8))) (l8 : K.lookup f8 = some ⟨oc8, od8, .func (PySem.W.fnOf "rows_of" "rows_of" (defArgs st_rows_of) (defBody st_rows_of) (defScope st_rows_of) .none kV8 dc8 pm8 an8 cd8 ct8), sl8⟩) (c8 : PySem.W.codeIn K cd8 "rows_of" = true) (k8 : PySem.W.keepIn K (.ref f8) = true)
    {f9 : Addr} {od9 an9 : Option Addr} {sl9 : Array (Option Value)} {oc9 kV9 dc9 pm9 cd9 ct9 : Value}
    (a9 : PySem.W.nsIn K mainGlobals "not_ends" = some (some (.ref f9))) (l9 : K.lookup f9 = some ⟨oc9, od9, .func (PySem.W.fnOf "not_ends" "not_ends" (defArgs st_not_ends) (defBody st_not_ends) (defScope st_not_ends) .none kV9 dc9 pm9 an9 cd9 ct9), sl9⟩) (c9 : PySem.W.codeIn K cd9 "not_ends" = true) (k9 : PySem.W.keepIn K (.ref f9) = true)
    {f10 : Addr} {od10 an10 : Option Addr} {sl10 : Array (Option Value)} {oc10 kV10 dc10 pm10 cd10 ct10 : Value}
    (a10 : PySem.W.nsIn K mainGlobals "reached_from" = some (some (.ref f10))) (l10 : K.lookup f10 = some ⟨oc10, od10, .func (PySem.W.fnOf "reached_from" "reached_from" (defArgs st_reached_from) (defBody st_reached_from) (defScope st_reached_from) .none kV10 dc10 pm10 an10 cd10 ct10), sl10⟩) (c10 : PySem.W.codeIn K cd10 "reached_from" = true) (k10 : PySem.W.keepIn K (.ref f10) = true)
    {f11 : Addr} {od11 an11 : Option Addr} {sl11 : Array (Option Value)} {oc11 kV11 dc11 pm11 cd11 ct11 : Value}
    (a11 : PySem.W.nsIn K mainGlobals "many_ends" = some (some (.ref f11))) (l11 : K.lookup f11 = some ⟨oc11, od11, .func (PySem.W.fnOf "many_ends" "many_ends" (defArgs st_many_ends) (defBody st_many_ends) (defScope st_many_ends) .none kV11 dc11 pm11 an11 cd11 ct11), sl11⟩) (c11 : PySem.W.codeIn K cd11 "many_ends" = true) (k11 : PySem.W.keepIn K (.ref f11) = true)
    {f12 : Addr} {od12 an12 : Option Addr} {sl12 : Array (Option Value)} {oc12 kV12 dc12 pm12 cd12 ct12 : Value}
    (a12 : PySem.W.nsIn K mainGlobals "row_ends" = some (some (.ref f12))) (l12 : K.lookup f12 = some ⟨oc12, od12, .func (PySem.W.fnOf "row_ends" "row_ends" (defArgs st_row_ends) (defBody st_row_ends) (defScope st_row_ends) .none kV12 dc12 pm12 an12 cd12 ct12), sl12⟩) (c12 : PySem.W.codeIn K cd12 "row_ends" = true) (k12 : PySem.W.keepIn K (.ref f12) = true)
    {f13 : Addr} {od13 an13 : Option Addr} {sl13 : Array (Option Value)} {oc13 kV13 dc13 pm13 cd13 ct13 : Value}
    (a13 : PySem.W.nsIn K mainGlobals "ends_of" = some (some (.ref f13))) (l13 : K.lookup f13 = some ⟨oc13, od13, .func (PySem.W.fnOf "ends_of" "ends_of" (defArgs st_ends_of) (defBody st_ends_of) (defScope st_ends_of) .none kV13 dc13 pm13 an13 cd13 ct13), sl13⟩) (c13 : PySem.W.codeIn K cd13 "ends_of" = true) (k13 : PySem.W.keepIn K (.ref f13) = true)
    {f14 : Addr} {od14 an14 : Option Addr} {sl14 : Array (Option Value)} {oc14 kV14 dc14 pm14 cd14 ct14 : Value}
    (a14 : PySem.W.nsIn K mainGlobals "stretches" = some (some (.ref f14))) (l14 : K.lookup f14 = some ⟨oc14, od14, .func (PySem.W.fnOf "stretches" "stretches" (defArgs st_stretches) (defBody st_stretches) (defScope st_stretches) .none kV14 dc14 pm14 an14 cd14 ct14), sl14⟩) (c14 : PySem.W.codeIn K cd14 "stretches" = true) (k14 : PySem.W.keepIn K (.ref f14) = true)
    {f15 : Addr} {od15 an15 : Option Addr} {sl15 : Array (Option Value)} {oc15 kV15 dc15 pm15 cd15 ct15 : Value}
    (a15 : PySem.W.nsIn K mainGlobals "longest_beginning" = some (some (.ref f15))) (l15 : K.lookup f15 = some ⟨oc15, od15, .func (PySem.W.fnOf "longest_beginning" "longest_beginning" (defArgs st_longest_beginning) (defBody st_longest_beginning) (defScope st_longest_beginning) .none kV15 dc15 pm15 an15 cd15 ct15), sl15⟩) (c15 : PySem.W.codeIn K cd15 "longest_beginning" = true) (k15 : PySem.W.keepIn K (.ref f15) = true)
    {f16 : Addr} {od16 an16 : Option Addr} {sl16 : Array (Option Value)} {oc16 kV16 dc16 pm16 cd16 ct16 : Value}
    (a16 : PySem.W.nsIn K mainGlobals "cut_up" = some (some (.ref f16))) (l16 : K.lookup f16 = some ⟨oc16, od16, .func (PySem.W.fnOf "cut_up" "cut_up" (defArgs st_cut_up) (defBody st_cut_up) (defScope st_cut_up) .none kV16 dc16 pm16 an16 cd16 ct16), sl16⟩) (c16 : PySem.W.codeIn K cd16 "cut_up" = true) (k16 : PySem.W.keepIn K (.ref f16) = true)
    {f17 : Addr} {od17 an17 : Option Addr} {sl17 : Array (Option Value)} {oc17 kV17 dc17 pm17 cd17 ct17 : Value}
    (a17 : PySem.W.nsIn K mainGlobals "_law_cut" = some (some (.ref f17))) (l17 : K.lookup f17 = some ⟨oc17, od17, .func (PySem.W.fnOf "_law_cut" "_law_cut" (defArgs st_law_cut) (defBody st_law_cut) (defScope st_law_cut) .none kV17 dc17 pm17 an17 cd17 ct17), sl17⟩) (c17 : PySem.W.codeIn K cd17 "_law_cut" = true) (k17 : PySem.W.keepIn K (.ref f17) = true)
    {f18 : Addr} {od18 an18 : Option Addr} {sl18 : Array (Option Value)} {oc18 kV18 dc18 pm18 cd18 ct18 : Value}
    (a18 : PySem.W.nsIn K mainGlobals "law" = some (some (.ref f18))) (l18 : K.lookup f18 = some ⟨oc18, od18, .func (PySem.W.fnOf "law" "law" (defArgs st_law) (defBody st_law) (defScope st_law) .none kV18 dc18 pm18 an18 cd18 ct18), sl18⟩) (c18 : PySem.W.codeIn K cd18 "law" = true) (k18 : PySem.W.keepIn K (.ref f18) = true)
    (z1 : PySem.W.nsIn K mainGlobals "enumerate" = some none) (z2 : PySem.W.nsIn K mainGlobals "int" = some none) (z3 : PySem.W.nsIn K mainGlobals "len" = some none) (z4 : PySem.W.nsIn K mainGlobals "list" = some none) (z5 : PySem.W.nsIn K mainGlobals "range" = some none) (z6 : PySem.W.nsIn K mainGlobals "reversed" = some none) (z7 : PySem.W.nsIn K mainGlobals "tuple" = some none) (z8 : PySem.W.nsIn K mainGlobals "zip" = some none) {di1 : Addr} {es1 : Array DictEntry} {ep1 : Nat} (di_1 : PySem.W.nsIn K mainGlobals "INNER" = some (some (.ref di1))) (dj_1 : K.lookup di1 = some { cls := .type "dict", data := .dict es1 ep1 }) (dm_1 : ments w es1.toList innerKV) (dn_1 : (di1 == sysModules) = false) :
    ∃ fd : FuncData, (∀ (s : Shared) (v : Value), BindsTo s fd ⟨[v], []⟩ [("_law_script", v)]) ∧ ∀ base : Heap, K.In base → base.Ns mainGlobals mg → FnOk l.prog w K mg base CX0 50 fa fd ["_law_script"] (liftSp K 1 sp_law) := by
  have e := hfa.symm.trans (PySem.W.mg_of X G a18)
  cases e
  have F1 := fun_mk (st := st_law_cell) l1 c1 k1
  have D_law_cell : Df K mg "_law_cell" st_law_cell ["_law_script", "_law_k"] _ _ := ⟨F1, F1.binds (ps := ["_law_script", "_law_k"]) fun _ _ _ _ _ _ us hl => match us, hl with | [_, _], _ => rfl, k1, PySem.W.mg_of X G a1⟩
  have F2 := fun_mk (st := st_law_drawn) l2 c2 k2
  have D_law_drawn : Df K mg "_law_drawn" st_law_drawn ["_law_script", "_law_k", "_law_many"] _ _ := ⟨F2, F2.binds (ps := ["_law_script", "_law_k", "_law_many"]) fun _ _ _ _ _ _ us hl => match us, hl with | [_, _, _], _ => rfl, k2, PySem.W.mg_of X G a2⟩
  have F3 := fun_mk (st := st_law_shape) l3 c3 k3
  have D_law_shape : Df K mg "_law_shape" st_law_shape ["_law_script", "_law_at", "_law_deep"] _ _ := ⟨F3, F3.binds (ps := ["_law_script", "_law_at", "_law_deep"]) fun _ _ _ _ _ _ us hl => match us, hl with | [_, _, _], _ => rfl, k3, PySem.W.mg_of X G a3⟩
  have F4 := fun_mk (st := st_law_text) l4 c4 k4
  have D_law_text : Df K mg "_law_text" st_law_text ["_law_script", "_law_at", "_law_most"] _ _ := ⟨F4, F4.binds (ps := ["_law_script", "_law_at", "_law_most"]) fun _ _ _ _ _ _ us hl => match us, hl with | [_, _, _], _ => rfl, k4, PySem.W.mg_of X G a4⟩
  have F5 := fun_mk (st := st_law_fits) l5 c5 k5
  have D_law_fits : Df K mg "_law_fits" st_law_fits ["_law_shape_here", "_law_text_here"] _ _ := ⟨F5, F5.binds (ps := ["_law_shape_here", "_law_text_here"]) fun _ _ _ _ _ _ us hl => match us, hl with | [_, _], _ => rfl, k5, PySem.W.mg_of X G a5⟩
  have F6 := fun_mk (st := st_inner_shapes) l6 c6 k6
  have D_inner_shapes : Df K mg "inner_shapes" st_inner_shapes ["shape"] _ _ := ⟨F6, F6.binds (ps := ["shape"]) fun _ _ _ _ _ _ us hl => match us, hl with | [_], _ => rfl, k6, PySem.W.mg_of X G a6⟩
  have F7 := fun_mk (st := st_rows_by) l7 c7 k7
  have D_rows_by : Df K mg "rows_by" st_rows_by ["whole", "inner_parts"] _ _ := ⟨F7, F7.binds (ps := ["whole", "inner_parts"]) fun _ _ _ _ _ _ us hl => match us, hl with | [_, _], _ => rfl, k7, PySem.W.mg_of X G a7⟩
  have F8 := fun_mk (st := st_rows_of) l8 c8 k8
  have D_rows_of : Df K mg "rows_of" st_rows_of ["shape"] _ _ := ⟨F8, F8.binds (ps := ["shape"]) fun _ _ _ _ _ _ us hl => match us, hl with | [_], _ => rfl, k8, PySem.W.mg_of X G a8⟩
  have F9 := fun_mk (st := st_not_ends) l9 c9 k9
  have D_not_ends : Df K mg "not_ends" st_not_ends ["one"] _ _ := ⟨F9, F9.binds (ps := ["one"]) fun _ _ _ _ _ _ us hl => match us, hl with | [_], _ => rfl, k9, PySem.W.mg_of X G a9⟩
  have F10 := fun_mk (st := st_reached_from) l10 c10 k10
  have D_reached_from : Df K mg "reached_from" st_reached_from ["marks", "ends"] _ _ := ⟨F10, F10.binds (ps := ["marks", "ends"]) fun _ _ _ _ _ _ us hl => match us, hl with | [_, _], _ => rfl, k10, PySem.W.mg_of X G a10⟩
  have F11 := fun_mk (st := st_many_ends) l11 c11 k11
  have D_many_ends : Df K mg "many_ends" st_many_ends ["one"] _ _ := ⟨F11, F11.binds (ps := ["one"]) fun _ _ _ _ _ _ us hl => match us, hl with | [_], _ => rfl, k11, PySem.W.mg_of X G a11⟩
  have F12 := fun_mk (st := st_row_ends) l12 c12 k12
  have D_row_ends : Df K mg "row_ends" st_row_ends ["row", "tables", "text"] _ _ := ⟨F12, F12.binds (ps := ["row", "tables", "text"]) fun _ _ _ _ _ _ us hl => match us, hl with | [_, _, _], _ => rfl, k12, PySem.W.mg_of X G a12⟩
  have F13 := fun_mk (st := st_ends_of) l13 c13 k13
  have D_ends_of : Df K mg "ends_of" st_ends_of ["shape", "text"] _ _ := ⟨F13, F13.binds (ps := ["shape", "text"]) fun _ _ _ _ _ _ us hl => match us, hl with | [_, _], _ => rfl, k13, PySem.W.mg_of X G a13⟩
  have F14 := fun_mk (st := st_stretches) l14 c14 k14
  have D_stretches : Df K mg "stretches" st_stretches ["shape", "text"] _ _ := ⟨F14, F14.binds (ps := ["shape", "text"]) fun _ _ _ _ _ _ us hl => match us, hl with | [_, _], _ => rfl, k14, PySem.W.mg_of X G a14⟩
  have F15 := fun_mk (st := st_longest_beginning) l15 c15 k15
  have D_longest_beginning : Df K mg "longest_beginning" st_longest_beginning ["shape", "text"] _ _ := ⟨F15, F15.binds (ps := ["shape", "text"]) fun _ _ _ _ _ _ us hl => match us, hl with | [_, _], _ => rfl, k15, PySem.W.mg_of X G a15⟩
  have F16 := fun_mk (st := st_cut_up) l16 c16 k16
  have D_cut_up : Df K mg "cut_up" st_cut_up ["shape", "text"] _ _ := ⟨F16, F16.binds (ps := ["shape", "text"]) fun _ _ _ _ _ _ us hl => match us, hl with | [_, _], _ => rfl, k16, PySem.W.mg_of X G a16⟩
  have F17 := fun_mk (st := st_law_cut) l17 c17 k17
  have D_law_cut : Df K mg "_law_cut" st_law_cut ["_law_shape_here", "_law_text_here"] _ _ := ⟨F17, F17.binds (ps := ["_law_shape_here", "_law_text_here"]) fun _ _ _ _ _ _ us hl => match us, hl with | [_, _], _ => rfl, k17, PySem.W.mg_of X G a17⟩
  have F18 := fun_mk (st := st_law) l18 c18 k18
  have D_law : Df K mg "law" st_law ["_law_script"] _ _ := ⟨F18, F18.binds (ps := ["_law_script"]) fun _ _ _ _ _ _ us hl => match us, hl with | [_], _ => rfl, k18, PySem.W.mg_of X G a18⟩
  have T : Txt K mg w := { m_enumerate := PySem.W.mg_none_of X G z1, m_int := PySem.W.mg_none_of X G z2, m_len := PySem.W.mg_none_of X G z3, m_list := PySem.W.mg_none_of X G z4, m_range := PySem.W.mg_none_of X G z5, m_reversed := PySem.W.mg_none_of X G z6, m_tuple := PySem.W.mg_none_of X G z7, m_zip := PySem.W.mg_none_of X G z8, e_INNER := ⟨di1, ⟨⟨es1, ep1, dj_1, dm_1⟩, dn_1, by decide +kernel⟩, PySem.W.mg_of X G di_1⟩ }
  refine ⟨PySem.W.fnOf "law" "law" (defArgs st_law) (defBody st_law) (defScope st_law) .none kV18 dc18 pm18 an18 cd18 ct18, fun s v => .of_eq rfl, fun base hB _ => ?_⟩
  have G_law_cell : FnD l.prog w K mg base 1 _ _ ["_law_script", "_law_k"] sp_cell := ok_law_cell   (k := 0)  T D_law_cell rd_cell
  have G_law_drawn : FnD l.prog w K mg base 2 _ _ ["_law_script", "_law_k", "_law_many"] sp_drawn := ok_law_drawn   (k := 1) D_law_cell G_law_cell (by omega) T D_law_drawn rd_drawn
  have G_law_shape : FnD l.prog w K mg base 5 _ _ ["_law_script", "_law_at", "_law_deep"] (sp_shape 3) := law_shape_all D_law_drawn G_law_drawn T D_law_shape 3
  have G_law_text : FnD l.prog w K mg base 3 _ _ ["_law_script", "_law_at", "_law_most"] sp_law_text := ok_law_text   (k := 2) D_law_drawn G_law_drawn (by omega) T D_law_text (fun rs r _ h => h)
  have G_law_fits : FnD l.prog w K mg base 41 _ _ ["_law_shape_here", "_law_text_here"] (sp_lf 40) := law_fits_all  T D_law_fits 40
  have G_inner_shapes : FnD l.prog w K mg base 1 _ _ ["shape"] sp_inner := ok_inner_shapes   (k := 0)  T D_inner_shapes rd_inner
  have G_rows_by : FnD l.prog w K mg base 2 _ _ ["whole", "inner_parts"] (sp_rows_by f6) := ok_rows_by   (k := 1) D_inner_shapes G_inner_shapes (by omega) T D_rows_by (rd_rows_by f6)
  have G_rows_of : FnD l.prog w K mg base 3 _ _ ["shape"] sp_rows := ok_rows_of   (k := 2) D_rows_by G_rows_by (by omega) D_inner_shapes T D_rows_of (rd_rows f6)
  have G_not_ends : FnD l.prog w K mg base 1 _ _ ["one"] sp_not := ok_not_ends   (k := 0)  T D_not_ends rd_not
  have G_reached_from : FnD l.prog w K mg base 1 _ _ ["marks", "ends"] sp_reached := ok_reached_from   (k := 0)  T D_reached_from rd_reached
  have G_many_ends : FnD l.prog w K mg base 2 _ _ ["one"] sp_many := ok_many_ends   (k := 1) D_reached_from G_reached_from (by omega) T D_many_ends rd_many
  have G_row_ends : FnD l.prog w K mg base 3 _ _ ["row", "tables", "text"] sp_row_ends := ok_row_ends   (k := 2) D_not_ends G_not_ends (by omega) D_many_ends G_many_ends (by omega) D_reached_from G_reached_from (by omega) T D_row_ends rd_row_ends
  have G_ends_of : FnD l.prog w K mg base 4 _ _ ["shape", "text"] sp_ends := ok_ends_of   (k := 3) D_rows_of G_rows_of (by omega) D_row_ends G_row_ends (by omega) T D_ends_of rd_ends
  have G_stretches : FnD l.prog w K mg base 5 _ _ ["shape", "text"] sp_stretches := ok_stretches   (k := 4) D_ends_of G_ends_of (by omega) T D_stretches rd_stretches
  have G_longest_beginning : FnD l.prog w K mg base 5 _ _ ["shape", "text"] sp_longest := ok_longest_beginning   (k := 4) D_ends_of G_ends_of (by omega) T D_longest_beginning rd_longest
  have G_cut_up : FnD l.prog w K mg base 5 _ _ ["shape", "text"] sp_cut := ok_cut_up   (k := 4) D_ends_of G_ends_of (by omega) T D_cut_up rd_cut
  have G_law_cut : FnD l.prog w K mg base 49 _ _ ["_law_shape_here", "_law_text_here"] (sp_lc 8) := law_cut_all D_law_fits G_law_fits T D_law_cut 8
  exact ok_law   (k := 49) D_law_shape G_law_shape (by omega) D_law_text G_law_text (by omega) D_law_fits G_law_fits (by omega) D_stretches G_stretches (by omega) D_longest_beginning G_longest_beginning (by omega) D_cut_up G_cut_up (by omega) D_law_cut G_law_cut (by omega) T D_law rd_law
theorem walk {l : PySem.W.OpenLaw} {q : Program} {loose : List Str} {XP : (Str → Option Value) → Heap → Prop} {YP : World → Heap → Prop} {d : DefRec} {K : Params → PySem.W.Frag} (hn : l.most = some 63) (hdf : d.params.defaults = [])
    (hY : ∀ (w : World) (h : Heap), YP w h → (K w.params).In h)
    (F : ∀ (w : World) (mg : Str → Option Value) (fa : Addr) (h : Heap), (K w.params).In h → h.Ns mainGlobals mg → mg d.name = some (.ref fa) →
      ∃ fd : FuncData, (∀ (s : Shared) (u : Value), BindsTo s fd ⟨[u], []⟩ [("_law_script", u)]) ∧ ∀ base : Heap, (K w.params).In base → base.Ns mainGlobals mg → FnOk l.prog w (K w.params) mg base CX0 50 fa fd ["_law_script"] (liftSp (K w.params) 1 sp_law)) :
    PySem.W.WalkO q loose XP YP l.row.toRowW d [] (fun f vs => PySem.call f vs) :=
  L2.walk_of (n := 63) (k := 50) (x := "_law_script") (CX := fun _ => CX0) (sp := fun w => liftSp (K w.params) 1 sp_law) hn (by decide) hdf ⟨rfl, by decide, by decide⟩ hY F
    (fun w H a ns hl hO hS => by
      have hz : FzL (K w.params) H a (ns.map V.int) := by
        rcases hS with (h | h) | h
        · rcases hO a with n | ⟨o, xs, n⟩
          · rw [h] at n; cases n
          · rw [h] at n; cases n
        · exact .inl h
        · exact .inr h
      exact ⟨[.st (scr ns)], .st (.bl true), rfl, ⟨_, _, rfl, IsS.s_lst hz AllS.ints, rfl⟩, rfl, ⟨ns, rfl, hl, rfl⟩, fun v H' _ hv => hv⟩) fun _ _ _ _ _ z => z
end K06
end
open PySem PySem.W PyProof.Rows
set_option maxRecDepth 100000 in
set_option maxHeartbeats 0 in
theorem PySem.Challenge.cw_textkinds_k06_stretches_holds : PySem.Challenge.rw_textkinds_k06_stretches.Holds := by
  w_on; o_law; k_head; (case hw => w_witness2)
  k_fill
  refine K06.walk (l := PySem.Challenge.rw_textkinds_k06_stretches) rfl rfl (fun w h Y => PySem.W.kIn_of Y) ?F
  case F =>
    intro w mg fa h KX G hmg
    refine' K06.all_mk KX G hmg ?a1 ?l1 ?c1 ?k1 ?a2 ?l2 ?c2 ?k2 ?a3 ?l3 ?c3 ?k3 ?a4 ?l4 ?c4 ?k4 ?a5 ?l5 ?c5 ?k5 ?a6 ?l6 ?c6 ?k6 ?a7 ?l7 ?c7 ?k7 ?a8 ?l8 ?c8 ?k8 ?a9 ?l9 ?c9 ?k9 ?a10 ?l10 ?c10 ?k10 ?a11 ?l11 ?c11 ?k11 ?a12 ?l12 ?c12 ?k12 ?a13 ?l13 ?c13 ?k13 ?a14 ?l14 ?c14 ?k14 ?a15 ?l15 ?c15 ?k15 ?a16 ?l16 ?c16 ?k16 ?a17 ?l17 ?c17 ?k17 ?a18 ?l18 ?c18 ?k18 ?z1 ?z2 ?z3 ?z4 ?z5 ?z6 ?z7 ?z8 ?di_1 ?dj_1 ?dm_1 ?dn_1
    (case a1 => k_is)
    (case l1 => k_is)
    (case c1 => k_is)
    (case k1 => k_is)
    (case a2 => k_is)
    (case l2 => k_is)
    (case c2 => k_is)
    (case k2 => k_is)
    (case a3 => k_is)
    (case l3 => k_is)
    (case c3 => k_is)
    (case k3 => k_is)
    (case a4 => k_is)
    (case l4 => k_is)
    (case c4 => k_is)
    (case k4 => k_is)
    (case a5 => k_is)
    (case l5 => k_is)
    (case c5 => k_is)
    (case k5 => k_is)
    (case a6 => k_is)
    (case l6 => k_is)
    (case c6 => k_is)
    (case k6 => k_is)
    (case a7 => k_is)
    (case l7 => k_is)
    (case c7 => k_is)
    (case k7 => k_is)
    (case a8 => k_is)
    (case l8 => k_is)
    (case c8 => k_is)
    (case k8 => k_is)
    (case a9 => k_is)
    (case l9 => k_is)
    (case c9 => k_is)
    (case k9 => k_is)
    (case a10 => k_is)
    (case l10 => k_is)
    (case c10 => k_is)
    (case k10 => k_is)
    (case a11 => k_is)
    (case l11 => k_is)
    (case c11 => k_is)
    (case k11 => k_is)
    (case a12 => k_is)
    (case l12 => k_is)
    (case c12 => k_is)
    (case k12 => k_is)
    (case a13 => k_is)
    (case l13 => k_is)
    (case c13 => k_is)
    (case k13 => k_is)
    (case a14 => k_is)
    (case l14 => k_is)
    (case c14 => k_is)
    (case k14 => k_is)
    (case a15 => k_is)
    (case l15 => k_is)
    (case c15 => k_is)
    (case k15 => k_is)
    (case a16 => k_is)
    (case l16 => k_is)
    (case c16 => k_is)
    (case k16 => k_is)
    (case a17 => k_is)
    (case l17 => k_is)
    (case c17 => k_is)
    (case k17 => k_is)
    (case a18 => k_is)
    (case l18 => k_is)
    (case c18 => k_is)
    (case k18 => k_is)
    (case z1 => k_is)
    (case z2 => k_is)
    (case z3 => k_is)
    (case z4 => k_is)
    (case z5 => k_is)
    (case z6 => k_is)
    (case z7 => k_is)
    (case z8 => k_is)
    (case di_1 => k_is)
    (case dj_1 => k_is)
    (case dm_1 => exact ⟨⟨_, rfl⟩, rfl, ⟨_, rfl⟩, ⟨⟨_, rfl⟩, rfl, ⟨_, rfl⟩, ⟨⟨_, rfl⟩, rfl, ⟨_, rfl⟩, ⟨⟨_, rfl⟩, rfl, ⟨_, rfl⟩, ⟨⟨_, rfl⟩, rfl, ⟨_, rfl⟩, ⟨⟨_, rfl⟩, rfl, ⟨_, rfl⟩, ⟨⟨_, rfl⟩, rfl, ⟨_, rfl⟩, ⟨⟨_, rfl⟩, rfl, ⟨_, rfl⟩, trivial⟩⟩⟩⟩⟩⟩⟩⟩)
    (case dn_1 => decide +kernel)
#print axioms PySem.Challenge.cw_textkinds_k06_stretches_holds
